/- Bytes and Text of small events. -/
import Derived.Test.YtpmjjefnmgbifaaGreatDoorHEventSameJ2
import Derived.Test.YtpmjjefnmgbifaaGreatDoorHEventSameEvRSame
import Derived.Test.YtpmjjefnmgbifaaGreatDoorHEventSameJ1
import Derived.Test.YtpmjjefnmgbifaaGreatDoorHEventSameRAtom
namespace Go.Proofs.YtpmjjefnmgbifaaGreatDoor
open Go.RowKit Go.Shelf Fl

theorem ok_right {e : Ev} (h : okE e = true) : rightN 8 e.v = true := by
  have h5 := (okE_parts h).2 5 (by omega)
  by_cases hm : 5 ∈ evFields e.k
  · rw [if_pos hm] at h5
    simpa [rightE] using h5
  · rw [if_neg hm] at h5
    have h1 : sameV e.v zeroV = true := by simpa [emptyE] using h5
    rw [fields_same 8 _ _ h1]
    decide +kernel

theorem few_parts {e : Ev} (h : fewE e = true) : bulkV e.v ≤ 900 ∧ smallN 20 e.v = true ∧ e.nm.length ≤ 1100 ∧ e.tx.length ≤ 1100 := by
  unfold fewE fewB at h
  simp only [Bool.and_eq_true, decide_eq_true_eq] at h
  exact ⟨h.1.1.1, h.1.1.2, h.1.2, h.2⟩

theorem few_word {e : Ev} {w : World} {x : Array Value} (h : EvIn w e x) (hf : fewE e = true) (i : Nat) : (wordE e i).length ≤ 1000000 := by
  obtain ⟨f1, _, f3, f4⟩ := few_parts hf
  obtain ⟨_, h2, h3, h4, h5, h6, a, cap, _, hv⟩ := h
  have q : ∀ s : List Nat, s.length ≤ 1100 → (quoteL s).length ≤ 1000000 := fun s hs => by
    rw [quoteL_is, List.length_cons, List.length_append, hex2_len]
    simp
    omega
  unfold wordE
  repeat' split
  · have := decD_len20 h2; omega
  · have := decL_len h3; omega
  · have := decD_len20 h4; omega
  · exact q _ f3
  · exact q _ f4
  · unfold textB
    split
    · have := text_bulk e.v (VIn.sound _ _ hv) (fun u hu => (bulk_strings e.v f1 u hu).1)
      omega
    · simp

set_option maxRecDepth 100000 in
theorem evbytes_bad (q : Nat) (hq : q ≤ 1000) (e : Ev) (x : Array Value) (w : World) (hs : smallN q e.v = true) (hok : okE e = false) (h : EvIn w e x) :
    Calls Tryz.prog 11 #[.agg x] w (EBytesEnd w e) := by
  have HV := Lib.hid (fun W (hW : Below w.heap.size w W) => evalid_any q hq e x W hs (h.below hW))
  obtain ⟨_, b2, b3, b4, b5, b6, a, cap, rfl, hv⟩ := h
  rw [hok] at HV
  have Hok := Lib.hid hok
  have Hal := Lib.hid ((Below.refl w.heap.size w).alloc (Nat.le_refl _) (.cells (evC e.k e.id e.n e.t e.nm e.tx e.v.kind e.v.n e.v.f e.v.s a e.v.l.length cap) 28))
  have HV := Lib.hid (HV.out _ Hal.out)
  clear hok hs b2 b3 b4 b5 b6 hv hq
  go_enter Tryz.func11, Tryz.ntmps11
  go_wp2_with fail
  refine HV.out.mono ?_
  rintro r w1 ⟨rfl, hb⟩
  have Hb := Lib.hid (Hal.out.trans (hb.mono Hal.out.size))
  clear hb
  go_wp2
  refine bodyPost_ret (v := .tuple #[.slice none 0 0, .bool false]) (by simp [results, Tryz.results11, go_sem, *]) rfl ?_
  exact .inl ⟨Hok.out, rfl, Hb.out⟩

theorem form_few {e : Ev} {w : World} {x : Array Value} (h : EvIn w e x) (hf : fewE e = true) (hr : rightN 8 e.v = true) : (formV e.v).length ≤ 10000000 ∧ ∀ u ∈ preV e.v, u.s.length ≤ 1000000 := by
  obtain ⟨f1, _⟩ := few_parts hf
  obtain ⟨_, _, _, _, _, _, a, cap, _, hv⟩ := h
  have hb := fun u hu => bulk_strings e.v f1 u hu
  refine ⟨?_, fun u hu => by have := (hb u hu).1; omega⟩
  have := form_bulk e.v (VIn.sound _ _ hv) (fun u hu => ⟨(hb u hu).1, (pre_kinds e.v 8 hr u hu).2, by have := (hb u hu).2; omega⟩)
  omega

theorem evbytes_few (e : Ev) (x : Array Value) (w : World) (hf : fewE e = true) (h : EvIn w e x) : Calls Tryz.prog 11 #[.agg x] w (EBytesEnd w e) := by
  obtain ⟨_, f2, _, _⟩ := few_parts hf
  cases hok : okE e with
  | false => exact evbytes_bad 20 (by omega) e x w f2 hok h
  | true =>
    obtain ⟨g1, g2⟩ := form_few h hf (ok_right hok)
    exact evbytes_any 20 (by omega) e x w f2 g1 g2 h

theorem formE_byte {e : Ev} {w : World} {x : Array Value} (h : EvIn w e x) : ∀ c ∈ formE e, c < 256 := by
  obtain ⟨_, _, _, _, h5, h6, a, cap, _, hv⟩ := h
  have hp : ∀ i, ∀ c ∈ pieceE e i, c < 256 := fun i => by
    unfold pieceE
    repeat' split
    · exact form_byte _
    · exact form_byte _
    · exact form_byte _
    · exact formB_byte h5.1
    · exact formB_byte h6.1
    · exact formV_byte e.v w _ hv
  unfold formE
  intro c hc
  rcases List.mem_append.1 hc with hc | hc
  · rcases List.mem_append.1 hc with hc | hc
    · exact form_byte _ c hc
    · exact form_byte _ c hc
  · obtain ⟨l, hl, hc⟩ := List.mem_flatten.1 hc
    obtain ⟨i, _, rfl⟩ := List.mem_map.1 hl
    exact hp i c hc

theorem joinS_byte : ∀ a : List (List Nat), (∀ x ∈ a, ∀ c ∈ x, c < 256) → ∀ c ∈ joinS a, c < 256
  | [], _, c, hc => by simp [joinS] at hc
  | [y], h, c, hc => h y (by simp) c hc
  | y :: z :: r, h, c, hc => by
    rw [joinS] at hc
    rcases List.mem_append.1 hc with e | e
    · exact h y (by simp) c e
    · rcases List.mem_cons.1 e with e | e
      · omega
      · exact joinS_byte (z :: r) (fun x hx => h x (by simp [hx])) c e

theorem sound_mem : ∀ {l : List V}, soundL l → ∀ u ∈ l, soundV u
  | [], _, u, hu => by cases hu
  | v :: r, h, u, hu => by
    rw [soundL] at h
    rcases List.mem_cons.1 hu with e | e
    · rw [e]; exact h.1
    · exact sound_mem h.2 u e

theorem text_byte : ∀ v : V, soundV v → ∀ c ∈ textV v, c < 256 := by
  refine V.ind ?_
  rintro ⟨k, n, f, s, l⟩ ih hs c hc
  change ∀ u ∈ l, _ at ih
  rw [soundV] at hs
  rw [textV] at hc
  split at hc
  · exact decL_byte _ c hc
  split at hc
  · rcases List.mem_cons.1 hc with e | e
    · omega
    · exact textL_byte _ c e
  split at hc
  · rcases List.mem_cons.1 hc with e | e
    · omega
    · rcases List.mem_append.1 e with e | e
      · exact hex2_byte hs.2.2.1 c e
      · have := List.mem_singleton.1 e; omega
  split at hc
  · rcases List.mem_cons.1 hc with e | e
    · omega
    · rcases List.mem_append.1 e with e | e
      · refine joinS_byte _ (fun x hx => ?_) c e
        rw [textVs_map] at hx
        obtain ⟨u, hu, rfl⟩ := List.mem_map.1 hx
        exact ih u hu (sound_mem hs.2.2.2 u hu)
      · have := List.mem_singleton.1 e; omega
  · simp at hc; omega

def ByteL (x : List Nat) : Prop := ∀ c ∈ x, c < 256
theorem evName_byte (k : Int) : ByteL (evName k) := by
  unfold evName
  (repeat' split) <;> (unfold ByteL; decide)

theorem textE_byte {e : Ev} {w : World} {x : Array Value} (h : EvIn w e x) : ∀ c ∈ textE e, c < 256 := by
  obtain ⟨_, _, _, _, h5, h6, a, cap, _, hv⟩ := h
  have hd : ∀ n, ∀ c ∈ decD n, c < 256 := fun n c hc => by have := decD_digit n c hc; omega
  have hq : ∀ s : List Nat, (∀ c ∈ s, c < 256) → ∀ c ∈ quoteL s, c < 256 := fun s hs c hc => by
    rw [quoteL_is] at hc
    rcases List.mem_cons.1 hc with rfl | hc
    · omega
    rcases List.mem_append.1 hc with hc | hc
    · exact hex2_byte hs c hc
    · rw [List.mem_singleton.1 hc]; omega
  have hw : ∀ i, ∀ c ∈ wordE e i, c < 256 := fun i => by
    unfold wordE
    repeat' split
    · exact hd _
    · exact decL_byte _
    · exact hd _
    · exact hq _ h5.1
    · exact hq _ h6.1
    · intro c hc
      unfold textB at hc
      by_cases hr : rightN 8 e.v = true
      · rw [if_pos hr] at hc
        exact text_byte e.v (VIn.sound _ _ hv) c hc
      · rw [if_neg hr] at hc
        cases hc
  intro c hc
  unfold textE at hc
  by_cases hok : okE e = true
  · rw [if_pos hok] at hc
    rcases List.mem_append.1 hc with hc | hc
    · exact evName_byte _ c hc
    · unfold wordsT at hc
      obtain ⟨l, hl, hc⟩ := List.mem_flatten.1 hc
      obtain ⟨i, _, rfl⟩ := List.mem_map.1 hl
      rcases List.mem_cons.1 hc with e1 | hc
      · omega
      · exact hw i c hc
  · rw [if_neg hok] at hc
    cases hc

/-- What Bytes answers, as a slice. -/
theorem ebytes_slice {w w' : World} {e : Ev} {r : Ending} (h : EBytesEnd w e r w') (hb : ∀ c ∈ formE e, c < 256) : ∃ p n cap L, r = .returned (.tuple #[.slice p n cap, .bool (okE e)]) ∧ Bytes w' p n cap L ∧ Below w.heap.size w w' ∧ (okE e = true → L = formE e) := by
  rcases h with ⟨h0, rfl, hb'⟩ | ⟨h1, u, rfl, ho, hb'⟩
  · exact ⟨none, 0, 0, [], by rw [h0], ⟨rfl, Nat.le_refl _, by omega, fun c h => (by cases h), fun _ => rfl, fun h => absurd h (by omega)⟩, hb', fun h => by rw [h0] at h; cases h⟩
  · obtain ⟨p, cp, rfl, hB⟩ := own_slice ho hb
    exact ⟨p, _, cp, formE e, by rw [h1], hB, hb', fun _ => rfl⟩

theorem evtext_few (e : Ev) (x : Array Value) (w : World) (hf : fewE e = true) (h : EvIn w e x) (hp : Pow10 w) (ht : Tab16 w) : Calls Tryz.prog 15 #[.agg x] w fun r w' => r = .returned (.string (str (textE e))) ∧ Below w.heap.size w w' :=
  evtext_any 20 (by omega) e x w (few_parts hf).2.1 (few_word h hf) hp ht h
end Go.Proofs.YtpmjjefnmgbifaaGreatDoor
