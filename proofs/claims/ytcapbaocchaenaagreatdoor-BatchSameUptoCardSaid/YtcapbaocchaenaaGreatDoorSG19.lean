import Derived.Test.YtcapbaocchaenaaGreatDoorSG17
import Derived.Test.YtcapbaocchaenaaGreatDoorSG18
/- The code's Bytes of any event. -/
namespace Go.Proofs.YtcapbaocchaenaaGreatDoor
open Go.RowKit Fl

/-- The form of a field. -/
def pieceE (e : Ev) (i : Nat) : List Nat := if i = 0 then form e.id else if i = 1 then form e.n.toNat else if i = 2 then form e.t else if i = 3 then formB e.nm else if i = 4 then formB e.tx else formV e.v
/-- The form of an event. -/
def formE (e : Ev) : List Nat := form 1 ++ form e.k.toNat ++ ((evFields e.k).map (pieceE e)).flatten

theorem evName_ne {k : Int} (h : evName k ≠ []) : 1 ≤ k ∧ k ≤ 11 := by
  by_cases hk : 1 ≤ k ∧ k ≤ 11
  · exact hk
  · exact absurd (evName_none hk).1 h

theorem okE_parts {e : Ev} (h : okE e = true) : (1 ≤ e.k ∧ e.k ≤ 11) ∧ ∀ i, i < 6 → (if i ∈ evFields e.k then rightE e i else emptyE e i) = true := by
  unfold okE at h
  rw [Bool.and_eq_true, decide_eq_true_eq, List.all_eq_true] at h
  exact ⟨evName_ne h.1, fun i hi => h.2 i (by simpa using hi)⟩

theorem okE_right {e : Ev} (h : okE e = true) {i : Nat} (hi : i ∈ evFields e.k) : rightE e i = true := by
  have h1 := (okE_parts h).2 i (evFields_lt _ _ hi)
  rwa [if_pos hi] at h1

/-- What Bytes answers. -/
def EBytesEnd (w : World) (e : Ev) (r : Ending) (w' : World) : Prop :=
  (okE e = false ∧ r = .returned (.tuple #[.slice none 0 0, .bool false]) ∧ Below w.heap.size w w') ∨
  (okE e = true ∧ ∃ u, r = .returned (.tuple #[u, .bool true]) ∧ OwnBytes w w' u (formE e))

set_option maxRecDepth 100000 in
theorem evbytes_any (q : Nat) (hq : q ≤ 1000) (e : Ev) (x : Array Value) (w : World) (hs : smallN q e.v = true) (hlen : (formV e.v).length ≤ 10000000) (hsl : ∀ u ∈ preV e.v, u.s.length ≤ 1000000) (h : EvIn w e x) :
    Calls Tryz.prog 53 #[.agg x] w (EBytesEnd w e) := by
  have HV := Lib.hid (fun W (hW : Below w.heap.size w W) => evalid_any q hq e x W hs (h.below hW))
  obtain ⟨_, b2, b3, b4, b5, b6, a, cap, rfl, hv⟩ := h
  cases hok : okE e with
  | false =>
    rw [hok] at HV
    have Hok := Lib.hid hok
    have Hal := Lib.hid ((Below.refl w.heap.size w).alloc (Nat.le_refl _) (.cells (evC e.k e.id e.n e.t e.nm e.tx e.v.kind e.v.n e.v.f e.v.s a e.v.l.length cap) 45))
    have HV := Lib.hid (HV.out _ Hal.out)
    clear hok hs hlen hsl b2 b3 b4 b5 b6 hv hq
    go_enter Tryz.func53, Tryz.ntmps53
    go_wp2_with fail
    refine HV.out.mono ?_
    rintro r w1 ⟨rfl, hb⟩
    have Hb := Lib.hid (Hal.out.trans (hb.mono Hal.out.size))
    clear hb
    go_wp2
    refine bodyPost_ret (v := .tuple #[.slice none 0 0, .bool false]) (by simp [results, Tryz.results53, go_sem, *]) rfl ?_
    exact .inl ⟨Hok.out, rfl, Hb.out⟩
  | true =>
    rw [hok] at HV
    obtain ⟨hk, _⟩ := okE_parts hok
    refine (bytes_core e.k e.id e.n e.t e.nm e.tx e.v.kind e.v.n e.v.f e.v.s a e.v.l.length cap w (pieceE e) (by omega) ?_ HV.out ?_).mono ?_
    · intro i hi
      have hr := okE_right hok hi
      have h6 := evFields_lt _ _ hi
      match i, h6 with
      | 0, _ => exact ⟨by show (form e.id).length ≤ _; have := form_len b2; omega, form_byte _⟩
      | 1, _ =>
        have h1 : 1 ≤ e.n ∧ e.n ≤ 2147483647 := by simpa [rightE] using hr
        exact ⟨by show (form e.n.toNat).length ≤ _; have := form_len (x := e.n.toNat) (by omega); omega, form_byte _⟩
      | 2, _ => exact ⟨by show (form e.t).length ≤ _; have := form_len b4; omega, form_byte _⟩
      | 3, _ =>
        have h1 : e.nm ≠ [] ∧ e.nm.length ≤ 1000 := by simpa [rightE] using hr
        exact ⟨by show (formB e.nm).length ≤ _; unfold formB; rw [List.length_append]; have := form_len (x := e.nm.length) (by omega); omega, formB_byte b5.1⟩
      | 4, _ =>
        have h1 : e.tx.length ≤ 1000 := by simpa [rightE] using hr
        exact ⟨by show (formB e.tx).length ≤ _; unfold formB; rw [List.length_append]; have := form_len (x := e.tx.length) (by omega); omega, formB_byte b6.1⟩
      | 5, _ => exact ⟨by show (formV e.v).length ≤ _; omega, formV_byte e.v w _ hv⟩
    · intro i hi B W hW hB
      have hr := okE_right hok hi
      have h6 := evFields_lt _ _ hi
      match i, h6 with
      | 0, _ => exact f1_any b2 hB
      | 1, _ =>
        have h1 : 1 ≤ e.n ∧ e.n ≤ 2147483647 := by simpa [rightE] using hr
        exact f2_any e.n.toNat (by omega) (by omega) hB
      | 2, _ => exact f3_any b4 hB
      | 3, _ =>
        have h1 : e.nm ≠ [] ∧ e.nm.length ≤ 1000 := by simpa [rightE] using hr
        exact f4_any b5.1 (by omega) hB
      | 4, _ =>
        have h1 : e.tx.length ≤ 1000 := by simpa [rightE] using hr
        exact f5_any b6.1 (by omega) hB
      | 5, _ =>
        have h1 : rightN 8 e.v = true := by simpa [rightE] using hr
        exact f6_any q hq hs h1 hlen hsl (hv.below hW) hB
    · rintro r w' ⟨u, rfl, hO⟩
      exact .inr ⟨hok, u, rfl, hO⟩
end Go.Proofs.YtcapbaocchaenaaGreatDoor

