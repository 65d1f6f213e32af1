import Derived.Test.YtpjadeihackkpaaGreatDoorMP22
import Derived.Test.YtpjadeihackkpaaGreatDoorMP18
import Derived.Test.YtpjadeihackkpaaGreatDoorMP21
import Derived.Test.YtpjadeihackkpaaGreatDoorMP9
import Derived.Test.YtpjadeihackkpaaGreatDoorMP19
/- The walk of the reference's Few. -/
namespace Go.Proofs.YtpjadeihackkpaaGreatDoor
open Go.RowKit Fl

def fewB (v : V) : Bool := decide (bulkV v ≤ 900) && smallN 20 v

set_option maxRecDepth 100000 in
theorem few_any (v : V) (x : Array Value) (w : World) (h : VIn w v x) :
    Calls Tryz.prog 5 #[.agg x] w fun e w' => e = .returned (.bool (fewB v)) ∧ Below w.heap.size w w' := by
  obtain ⟨_, _, _, _, _, a, cap, rfl, _, _, _⟩ := h.parts
  have hb := (Below.refl w.heap.size w).alloc (Nat.le_refl _) (.cells (cells5 v.kind v.n v.f v.s a v.l.length cap) 25)
  have HW := Lib.hid (weight_any v 900 _ _ (by omega) (by omega) (h.below hb))
  have HV := Lib.hid (h.below hb)
  have Hb := Lib.hid hb
  have hc := fun j => box_cell w (cells5 v.kind v.n v.f v.s a v.l.length cap) 25 j
  have hc0 : (w.alloc (.cells #[.int .i64 v.kind, .int .i64 v.n, .float .f64 v.f, .string (str v.s), .slice a v.l.length cap] 25)).cell? ⟨w.heap.size, 0, none⟩ = some (.int .i64 v.kind) := hc 0
  have hc1 : (w.alloc (.cells #[.int .i64 v.kind, .int .i64 v.n, .float .f64 v.f, .string (str v.s), .slice a v.l.length cap] 25)).cell? ⟨w.heap.size, 1, none⟩ = some (.int .i64 v.n) := hc 1
  have hc2 : (w.alloc (.cells #[.int .i64 v.kind, .int .i64 v.n, .float .f64 v.f, .string (str v.s), .slice a v.l.length cap] 25)).cell? ⟨w.heap.size, 2, none⟩ = some (.float .f64 v.f) := hc 2
  have hc3 : (w.alloc (.cells #[.int .i64 v.kind, .int .i64 v.n, .float .f64 v.f, .string (str v.s), .slice a v.l.length cap] 25)).cell? ⟨w.heap.size, 3, none⟩ = some (.string (str v.s)) := hc 3
  have hc4 : (w.alloc (.cells #[.int .i64 v.kind, .int .i64 v.n, .float .f64 v.f, .string (str v.s), .slice a v.l.length cap] 25)).cell? ⟨w.heap.size, 4, none⟩ = some (.slice a v.l.length cap) := hc 4
  have hwz : (w.alloc (.cells #[.int .i64 v.kind, .int .i64 v.n, .float .f64 v.f, .string (str v.s), .slice a v.l.length cap] 25)).heap.size = w.heap.size + 1 := by simp
  clear h hb hc
  change Calls _ _ #[.agg #[.int .i64 v.kind, .int .i64 v.n, .float .f64 v.f, .string (str v.s), .slice a v.l.length cap]] _ _
  go_enter Tryz.func5, Tryz.ntmps5
  go_wp2_with fail
  refine HW.out.mono ?_
  generalize w.alloc (.cells #[.int .i64 v.kind, .int .i64 v.n, .float .f64 v.f, .string (str v.s), .slice a v.l.length cap] 25) = w1 at *
  rintro e w2 ⟨r, rfl, hr, hb2⟩
  have hk : ∀ j y, w1.cell? ⟨w.heap.size, j, none⟩ = some y → w2.cell? ⟨w.heap.size, j, none⟩ = some y := fun j y e => by
    rw [hb2.cell (show w.heap.size < w1.heap.size by omega)]
    exact e
  have d0 := hk 0 _ hc0
  have d1 := hk 1 _ hc1
  have d2 := hk 2 _ hc2
  have d3 := hk 3 _ hc3
  have d4 := hk 4 _ hc4
  have g2 : Below w.heap.size w w2 := Hb.out.trans (hb2.mono (by omega))
  have HS := Lib.hid (small_any 20 (by omega) v _ w2 (HV.out.below hb2))
  by_cases hle : bulkV v ≤ 900
  · have e := hr.2.2.2 (by omega)
    have hdr : decide (r ≤ 900) = true := decide_eq_true (by omega)
    have Hf := Lib.hid (show fewB v = smallN 20 v from by unfold fewB; rw [decide_eq_true hle, Bool.true_and])
    clear hr hle hk hc0 hc1 hc2 hc3 hc4 hwz e
    generalize smallN 20 v = sm at *
    go_wp2_with fail
    refine HS.out.mono ?_
    rintro e w3 ⟨rfl, hb3⟩
    go_wp2
    go_ret
    exact ⟨ret_bool Hf.out.symm, g2.trans (hb3.mono g2.size)⟩
  · have hdr : decide (r ≤ 900) = false := decide_eq_false (fun h => hle (by have := hr.2.2.1 h; omega))
    have Hf := Lib.hid (show fewB v = false from by unfold fewB; rw [decide_eq_false hle, Bool.false_and])
    clear hr hle hk hc0 hc1 hc2 hc3 hc4 hwz
    go_wp2
    go_ret
    exact ⟨ret_bool Hf.out.symm, g2⟩
end Go.Proofs.YtpjadeihackkpaaGreatDoor

/- Where words end; how long texts and forms are; lists inside each other. -/
namespace Go.Proofs.YtpjadeihackkpaaGreatDoor
open Go.RowKit Go.Shelf Fl

theorem noEnd_nil : NoEnd [] := fun c h => by cases h
theorem ends_cons {c : Nat} (r : List Nat) (h : c = 32 ∨ c = 93) : Ends (c :: r) := fun d q e => by rw [← (List.cons.inj e).1]; exact h

theorem idx_of : ∀ (x : List Nat), (∀ c ∈ x, c < 256) → ∃ j, j ≤ x.length ∧ NoEnd (x.take j) ∧ Ends (x.drop j) ∧
    (j < x.length ∧ Lib.indexAny (x.map UInt8.ofNat) [32, 93] = (j : Int) ∨ j = x.length ∧ Lib.indexAny (x.map UInt8.ofNat) [32, 93] = -1)
  | [], _ => ⟨0, Nat.le_refl _, noEnd_nil, ends_nil, .inr ⟨rfl, rfl⟩⟩
  | c :: r, h => by
    have hc := h c (by simp)
    obtain ⟨j, hj, hn, he, hr⟩ := idx_of r (fun d hd => h d (by simp [hd]))
    have hcon : ([32, 93] : List UInt8).contains (UInt8.ofNat c) = decide (c = 32 ∨ c = 93) := by
      rw [Bool.eq_iff_iff, decide_eq_true_eq, List.contains_iff_mem]
      have key : ∀ d : Nat, d < 256 → (UInt8.ofNat c = UInt8.ofNat d ↔ c = d) := fun d hd => by
        constructor
        · intro e
          have e2 := congrArg UInt8.toNat e
          rw [UInt8.toNat_ofNat', UInt8.toNat_ofNat'] at e2
          omega
        · intro e; rw [e]
      have k1 := key 32 (by omega)
      have k2 := key 93 (by omega)
      rw [← k1, ← k2]
      simp only [List.mem_cons, List.not_mem_nil, or_false]
      rfl
    rw [List.map_cons, Lib.indexAny, hcon]
    by_cases hcc : c = 32 ∨ c = 93
    · rw [decide_eq_true hcc, if_pos rfl]
      exact ⟨0, Nat.zero_le _, noEnd_nil, ends_cons r hcc, .inl ⟨by simp, rfl⟩⟩
    · rw [decide_eq_false hcc, if_neg (by decide)]
      have hn' : NoEnd ((c :: r).take (j + 1)) := by
        intro d hd
        rw [List.take_succ_cons] at hd
        rcases List.mem_cons.1 hd with e | e
        · rw [e]; omega
        · exact hn d e
      refine ⟨j + 1, by rw [List.length_cons]; omega, hn', he, ?_⟩
      rcases hr with ⟨h1, h2⟩ | ⟨h1, h2⟩
      · rw [h2, if_neg (by rw [beq_iff_eq]; omega)]
        exact .inl ⟨by rw [List.length_cons]; omega, by omega⟩
      · rw [h2]
        exact .inr ⟨by rw [List.length_cons, h1], rfl⟩

theorem set_zero : ∀ w : World, (zeroValue 99).run Tryz.prog w = .ok (.agg (Array.replicate 256 (.bool false))) w := fun w => by kernel_rfl

theorem idx_ascii (x : List Nat) (hx : ∀ c ∈ x, c < 128) (hn : x.length ≤ 1000000) : IdxAt x := by
  intro w
  obtain ⟨j, hj, h1, h2, hr⟩ := idx_of x (fun c hc => by have := hx c hc; omega)
  have hd : (str x).data.toList = x.map UInt8.ofNat := rfl
  have hd2 : ((⟨#[32, 93]⟩ : ByteArray)).data.toList = [32, 93] := rfl
  have h := Tryz.strings_IndexAny set_zero (str x) ⟨#[32, 93]⟩ w (by rw [str_size]; omega) (by decide) (fun i b hb => by
      rw [hd] at hb
      obtain ⟨c, hc, rfl⟩ := List.mem_map.1 (List.mem_of_getElem? hb)
      have := hx c hc
      rw [UInt8.toNat_ofNat']
      omega) (fun i b hb => by
      rw [hd2] at hb
      have hm := List.mem_of_getElem? hb
      simp only [List.mem_cons, List.not_mem_nil, or_false] at hm
      rcases hm with rfl | rfl <;> decide)
  rw [hd, hd2] at h
  refine h.mono ?_
  rintro e w' ⟨rfl, hb⟩
  refine ⟨hb, j, hj, h1, h2, ?_⟩
  rcases hr with ⟨g1, g2⟩ | ⟨g1, g2⟩
  · exact .inl ⟨g1, by rw [g2]⟩
  · exact .inr ⟨g1, by rw [g2]⟩

theorem hexD_ascii : ∀ d : Fin 16, hexD d.val < 128 := by decide +kernel

theorem textL_ascii (x : Nat) : ∀ c ∈ textL x, c < 128 := by
  have hh : ∀ j, ∀ c ∈ hexs x j, c < 128 := by
    intro j
    induction j with
    | zero => intro c hc; cases hc
    | succ j ih =>
      intro c hc
      rw [hexs] at hc
      rcases List.mem_append.1 hc with hc | hc
      · exact ih c hc
      · have e : c = hexD (x / 2 ^ (4 * (15 - j)) % 16) := by simpa using hc
        have hm : x / 2 ^ (4 * (15 - j)) % 16 < 16 := Nat.mod_lt _ (by omega)
        rw [e]
        exact hexD_ascii ⟨_, hm⟩
  intro c hc
  unfold textL at hc
  split at hc
  · simp at hc; omega
  split at hc
  · simp at hc; omega
  split at hc
  · simp at hc; omega
  split at hc
  · simp at hc; omega
  split at hc
  · simp at hc; omega
  · rcases List.mem_cons.1 hc with e | e
    · omega
    · exact hh _ c e

theorem joinS_ascii : ∀ a : List (List Nat), (∀ x ∈ a, ∀ c ∈ x, c < 128) → ∀ c ∈ joinS a, c < 128
  | [], _, c, hc => by simp [joinS] at hc
  | [y], h, c, hc => h y (by simp) c hc
  | y :: z :: r, h, c, hc => by
    rw [joinS] at hc
    rcases List.mem_append.1 hc with e | e
    · exact h y (by simp) c e
    · rcases List.mem_cons.1 e with e | e
      · omega
      · exact joinS_ascii (z :: r) (fun x hx => h x (by simp [hx])) c e

theorem text_ascii : ∀ v : V, soundV v → ∀ c ∈ textV v, c < 128 := by
  refine V.ind ?_
  rintro ⟨k, n, f, s, l⟩ ih hs c hc
  change ∀ u ∈ l, _ at ih
  rw [soundV] at hs
  rw [textV] at hc
  split at hc
  · unfold decL at hc
    split at hc
    · rcases List.mem_cons.1 hc with e | e
      · omega
      · have := decD_digit _ c e; omega
    · have := decD_digit _ c hc; omega
  split at hc
  · rcases List.mem_cons.1 hc with e | e
    · omega
    · exact textL_ascii _ c e
  split at hc
  · rcases List.mem_cons.1 hc with e | e
    · omega
    · rcases List.mem_append.1 e with e | e
      · unfold hex2 at e
        obtain ⟨x, hx, e⟩ := List.mem_flatMap.1 e
        have hx := hs.2.2.1 x hx
        have h1 := hexD_ascii ⟨x / 16, by omega⟩
        have h2 := hexD_ascii ⟨x % 16, by omega⟩
        simp at e h1 h2
        rcases e with rfl | rfl
        · exact h1
        · exact h2
      · have := List.mem_singleton.1 e; omega
  split at hc
  · rcases List.mem_cons.1 hc with e | e
    · omega
    · rcases List.mem_append.1 e with e | e
      · refine joinS_ascii _ (fun x hx => ?_) c e
        rw [textVs_map] at hx
        obtain ⟨u, hu, rfl⟩ := List.mem_map.1 hx
        exact ih u hu (soundL_mem hs.2.2.2 u hu)
      · have := List.mem_singleton.1 e; omega
  · simp at hc; omega

theorem decL_len {n : Int} (h : -9223372036854775808 ≤ n ∧ n ≤ 9223372036854775807) : (decL n).length ≤ 21 := by
  have := decD_len20 (n := n.natAbs) (by omega)
  unfold decL
  split
  · rw [List.length_cons]; omega
  · omega

mutual
/-- How long a text is. -/
theorem text_bulk : ∀ v : V, soundV v → (∀ u ∈ preV v, u.s.length ≤ 1000) → (textV v).length + 1 ≤ 25 * bulkV v
  | .mk k n f s l, h, hs => by
    rw [soundV] at h
    have h0 : s.length ≤ 1000 := hs (.mk k n f s l) (by rw [preV]; simp)
    have hl := texts_bulk l h.2.2.2 (fun u hu => hs u (by rw [preV]; simp [hu]))
    rw [textV, bulkV, Nat.min_eq_left h0]
    split
    · have := decL_len h.1; omega
    split
    · have := tl_len (bitsB f)
      rw [List.length_cons]; omega
    split
    · rw [List.length_cons, List.length_append, hex2_len]
      simp only [List.length_cons, List.length_nil]
      omega
    split
    · have := joinS_tsum l
      rw [List.length_cons, List.length_append]
      simp only [List.length_cons, List.length_nil]
      omega
    · simp only [List.length_cons, List.length_nil]
      omega
theorem texts_bulk : ∀ l : List V, soundL l → (∀ u ∈ preV.preL l, u.s.length ≤ 1000) → tsum l ≤ 25 * bulkL l
  | [], _, _ => by rw [tsum]; omega
  | v :: r, h, hs => by
    rw [soundL] at h
    have h1 := text_bulk v h.1 (fun u hu => hs u (by rw [preV.preL]; simp [hu]))
    have h2 := texts_bulk r h.2 (fun u hu => hs u (by rw [preV.preL]; simp [hu]))
    rw [tsum, bulkL]
    omega
end

theorem piece_len {k n : Int} {f : Nat} {s : List Nat} {l : List V} (hk : k ≤ 4) (hn : -9223372036854775808 ≤ n ∧ n ≤ 9223372036854775807) (hs : s.length ≤ 1000) (hl : l.length < 18446744073709551616) : (pieceV (.mk k n f s l)).length ≤ 21 + s.length := by
  unfold pieceV
  change (form k.toNat ++ contF k n f s l.length).length ≤ _
  have h1 := form_len (x := k.toNat) (by omega)
  rw [List.length_append]
  unfold contF
  split
  · have := form_len (fold_lt hn.1 hn.2); omega
  split
  · simp [be8]; omega
  split
  · have := form_len (x := s.length) (by omega)
    unfold formB
    rw [List.length_append]; omega
  split
  · have := form_len hl; omega
  · simp only [List.length_nil]; omega

mutual
theorem form_bulk : ∀ v : V, soundV v → (∀ u ∈ preV v, u.s.length ≤ 1000 ∧ u.kind ≤ 4 ∧ u.l.length < 18446744073709551616) → (formV v).length ≤ 25 * bulkV v
  | .mk k n f s l, h, hs => by
    rw [soundV] at h
    obtain ⟨h0, hk, hln⟩ : s.length ≤ 1000 ∧ k ≤ 4 ∧ l.length < 18446744073709551616 := hs (.mk k n f s l) (by rw [preV]; simp)
    have hl := forms_bulk l h.2.2.2 (fun u hu => hs u (by rw [preV]; simp [hu]))
    have hp := piece_len (n := n) (f := f) (s := s) (l := l) hk h.1 h0 hln
    unfold formV
    rw [preV, List.flatMap_cons, List.length_append, bulkV, Nat.min_eq_left h0]
    omega
theorem forms_bulk : ∀ l : List V, soundL l → (∀ u ∈ preV.preL l, u.s.length ≤ 1000 ∧ u.kind ≤ 4 ∧ u.l.length < 18446744073709551616) → ((preV.preL l).flatMap pieceV).length ≤ 25 * bulkL l
  | [], _, _ => by rw [preV.preL]; simp
  | v :: r, h, hs => by
    rw [soundL] at h
    have h1 := form_bulk v h.1 (fun u hu => hs u (by rw [preV.preL]; simp [hu]))
    have h2 := forms_bulk r h.2 (fun u hu => hs u (by rw [preV.preL]; simp [hu]))
    unfold formV at h1
    rw [preV.preL, List.flatMap_append, List.length_append, bulkL]
    omega
end

mutual
theorem bulk_strings : ∀ v : V, bulkV v ≤ 900 → ∀ u ∈ preV v, u.s.length ≤ 1000 ∧ u.l.length ≤ 900
  | .mk k n f s l, h, u, hu => by
    rw [bulkV] at h
    have hb := bulkL_len l
    rw [preV] at hu
    rcases List.mem_cons.1 hu with e | e
    · rw [e]
      show s.length ≤ 1000 ∧ l.length ≤ 900
      omega
    · exact bulks_strings l (by omega) u e
theorem bulks_strings : ∀ l : List V, bulkL l ≤ 900 → ∀ u ∈ preV.preL l, u.s.length ≤ 1000 ∧ u.l.length ≤ 900
  | [], _, u, hu => by simp [preV.preL] at hu
  | v :: r, h, u, hu => by
    rw [bulkL] at h
    rw [preV.preL] at hu
    rcases List.mem_append.1 hu with e | e
    · exact bulk_strings v (by omega) u e
    · exact bulks_strings r (by omega) u e
end

/-- A value in some lists. -/
def nestV : Nat → V → V
  | 0, v => v
  | k + 1, v => .mk 4 0 0 [] [nestV k v]

theorem small_up : ∀ (t : Nat) (v : V), smallN t v = true → smallN (t + 1) v = true
  | 0, v, h => by simp [smallN] at h
  | t + 1, v, h => by
    have h' : v.l.all (smallN t) = true := h
    show v.l.all (smallN (t + 1)) = true
    rw [List.all_eq_true] at h' ⊢
    exact fun u hu => small_up t u (h' u hu)

theorem small_nest {t : Nat} {v : V} (h : smallN t v = true) : ∀ k, smallN (t + k) (nestV k v) = true
  | 0 => h
  | k + 1 => by
    show [nestV k v].all (smallN (t + k)) = true
    rw [List.all_cons, small_nest h k]; rfl

theorem right_nest {v : V} (h : ∀ t, rightN t v = true) : ∀ (k t : Nat), rightN t (nestV k v) = decide (k ≤ t)
  | 0, t => by rw [decide_eq_true (Nat.zero_le _)]; exact h t
  | k + 1, 0 => by
    rw [decide_eq_false (by omega)]
    unfold rightN nestV
    rw [decide_eq_false (show ¬ (V.mk 4 0 0 [] [nestV k v]).kind ≠ 4 from fun h => h rfl)]
    simp
  | k + 1, t + 1 => by
    show rightN (t + 1) (.mk 4 0 0 [] [nestV k v]) = _
    rw [rightN_list (v := .mk 4 0 0 [] [nestV k v]) ⟨.inr rfl, .inr (show bitsB 0 = 0 by decide), .inr rfl, .inl rfl⟩ rfl]
    show [nestV k v].all (rightN t) = _
    rw [List.all_cons, right_nest h k t]
    simp

theorem bulk_nest (v : V) : ∀ k, bulkV (nestV k v) = bulkV v + k
  | 0 => rfl
  | k + 1 => by
    show bulkV (.mk 4 0 0 [] [nestV k v]) = _
    rw [bulkV, bulkL, bulkL, bulk_nest v k]
    simp
    omega
end Go.Proofs.YtpjadeihackkpaaGreatDoor

/- A value put into lists, in memory; its text and its form are short. -/
namespace Go.Proofs.YtpjadeihackkpaaGreatDoor
open Go.RowKit Go.Shelf Fl

mutual
/-- What a memory holds, its own blocks hold. -/
theorem VIn.within {w : World} : ∀ (v : V) (x : Array Value), VIn w v x → VInP (fun b => b < w.heap.size) w v x
  | .mk k n f s l, x, h => by
    rw [VIn] at h
    rw [VInP]
    obtain ⟨h1, h2, h3, h4, h5, a, cap, h6, h7, h8, h9⟩ := h
    refine ⟨h1, h2, h3, h4, h5, a, cap, h6, h7, h8, ?_⟩
    rcases h9 with h9 | ⟨b, o, ha, hv⟩
    · exact .inl h9
    · by_cases hl : l = []
      · exact .inl hl
      · exact .inr ⟨b, o, ha, VsIn.block hl hv, VsIn.within l b o hv⟩
theorem VsIn.within {w : World} : ∀ (l : List V) (b o : Nat), VsIn w l b o → VsInP (fun b => b < w.heap.size) w l b o
  | [], _, _, _ => by rw [VsInP]; trivial
  | v :: r, b, o, h => by
    rw [VsIn] at h
    rw [VsInP]
    obtain ⟨⟨x, hx, hc, hv⟩, hr⟩ := h
    exact ⟨⟨x, hx, hc, VIn.within v x hv⟩, VsIn.within r b (o + 5) hr⟩
theorem VsIn.block {w : World} : ∀ {l : List V} {b o : Nat}, l ≠ [] → VsIn w l b o → b < w.heap.size
  | [], _, _, h, _ => absurd rfl h
  | v :: r, b, o, _, h => by
    rw [VsIn] at h
    obtain ⟨⟨x, hx, hc, _⟩, _⟩ := h
    have h0 := hc 0 (by omega)
    exact World.block_lt_of_cell? _ _ (h0.trans (Array.getElem?_eq_getElem (by omega)))
end

/-- The box of a value that is put into lists, after some rounds. -/
def NestRel (w : World) (v : V) (m : Nat) (i : Value) (wr : World) : Prop :=
  ∃ (j : Nat) (a : Option Addr) (cap : Nat), j ≤ m ∧ i = .int .i64 (j : Int) ∧ Below w.heap.size w wr ∧
    wr.heap[w.heap.size]? = some (.cells (cells5 (nestV j v).kind (nestV j v).n (nestV j v).f (nestV j v).s a (nestV j v).l.length cap) 25 (0, 0)) ∧
    VInP (fun b => b ≠ w.heap.size ∧ b < wr.heap.size) wr (nestV j v) (cells5 (nestV j v).kind (nestV j v).n (nestV j v).f (nestV j v).s a (nestV j v).l.length cap)

theorem row_cells {w : World} {g : Nat} {t : TypeId} {a b c d e : Value} (h : w.heap[g]? = some (.cells #[a, b, c, d, e] t (0, 0))) :
    (w.cell? ⟨g, 0, none⟩ = some a ∧ w.cell? ⟨g, 1, none⟩ = some b ∧ w.cell? ⟨g, 2, none⟩ = some c ∧ w.cell? ⟨g, 3, none⟩ = some d ∧ w.cell? ⟨g, 4, none⟩ = some e) ∧
    (w.frozen? ⟨g, 0, none⟩ = false ∧ w.frozen? ⟨g, 1, none⟩ = false ∧ w.frozen? ⟨g, 2, none⟩ = false ∧ w.frozen? ⟨g, 3, none⟩ = false ∧ w.frozen? ⟨g, 4, none⟩ = false) := by
  refine ⟨⟨?_, ?_, ?_, ?_, ?_⟩, ⟨?_, ?_, ?_, ?_, ?_⟩⟩
  · rw [cell_of_row _ _ _ _ _ _ h]; rfl
  · rw [cell_of_row _ _ _ _ _ _ h]; rfl
  · rw [cell_of_row _ _ _ _ _ _ h]; rfl
  · rw [cell_of_row _ _ _ _ _ _ h]; rfl
  · rw [cell_of_row _ _ _ _ _ _ h]; rfl
  · simp [World.frozen?, h]
  · simp [World.frozen?, h]
  · simp [World.frozen?, h]
  · simp [World.frozen?, h]
  · simp [World.frozen?, h]

theorem row_set5 {w : World} {g : Nat} {t : TypeId} {a b c d e : Value} (h : w.heap[g]? = some (.cells #[a, b, c, d, e] t (0, 0))) (a' b' c' d' e' : Value) :
    (((((w.setCell ⟨g, 0, none⟩ a').setCell ⟨g, 1, none⟩ b').setCell ⟨g, 2, none⟩ c').setCell ⟨g, 3, none⟩ d').setCell ⟨g, 4, none⟩ e').heap[g]? = some (.cells #[a', b', c', d', e'] t (0, 0)) := by
  simp [World.setCell, Array.getElem?_modify, h]

theorem NestRel.next {w wr : World} {v : V} {m j : Nat} {a : Option Addr} {cap : Nat} (hlt : j < m) (hb : Below w.heap.size w wr)
    (hrow : wr.heap[w.heap.size]? = some (.cells (cells5 (nestV j v).kind (nestV j v).n (nestV j v).f (nestV j v).s a (nestV j v).l.length cap) 25 (0, 0)))
    (hv : VInP (fun b => b ≠ w.heap.size ∧ b < wr.heap.size) wr (nestV j v) (cells5 (nestV j v).kind (nestV j v).n (nestV j v).f (nestV j v).s a (nestV j v).l.length cap)) :
    NestRel w v m (.int .i64 ((j + 1 : Nat) : Int)) ((((((wr.alloc (.cells (cells5 (nestV j v).kind (nestV j v).n (nestV j v).f (nestV j v).s a (nestV j v).l.length cap) 25)).setCell ⟨w.heap.size, 0, none⟩ (.int .i64 4)).setCell ⟨w.heap.size, 1, none⟩ (.int .i64 0)).setCell ⟨w.heap.size, 2, none⟩ (.float .f64 0)).setCell ⟨w.heap.size, 3, none⟩ (.string ⟨#[]⟩)).setCell ⟨w.heap.size, 4, none⟩ (.slice (some ⟨wr.heap.size, 0, none⟩) 1 1)) := by
  have hz : w.heap.size < wr.heap.size := (Array.getElem?_eq_some_iff.1 hrow).1
  have hal := hb.alloc hb.size (.cells (cells5 (nestV j v).kind (nestV j v).n (nestV j v).f (nestV j v).s a (nestV j v).l.length cap) 25)
  have hsz : (wr.alloc (.cells (cells5 (nestV j v).kind (nestV j v).n (nestV j v).f (nestV j v).s a (nestV j v).l.length cap) 25)).heap.size = wr.heap.size + 1 := by simp
  have hrow1 := (Below.heap_alloc wr (.cells (cells5 (nestV j v).kind (nestV j v).n (nestV j v).f (nestV j v).s a (nestV j v).l.length cap) 25) w.heap.size hz).trans hrow
  have hnew := heap_alloc_new wr (.cells (cells5 (nestV j v).kind (nestV j v).n (nestV j v).f (nestV j v).s a (nestV j v).l.length cap) 25)
  have hold : ∀ b, b < wr.heap.size → (wr.alloc (.cells (cells5 (nestV j v).kind (nestV j v).n (nestV j v).f (nestV j v).s a (nestV j v).l.length cap) 25)).heap[b]? = wr.heap[b]? := fun b h => Below.heap_alloc wr _ b h
  generalize wr.alloc (.cells (cells5 (nestV j v).kind (nestV j v).n (nestV j v).f (nestV j v).s a (nestV j v).l.length cap) 25) = w1 at *
  have hr5 := row_set5 hrow1 (.int .i64 4) (.int .i64 0) (.float .f64 0) (.string ⟨#[]⟩) (.slice (some ⟨wr.heap.size, 0, none⟩) 1 1)
  have hs5 := set5 hal (.int .i64 4) (.int .i64 0) (.float .f64 0) (.string ⟨#[]⟩) (.slice (some ⟨wr.heap.size, 0, none⟩) 1 1)
  have hb5 : ∀ b, b ≠ w.heap.size → ((((((w1.setCell ⟨w.heap.size, 0, none⟩ (.int .i64 4)).setCell ⟨w.heap.size, 1, none⟩ (.int .i64 0)).setCell ⟨w.heap.size, 2, none⟩ (.float .f64 0)).setCell ⟨w.heap.size, 3, none⟩ (.string ⟨#[]⟩)).setCell ⟨w.heap.size, 4, none⟩ (.slice (some ⟨wr.heap.size, 0, none⟩) 1 1))).heap[b]? = w1.heap[b]? := fun b h => set5_block h _ _ _ _ _
  have hz5 : ((((((w1.setCell ⟨w.heap.size, 0, none⟩ (.int .i64 4)).setCell ⟨w.heap.size, 1, none⟩ (.int .i64 0)).setCell ⟨w.heap.size, 2, none⟩ (.float .f64 0)).setCell ⟨w.heap.size, 3, none⟩ (.string ⟨#[]⟩)).setCell ⟨w.heap.size, 4, none⟩ (.slice (some ⟨wr.heap.size, 0, none⟩) 1 1))).heap.size = wr.heap.size + 1 := by simp [hsz]
  generalize (((((w1.setCell ⟨w.heap.size, 0, none⟩ (.int .i64 4)).setCell ⟨w.heap.size, 1, none⟩ (.int .i64 0)).setCell ⟨w.heap.size, 2, none⟩ (.float .f64 0)).setCell ⟨w.heap.size, 3, none⟩ (.string ⟨#[]⟩)).setCell ⟨w.heap.size, 4, none⟩ (.slice (some ⟨wr.heap.size, 0, none⟩) 1 1)) = w5 at *
  refine ⟨j + 1, some ⟨wr.heap.size, 0, none⟩, 1, hlt, rfl, hs5, hr5, ?_⟩
  show VInP _ w5 (.mk 4 0 0 [] [nestV j v]) _
  rw [VInP]
  refine ⟨by omega, by omega, by omega, by simp, by simp, some ⟨wr.heap.size, 0, none⟩, 1, rfl, Nat.le_refl _, by omega, .inr ⟨wr.heap.size, 0, rfl, ⟨by omega, by omega⟩, ?_⟩⟩
  rw [VsInP, VsInP]
  refine ⟨⟨_, rfl, fun i hi => ?_, VInP.turn (fun b h => ⟨h.1, by omega⟩) (fun p hp => ?_) _ _ hv⟩, trivial⟩
  · have e := (hb5 wr.heap.size (by omega)).trans hnew
    rw [cell_of_row _ _ _ _ _ _ e, Nat.zero_add]
  · unfold World.cell?
    rw [hb5 p.block hp.1, hold p.block hp.2]

theorem right_plain {v : V} (h4 : v.kind ≠ 4) {t : Nat} (h : rightN t v = true) : ∀ t', rightN t' v = true := by
  have hf : FieldsOk v := by
    by_cases hf : FieldsOk v
    · exact hf
    · rw [rightN_fields hf] at h; cases h
  have hk : 0 ≤ v.kind ∧ v.kind ≤ 4 := by
    by_cases hk : 0 ≤ v.kind ∧ v.kind ≤ 4
    · exact hk
    · rw [rightN_kind hk] at h; cases h
  exact fun t' => rightN_plain hf h4 hk

theorem sound_nest {v : V} (h : soundV v) : ∀ k, soundV (nestV k v)
  | 0 => h
  | k + 1 => by
    show soundV (.mk 4 0 0 [] [nestV k v])
    rw [soundV, soundL, soundL]
    exact ⟨by omega, by omega, by simp, sound_nest h k, trivial⟩

theorem pre_nest {v : V} {p : V → Prop} (h : ∀ u ∈ preV v, p u) (hn : ∀ u, p (.mk 4 0 0 [] [u])) : ∀ k, ∀ u ∈ preV (nestV k v), p u
  | 0, u, hu => h u hu
  | k + 1, u, hu => by
    change u ∈ preV (.mk 4 0 0 [] [nestV k v]) at hu
    rw [preV, preV.preL, preV.preL, List.append_nil] at hu
    rcases List.mem_cons.1 hu with e | e
    · rw [e]; exact hn _
    · exact pre_nest h hn k u e

/-- What is needed of a value in k lists. -/
theorem nest_facts {v : V} (hs : soundV v) (hf : fewB v = true) (h4 : v.kind ≠ 4) (hr : rightN 8 v = true) (k : Nat) (hk : k < 12) :
    soundV (nestV k v) ∧ rightN 8 (nestV k v) = decide (k ≤ 8) ∧ smallN 32 (nestV k v) = true ∧ (textV (nestV k v)).length ≤ 100000 ∧ (formV (nestV k v)).length ≤ 10000000 ∧ (∀ u ∈ preV (nestV k v), u.s.length ≤ 1000000) := by
  unfold fewB at hf
  rw [Bool.and_eq_true, decide_eq_true_eq] at hf
  have hrt := right_plain h4 hr
  have hpk := pre_kinds v 8 hr
  have hps := bulk_strings v hf.1
  have hall : ∀ u ∈ preV (nestV k v), u.s.length ≤ 1000 ∧ u.kind ≤ 4 ∧ u.l.length < 18446744073709551616 :=
    pre_nest (fun u hu => ⟨(hps u hu).1, (hpk u hu).2, by have := (hps u hu).2; omega⟩) (fun u => ⟨by show (0 : Nat) ≤ 1000; omega, by show (4 : Int) ≤ 4; omega, by show (1 : Nat) < _; omega⟩) k
  have hso := sound_nest hs k
  have h1 := text_bulk _ hso (fun u hu => (hall u hu).1)
  have h2 := form_bulk _ hso hall
  rw [bulk_nest] at h1 h2
  refine ⟨hso, right_nest hrt k 8, ?_, by omega, by omega, fun u hu => by have := (hall u hu).1; omega⟩
  have h3 := small_nest hf.2 k
  have h5 : ∀ d, smallN (20 + k + d) (nestV k v) = true := fun d => by
    induction d with
    | zero => exact h3
    | succ d ih => exact small_up _ _ ih
  have := h5 (12 - k)
  rwa [show 20 + k + (12 - k) = 32 by omega] at this
end Go.Proofs.YtpjadeihackkpaaGreatDoor

/- The statement ValueParses answers true. -/
namespace Go.Proofs.YtpjadeihackkpaaGreatDoor
open Go.RowKit Go.Shelf Fl

theorem right_small9 : ∀ (t : Nat) (v : V), rightN t v = true → smallN (t + 1) v = true
  | 0, v, h => by
    unfold rightN at h
    rw [Bool.and_eq_true, Bool.and_eq_true, decide_eq_true_eq, decide_eq_true_eq] at h
    obtain ⟨⟨hF, h4⟩, _⟩ := h
    have hl : v.l = [] := hF.2.2.2.resolve_left h4
    show v.l.all (smallN 0) = true
    rw [hl]; rfl
  | t + 1, v, h => by
    unfold rightN at h
    rw [Bool.and_eq_true, Bool.and_eq_true, List.all_eq_true] at h
    show v.l.all (smallN (t + 1)) = true
    rw [List.all_eq_true]
    exact fun u hu => right_small9 t u (h.1.2 u hu)

theorem parses_same {l : List Nat} {w1 w2 : World} {v u : V} {x y : Array Value} {p q : Bool} (hv : VIn w1 v x) (hu : VIn w2 u y)
    (h1 : p = true → rightN 8 v = true ∧ textV v = l) (h2 : p = false → v = .mk 0 0 0 [] [] ∧ ∀ z, rightN 8 z = true → soundV z → textV z ≠ l)
    (h3 : q = true → rightN 8 u = true ∧ textV u = l) (h4 : q = false → u = .mk 0 0 0 [] [] ∧ ∀ z, rightN 8 z = true → soundV z → textV z ≠ l) : p = q ∧ sameV v u = true := by
  have sv := VIn.sound v x hv
  have su := VIn.sound u y hu
  cases p with
  | true =>
    obtain ⟨a1, a2⟩ := h1 rfl
    cases q with
    | true =>
      obtain ⟨b1, b2⟩ := h3 rfl
      exact ⟨rfl, (text_split v u 8 8 [] [] a1 b1 (soundV.words _ sv) (soundV.words _ su) ends_nil ends_nil (by rw [a2, b2])).1⟩
    | false => exact absurd a2 ((h4 rfl).2 v a1 sv)
  | false =>
    cases q with
    | true =>
      obtain ⟨b1, b2⟩ := h3 rfl
      exact absurd b2 ((h2 rfl).2 u b1 su)
    | false => exact ⟨rfl, by rw [(h2 rfl).1, (h4 rfl).1]; exact sameV_refl _⟩

set_option maxRecDepth 100000 in
set_option maxHeartbeats 3200000 in
theorem parses_any (l : List Nat) (w : World) (hl : ∀ x ∈ l, x < 256) (hP : Pow10 w) (hE : Errs w) (hT : Tab16 w) (hix : l.length ≤ 400 → ∀ i, IdxAt (l.drop i)) :
    Calls Tryz.prog 4 #[.string (str l)] w fun e w' => e = .returned (.bool true) ∧ Below w.heap.size w w' := by
  have HL := Lib.hid (fun (w1 : World) (h : Below w.heap.size w w1) => valive_any w1 (hP.below h) (tab_below hT h))
  have hsz := str_size l
  by_cases hn : 400 < l.length
  · have hn1 : (400 : Int) < (l.length : Int) := by omega
    have HX := Lib.hid (HL.out w (Below.refl _ _))
    clear hl hP hE hT hix
    generalize str l = S at *
    go_enter Tryz.func4, Tryz.ntmps4
    go_wp2_with fail
    refine HX.out.mono ?_
    rintro e w1 ⟨rfl, hb⟩
    go_wp2
    go_ret
    exact ⟨rfl, hb⟩
  · have hn1 : ¬ ((400 : Int) < (l.length : Int)) := by omega
    have HA := Lib.hid (vparse_any l w hl (by omega) hE hT hP (hix (by omega)))
    have HB := Lib.hid (fun w => rpar_any l w hl (by omega))
    have HTx := Lib.hid (fun (v : V) (x : Array Value) (w1 : World) (h : Below w.heap.size w w1) (hv : VIn w1 v x) (hr : rightN 8 v = true) (hx : textV v = l) =>
      vText_any 9 (by omega) v x w1 (right_small9 8 v hr) hv (by unfold textB; rw [if_pos hr, hx]; omega) (hP.below h) (tab_below hT h))
    have HEq := Lib.hid (str_eq l)
    clear hl hP hE hT hix
    go_enter Tryz.func4, Tryz.ntmps4
    go_wp2_with fail
    refine HA.out.mono ?_
    rintro e w1 ⟨v, x, ok, rfl, hv, hb1, hyes, hno⟩
    obtain ⟨_, _, _, _, _, a1, cap1, rfl, _⟩ := hv.parts
    have hal := (Below.refl w1.heap.size w1).alloc (Nat.le_refl _) (.cells (cells5 v.kind v.n v.f v.s a1 v.l.length cap1) 25)
    have C0 := new5 w1 (.int .i64 v.kind) (.int .i64 v.n) (.float .f64 v.f) (.string (str v.s)) (.slice a1 v.l.length cap1) 25
    have Hv := Lib.hid hv
    have Hb1 := Lib.hid hb1
    have Hyes := Lib.hid hyes
    have Hno := Lib.hid hno
    have HB1 := Lib.hid (HB.out (w1.alloc (.cells (cells5 v.kind v.n v.f v.s a1 v.l.length cap1) 25)))
    have Hal := Lib.hid hal
    have hfl : ∀ (w : World) (a : Addr) (m : Mode) (b : Nat), (store a (.float .f64 b) m).run Tryz.prog w = stored Tryz.prog w a (.float .f64 b) m := fun w a m b => run_store Tryz.prog w a _ m rfl
    clear hv hb1 hyes hno hal
    unfold cells5 at *
    go_wp2_with fail
    refine HB1.out.mono ?_
    rintro e w2 ⟨u, y, is, rfl, hu, hb2, hyes, hno⟩
    obtain ⟨_, _, _, _, _, a2, cap2, rfl, _⟩ := hu.parts
    have hal2 := (Below.refl w2.heap.size w2).alloc (Nat.le_refl _) (.cells (cells5 u.kind u.n u.f u.s a2 u.l.length cap2) 25)
    have D0 := new5 w2 (.int .i64 u.kind) (.int .i64 u.n) (.float .f64 u.f) (.string (str u.s)) (.slice a2 u.l.length cap2) 25
    have hC2 := keep5 hal2 (keep5 hb2 C0)
    have Hbw := Lib.hid ((Hb1.out.trans (Hal.out.mono Hb1.out.size)).trans (hb2.mono (Hb1.out.trans (Hal.out.mono Hb1.out.size)).size))
    have Hw3 := Lib.hid (Hbw.out.trans (hal2.mono Hbw.out.size))
    have HX := Lib.hid (HL.out _ Hw3.out)
    obtain ⟨hpq, hsame⟩ := parses_same Hv.out hu Hyes.out Hno.out hyes hno
    have Hs := Lib.hid hsame
    have Hu := Lib.hid (hu.below hal2)
    have Hv3 := Lib.hid ((Hv.out.below Hal.out).below (hb2.trans (hal2.mono hb2.size)))
    subst hpq
    obtain ⟨z0, z1, z2, z3, z4⟩ := hC2
    obtain ⟨y0, y1, y2, y3, y4⟩ := D0
    clear hu hb2 hyes hno hal2 C0 hsame
    unfold cells5 at *
    go_wp2_with fail
    refine HX.out.mono ?_
    rintro e w4 ⟨rfl, hb4⟩
    obtain ⟨x0, x1, x2, x3, x4⟩ := keep5 hb4 ⟨z0, z1, z2, z3, z4⟩
    obtain ⟨v0, v1, v2, v3, v4⟩ := keep5 hb4 ⟨y0, y1, y2, y3, y4⟩
    have HXS := Lib.hid (vsame_any v u _ _ w4 (Hv3.out.below hb4) (Hu.out.below hb4))
    rw [Hs.out] at HXS
    have Hv4 := Lib.hid (Hv3.out.below hb4)
    have Hb4 := Lib.hid (Hw3.out.trans (hb4.mono Hw3.out.size))
    clear hb4 z0 z1 z2 z3 z4 y0 y1 y2 y3 y4
    go_wp2_with fail
    refine HXS.out.mono ?_
    rintro e w5 ⟨rfl, hb5⟩
    obtain ⟨z0, z1, z2, z3, z4⟩ := keep5 hb5 ⟨x0, x1, x2, x3, x4⟩
    have Hv5 := Lib.hid (Hv4.out.below hb5)
    have Hb5 := Lib.hid (Hb4.out.trans (hb5.mono Hb4.out.size))
    clear hb5 x0 x1 x2 x3 x4 v0 v1 v2 v3 v4
    cases ok with
    | false =>
      go_wp2
      go_ret
      exact ⟨rfl, Hb5.out⟩
    | true =>
      obtain ⟨hr, htx⟩ := Hyes.out rfl
      have HTT := Lib.hid (HTx.out v _ w5 Hb5.out Hv5.out hr htx)
      rw [show textB v = l from by unfold textB; rw [if_pos hr, htx]] at HTT
      have hq := HEq.out
      clear hr htx
      generalize str l = S at *
      go_wp2_with fail
      refine HTT.out.mono ?_
      rintro e w6 ⟨rfl, hb6⟩
      have Hb6 := Lib.hid (Hb5.out.trans (hb6.mono Hb5.out.size))
      clear hb6
      go_wp2
      go_ret
      exact ⟨rfl, Hb6.out⟩
end Go.Proofs.YtpjadeihackkpaaGreatDoor

