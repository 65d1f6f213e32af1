import Derived.Test.YtpnfnmeilhiebaaGreatDoorMP25
import Derived.Test.YtpnfnmeilhiebaaGreatDoorMP23
import Derived.Test.YtpnfnmeilhiebaaGreatDoorMP11
import Derived.Test.YtpnfnmeilhiebaaGreatDoorMP8
import Derived.RangeFuncBox
import Derived.Test.YtpnfnmeilhiebaaGreatDoorMP1
/- The walk of the reference's Few. -/
namespace Go.Proofs.YtpnfnmeilhiebaaGreatDoor
open Go.RowKit Fl

def fewB (v : V) : Bool := decide (bulkV v ≤ 900) && smallN 20 v

set_option maxRecDepth 100000 in
theorem few_any (v : V) (x : Array Value) (w : World) (h : VIn w v x) :
    Calls Tryz.prog 4 #[.agg x] w fun e w' => e = .returned (.bool (fewB v)) ∧ Below w.heap.size w w' := by
  obtain ⟨_, _, _, _, _, a, cap, rfl, _, _, _⟩ := h.parts
  have hb := (Below.refl w.heap.size w).alloc (Nat.le_refl _) (.cells (cells5 v.kind v.n v.f v.s a v.l.length cap) 25)
  have HW := Lib.hid (weight_any v 900 _ _ (by omega) (by omega) (h.below hb))
  have HV := Lib.hid (h.below hb)
  have Hb := Lib.hid hb
  have hc := fun j => box_cell w (cells5 v.kind v.n v.f v.s a v.l.length cap) 25 j
  have hc0 : (w.alloc (.cells #[.int .i64 v.kind, .int .i64 v.n, .float .f64 v.f, .string (str v.s), .slice a v.l.length cap] 25)).cell? ⟨w.heap.size, 0, none⟩ = some (.int .i64 v.kind) := hc 0
  have hc1 : (w.alloc (.cells #[.int .i64 v.kind, .int .i64 v.n, .float .f64 v.f, .string (str v.s), .slice a v.l.length cap] 25)).cell? ⟨w.heap.size, 1, none⟩ = some (.int .i64 v.n) := hc 1
  have hc2 : (w.alloc (.cells #[.int .i64 v.kind, .int .i64 v.n, .float .f64 v.f, .string (str v.s), .slice a v.l.length cap] 25)).cell? ⟨w.heap.size, 2, none⟩ = some (.float .f64 v.f) := hc 2
  have hc3 : (w.alloc (.cells #[.int .i64 v.kind, .int .i64 v.n, .float .f64 v.f, .string (str v.s), .slice a v.l.length cap] 25)).cell? ⟨w.heap.size, 3, none⟩ = some (.string (str v.s)) := hc 3
  have hc4 : (w.alloc (.cells #[.int .i64 v.kind, .int .i64 v.n, .float .f64 v.f, .string (str v.s), .slice a v.l.length cap] 25)).cell? ⟨w.heap.size, 4, none⟩ = some (.slice a v.l.length cap) := hc 4
  have hwz : (w.alloc (.cells #[.int .i64 v.kind, .int .i64 v.n, .float .f64 v.f, .string (str v.s), .slice a v.l.length cap] 25)).heap.size = w.heap.size + 1 := by simp
  clear h hb hc
  change Calls _ _ #[.agg #[.int .i64 v.kind, .int .i64 v.n, .float .f64 v.f, .string (str v.s), .slice a v.l.length cap]] _ _
  go_enter Tryz.func4, Tryz.ntmps4
  go_wp2_with fail
  refine HW.out.mono ?_
  generalize w.alloc (.cells #[.int .i64 v.kind, .int .i64 v.n, .float .f64 v.f, .string (str v.s), .slice a v.l.length cap] 25) = w1 at *
  rintro e w2 ⟨r, rfl, hr, hb2⟩
  have hk : ∀ j y, w1.cell? ⟨w.heap.size, j, none⟩ = some y → w2.cell? ⟨w.heap.size, j, none⟩ = some y := fun j y e => by
    rw [hb2.cell (show w.heap.size < w1.heap.size by omega)]
    exact e
  have d0 := hk 0 _ hc0
  have d1 := hk 1 _ hc1
  have d2 := hk 2 _ hc2
  have d3 := hk 3 _ hc3
  have d4 := hk 4 _ hc4
  have g2 : Below w.heap.size w w2 := Hb.out.trans (hb2.mono (by omega))
  have HS := Lib.hid (small_any 20 (by omega) v _ w2 (HV.out.below hb2))
  by_cases hle : bulkV v ≤ 900
  · have e := hr.2.2.2 (by omega)
    have hdr : decide (r ≤ 900) = true := decide_eq_true (by omega)
    have Hf := Lib.hid (show fewB v = smallN 20 v from by unfold fewB; rw [decide_eq_true hle, Bool.true_and])
    clear hr hle hk hc0 hc1 hc2 hc3 hc4 hwz e
    generalize smallN 20 v = sm at *
    go_wp2_with fail
    refine HS.out.mono ?_
    rintro e w3 ⟨rfl, hb3⟩
    go_wp2
    go_ret
    exact ⟨ret_bool Hf.out.symm, g2.trans (hb3.mono g2.size)⟩
  · have hdr : decide (r ≤ 900) = false := decide_eq_false (fun h => hle (by have := hr.2.2.1 h; omega))
    have Hf := Lib.hid (show fewB v = false from by unfold fewB; rw [decide_eq_false hle, Bool.false_and])
    clear hr hle hk hc0 hc1 hc2 hc3 hc4 hwz
    go_wp2
    go_ret
    exact ⟨ret_bool Hf.out.symm, g2⟩
end Go.Proofs.YtpnfnmeilhiebaaGreatDoor

/- Where words end; how long texts and forms are; lists inside each other. -/
namespace Go.Proofs.YtpnfnmeilhiebaaGreatDoor
open Go.RowKit Go.Shelf Fl

theorem noEnd_nil : NoEnd [] := fun c h => by cases h
theorem ends_cons {c : Nat} (r : List Nat) (h : c = 32 ∨ c = 93) : Ends (c :: r) := fun d q e => by rw [← (List.cons.inj e).1]; exact h

theorem idx_of : ∀ (x : List Nat), (∀ c ∈ x, c < 256) → ∃ j, j ≤ x.length ∧ NoEnd (x.take j) ∧ Ends (x.drop j) ∧
    (j < x.length ∧ Lib.indexAny (x.map UInt8.ofNat) [32, 93] = (j : Int) ∨ j = x.length ∧ Lib.indexAny (x.map UInt8.ofNat) [32, 93] = -1)
  | [], _ => ⟨0, Nat.le_refl _, noEnd_nil, ends_nil, .inr ⟨rfl, rfl⟩⟩
  | c :: r, h => by
    have hc := h c (by simp)
    obtain ⟨j, hj, hn, he, hr⟩ := idx_of r (fun d hd => h d (by simp [hd]))
    have hcon : ([32, 93] : List UInt8).contains (UInt8.ofNat c) = decide (c = 32 ∨ c = 93) := by
      rw [Bool.eq_iff_iff, decide_eq_true_eq, List.contains_iff_mem]
      have key : ∀ d : Nat, d < 256 → (UInt8.ofNat c = UInt8.ofNat d ↔ c = d) := fun d hd => by
        constructor
        · intro e
          have e2 := congrArg UInt8.toNat e
          rw [UInt8.toNat_ofNat', UInt8.toNat_ofNat'] at e2
          omega
        · intro e; rw [e]
      have k1 := key 32 (by omega)
      have k2 := key 93 (by omega)
      rw [← k1, ← k2]
      simp only [List.mem_cons, List.not_mem_nil, or_false]
      rfl
    rw [List.map_cons, Lib.indexAny, hcon]
    by_cases hcc : c = 32 ∨ c = 93
    · rw [decide_eq_true hcc, if_pos rfl]
      exact ⟨0, Nat.zero_le _, noEnd_nil, ends_cons r hcc, .inl ⟨by simp, rfl⟩⟩
    · rw [decide_eq_false hcc, if_neg (by decide)]
      have hn' : NoEnd ((c :: r).take (j + 1)) := by
        intro d hd
        rw [List.take_succ_cons] at hd
        rcases List.mem_cons.1 hd with e | e
        · rw [e]; omega
        · exact hn d e
      refine ⟨j + 1, by rw [List.length_cons]; omega, hn', he, ?_⟩
      rcases hr with ⟨h1, h2⟩ | ⟨h1, h2⟩
      · rw [h2, if_neg (by rw [beq_iff_eq]; omega)]
        exact .inl ⟨by rw [List.length_cons]; omega, by omega⟩
      · rw [h2]
        exact .inr ⟨by rw [List.length_cons, h1], rfl⟩

theorem set_zero : ∀ w : World, (zeroValue 96).run Tryz.prog w = .ok (.agg (Array.replicate 256 (.bool false))) w := fun w => by kernel_rfl

theorem idx_ascii (x : List Nat) (hx : ∀ c ∈ x, c < 128) (hn : x.length ≤ 1000000) : IdxAt x := by
  intro w
  obtain ⟨j, hj, h1, h2, hr⟩ := idx_of x (fun c hc => by have := hx c hc; omega)
  have hd : (str x).data.toList = x.map UInt8.ofNat := rfl
  have hd2 : ((⟨#[32, 93]⟩ : ByteArray)).data.toList = [32, 93] := rfl
  have h := Tryz.strings_IndexAny set_zero (str x) ⟨#[32, 93]⟩ w (by rw [str_size]; omega) (by decide) (fun i b hb => by
      rw [hd] at hb
      obtain ⟨c, hc, rfl⟩ := List.mem_map.1 (List.mem_of_getElem? hb)
      have := hx c hc
      rw [UInt8.toNat_ofNat']
      omega) (fun i b hb => by
      rw [hd2] at hb
      have hm := List.mem_of_getElem? hb
      simp only [List.mem_cons, List.not_mem_nil, or_false] at hm
      rcases hm with rfl | rfl <;> decide)
  rw [hd, hd2] at h
  refine h.mono ?_
  rintro e w' ⟨rfl, hb⟩
  refine ⟨hb, j, hj, h1, h2, ?_⟩
  rcases hr with ⟨g1, g2⟩ | ⟨g1, g2⟩
  · exact .inl ⟨g1, by rw [g2]⟩
  · exact .inr ⟨g1, by rw [g2]⟩

theorem hexD_ascii : ∀ d : Fin 16, hexD d.val < 128 := by decide +kernel

theorem textL_ascii (x : Nat) : ∀ c ∈ textL x, c < 128 := by
  have hh : ∀ j, ∀ c ∈ hexs x j, c < 128 := by
    intro j
    induction j with
    | zero => intro c hc; cases hc
    | succ j ih =>
      intro c hc
      rw [hexs] at hc
      rcases List.mem_append.1 hc with hc | hc
      · exact ih c hc
      · have e : c = hexD (x / 2 ^ (4 * (15 - j)) % 16) := by simpa using hc
        have hm : x / 2 ^ (4 * (15 - j)) % 16 < 16 := Nat.mod_lt _ (by omega)
        rw [e]
        exact hexD_ascii ⟨_, hm⟩
  intro c hc
  unfold textL at hc
  split at hc
  · simp at hc; omega
  split at hc
  · simp at hc; omega
  split at hc
  · simp at hc; omega
  split at hc
  · simp at hc; omega
  split at hc
  · simp at hc; omega
  · rcases List.mem_cons.1 hc with e | e
    · omega
    · exact hh _ c e

theorem joinS_ascii : ∀ a : List (List Nat), (∀ x ∈ a, ∀ c ∈ x, c < 128) → ∀ c ∈ joinS a, c < 128
  | [], _, c, hc => by simp [joinS] at hc
  | [y], h, c, hc => h y (by simp) c hc
  | y :: z :: r, h, c, hc => by
    rw [joinS] at hc
    rcases List.mem_append.1 hc with e | e
    · exact h y (by simp) c e
    · rcases List.mem_cons.1 e with e | e
      · omega
      · exact joinS_ascii (z :: r) (fun x hx => h x (by simp [hx])) c e

theorem text_ascii : ∀ v : V, soundV v → ∀ c ∈ textV v, c < 128 := by
  refine V.ind ?_
  rintro ⟨k, n, f, s, l⟩ ih hs c hc
  change ∀ u ∈ l, _ at ih
  rw [soundV] at hs
  rw [textV] at hc
  split at hc
  · unfold decL at hc
    split at hc
    · rcases List.mem_cons.1 hc with e | e
      · omega
      · have := decD_digit _ c e; omega
    · have := decD_digit _ c hc; omega
  split at hc
  · rcases List.mem_cons.1 hc with e | e
    · omega
    · exact textL_ascii _ c e
  split at hc
  · rcases List.mem_cons.1 hc with e | e
    · omega
    · rcases List.mem_append.1 e with e | e
      · unfold hex2 at e
        obtain ⟨x, hx, e⟩ := List.mem_flatMap.1 e
        have hx := hs.2.2.1 x hx
        have h1 := hexD_ascii ⟨x / 16, by omega⟩
        have h2 := hexD_ascii ⟨x % 16, by omega⟩
        simp at e h1 h2
        rcases e with rfl | rfl
        · exact h1
        · exact h2
      · have := List.mem_singleton.1 e; omega
  split at hc
  · rcases List.mem_cons.1 hc with e | e
    · omega
    · rcases List.mem_append.1 e with e | e
      · refine joinS_ascii _ (fun x hx => ?_) c e
        rw [textVs_map] at hx
        obtain ⟨u, hu, rfl⟩ := List.mem_map.1 hx
        exact ih u hu (soundL_mem hs.2.2.2 u hu)
      · have := List.mem_singleton.1 e; omega
  · simp at hc; omega

theorem decL_len {n : Int} (h : -9223372036854775808 ≤ n ∧ n ≤ 9223372036854775807) : (decL n).length ≤ 21 := by
  have := decD_len20 (n := n.natAbs) (by omega)
  unfold decL
  split
  · rw [List.length_cons]; omega
  · omega

mutual
/-- How long a text is. -/
theorem text_bulk : ∀ v : V, soundV v → (∀ u ∈ preV v, u.s.length ≤ 1000) → (textV v).length + 1 ≤ 25 * bulkV v
  | .mk k n f s l, h, hs => by
    rw [soundV] at h
    have h0 : s.length ≤ 1000 := hs (.mk k n f s l) (by rw [preV]; simp)
    have hl := texts_bulk l h.2.2.2 (fun u hu => hs u (by rw [preV]; simp [hu]))
    rw [textV, bulkV, Nat.min_eq_left h0]
    split
    · have := decL_len h.1; omega
    split
    · have := tl_len (bitsB f)
      rw [List.length_cons]; omega
    split
    · rw [List.length_cons, List.length_append, hex2_len]
      simp only [List.length_cons, List.length_nil]
      omega
    split
    · have := joinS_tsum l
      rw [List.length_cons, List.length_append]
      simp only [List.length_cons, List.length_nil]
      omega
    · simp only [List.length_cons, List.length_nil]
      omega
theorem texts_bulk : ∀ l : List V, soundL l → (∀ u ∈ preV.preL l, u.s.length ≤ 1000) → tsum l ≤ 25 * bulkL l
  | [], _, _ => by rw [tsum]; omega
  | v :: r, h, hs => by
    rw [soundL] at h
    have h1 := text_bulk v h.1 (fun u hu => hs u (by rw [preV.preL]; simp [hu]))
    have h2 := texts_bulk r h.2 (fun u hu => hs u (by rw [preV.preL]; simp [hu]))
    rw [tsum, bulkL]
    omega
end

theorem piece_len {k n : Int} {f : Nat} {s : List Nat} {l : List V} (hk : k ≤ 4) (hn : -9223372036854775808 ≤ n ∧ n ≤ 9223372036854775807) (hs : s.length ≤ 1000) (hl : l.length < 18446744073709551616) : (pieceV (.mk k n f s l)).length ≤ 21 + s.length := by
  unfold pieceV
  change (form k.toNat ++ contF k n f s l.length).length ≤ _
  have h1 := form_len (x := k.toNat) (by omega)
  rw [List.length_append]
  unfold contF
  split
  · have := form_len (fold_lt hn.1 hn.2); omega
  split
  · simp [be8]; omega
  split
  · have := form_len (x := s.length) (by omega)
    unfold formB
    rw [List.length_append]; omega
  split
  · have := form_len hl; omega
  · simp only [List.length_nil]; omega

mutual
theorem form_bulk : ∀ v : V, soundV v → (∀ u ∈ preV v, u.s.length ≤ 1000 ∧ u.kind ≤ 4 ∧ u.l.length < 18446744073709551616) → (formV v).length ≤ 25 * bulkV v
  | .mk k n f s l, h, hs => by
    rw [soundV] at h
    obtain ⟨h0, hk, hln⟩ : s.length ≤ 1000 ∧ k ≤ 4 ∧ l.length < 18446744073709551616 := hs (.mk k n f s l) (by rw [preV]; simp)
    have hl := forms_bulk l h.2.2.2 (fun u hu => hs u (by rw [preV]; simp [hu]))
    have hp := piece_len (n := n) (f := f) (s := s) (l := l) hk h.1 h0 hln
    unfold formV
    rw [preV, List.flatMap_cons, List.length_append, bulkV, Nat.min_eq_left h0]
    omega
theorem forms_bulk : ∀ l : List V, soundL l → (∀ u ∈ preV.preL l, u.s.length ≤ 1000 ∧ u.kind ≤ 4 ∧ u.l.length < 18446744073709551616) → ((preV.preL l).flatMap pieceV).length ≤ 25 * bulkL l
  | [], _, _ => by rw [preV.preL]; simp
  | v :: r, h, hs => by
    rw [soundL] at h
    have h1 := form_bulk v h.1 (fun u hu => hs u (by rw [preV.preL]; simp [hu]))
    have h2 := forms_bulk r h.2 (fun u hu => hs u (by rw [preV.preL]; simp [hu]))
    unfold formV at h1
    rw [preV.preL, List.flatMap_append, List.length_append, bulkL]
    omega
end

mutual
theorem bulk_strings : ∀ v : V, bulkV v ≤ 900 → ∀ u ∈ preV v, u.s.length ≤ 1000 ∧ u.l.length ≤ 900
  | .mk k n f s l, h, u, hu => by
    rw [bulkV] at h
    have hb := bulkL_len l
    rw [preV] at hu
    rcases List.mem_cons.1 hu with e | e
    · rw [e]
      show s.length ≤ 1000 ∧ l.length ≤ 900
      omega
    · exact bulks_strings l (by omega) u e
theorem bulks_strings : ∀ l : List V, bulkL l ≤ 900 → ∀ u ∈ preV.preL l, u.s.length ≤ 1000 ∧ u.l.length ≤ 900
  | [], _, u, hu => by simp [preV.preL] at hu
  | v :: r, h, u, hu => by
    rw [bulkL] at h
    rw [preV.preL] at hu
    rcases List.mem_append.1 hu with e | e
    · exact bulk_strings v (by omega) u e
    · exact bulks_strings r (by omega) u e
end

/-- A value in some lists. -/
def nestV : Nat → V → V
  | 0, v => v
  | k + 1, v => .mk 4 0 0 [] [nestV k v]

theorem small_up : ∀ (t : Nat) (v : V), smallN t v = true → smallN (t + 1) v = true
  | 0, v, h => by simp [smallN] at h
  | t + 1, v, h => by
    have h' : v.l.all (smallN t) = true := h
    show v.l.all (smallN (t + 1)) = true
    rw [List.all_eq_true] at h' ⊢
    exact fun u hu => small_up t u (h' u hu)

theorem small_nest {t : Nat} {v : V} (h : smallN t v = true) : ∀ k, smallN (t + k) (nestV k v) = true
  | 0 => h
  | k + 1 => by
    show [nestV k v].all (smallN (t + k)) = true
    rw [List.all_cons, small_nest h k]; rfl

theorem right_nest {v : V} (h : ∀ t, rightN t v = true) : ∀ (k t : Nat), rightN t (nestV k v) = decide (k ≤ t)
  | 0, t => by rw [decide_eq_true (Nat.zero_le _)]; exact h t
  | k + 1, 0 => by
    rw [decide_eq_false (by omega)]
    unfold rightN nestV
    rw [decide_eq_false (show ¬ (V.mk 4 0 0 [] [nestV k v]).kind ≠ 4 from fun h => h rfl)]
    simp
  | k + 1, t + 1 => by
    show rightN (t + 1) (.mk 4 0 0 [] [nestV k v]) = _
    rw [rightN_list (v := .mk 4 0 0 [] [nestV k v]) ⟨.inr rfl, .inr (show bitsB 0 = 0 by decide), .inr rfl, .inl rfl⟩ rfl]
    show [nestV k v].all (rightN t) = _
    rw [List.all_cons, right_nest h k t]
    simp

theorem bulk_nest (v : V) : ∀ k, bulkV (nestV k v) = bulkV v + k
  | 0 => rfl
  | k + 1 => by
    show bulkV (.mk 4 0 0 [] [nestV k v]) = _
    rw [bulkV, bulkL, bulkL, bulk_nest v k]
    simp
    omega
end Go.Proofs.YtpnfnmeilhiebaaGreatDoor

/- Count of the code. -/
namespace Go.Proofs.YtpnfnmeilhiebaaGreatDoor
open Go.RowKit Go.Shelf Fl

theorem pre_len : ∀ v : V, (preV v).length = countV v
  | .mk k n f s l => by
    rw [preV, countV, List.length_cons, preL_len l]; omega
  where
  preL_len : ∀ l : List V, (preV.preL l).length = countL l
  | [] => by rw [preV.preL, countL]; rfl
  | v :: r => by rw [preV.preL, countL, List.length_append, pre_len v, preL_len r]

/-- The number so far, in its box. -/
def CountJ (bs : Nat) (acc : List V) (w : World) : Prop := ∃ x : Int, Boxed w bs 3 (.int .i64 x) ∧ (acc.length ≤ 4611686018427387904 → x = acc.length)

set_option maxRecDepth 100000 in
theorem visit_count (bs : Nat) (acc : List V) (v : V) (x : Array Value) (d : Nat) (w : World) (hJ : CountJ bs acc w) (hv : VIn w v x) :
    Calls Tryz.prog 29 #[.agg x, .int .i64 (d : Int), .pointer (some ⟨bs, 0, none⟩)] w fun e w' => e = .returned (.bool true) ∧ CountJ bs (acc ++ [v]) w' ∧ (∃ y, w' = (w.alloc (.cells x 25)).setCell ⟨bs, 0, none⟩ y) := by
  obtain ⟨n, hb, hn⟩ := hJ
  obtain ⟨_, _, _, _, _, a, cap, rfl, _⟩ := hv.parts
  have hb1 := hb.alloc (.cells (cells5 v.kind v.n v.f v.s a v.l.length cap) 25)
  have hc := hb1.cell
  have hf := hb1.frozen
  have HB := Lib.hid hb1
  have HN := Lib.hid hn
  clear hb hb1 hn hv
  unfold cells5 at *
  go_enter Tryz.func29, Tryz.ntmps29
  go_wp2
  go_ret
  refine ⟨rfl, ⟨_, HB.out.set _, fun h => ?_⟩, _, rfl⟩
  rw [List.length_append] at h ⊢
  have e := HN.out (by simp at h; omega)
  rw [e]
  simp at h
  simp
  unfold wrap64
  omega

theorem count_walk (t : Nat) (ht : t ≤ 1000) (v : V) (x : Array Value) (w w1 : World) (bs : Nat) (hs : smallN t v = true) (hv : VIn w v x) (hw : Below w.heap.size w w1) (hbs : w.heap.size ≤ bs) (hJ : CountJ bs [] w1) (hbk : countV v ≤ 4611686018427387904) :
    Calls Tryz.prog 21 #[.agg x, .int .i64 0, .func (.func 29) #[] #[.pointer (some ⟨bs, 0, none⟩)]] w1 fun e w' => e = .returned (.bool true) ∧ Boxed w' bs 3 (.int .i64 (countV v)) ∧ Below w.heap.size w w' := by
  have h := walk_any w 29 #[.pointer (some ⟨bs, 0, none⟩)] (enters_of Tryz.func29 (by kernel_rfl) rfl) (fun _ _ => true) (fun acc w' => CountJ bs acc w') (fun _ b => b = bs) (fun _ => True) (fun _ _ _ => trivial)
    (fun acc w' b hJ hb => by
      obtain ⟨n, hb1, _⟩ := hJ
      rw [hb]
      exact ⟨hbs, hb1.lt⟩)
    (fun acc w' w'' hJ hb => by
      obtain ⟨n, hb1, hn⟩ := hJ
      exact ⟨⟨n, (hb.block bs hb1.lt).trans hb1, hn⟩, fun _ h => h⟩)
    (fun acc u xs d w2 hJ _ hw2 hu _ => by
      have hal := (Below.refl w2.heap.size w2).alloc (Nat.le_refl _) (.cells xs 25)
      refine (visit_count bs acc u xs d w2 hJ hu).mono ?_
      rintro e w3 ⟨rfl, hJ3, y, rfl⟩
      refine ⟨rfl, hJ3, (hal.mono hw2.size).setCell hbs _, fun b hb hne => ?_⟩
      rw [Below.heap_setCell _ ⟨bs, 0, none⟩ y b hne]
      exact hal.block b hb)
    t v 0 [] x w1 hs (by omega) trivial hJ hw hv
  refine h.mono ?_
  rintro e w' ⟨rfl, ⟨acc', ⟨n, hb, hn⟩, ha⟩, hbw⟩
  have ht : ∀ (t : Nat) (v : V) (d : Nat), walkB (fun _ _ => true) t v d = true := by
    intro t
    induction t with
    | zero => intro v d; rfl
    | succ t ih => intro v d; rw [walkB, Bool.true_and, List.all_eq_true]; intro u _; exact ih u _
  rw [ht] at ha ⊢
  have ha := ha rfl
  rw [List.nil_append] at ha
  rw [ha, pre_len] at hn
  rw [hn hbk] at hb
  exact ⟨rfl, hb, hbw⟩

set_option maxRecDepth 100000 in
theorem count_any (t : Nat) (ht : t ≤ 1000) (v : V) (x : Array Value) (w : World) (hs : smallN t v = true) (hv : VIn w v x) (hbk : countV v ≤ 4611686018427387904) :
    Calls Tryz.prog 10 #[.agg x] w fun e w' => e = .returned (.int .i64 (countV v)) ∧ Below w.heap.size w w' := by
  obtain ⟨_, _, _, _, _, a, cap, rfl, _⟩ := hv.parts
  have HC := Lib.hid (fun w1 bs => count_walk t ht v _ w w1 bs hs hv)
  have hal := (Below.refl w.heap.size w).alloc (Nat.le_refl _) (.cells (cells5 v.kind v.n v.f v.s a v.l.length cap) 25)
  have HA := Lib.hid hal
  have HK := Lib.hid hbk
  clear hv hs ht hal hbk
  unfold cells5 at *
  go_enter Tryz.func10, Tryz.ntmps10
  go_wp2_with fail
  have b1 := (Boxed.new (w.alloc (.cells #[.int .i64 v.kind, .int .i64 v.n, .float .f64 v.f, .string (str v.s), .slice a v.l.length cap] 25)) 3 (.int .i64 0))
  rw [World.size_alloc] at b1
  refine (HC.out _ (w.heap.size + 1) (HA.out.alloc HA.out.size _) (by omega) ⟨0, b1, fun _ => rfl⟩ HK.out).mono ?_
  rintro e w1 ⟨rfl, hb, hbw⟩
  have hc := hb.cell
  have HB := Lib.hid hbw
  clear hb hbw b1
  go_wp2
  go_ret
  exact ⟨rfl, HB.out⟩
end Go.Proofs.YtpnfnmeilhiebaaGreatDoor

/- The walk of slices.Equal of bytes. -/
namespace Go.Proofs.YtpnfnmeilhiebaaGreatDoor
open Go.RowKit

theorem equal_len (a a' : Option Addr) (n cap n' cap' : Nat) (w : World) (hn : n ≠ n') :
    Calls Tryz.prog 12 #[.slice a n cap, .slice a' n' cap'] w fun e w' => e = .returned (.bool false) ∧ w = w' := by
  have hq : ((n : Int) != (n' : Int)) = true := by rw [bne_iff_ne]; omega
  go_enter Tryz.func12, Tryz.ntmps12
  go_wp2
  go_ret
  exact ⟨rfl, rfl⟩

theorem take_next {l l' : List Nat} {k : Nat} (h : k < l.length) (h' : k < l'.length) (ht : l.take k = l'.take k) (hx : l.getD k 0 = l'.getD k 0) : l.take (k + 1) = l'.take (k + 1) := by
  rw [List.take_succ_eq_append_getElem h, List.take_succ_eq_append_getElem h', ht]
  rw [List.getD_eq_getElem?_getD, List.getElem?_eq_getElem h, List.getD_eq_getElem?_getD, List.getElem?_eq_getElem h'] at hx
  have hx : l[k] = l'[k] := hx
  rw [hx]

def EqRel (w : World) (n : Nat) (l l' : List Nat) (i : Value) (wr : World) : Prop := ∃ k : Nat, k ≤ n ∧ i = .int .i64 k ∧ l.take k = l'.take k ∧ Below w.heap.size w wr

set_option maxHeartbeats 800000 in
theorem equal_same (a a' : Option Addr) (n cap cap' : Nat) (l l' : List Nat) (w : World) (hl : Bytes w a n cap l) (hl' : Bytes w a' n cap' l') :
    Calls Tryz.prog 12 #[.slice a n cap, .slice a' n cap'] w fun e w' => e = .returned (.bool (decide (l = l'))) ∧ Below w.heap.size w w' := by
  have hnm := hl.max
  have hB := Lib.hid hl
  have hB' := Lib.hid hl'
  clear hl hl'
  have hq : ((n : Int) != (n : Int)) = false := by simp
  go_enter Tryz.func12, Tryz.ntmps12
  go_wp2
  go_loopw [13] (fun i wr => EqRel w n l l' i wr) (fun i _ => n - (intOf i).toNat)
  case atStart => exact ⟨0, Nat.zero_le _, rfl, rfl, Below.refl _ _⟩
  case round =>
    obtain ⟨k, hk, rfl, ht, hbel⟩ := hrel
    have ht := Lib.hid ht
    rename_i ht0; clear ht0
    by_cases hlt : k < n
    · obtain ⟨b, o, rfl, hc0⟩ := (hB.out.grow hbel).cell (by omega)
      obtain ⟨b', o', rfl, hc0'⟩ := (hB'.out.grow hbel).cell (by omega)
      have hc := hc0 k hlt
      have hc' := hc0' k hlt
      clear hc0 hc0'
      have hx := Lib.hid (show l.getD k 0 = l.getD k 0 from rfl)
      generalize hy : l.getD k 0 = x at hc
      generalize hy' : l'.getD k 0 = x' at hc'
      have hy := Lib.hid hy
      have hy' := Lib.hid hy'
      rename_i hy0 hy0'; clear hy0 hy0' hx
      by_cases hxx : x = x'
      · have hq2 : ((x : Int) != (x' : Int)) = false := by rw [bne_eq_false_iff_eq]; omega
        have hxx := Lib.hid hxx
        rename_i hxx0; clear hxx0
        go_wp2
        go_quiet (fail)
        go_wp2
        go_roundw
        case rel => exact ⟨k + 1, by omega, by go_num, take_next (by rw [hB.out.len]; exact hlt) (by rw [hB'.out.len]; exact hlt) ht.out (by rw [hy.out, hy'.out, hxx.out]), below_drewN hbel _⟩
        case measure => simp [intOf]; omega
      · have hq2 : ((x : Int) != (x' : Int)) = true := by rw [bne_iff_ne]; omega
        go_wp2
        go_quiet (fail)
        go_wp2
        go_ret
        exact ⟨ret_bool (decide_eq_false (fun e => hxx (by rw [← hy.out, ← hy'.out, e]))).symm, below_drewN hbel _⟩
    · obtain rfl : k = n := by omega
      go_wp2
      go_ret
      exact ⟨ret_bool (decide_eq_true (by rw [← List.take_length (l := l), ← List.take_length (l := l'), hB.out.len, hB'.out.len]; exact ht.out)).symm, hbel⟩

theorem equal_any (a a' : Option Addr) (n cap n' cap' : Nat) (l l' : List Nat) (w : World) (hl : Bytes w a n cap l) (hl' : Bytes w a' n' cap' l') :
    Calls Tryz.prog 12 #[.slice a n cap, .slice a' n' cap'] w fun e w' => e = .returned (.bool (decide (l = l'))) ∧ Below w.heap.size w w' := by
  by_cases h : n = n'
  · subst h
    exact equal_same a a' n cap cap' l l' w hl hl'
  · refine (equal_len a a' n cap n' cap' w h).mono ?_
    rintro e w' ⟨rfl, rfl⟩
    exact ⟨ret_bool (decide_eq_false (fun e => h (by rw [← hl.len, ← hl'.len, e]))).symm, Below.refl _ _⟩
end Go.Proofs.YtpnfnmeilhiebaaGreatDoor

