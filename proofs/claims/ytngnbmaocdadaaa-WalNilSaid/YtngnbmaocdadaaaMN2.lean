import Derived.Test.YtngnbmaocdadaaaMN1
import Derived.Test.YtngnbmaocdadaaaSegLay
import Derived.Lib.OwnBridge
/- The walks of the reference's Name and Number of segments. -/
namespace Go.Proofs.Ytngnbmaocdadaaa
open Go.RowKit

theorem sg_ten_all : ∀ d : Fin 10, (ByteArray.mk #[48, 49, 50, 51, 52, 53, 54, 55, 56, 57]).extract d.val (d.val + 1) = str [48 + d.val] := by decide +kernel
theorem sg_ten_at {d : Nat} (h : d < 10) : (ByteArray.mk #[48, 49, 50, 51, 52, 53, 54, 55, 56, 57]).extract d (d + 1) = str [48 + d] := sg_ten_all ⟨d, h⟩

theorem digN_front : ∀ k n, digN (k + 1) n = (48 + n / 10 ^ k % 10) :: digN k n
  | 0, n => by simp [digN]
  | k + 1, n => by
    have e : n / 10 / 10 ^ k = n / 10 ^ (k + 1) := by rw [Nat.div_div_eq_div_mul, Nat.pow_succ, Nat.mul_comm]
    show digN (k + 1) (n / 10) ++ [48 + n % 10] = _
    rw [digN_front k (n / 10), e, List.cons_append]; rfl

theorem tmod_ten (m : Nat) : (m : Int).tmod 10 = ((m % 10 : Nat) : Int) := by rw [Int.tmod_eq_emod_of_nonneg (by omega)]; omega
theorem tdiv_ten (m : Nat) : (m : Int).tdiv 10 = ((m / 10 : Nat) : Int) := by rw [Int.tdiv_eq_ediv_of_nonneg (by omega)]; omega

def NmRel (N : Nat) (x s i : Value) : Prop := ∃ k : Nat, k ≤ 8 ∧ x = .int .i64 ((N / 10 ^ k : Nat) : Int) ∧ s = .string (str (digN k N)) ∧ i = .int .i64 (k : Int)

/-- What Name answers. -/
def NameEnd (n : Int) (e : Ending) : Prop := (1 ≤ n ∧ n ≤ 99999999 ∧ e = .returned (.tuple #[.string (str (nameL n.toNat)), .bool true])) ∨ (¬ (1 ≤ n ∧ n ≤ 99999999) ∧ e = .returned (.tuple #[.string (str []), .bool false]))

set_option maxRecDepth 100000 in
set_option maxHeartbeats 800000 in
theorem rsegname_yes (N : Nat) (w : World) (h1 : 1 ≤ N) (hN : N ≤ 99999999) :
    Calls Try.prog 44 #[.int .i64 (N : Int)] w fun e w' => e = .returned (.tuple #[.string (str (nameL N)), .bool true]) ∧ w = w' := by
  have hlo : ¬ ((N : Int) < 1) := by omega
  have hhi : ¬ ((99999999 : Int) < (N : Int)) := by omega
  have Hst := Lib.hid (show NmRel N (.int .i64 (N : Int)) (.string ⟨#[]⟩) (.int .i64 0) from ⟨0, by omega, by simp, rfl, rfl⟩)
  go_enter Try.func44, Try.ntmps44
  go_wp2
  clear hlo hhi
  go_loop [0, 4, 5, 6] (fun x s i _ => NmRel N x s i) (fun _ _ i _ => 8 - (intOf i).toNat)
  case atStart => exact Hst.out
  case round =>
    obtain ⟨k, hk, rfl, rfl, rfl⟩ := hrel
    by_cases h8 : k < 8
    · have hm : N / 10 ^ k ≤ 99999999 := Nat.le_trans (Nat.div_le_self _ _) hN
      have hnext : N / 10 ^ k / 10 = N / 10 ^ (k + 1) := by rw [Nat.div_div_eq_div_mul, Nat.pow_succ]
      have hcat := str_append [48 + N / 10 ^ k % 10] (digN k N)
      rw [show [48 + N / 10 ^ k % 10] ++ digN k N = digN (k + 1) N from (digN_front k N).symm] at hcat
      have hd : N / 10 ^ k % 10 < 10 := Nat.mod_lt _ (by omega)
      have hex := sg_ten_at hd
      have hmod : ((N / 10 ^ k : Nat) : Int).tmod 10 = ((N / 10 ^ k % 10 : Nat) : Int) := tmod_ten _
      have hdiv : ((N / 10 ^ k : Nat) : Int).tdiv 10 = ((N / 10 ^ (k + 1) : Nat) : Int) := by rw [tdiv_ten, hnext]
      have hsz : (str (digN k N)).size ≤ 1000 := by rw [str_size, digN_len]; omega
      have hsz1 : (str [48 + N / 10 ^ k % 10]).size = 1 := by rw [str_size]; rfl
      have Hnext := Lib.hid (show NmRel N (.int .i64 ((N / 10 ^ (k + 1) : Nat) : Int)) (.string (str (digN (k + 1) N))) (.int .i64 ((k + 1 : Nat) : Int)) from ⟨k + 1, by omega, rfl, rfl, rfl⟩)
      have hm2 : N / 10 ^ (k + 1) ≤ 99999999 := Nat.le_trans (Nat.div_le_self _ _) hN
      clear hnext
      generalize str (digN (k + 1) N) = S at *
      generalize str (digN k N) = s at *
      generalize N / 10 ^ k % 10 = d at *
      generalize N / 10 ^ (k + 1) = m2 at *
      generalize N / 10 ^ k = m at *
      generalize str [48 + d] = s1 at *
      go_wp2
      go_round
      case rel => exact Hnext.out
      case measure => simp [intOf]; omega
    · obtain rfl : k = 8 := by omega
      have hcat := str_append logL (digN 8 N)
      rw [show logL ++ digN 8 N = nameL N from rfl] at hcat
      have hsz : (str (digN 8 N)).size ≤ 1000 := by rw [str_size, digN_len]; omega
      have hL : str logL = ⟨#[108, 111, 103, 45]⟩ := rfl
      rw [hL] at hcat
      generalize hS : str (nameL N) = S at *
      have HS := Lib.hid hS
      clear hS
      generalize str (digN 8 N) = s at *
      go_wp2
      go_ret2
      exact ⟨by rw [HS.out]; rfl, rfl⟩

theorem rsegname_no (n : Int) (w : World) (h : ¬ (1 ≤ n ∧ n ≤ 99999999)) :
    Calls Try.prog 44 #[.int .i64 n] w fun e w' => e = .returned (.tuple #[.string (str []), .bool false]) ∧ w = w' := by
  have he : str [] = ⟨#[]⟩ := rfl
  rw [he]
  by_cases h1 : n < 1
  · clear h
    go_enter Try.func44, Try.ntmps44
    go_wp2
    go_ret2
    exact ⟨rfl, rfl⟩
  · have h2 : 99999999 < n := by omega
    clear h
    go_enter Try.func44, Try.ntmps44
    go_wp2
    go_ret2
    exact ⟨rfl, rfl⟩

theorem rsegname_any (n : Int) (w : World) : Calls Try.prog 44 #[.int .i64 n] w fun e w' => NameEnd n e ∧ w = w' := by
  by_cases h : 1 ≤ n ∧ n ≤ 99999999
  · obtain ⟨N, rfl⟩ : ∃ N : Nat, n = (N : Int) := ⟨n.toNat, by omega⟩
    refine (rsegname_yes N w (by omega) (by omega)).mono ?_
    rintro e w' ⟨rfl, rfl⟩
    exact ⟨.inl ⟨h.1, h.2, rfl⟩, rfl⟩
  · refine (rsegname_no n w h).mono ?_
    rintro e w' ⟨rfl, rfl⟩
    exact ⟨.inr ⟨h, rfl⟩, rfl⟩
end Go.Proofs.Ytngnbmaocdadaaa

/- The walk of the reference's Number of segments. -/
namespace Go.Proofs.Ytngnbmaocdadaaa
open Go.RowKit

theorem sg_get {l : List Nat} (hl : ∀ x ∈ l, x < 256) : ∀ (k : Nat) (h : k < (str l).size), ((((str l)[k]'h).toNat : Nat) : Int) = ((l.getD k 0 : Nat) : Int) := by
  intro k h
  have hk : k < l.length := by rw [str_size] at h; exact h
  have h5 : k < (l.map UInt8.ofNat).length := by rw [List.length_map]; exact hk
  have e : (str l)[k]'h = UInt8.ofNat (l.getD k 0) := by
    rw [List.getD_eq_getElem?_getD, List.getElem?_eq_getElem hk]
    show ((l.map UInt8.ofNat).toArray)[k]'(by simpa using h5) = _
    rw [List.getElem_toArray]
    exact List.getElem_map _
  rw [e]
  have h4 : l.getD k 0 < 256 := by
    rw [List.getD_eq_getElem?_getD, List.getElem?_eq_getElem hk]
    exact hl _ (List.getElem_mem _)
  simp [UInt8.toNat_ofNat']
  simp at h4
  omega

/-- What Number answers. -/
def NumEnd (l : List Nat) (e : Ending) : Prop := e = .returned (.tuple #[.int .i64 ((segNum l : Nat) : Int), .bool (decide (0 < segNum l))])

theorem numEnd_no {l : List Nat} (h : segNum l = 0) : NumEnd l (.returned (.tuple #[.int .i64 0, .bool false])) := by
  unfold NumEnd
  rw [h]; rfl
theorem numEnd_yes {l : List Nat} {n : Nat} (h : segNum l = n) (hn : 0 < n) : NumEnd l (.returned (.tuple #[.int .i64 (n : Int), .bool true])) := by
  unfold NumEnd
  rw [h, decide_eq_true hn]

/-- The digits between the fourth byte and the k-th. -/
def midL (l : List Nat) (k : Nat) : List Nat := (l.take k).drop 4

theorem mid_next {l : List Nat} {k : Nat} (h4 : 4 ≤ k) (hk : k < l.length) : midL l (k + 1) = midL l k ++ [l.getD k 0] := by
  unfold midL
  rw [List.take_succ_eq_append_getElem hk, List.drop_append_of_le_length (by rw [List.length_take]; omega), List.getD_eq_getElem?_getD, List.getElem?_eq_getElem hk]
  rfl

theorem mid_len {l : List Nat} {k : Nat} (h4 : 4 ≤ k) (hk : k ≤ l.length) : (midL l k).length = k - 4 := by
  unfold midL
  rw [List.length_drop, List.length_take]; omega

theorem mid_val {l : List Nat} {k : Nat} (h4 : 4 ≤ k) (hk : k ≤ 12) (hl : l.length = 12) (hd : Digits (midL l k)) : valD (midL l k) 0 < 100000000 := by
  have h1 := (dig_valD (k - 4) (midL l k) (mid_len h4 (by omega)) hd).2
  have h2 : 10 ^ (k - 4) ≤ 10 ^ 8 := Nat.pow_le_pow_right (by omega) (by omega)
  omega

theorem digits_snoc {l : List Nat} {c : Nat} (h : Digits l) (h1 : 48 ≤ c) (h2 : c ≤ 57) : Digits (l ++ [c]) := by
  intro x hx
  rcases List.mem_append.1 hx with h3 | h3
  · exact h x h3
  · have : x = c := by simpa using h3
    omega

theorem no_digit {l : List Nat} {k : Nat} (h4 : 4 ≤ k) (hk : k < l.length) (hc : l.getD k 0 < 48 ∨ 57 < l.getD k 0) : segNum l = 0 := by
  unfold segNum
  rw [if_neg]
  rintro ⟨_, _, h3⟩
  have hm : l.getD k 0 ∈ l.drop 4 := by
    rw [List.getD_eq_getElem?_getD, List.getElem?_eq_getElem hk]
    refine List.mem_iff_getElem.2 ⟨k - 4, by rw [List.length_drop]; omega, ?_⟩
    rw [List.getElem_drop]
    congr 1
    omega
  have := h3 _ hm
  omega

def RnRel (l : List Nat) (n i : Value) : Prop := ∃ k : Nat, 4 ≤ k ∧ k ≤ 12 ∧ i = .int .i64 (k : Int) ∧ n = .int .i64 ((valD (midL l k) 0 : Nat) : Int) ∧ Digits (midL l k)

end Go.Proofs.Ytngnbmaocdadaaa

/- A row of bytes of the call's own, that is written byte by byte. -/
namespace Go.Proofs.Ytngnbmaocdadaaa
open Go.RowKit

/-- A row of bytes, whatever they are. -/
def U8Row (w : World) (g N : Nat) : Prop := ∃ cur : Array Value, w.heap[g]? = some (.cells cur 5 (0, 0)) ∧ ∀ i, i < N → ∃ z : Int, cur[i]? = some (.int .u8 z)

theorem U8Row.cell {w : World} {g N i : Nat} (h : U8Row w g N) (hi : i < N) : ∃ z : Int, w.cell? ⟨g, i, none⟩ = some (.int .u8 z) := by
  obtain ⟨cur, hg, hc⟩ := h
  obtain ⟨z, hz⟩ := hc i hi
  exact ⟨z, by rw [cell_of_row w g i cur _ _ hg, hz]⟩

theorem U8Row.frozen {w : World} {g N : Nat} (h : U8Row w g N) (i : Nat) : w.frozen? ⟨g, i, none⟩ = false := by
  obtain ⟨cur, hg, _⟩ := h
  simp [World.frozen?, hg]

theorem U8Row.set {w : World} {g N : Nat} (h : U8Row w g N) (i : Nat) (z : Int) : U8Row (w.setCell ⟨g, i, none⟩ (.int .u8 z)) g N := by
  obtain ⟨cur, hg, hc⟩ := h
  refine ⟨cur.setIfInBounds i (.int .u8 z), ?_, fun j hj => ?_⟩
  · simp [World.setCell, Array.getElem?_modify, hg]
  · obtain ⟨z', hz'⟩ := hc j hj
    rw [Array.getElem?_setIfInBounds]
    by_cases e : i = j
    · subst e
      have hlt : i < cur.size := (Array.getElem?_eq_some_iff.1 hz').1
      exact ⟨z, by simp [hlt]⟩
    · exact ⟨z', by rw [if_neg e]; exact hz'⟩

theorem U8Row.below {w w' : World} {g N : Nat} (h : U8Row w g N) (hb : Below w.heap.size w w') : U8Row w' g N := by
  obtain ⟨cur, hg, hc⟩ := h
  exact ⟨cur, (hb.block g (Array.getElem?_eq_some_iff.1 hg).1).trans hg, hc⟩

theorem own_row {w : World} {base : Nat} {v : Value} {m : Nat} {l : List Nat} (h : w.ownsRow base 5 1 v m (u8s l)) (hm : 0 < m) : ∃ g cp, v = .slice (some ⟨g, 0, none⟩) m cp ∧ base ≤ g ∧ m ≤ cp ∧ U8Row w g m := by
  have hlen : l.length = m := by have := h.1; simpa [u8s] using this
  rcases h.2 with ⟨_, h0⟩ | ⟨g, cap', cur, rfl, hbg, hg, hle, _, hsz, htake⟩
  · omega
  · refine ⟨g, cap', rfl, hbg, hle, cur, hg, fun i hi => ?_⟩
    have e1 : (u8s l)[i]? = some (.int .u8 (l.getD i 0 : Nat)) := by
      unfold u8s
      rw [List.getElem?_map, List.getElem?_eq_getElem (by omega), List.getD_eq_getElem?_getD, List.getElem?_eq_getElem (by omega)]; rfl
    rw [← htake, List.getElem?_take, if_pos (by omega)] at e1
    exact ⟨_, by simpa using e1⟩

/-- A byte slice of the call's own: where its row lies. -/
theorem own_place {w : World} {base : Nat} {v : Value} {m : Nat} {l : List Nat} (h : w.ownsRow base 5 1 v m (u8s l)) (hs : base < w.heap.size) :
    ∃ go p cp, v = .slice p m cp ∧ base ≤ go ∧ go < w.heap.size ∧ (0 < m → p = some ⟨go, 0, none⟩ ∧ U8Row w go m) := by
  rcases Nat.eq_zero_or_pos m with rfl | hm
  · rcases h.2 with ⟨rfl, _⟩ | ⟨g, cap', cur, rfl, hbg, hg, _⟩
    · exact ⟨base, none, 0, rfl, Nat.le_refl _, hs, fun h => absurd h (Nat.lt_irrefl _)⟩
    · exact ⟨g, _, _, rfl, hbg, (Array.getElem?_eq_some_iff.1 hg).1, fun h => absurd h (Nat.lt_irrefl _)⟩
  · obtain ⟨g, cp, rfl, hbg, _, hrow⟩ := own_row h hm
    obtain ⟨cur, hg, hc⟩ := hrow
    exact ⟨g, _, cp, rfl, hbg, (Array.getElem?_eq_some_iff.1 hg).1, fun _ => ⟨rfl, cur, hg, hc⟩⟩

/-- What one row's turn leaves of another. -/
theorem own_keep {w w' : World} {base go n : Nat} {e : TypeId} {v : Value} {xs : List Value} (h : w.ownsRow base e 1 v n xs) (hg : w.grownBy w' (some go)) (hlt : go < base) : w'.ownsRow base e 1 v n xs := by
  refine ⟨h.1, ?_⟩
  rcases h.2 with hn | ⟨g, cap, cur, rfl, hbg, hgc, rest⟩
  · exact .inl hn
  · exact .inr ⟨g, cap, cur, rfl, hbg, (hg.block g (Array.getElem?_eq_some_iff.1 hgc).1 (fun e => by cases e; omega)).trans hgc, rest⟩
end Go.Proofs.Ytngnbmaocdadaaa

/- The walks of the code's inRange and Name of segments. -/
namespace Go.Proofs.Ytngnbmaocdadaaa
open Go.RowKit

theorem seginrange_any (n : Int) (w : World) :
    Calls Try.prog 49 #[.int .i64 n] w fun e w' => e = .returned (.bool (decide (1 ≤ n ∧ n ≤ 99999999))) ∧ w = w' := by
  by_cases h1 : 1 ≤ n
  · by_cases h2 : n ≤ 99999999
    · have hd : decide (1 ≤ n ∧ n ≤ 99999999) = true := decide_eq_true ⟨h1, h2⟩
      rw [hd]
      clear hd
      go_enter Try.func49, Try.ntmps49
      go_wp2
      go_ret
      exact ⟨rfl, rfl⟩
    · have hd : decide (1 ≤ n ∧ n ≤ 99999999) = false := decide_eq_false (fun h => h2 h.2)
      rw [hd]
      clear hd
      go_enter Try.func49, Try.ntmps49
      go_wp2
      go_ret
      exact ⟨rfl, rfl⟩
  · have hd : decide (1 ≤ n ∧ n ≤ 99999999) = false := decide_eq_false (fun h => h1 h.1)
    rw [hd]
    clear hd
    go_enter Try.func49, Try.ntmps49
    go_wp2
    go_ret
    exact ⟨rfl, rfl⟩

/-- The digits from the last one on. -/
def revN (k n : Nat) : List Nat := (digN k n).reverse

theorem revN_next (k n : Nat) : revN (k + 1) n = revN k n ++ [48 + n / 10 ^ k % 10] := by
  unfold revN
  rw [digN_front, List.reverse_cons]

theorem revN_len (k n : Nat) : (revN k n).length = k := by
  unfold revN
  rw [List.length_reverse, digN_len]

theorem sg_byte_row (w : World) {z : Int} {x : Nat} (h : z = (x : Int)) (hx : x < 256) : Bytes (w.alloc (.cells #[.int .u8 z] 5)) (some ⟨w.heap.size, 0, none⟩) 1 1 [x] := by
  subst h
  exact bytes_of_own (new_row w [x] (by simp)) (by simpa using hx)

def SnRel (w : World) (N : Nat) (x v i : Value) (wr : World) : Prop :=
  ∃ k : Nat, k ≤ 8 ∧ i = .int .i64 (k : Int) ∧ x = .int .i64 ((N / 10 ^ k : Nat) : Int) ∧ wr.ownsRow w.heap.size 5 1 v k (u8s (revN k N)) ∧ Below w.heap.size w wr

set_option maxRecDepth 100000 in
set_option maxHeartbeats 1600000 in
theorem segname_yes (N : Nat) (w : World) (h1 : 1 ≤ N) (hN : N ≤ 99999999) :
    Calls Try.prog 51 #[.int .i64 (N : Int)] w fun e w' => e = .returned (.tuple #[.string (str (nameL N)), .bool true]) ∧ Below w.heap.size w w' := by
  have HI := Lib.hid (seginrange_any (N : Int) w)
  rw [decide_eq_true (show 1 ≤ (N : Int) ∧ (N : Int) ≤ 99999999 by omega)] at HI
  have Hst := Lib.hid (show SnRel w N (.int .i64 (N : Int)) (.slice none 0 0) (.int .i64 0) w from ⟨0, by omega, rfl, by simp, World.ownsRow_nil _ _ _ _, Below.refl _ _⟩)
  have H1 := Lib.hid h1
  have HN := Lib.hid hN
  clear h1 hN
  go_enter Try.func51, Try.ntmps51
  go_wp2_with fail
  refine HI.out.mono ?_
  rintro e w' ⟨rfl, rfl⟩
  go_wp2
  go_loopw [0, 4, 8] (fun x v i wr => SnRel w N x v i wr) (fun _ _ i _ => 8 - (intOf i).toNat)
  case atStart => exact Hst.out
  case round =>
    obtain ⟨k, hk, rfl, rfl, hown, hbel⟩ := hrel
    by_cases h8 : k < 8
    · have hm : N / 10 ^ k ≤ 99999999 := Nat.le_trans (Nat.div_le_self _ _) HN.out
      have hnext : N / 10 ^ k / 10 = N / 10 ^ (k + 1) := by rw [Nat.div_div_eq_div_mul, Nat.pow_succ]
      have hmod : ((N / 10 ^ k : Nat) : Int).tmod 10 = ((N / 10 ^ k % 10 : Nat) : Int) := tmod_ten _
      have hdiv : ((N / 10 ^ k : Nat) : Int).tdiv 10 = ((N / 10 ^ (k + 1) : Nat) : Int) := by rw [tdiv_ten, hnext]
      have hd : N / 10 ^ k % 10 < 10 := Nat.mod_lt _ (by omega)
      have Hrev := Lib.hid (revN_next k N)
      have Hx := Lib.hid (show (.int .i64 ((N / 10 ^ (k + 1) : Nat) : Int) : Value) = .int .i64 ((N / 10 ^ (k + 1) : Nat) : Int) from rfl)
      have hm2 : N / 10 ^ (k + 1) ≤ 99999999 := Nat.le_trans (Nat.div_le_self _ _) HN.out
      have Hown := Lib.hid hown
      have Hbel := Lib.hid hbel
      clear hnext hown hbel
      generalize N / 10 ^ k % 10 = d at *
      generalize hM2 : N / 10 ^ (k + 1) = m2 at *
      have HM2 := Lib.hid hM2
      clear hM2
      generalize N / 10 ^ k = m at *
      go_wp2_with (at_builtin; refine wpList_append_bytes _ rfl _ _ 22 rfl w.heap.size 5 Try.underlying22 info_u8 _ _ _ rfl (Hown.out.alloc _) _ 1 1 [48 + d] rfl (sg_byte_row _ (by omega) (by omega)) (by omega) (by simp; have := Hbel.out.size; omega) ?_; intro v' w1 g1 g2)
      go_roundw
      case rel =>
        refine ⟨k + 1, h8, by go_num, by rw [HM2.out], ?_, ?_⟩
        · rw [Hrev.out]
          exact g1
        · have hb : Below w.heap.size w (wr.alloc (.cells #[.int .u8 ((48 + d : Nat) : Int)] 5)) := Hbel.out.alloc Hbel.out.size _
          exact hb.grown g2 hb.size (fun x hx => (Hown.out.lt x hx).1)
      case measure => simp [intOf]; omega
    · obtain rfl : k = 8 := by omega
      obtain ⟨g, cap, rfl, hbg, hgl, hnc, hcm, _, hH⟩ := Lib.holds_of_ownsRow (enc := fun x : Nat => Value.int .u8 (x : Int)) hown (by
        intro e
        rw [e] at hown
        rcases hown.2 with ⟨_, h0⟩ | ⟨_, _, _, e2, _⟩
        · omega
        · cases e2)
      have hrl := revN_len 8 N
      have HR := Lib.hid (Try.reverse_bytes g 0 cap (revN 8 N) wr hH (by rw [hrl]; omega))
      rw [hrl] at HR
      have Hup := Lib.hid (fun q => Lib.ownsRow_putRow (q := q) (k := 8) (enc := fun x : Nat => Value.int .u8 (x : Int)) (ys := (revN 8 N).reverse) hown (by rw [List.length_reverse, hrl]) (Nat.le_refl _))
      have Hbl := Lib.hid (fun q => Lib.below_putRow (q := q) (enc := fun x : Nat => Value.int .u8 (x : Int)) (d := (revN 8 N).reverse.toArray) hbel hbg)
      have hrr : (revN 8 N).reverse = digN 8 N := by unfold revN; rw [List.reverse_reverse]
      have htk : (digN 8 N).take 8 = digN 8 N := List.take_of_length_le (by rw [digN_len]; omega)
      rw [hrr, htk] at Hup
      rw [hrr] at Hbl HR
      have hcv0 : ∀ q, (convert 22 9 (.slice (some ⟨g, 0, none⟩) 8 cap)).run Try.prog (Go.Sort.putRow (fun x : Nat => Value.int .u8 (x : Int)) (Go.Sort.ahead wr q) g 0 (digN 8 N).toArray) = .ok (.string (str (digN 8 N))) (Go.Sort.putRow (fun x : Nat => Value.int .u8 (x : Int)) (Go.Sort.ahead wr q) g 0 (digN 8 N).toArray) := (fun q => by
        obtain ⟨p, cp, e, hB⟩ := own_slice (l := digN 8 N) (Hup.out q) (fun x hx => by have := digN_digit 8 N x hx; omega)
        cases e
        exact convert_bytes hB 22 5 9 Try.underlying22 Try.underlying5 Try.underlying9)
      have hcat := str_append logL (digN 8 N)
      rw [show logL ++ digN 8 N = nameL N from rfl] at hcat
      have hsz : (str (digN 8 N)).size ≤ 1000 := by rw [str_size, digN_len]; omega
      have hL : str logL = ⟨#[108, 111, 103, 45]⟩ := rfl
      rw [hL] at hcat
      have Hcv := Lib.hid hcv0
      clear hcv0
      generalize hS : str (nameL N) = S at *
      have HS := Lib.hid hS
      clear hS hown hbel hH hrr htk hrl
      generalize str (digN 8 N) = s at *
      go_wp2_with fail
      refine HR.out.mono ?_
      rintro e w' ⟨rfl, q, rfl⟩
      have hbl := Hbl.out q
      have hcv := Hcv.out q
      generalize Go.Sort.putRow (fun x : Nat => Value.int .u8 (x : Int)) (Go.Sort.ahead wr q) g 0 (digN 8 N).toArray = w2 at *
      go_wp2
      go_ret2
      exact ⟨by rw [HS.out]; rfl, hbl⟩
end Go.Proofs.Ytngnbmaocdadaaa

