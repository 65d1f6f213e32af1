import Derived.Test.YtcapbaocchaenaaGreatDoorSF15
import Derived.Test.YtcapbaocchaenaaGreatDoorSF14
import Derived.Test.YtcapbaocchaenaaGreatDoorSF18
import Derived.Test.YtcapbaocchaenaaGreatDoorSF19
/- The walk of the reference's form and Bytes. -/
namespace Go.Proofs.YtcapbaocchaenaaGreatDoor
open Go.RowKit Go.Shelf Fl

theorem preL_map : ∀ l : List V, preV.preL l = l.flatMap preV
  | [] => rfl
  | v :: r => by rw [preV.preL, List.flatMap_cons, preL_map r]

def formsV (l : List V) : List Nat := l.flatMap formV

theorem formV_is (v : V) : formV v = pieceV v ++ formsV v.l := by
  obtain ⟨k, n, f, s, l⟩ := v
  unfold formV formsV
  rw [preV, List.flatMap_cons, preL_map, List.flatMap_assoc]
  rfl

theorem formsV_append (a b : List V) : formsV (a ++ b) = formsV a ++ formsV b := List.flatMap_append

theorem formsV_take {l : List V} {j : Nat} (h : j < l.length) : formsV (l.take (j + 1)) = formsV (l.take j) ++ formV l[j] := by
  rw [List.take_succ_eq_append_getElem h, formsV_append]
  show _ ++ (formV l[j] ++ []) = _
  rw [List.append_nil]

theorem formsV_le (l : List V) (j : Nat) : (formsV (l.take j)).length ≤ (formsV l).length := by
  have e : formsV l = formsV (l.take j) ++ formsV (l.drop j) := by rw [← formsV_append, List.take_append_drop]
  rw [e, List.length_append]
  omega

/-- Bytes are bytes, in all texts. -/
theorem pieceV_byte {v : V} (hs : ∀ c ∈ v.s, c < 256) : ∀ c ∈ pieceV v, c < 256 := by
  intro c hc
  rcases List.mem_append.1 hc with h | h
  · exact form_byte _ c h
  · exact contF_byte hs c h

def RForm (t : Nat) : Prop := ∀ (v : V) (x : Array Value) (w : World), rightN t v = true → VIn w v x → (formV v).length ≤ 10000000 → (∀ u ∈ preV v, u.s.length ≤ 1000000) →
    Calls Tryz.prog 132 #[.agg x] w (NewBytes w (formV v))

set_option maxRecDepth 100000 in
set_option maxHeartbeats 1600000 in
theorem rform0 (v : V) (x : Array Value) (w : World) (hv : VIn w v x) (hk : v.kind = 0) (hl : v.l = []) :
    Calls Tryz.prog 132 #[.agg x] w (NewBytes w (formV v)) := by
  have hf : formV v = form 0 := by rw [formV_is, hl]; unfold pieceV contF formsV; rw [hk]; simp
  obtain ⟨hkr, hn, hf8, hs8, _, a, cap, rfl, hcap, hcm, hL⟩ := hv.parts
  have hb := (Below.refl w.heap.size w).alloc (Nat.le_refl _) (.cells (cells5 v.kind v.n v.f v.s a v.l.length cap) 43)
  have C0 := Lib.hid (new5 w (.int .i64 v.kind) (.int .i64 v.n) (.float .f64 v.f) (.string (str v.s)) (.slice a v.l.length cap) 43)
  have HV := Lib.hid (hv.below hb)
  have hw1 : (w.alloc (.cells (cells5 v.kind v.n v.f v.s a v.l.length cap) 43)).heap.size = w.heap.size + 1 := by simp
  rw [hf]
  rw [hk] at hb C0 HV hw1 ⊢
  have Hb := Lib.hid hb
  clear hf hv hb hk hl hL
  unfold cells5 at *
  go_enter Tryz.func132, Tryz.ntmps132
  go_wp2_with fail
  generalize w.alloc (.cells #[.int .i64 0, .int .i64 v.n, .float .f64 v.f, .string (str v.s), .slice a v.l.length cap] 43) = w1 at *
  refine (ruint_any 0 _ (by omega)).mono ?_
  rintro e w2 ⟨u, rfl, hu, hb2⟩
  have hlen1 : (form 0).length = 1 := by rw [form_small (by omega)]; rfl
  rw [hlen1] at hu
  obtain ⟨c0, c1, c2, c3, c4⟩ := keep5 hb2 C0.out
  have Hu := Lib.hid hu
  have Hb2 := Lib.hid hb2
  have Hl1 := Lib.hid hlen1
  clear hu hb2 hlen1 hkr
  clear hn hf8 hs8 hcap hcm
  go_wp2
  go_ret
  refine ⟨u, rfl, ?_, Hb.out.trans (Hb2.out.mono (by omega))⟩
  rw [Hl1.out]
  exact own_base Hu.out (by omega)

set_option maxRecDepth 100000 in
set_option maxHeartbeats 1600000 in
theorem rform1 (v : V) (x : Array Value) (w : World) (hv : VIn w v x) (hk : v.kind = 1) (hl : v.l = []) :
    Calls Tryz.prog 132 #[.agg x] w (NewBytes w (formV v)) := by
  have hf : formV v = form 1 ++ form (foldL v.n) := by rw [formV_is, hl]; unfold pieceV contF formsV; rw [hk]; simp
  obtain ⟨hkr, hn, hf8, hs8, _, a, cap, rfl, hcap, hcm, hL⟩ := hv.parts
  have hb := (Below.refl w.heap.size w).alloc (Nat.le_refl _) (.cells (cells5 v.kind v.n v.f v.s a v.l.length cap) 43)
  have C0 := Lib.hid (new5 w (.int .i64 v.kind) (.int .i64 v.n) (.float .f64 v.f) (.string (str v.s)) (.slice a v.l.length cap) 43)
  have HV := Lib.hid (hv.below hb)
  have hw1 : (w.alloc (.cells (cells5 v.kind v.n v.f v.s a v.l.length cap) 43)).heap.size = w.heap.size + 1 := by simp
  rw [hf]
  rw [hk] at hb C0 HV hw1 ⊢
  have Hb := Lib.hid hb
  clear hf hv hb hk hl hL
  unfold cells5 at *
  go_enter Tryz.func132, Tryz.ntmps132
  go_wp2_with fail
  generalize w.alloc (.cells #[.int .i64 1, .int .i64 v.n, .float .f64 v.f, .string (str v.s), .slice a v.l.length cap] 43) = w1 at *
  refine (ruint_any 1 _ (by omega)).mono ?_
  rintro e w2 ⟨u, rfl, hu, hb2⟩
  have hlen1 : (form 1).length = 1 := by rw [form_small (by omega)]; rfl
  rw [hlen1] at hu
  obtain ⟨c0, c1, c2, c3, c4⟩ := keep5 hb2 C0.out
  have Hu := Lib.hid hu
  have Hb2 := Lib.hid hb2
  have Hl1 := Lib.hid hlen1
  clear hu hb2 hlen1 hkr
  have HN := Lib.hid (fun w => rint_any v.n w hn.1 hn.2)
  have hl10 : (form (foldL v.n)).length ≤ 10 := form_len (fold_lt hn.1 hn.2)
  have H8 := Lib.hid (form_byte (foldL v.n))
  clear hf8 hs8 hcap hcm
  generalize form (foldL v.n) = F at *
  go_wp2_with fail
  refine (HN.out _).mono ?_
  rintro e w3 ⟨u3, rfl, hu3, hb3⟩
  obtain ⟨p3, cp3, rfl, hB3⟩ := own_slice hu3 H8.out
  have Hu2 := Lib.hid (own_below Hu.out hb3)
  have HB3 := Lib.hid hB3
  have Hb3 := Lib.hid (Hb2.out.trans (hb3.mono Hb2.out.size))
  obtain ⟨z0, z1, z2, z3, z4⟩ := keep5 Hb3.out C0.out
  clear hu3 hb3 hB3 c0 c1 c2 c3 c4
  go_wp2_with (at_builtin; refine wpList_append_bytes _ rfl _ _ 28 rfl w1.heap.size 5 Tryz.underlying28 info_u8 _ _ _ rfl Hu2.out p3 _ cp3 F rfl HB3.out (by omega) Hb3.out.size ?_; intro v' w4 g1 g2)
  go_ret
  refine ⟨v', rfl, ?_, Hb.out.trans ((Hb3.out.grown g2 Hb3.out.size (fun k hk => (Hu2.out.lt k hk).1)).mono (by omega))⟩
  rw [List.length_append, Hl1.out]
  exact own_base g1 (by omega)

set_option maxRecDepth 100000 in
set_option maxHeartbeats 1600000 in
theorem rform3 (v : V) (x : Array Value) (w : World) (hv : VIn w v x) (hk : v.kind = 3) (hl : v.l = []) (hsl : v.s.length ≤ 1000000) :
    Calls Tryz.prog 132 #[.agg x] w (NewBytes w (formV v)) := by
  have hf : formV v = form 3 ++ formB v.s := by rw [formV_is, hl]; unfold pieceV contF formsV; rw [hk]; simp
  obtain ⟨hkr, hn, hf8, hs8, _, a, cap, rfl, hcap, hcm, hL⟩ := hv.parts
  have hb := (Below.refl w.heap.size w).alloc (Nat.le_refl _) (.cells (cells5 v.kind v.n v.f v.s a v.l.length cap) 43)
  have C0 := Lib.hid (new5 w (.int .i64 v.kind) (.int .i64 v.n) (.float .f64 v.f) (.string (str v.s)) (.slice a v.l.length cap) 43)
  have HV := Lib.hid (hv.below hb)
  have hw1 : (w.alloc (.cells (cells5 v.kind v.n v.f v.s a v.l.length cap) 43)).heap.size = w.heap.size + 1 := by simp
  rw [hf]
  rw [hk] at hb C0 HV hw1 ⊢
  have Hb := Lib.hid hb
  clear hf hv hb hk hl hL
  unfold cells5 at *
  go_enter Tryz.func132, Tryz.ntmps132
  go_wp2_with fail
  generalize w.alloc (.cells #[.int .i64 3, .int .i64 v.n, .float .f64 v.f, .string (str v.s), .slice a v.l.length cap] 43) = w1 at *
  refine (ruint_any 3 _ (by omega)).mono ?_
  rintro e w2 ⟨u, rfl, hu, hb2⟩
  have hlen1 : (form 3).length = 1 := by rw [form_small (by omega)]; rfl
  rw [hlen1] at hu
  obtain ⟨c0, c1, c2, c3, c4⟩ := keep5 hb2 C0.out
  have Hu := Lib.hid hu
  have Hb2 := Lib.hid hb2
  have Hl1 := Lib.hid hlen1
  clear hu hb2 hlen1 hkr
  clear c1 c2 c4
  obtain ⟨cq, w3, hcv, hB3, hb3⟩ := bytes_of_str v.s w2 hs8 hsl
  have HN := Lib.hid (rbytesF_any _ _ cq v.s w3 hB3 (by omega))
  have hl10 : (formB v.s).length ≤ 1000010 := by
    unfold formB
    rw [List.length_append]
    have := form_len (x := v.s.length) (by omega)
    omega
  have H8 := Lib.hid (formB_byte hs8)
  obtain ⟨z0, z1, z2, z3, z4⟩ := keep5 (Hb2.out.trans (hb3.mono Hb2.out.size)) C0.out
  have Hu2 := Lib.hid (own_below Hu.out hb3)
  have Hb3 := Lib.hid (Hb2.out.trans (hb3.mono Hb2.out.size))
  clear hn hf8 hs8 hcap hcm hsl hB3 hb3
  generalize formB v.s = F at *
  go_wp2_with fail
  refine HN.out.mono ?_
  rintro e w4 ⟨u4, rfl, hu4, hb4⟩
  obtain ⟨p4, cp4, rfl, hB4⟩ := own_slice hu4 H8.out
  have Hu3 := Lib.hid (own_below Hu2.out hb4)
  have HB4 := Lib.hid hB4
  have Hb4 := Lib.hid (Hb3.out.trans (hb4.mono Hb3.out.size))
  obtain ⟨y0, y1, y2, y3, y4⟩ := keep5 Hb4.out C0.out
  clear hu4 hb4 hB4 z0 z1 z2 z3 z4
  go_wp2_with (at_builtin; refine wpList_append_bytes _ rfl _ _ 28 rfl w1.heap.size 5 Tryz.underlying28 info_u8 _ _ _ rfl Hu3.out p4 _ cp4 F rfl HB4.out (by omega) Hb4.out.size ?_; intro v' w5 g1 g2)
  go_ret
  refine ⟨v', rfl, ?_, Hb.out.trans ((Hb4.out.grown g2 Hb4.out.size (fun k hk => (Hu3.out.lt k hk).1)).mono (by omega))⟩
  rw [List.length_append, Hl1.out]
  exact own_base g1 (by omega)

theorem and_at (x d : Nat) (h : x < 18446744073709551616) : bits .and .u64 ((x : Int) / (d : Int)) 255 % 256 = ((x / d % 256 : Nat) : Int) := by
  have h0 : x / d < 18446744073709551616 := Nat.lt_of_le_of_lt (Nat.div_le_self _ _) h
  have h1 := u64_and_nat (x / d) 255 h0 (by omega)
  have h2 := Nat.and_two_pow_sub_one_eq_mod (x / d) 8
  rw [show (2 : Nat) ^ 8 - 1 = 255 by decide, show (2 : Nat) ^ 8 = 256 by decide] at h2
  rw [h2] at h1
  have h3 : bits .and .u64 ((x / d : Nat) : Int) 255 = ((x / d % 256 : Nat) : Int) := h1
  rw [show ((x : Int) / (d : Int)) = ((x / d : Nat) : Int) by rw [Int.natCast_ediv], h3]
  omega

theorem and_last (x : Nat) (h : x < 18446744073709551616) : bits .and .u64 (x : Int) 255 % 256 = ((x / 1 % 256 : Nat) : Int) := by
  have h1 := and_at x 1 h
  rw [show ((1 : Nat) : Int) = 1 from rfl, Int.ediv_one] at h1
  exact h1

theorem be8_take (x j : Nat) (h : j < 8) : (be8 x).take (j + 1) = (be8 x).take j ++ [x / 2 ^ (8 * (7 - j)) % 256] := by
  have hl : (be8 x).length = 8 := by simp [be8]
  rw [List.take_succ_eq_append_getElem (by omega)]
  congr 2
  simp [be8]

theorem be8_len (x : Nat) : (be8 x).length = 8 := by simp [be8]

set_option maxRecDepth 100000 in
set_option maxHeartbeats 1600000 in
theorem rform2 (v : V) (x : Array Value) (w : World) (hv : VIn w v x) (hk : v.kind = 2) (hl : v.l = []) :
    Calls Tryz.prog 132 #[.agg x] w (NewBytes w (formV v)) := by
  have hf : formV v = form 2 ++ be8 (bitsB v.f) := by rw [formV_is, hl]; unfold pieceV contF formsV; rw [hk]; simp
  obtain ⟨hkr, hn, hf8, hs8, _, a, cap, rfl, hcap, hcm, hL⟩ := hv.parts
  have hb := (Below.refl w.heap.size w).alloc (Nat.le_refl _) (.cells (cells5 v.kind v.n v.f v.s a v.l.length cap) 43)
  have C0 := Lib.hid (new5 w (.int .i64 v.kind) (.int .i64 v.n) (.float .f64 v.f) (.string (str v.s)) (.slice a v.l.length cap) 43)
  have HV := Lib.hid (hv.below hb)
  have hw1 : (w.alloc (.cells (cells5 v.kind v.n v.f v.s a v.l.length cap) 43)).heap.size = w.heap.size + 1 := by simp
  rw [hf]
  rw [hk] at hb C0 HV hw1 ⊢
  have Hb := Lib.hid hb
  clear hf hv hb hk hl hL
  unfold cells5 at *
  go_enter Tryz.func132, Tryz.ntmps132
  go_wp2_with fail
  generalize w.alloc (.cells #[.int .i64 2, .int .i64 v.n, .float .f64 v.f, .string (str v.s), .slice a v.l.length cap] 43) = w1 at *
  refine (ruint_any 2 _ (by omega)).mono ?_
  rintro e w2 ⟨u, rfl, hu, hb2⟩
  have hlen1 : (form 2).length = 1 := by rw [form_small (by omega)]; rfl
  rw [hlen1] at hu
  obtain ⟨c0, c1, c2, c3, c4⟩ := keep5 hb2 C0.out
  have Hu := Lib.hid hu
  have Hb2 := Lib.hid hb2
  have Hl1 := Lib.hid hlen1
  clear hu hb2 hlen1 hkr
  have HN := Lib.hid (fun w => rbits_any v.f w hf8)
  have hx := bitsB_lt hf8
  clear hn hf8 hs8 hcap hcm
  generalize bitsB v.f = x at *
  go_wp2_with fail
  refine (HN.out _).mono ?_
  rintro e w' ⟨rfl, rfl⟩
  go_wp2
  have Hx := Lib.hid hx
  go_loopw [3, 5] (fun o i wr => ∃ j : Nat, j ≤ 8 ∧ i = .int .i64 (7 - (j : Int)) ∧ wr.ownsRow w1.heap.size 5 1 o (1 + j) (u8s (form 2 ++ (be8 x).take j)) ∧ Below w1.heap.size w1 wr) (fun _ i _ => (intOf i + 1).toNat)
  case atStart => exact ⟨0, by omega, rfl, by rw [List.take_zero, List.append_nil]; exact Hu.out, Hb2.out⟩
  case round =>
    obtain ⟨j, hj, rfl, hown, hbel⟩ := hrel
    have Hown := Lib.hid hown
    have Hbel := Lib.hid hbel
    have Hsz := Lib.hid (show 1 + j ≤ 9 by omega)
    clear hown hbel c0 c1 c2 c3 c4 hx
    by_cases hlt : j < 8
    · have Htk := Lib.hid (be8_take x j hlt)
      rcases (show j = 0 ∨ j = 1 ∨ j = 2 ∨ j = 3 ∨ j = 4 ∨ j = 5 ∨ j = 6 ∨ j = 7 by omega) with rfl | rfl | rfl | rfl | rfl | rfl | rfl | rfl
      · go_wp2_with (at_builtin; refine wpList_append_bytes _ rfl _ _ 28 rfl w1.heap.size 5 Tryz.underlying28 info_u8 _ _ _ rfl (Hown.out.alloc _) _ 1 1 [x / 72057594037927936 % 256] rfl (one_bytes _ (and_at x 72057594037927936 Hx.out) (Nat.mod_lt _ (by omega))) (by omega) (by simp; have := Hbel.out.size; omega) ?_; intro v' w4 g1 g2)
        go_roundw
        case rel => exact ⟨1, by omega, rfl, (by rw [Htk.out, ← List.append_assoc]; exact g1), (Hbel.out.alloc Hbel.out.size _).grown g2 (by simp; have := Hbel.out.size; omega) (fun k hk => (Hown.out.lt k hk).1)⟩
        case measure => simp [intOf]
      · go_wp2_with (at_builtin; refine wpList_append_bytes _ rfl _ _ 28 rfl w1.heap.size 5 Tryz.underlying28 info_u8 _ _ _ rfl (Hown.out.alloc _) _ 1 1 [x / 281474976710656 % 256] rfl (one_bytes _ (and_at x 281474976710656 Hx.out) (Nat.mod_lt _ (by omega))) (by omega) (by simp; have := Hbel.out.size; omega) ?_; intro v' w4 g1 g2)
        go_roundw
        case rel => exact ⟨2, by omega, rfl, (by rw [Htk.out, ← List.append_assoc]; exact g1), (Hbel.out.alloc Hbel.out.size _).grown g2 (by simp; have := Hbel.out.size; omega) (fun k hk => (Hown.out.lt k hk).1)⟩
        case measure => simp [intOf]
      · go_wp2_with (at_builtin; refine wpList_append_bytes _ rfl _ _ 28 rfl w1.heap.size 5 Tryz.underlying28 info_u8 _ _ _ rfl (Hown.out.alloc _) _ 1 1 [x / 1099511627776 % 256] rfl (one_bytes _ (and_at x 1099511627776 Hx.out) (Nat.mod_lt _ (by omega))) (by omega) (by simp; have := Hbel.out.size; omega) ?_; intro v' w4 g1 g2)
        go_roundw
        case rel => exact ⟨3, by omega, rfl, (by rw [Htk.out, ← List.append_assoc]; exact g1), (Hbel.out.alloc Hbel.out.size _).grown g2 (by simp; have := Hbel.out.size; omega) (fun k hk => (Hown.out.lt k hk).1)⟩
        case measure => simp [intOf]
      · go_wp2_with (at_builtin; refine wpList_append_bytes _ rfl _ _ 28 rfl w1.heap.size 5 Tryz.underlying28 info_u8 _ _ _ rfl (Hown.out.alloc _) _ 1 1 [x / 4294967296 % 256] rfl (one_bytes _ (and_at x 4294967296 Hx.out) (Nat.mod_lt _ (by omega))) (by omega) (by simp; have := Hbel.out.size; omega) ?_; intro v' w4 g1 g2)
        go_roundw
        case rel => exact ⟨4, by omega, rfl, (by rw [Htk.out, ← List.append_assoc]; exact g1), (Hbel.out.alloc Hbel.out.size _).grown g2 (by simp; have := Hbel.out.size; omega) (fun k hk => (Hown.out.lt k hk).1)⟩
        case measure => simp [intOf]
      · go_wp2_with (at_builtin; refine wpList_append_bytes _ rfl _ _ 28 rfl w1.heap.size 5 Tryz.underlying28 info_u8 _ _ _ rfl (Hown.out.alloc _) _ 1 1 [x / 16777216 % 256] rfl (one_bytes _ (and_at x 16777216 Hx.out) (Nat.mod_lt _ (by omega))) (by omega) (by simp; have := Hbel.out.size; omega) ?_; intro v' w4 g1 g2)
        go_roundw
        case rel => exact ⟨5, by omega, rfl, (by rw [Htk.out, ← List.append_assoc]; exact g1), (Hbel.out.alloc Hbel.out.size _).grown g2 (by simp; have := Hbel.out.size; omega) (fun k hk => (Hown.out.lt k hk).1)⟩
        case measure => simp [intOf]
      · go_wp2_with (at_builtin; refine wpList_append_bytes _ rfl _ _ 28 rfl w1.heap.size 5 Tryz.underlying28 info_u8 _ _ _ rfl (Hown.out.alloc _) _ 1 1 [x / 65536 % 256] rfl (one_bytes _ (and_at x 65536 Hx.out) (Nat.mod_lt _ (by omega))) (by omega) (by simp; have := Hbel.out.size; omega) ?_; intro v' w4 g1 g2)
        go_roundw
        case rel => exact ⟨6, by omega, rfl, (by rw [Htk.out, ← List.append_assoc]; exact g1), (Hbel.out.alloc Hbel.out.size _).grown g2 (by simp; have := Hbel.out.size; omega) (fun k hk => (Hown.out.lt k hk).1)⟩
        case measure => simp [intOf]
      · go_wp2_with (at_builtin; refine wpList_append_bytes _ rfl _ _ 28 rfl w1.heap.size 5 Tryz.underlying28 info_u8 _ _ _ rfl (Hown.out.alloc _) _ 1 1 [x / 256 % 256] rfl (one_bytes _ (and_at x 256 Hx.out) (Nat.mod_lt _ (by omega))) (by omega) (by simp; have := Hbel.out.size; omega) ?_; intro v' w4 g1 g2)
        go_roundw
        case rel => exact ⟨7, by omega, rfl, (by rw [Htk.out, ← List.append_assoc]; exact g1), (Hbel.out.alloc Hbel.out.size _).grown g2 (by simp; have := Hbel.out.size; omega) (fun k hk => (Hown.out.lt k hk).1)⟩
        case measure => simp [intOf]
      · go_wp2_with (at_builtin; refine wpList_append_bytes _ rfl _ _ 28 rfl w1.heap.size 5 Tryz.underlying28 info_u8 _ _ _ rfl (Hown.out.alloc _) _ 1 1 [x / 1 % 256] rfl (one_bytes _ (and_last x Hx.out) (Nat.mod_lt _ (by omega))) (by omega) (by simp; have := Hbel.out.size; omega) ?_; intro v' w4 g1 g2)
        go_roundw
        case rel => exact ⟨8, by omega, rfl, (by rw [Htk.out, ← List.append_assoc]; exact g1), (Hbel.out.alloc Hbel.out.size _).grown g2 (by simp; have := Hbel.out.size; omega) (fun k hk => (Hown.out.lt k hk).1)⟩
        case measure => simp [intOf]
    · obtain rfl : j = 8 := by omega
      have Htk := Lib.hid (show (be8 x).take 8 = be8 x from List.take_of_length_le (by rw [be8_len]; omega))
      go_wp2
      go_ret
      refine ⟨_, rfl, ?_, Hb.out.trans (Hbel.out.mono (by omega))⟩
      rw [List.length_append, Hl1.out, be8_len]
      have h := Hown.out
      rw [Htk.out] at h
      exact own_base h (by omega)

end Go.Proofs.YtcapbaocchaenaaGreatDoor

/- The walk of the reference's form of lists, and its Bytes. -/
namespace Go.Proofs.YtcapbaocchaenaaGreatDoor
open Go.RowKit Go.Shelf Fl

theorem preV_self (v : V) : v ∈ preV v := by
  obtain ⟨k, n, f, s, l⟩ := v
  rw [preV]
  exact List.mem_cons_self

theorem preV_child {v u x : V} (hu : u ∈ v.l) (hx : x ∈ preV u) : x ∈ preV v := by
  obtain ⟨k, n, f, s, l⟩ := v
  rw [preV, preL_map]
  exact List.mem_cons_of_mem _ (List.mem_flatMap.2 ⟨u, hu, hx⟩)

mutual
theorem formV_byte : ∀ (v : V) (w : World) (x : Array Value), VIn w v x → ∀ c ∈ formV v, c < 256
  | .mk k n f s l, w, x, h, c, hc => by
    rw [formV_is] at hc
    rw [VIn] at h
    obtain ⟨_, _, _, h4, _, a, cap, _, _, _, h9⟩ := h
    rcases List.mem_append.1 hc with e | e
    · exact pieceV_byte (v := .mk k n f s l) h4 c e
    · rcases h9 with h9 | ⟨b, o, _, hv⟩
      · change c ∈ formsV l at e
        rw [h9] at e; cases e
      · exact formsV_byte l w b o hv c e
theorem formsV_byte : ∀ (l : List V) (w : World) (b o : Nat), VsIn w l b o → ∀ c ∈ formsV l, c < 256
  | [], _, _, _, _, c, hc => by cases hc
  | v :: r, w, b, o, h, c, hc => by
    rw [VsIn] at h
    obtain ⟨⟨x, _, _, hv⟩, hr⟩ := h
    have hc : c ∈ formV v ++ formsV r := hc
    rcases List.mem_append.1 hc with e | e
    · exact formV_byte v w x hv c e
    · exact formsV_byte r w b (o + 5) hr c e
end

theorem formV_at {l : List V} {j : Nat} (h : j < l.length) : (formsV (l.take j)).length + (formV l[j]).length ≤ (formsV l).length := by
  have h1 := formsV_le l (j + 1)
  rw [formsV_take h, List.length_append] at h1
  exact h1

set_option maxRecDepth 100000 in
set_option maxHeartbeats 3200000 in
theorem rform4 (t : Nat) (hA : RForm t) (v : V) (x : Array Value) (w : World) (hv : VIn w v x) (hk : v.kind = 4) (hr : ∀ u ∈ v.l, rightN t u = true) (hlen : (formV v).length ≤ 10000000) (hsl : ∀ u ∈ preV v, u.s.length ≤ 1000000) :
    Calls Tryz.prog 132 #[.agg x] w (NewBytes w (formV v)) := by
  have hf : formV v = form 4 ++ form v.l.length ++ formsV v.l := by rw [formV_is]; unfold pieceV contF; rw [hk]; simp
  rw [hf] at hlen
  rw [List.length_append, List.length_append] at hlen
  obtain ⟨hkr, hn, hf8, hs8, _, a, cap, rfl, hcap, hcm, hL⟩ := hv.parts
  have hb := (Below.refl w.heap.size w).alloc (Nat.le_refl _) (.cells (cells5 v.kind v.n v.f v.s a v.l.length cap) 43)
  have C0 := Lib.hid (new5 w (.int .i64 v.kind) (.int .i64 v.n) (.float .f64 v.f) (.string (str v.s)) (.slice a v.l.length cap) 43)
  have HV := Lib.hid (hv.below hb)
  have hw1 : (w.alloc (.cells (cells5 v.kind v.n v.f v.s a v.l.length cap) 43)).heap.size = w.heap.size + 1 := by simp
  rw [hf]
  rw [hk] at hb C0 HV hw1 ⊢
  have Hb := Lib.hid hb
  have HA := Lib.hid hA
  have HR := Lib.hid hr
  have Hlen := Lib.hid hlen
  have Hsl := Lib.hid (fun (u : V) (hu : u ∈ v.l) (y : V) (hy : y ∈ preV u) => hsl y (preV_child hu hy))
  clear hf hv hb hk hL hA hr hlen hsl hn hf8 hs8
  unfold cells5 at *
  go_enter Tryz.func132, Tryz.ntmps132
  go_wp2_with fail
  generalize w.alloc (.cells #[.int .i64 4, .int .i64 v.n, .float .f64 v.f, .string (str v.s), .slice a v.l.length cap] 43) = w1 at *
  refine (ruint_any 4 _ (by omega)).mono ?_
  rintro e w2 ⟨u, rfl, hu, hb2⟩
  have hlen1 : (form 4).length = 1 := by rw [form_small (by omega)]; rfl
  rw [hlen1] at hu
  obtain ⟨c0, c1, c2, c3, c4⟩ := keep5 hb2 C0.out
  have Hu := Lib.hid hu
  have Hb2 := Lib.hid hb2
  have Hl1 := Lib.hid hlen1
  clear hu hb2 hlen1 hkr
  have HN := Lib.hid (fun w => ruint_any v.l.length w (by omega))
  have hl10 : (form v.l.length).length ≤ 10 := form_len (by omega)
  have H8 := Lib.hid (form_byte v.l.length)
  go_wp2_with fail
  refine (HN.out _).mono ?_
  rintro e w3 ⟨u3, rfl, hu3, hb3⟩
  obtain ⟨p3, cp3, rfl, hB3⟩ := own_slice hu3 H8.out
  have Hu2 := Lib.hid (own_below Hu.out hb3)
  have HB3 := Lib.hid hB3
  have Hb3 := Lib.hid (Hb2.out.trans (hb3.mono Hb2.out.size))
  obtain ⟨z0, z1, z2, z3, z4⟩ := keep5 Hb3.out C0.out
  clear hu3 hb3 hB3 c0 c1 c2 c3 c4
  go_wp2_with (at_builtin; refine wpList_append_bytes _ rfl _ _ 28 rfl w1.heap.size 5 Tryz.underlying28 info_u8 _ _ _ rfl Hu2.out p3 _ cp3 (form v.l.length) rfl HB3.out (by omega) Hb3.out.size ?_; intro v4 w4 g1 g2)
  have Hb4 := Lib.hid (Hb3.out.grown g2 Hb3.out.size (fun k hk => (Hu2.out.lt k hk).1))
  have G1 := Lib.hid g1
  have hz4 : w4.cell? ⟨w.heap.size, 4, none⟩ = some (.slice a v.l.length cap) := (keep5 Hb4.out C0.out).2.2.2.2
  clear g1 g2 z0 z1 z2 z3 z4
  have HP := Lib.hid (show 1 + (form v.l.length).length = (form 4 ++ form v.l.length).length by rw [List.length_append, Hl1.out])
  go_loopw [3, 6] (fun o i wr => ∃ j : Nat, j ≤ v.l.length ∧ i = .int .i64 (j : Int) ∧ wr.ownsRow w1.heap.size 5 1 o (form 4 ++ form v.l.length ++ formsV (v.l.take j)).length (u8s (form 4 ++ form v.l.length ++ formsV (v.l.take j))) ∧ Below w1.heap.size w1 wr) (fun _ i _ => v.l.length - (intOf i).toNat)
  case atStart =>
    refine ⟨0, Nat.zero_le _, rfl, ?_, Hb4.out⟩
    rw [List.take_zero]
    have h := G1.out
    rw [HP.out] at h
    show w4.ownsRow _ _ _ _ (form 4 ++ form v.l.length ++ []).length (u8s (form 4 ++ form v.l.length ++ []))
    rw [List.append_nil]
    exact h
  case round =>
    obtain ⟨j, hj, rfl, hown, hbr⟩ := hrel
    have Hown := Lib.hid hown
    have Hbr := Lib.hid hbr
    have hcr : wr.cell? ⟨w.heap.size, 4, none⟩ = some (.slice a v.l.length cap) := (keep5 hbr C0.out).2.2.2.2
    clear hown hbr hz4
    by_cases hlt : j < v.l.length
    · obtain ⟨b, o, rfl, hvs⟩ := (HV.out.below Hbr.out).list (by intro e; rw [e] at hlt; simp at hlt)
      obtain ⟨a', cap', hvy, c0, c1, c2, c3, c4⟩ := hvs.elem hlt
      have hat := formV_at hlt
      have Htk := Lib.hid (formsV_take hlt)
      have hlj : (form 4 ++ form v.l.length ++ formsV (v.l.take j)).length = 1 + (form v.l.length).length + (formsV (v.l.take j)).length := by rw [List.length_append, ← HP.out]
      have hmem : v.l[j] ∈ v.l := List.getElem_mem hlt
      have HI := Lib.hid (HA.out v.l[j] _ wr (HR.out _ hmem) hvy (by have := Hlen.out; omega) (Hsl.out _ hmem))
      have H8v := Lib.hid (formV_byte v.l[j] wr _ hvy)
      have Hsz := Lib.hid (show (form 4 ++ form v.l.length ++ formsV (v.l.take j)).length + (formV v.l[j]).length ≤ 20000000 by have := Hlen.out; omega)
      clear hvs hvy hat hlj hmem
      generalize v.l[j] = y at *
      have Hlt := Lib.hid hlt
      clear hlt
      have hji : (j : Int) < (v.l.length : Int) := by have := Hlt.out; omega
      generalize hQ : form 4 ++ form v.l.length ++ formsV (v.l.take j) = q at *
      have HQ := Lib.hid hQ
      clear hQ
      generalize hF : formV y = F at *
      clear hF
      go_wp2_with fail
      refine HI.out.mono ?_
      rintro e w5 ⟨u5, rfl, hu5, hb5⟩
      obtain ⟨p5, cp5, rfl, hB5⟩ := own_slice hu5 H8v.out
      have HB5 := Lib.hid hB5
      have Hown5 := Lib.hid (own_below Hown.out hb5)
      have Hb5 := Lib.hid (Hbr.out.trans (hb5.mono Hbr.out.size))
      clear hu5 hb5 hB5 c0 c1 c2 c3 c4 hcr
      go_wp2_with (at_builtin; refine wpList_append_bytes _ rfl _ _ 28 rfl w1.heap.size 5 Tryz.underlying28 info_u8 _ _ _ rfl Hown5.out p5 _ cp5 F rfl HB5.out (by have := Hsz.out; omega) Hb5.out.size ?_; intro v6 w6 g1 g2)
      go_roundw
      case rel => exact ⟨j + 1, Hlt.out, by go_num, by rw [Htk.out, ← List.append_assoc, HQ.out, List.length_append]; exact g1, Hb5.out.grown g2 Hb5.out.size (fun k hk => (Hown5.out.lt k hk).1)⟩
      case measure => simp [intOf]; have := Hlt.out; omega
    · have hji : ¬ ((j : Int) < (v.l.length : Int)) := by omega
      have Htk := Lib.hid (show v.l.take j = v.l from List.take_of_length_le (by omega))
      clear hlt
      go_wp2
      go_ret
      refine ⟨_, rfl, ?_, Hb.out.trans (Hbr.out.mono (by omega))⟩
      have h := Hown.out
      rw [Htk.out, List.append_assoc] at h
      have hle : w.heap.size ≤ w1.heap.size := by omega
      exact own_base h hle

theorem right_kinds {t : Nat} {v : V} (h : rightN t v = true) : FieldsOk v ∧ 0 ≤ v.kind ∧ v.kind ≤ 4 := by
  obtain ⟨k, n, f, s, l⟩ := v
  obtain ⟨h1, h2, h3, _⟩ := right_parts h
  exact ⟨h1, h2, h3⟩

theorem rform_any (t : Nat) : RForm t := by
  induction t with
  | zero =>
    intro v x w hr hv hlen hsl
    obtain ⟨⟨h1, h2, h3, h4⟩, h0, h5⟩ := right_kinds hr
    have hk4 : v.kind ≠ 4 := by
      unfold rightN at hr
      simp at hr
      exact hr.1.2
    have hl := h4.resolve_left hk4
    rcases (show v.kind = 0 ∨ v.kind = 1 ∨ v.kind = 2 ∨ v.kind = 3 by omega) with h | h | h | h
    · exact rform0 v x w hv h hl
    · exact rform1 v x w hv h hl
    · exact rform2 v x w hv h hl
    · exact rform3 v x w hv h hl (hsl v (preV_self v))
  | succ t ih =>
    intro v x w hr hv hlen hsl
    obtain ⟨⟨h1, h2, h3, h4⟩, h0, h5⟩ := right_kinds hr
    by_cases hk4 : v.kind = 4
    · refine rform4 t ih v x w hv hk4 ?_ hlen hsl
      unfold rightN at hr
      rw [Bool.and_eq_true, Bool.and_eq_true, List.all_eq_true] at hr
      exact hr.1.2
    · have hl := h4.resolve_left hk4
      rcases (show v.kind = 0 ∨ v.kind = 1 ∨ v.kind = 2 ∨ v.kind = 3 by omega) with h | h | h | h
      · exact rform0 v x w hv h hl
      · exact rform1 v x w hv h hl
      · exact rform2 v x w hv h hl
      · exact rform3 v x w hv h hl (hsl v (preV_self v))

set_option maxRecDepth 100000 in
theorem rbytesV_any (v : V) (x : Array Value) (w : World) (hv : VIn w v x) (hlen : (formV v).length ≤ 10000000) (hsl : ∀ u ∈ preV v, u.s.length ≤ 1000000) :
    Calls Tryz.prog 86 #[.agg x] w (BytesEnd w v) := by
  obtain ⟨_, _, _, _, _, a, cap, rfl, _⟩ := hv.parts
  have hal := (Below.refl w.heap.size w).alloc (Nat.le_refl _) (.cells (cells5 v.kind v.n v.f v.s a v.l.length cap) 43)
  have HV := Lib.hid (rvalid_any v _ _ (hv.below hal))
  have HW := Lib.hid (fun (w1 : World) (hr : rightN 8 v = true) (hw : Below w.heap.size w w1) => rform_any 8 v _ w1 hr (hv.below hw) hlen hsl)
  have C0 := Lib.hid (new5 w (.int .i64 v.kind) (.int .i64 v.n) (.float .f64 v.f) (.string (str v.s)) (.slice a v.l.length cap) 43)
  have HA := Lib.hid hal
  have hwz : (w.alloc (.cells (cells5 v.kind v.n v.f v.s a v.l.length cap) 43)).heap.size = w.heap.size + 1 := by simp
  clear hv hal hlen hsl
  cases hr : rightN 8 v with
  | false =>
    rw [hr] at HV
    have HR := Lib.hid hr
    clear hr
    unfold cells5 at *
    go_enter Tryz.func86, Tryz.ntmps86
    go_wp2_with fail
    refine HV.out.mono ?_
    rintro e w1 ⟨rfl, hb⟩
    have HB := Lib.hid (HA.out.trans (hb.mono HA.out.size))
    clear hb
    go_wp2
    go_ret2
    exact .inl ⟨HR.out, rfl, HB.out⟩
  | true =>
    rw [hr] at HV
    have HR := Lib.hid hr
    clear hr
    unfold cells5 at *
    go_enter Tryz.func86, Tryz.ntmps86
    go_wp2_with fail
    refine HV.out.mono ?_
    rintro e w2 ⟨rfl, hb⟩
    have HB := Lib.hid (HA.out.trans (hb.mono HA.out.size))
    obtain ⟨z0, z1, z2, z3, z4⟩ := keep5 hb C0.out
    clear hb
    go_wp2_with fail
    refine (HW.out _ HR.out HB.out).mono ?_
    rintro e w3 ⟨u, rfl, hu, hb3⟩
    have Hu := Lib.hid hu
    have Hb3 := Lib.hid hb3
    clear hu hb3 z0 z1 z2 z3 z4
    go_wp2
    go_ret2
    exact .inr ⟨HR.out, u, rfl, own_base Hu.out HB.out.size, HB.out.trans (Hb3.out.mono HB.out.size)⟩
end Go.Proofs.YtcapbaocchaenaaGreatDoor

