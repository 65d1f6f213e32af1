import Derived.Test.YtmcdfmhciinocaaGreatDoorSR34
import Derived.Test.YtmcdfmhciinocaaGreatDoorSR2
import Derived.Lib.Hide
import Derived.Test.YtmcdfmhciinocaaGreatDoorSR20
import Derived.Test.YtmcdfmhciinocaaGreatDoorSR15
import Derived.Test.YtmcdfmhciinocaaGreatDoorSR30
import Derived.Test.YtmcdfmhciinocaaGreatDoorSR19
import Derived.Test.YtmcdfmhciinocaaGreatDoorSR1
import Derived.Test.YtmcdfmhciinocaaGreatDoorSR14
import Derived.Test.YtmcdfmhciinocaaGreatDoorSR31
import Derived.Test.YtmcdfmhciinocaaGreatDoorSR32
/- The walk of the reference's read and Read of a value, whatever the bytes. -/
namespace Go.Proofs.YtmcdfmhciinocaaGreatDoor
open Go.RowKit Go.Shelf Fl

theorem rr_atom (K : Nat → Prop) (t : Nat) (l : List Nat) (a : Option Addr) (n c : Nat) (w : World) (hl : l.length ≤ 1000000) (hK : ∀ b, K b → b < w.heap.size) (hB : Bytes w a n c l) (hf : FormedK K a c) (h4 : ¬ ∃ r, l = form 4 ++ r) :
    Calls Tryz.prog 126 #[.agg #[.slice a n c, .bool false], .int .i64 (t : Int)] w (RrAny K w t l) := by
  have hb := hB.byte
  rcases readN_only hb with ⟨x, l1, hx, rfl⟩ | ⟨hn, hno⟩
  · have hb1 : ∀ c ∈ l1, c < 256 := fun c hc => hb c (List.mem_append.2 (.inr hc))
    have hl1 : l1.length ≤ 1000000 := by rw [List.length_append] at hl; omega
    by_cases x0 : x = 0
    · subst x0; exact rr_nil K a n c t w t l1 hB hf hK
    by_cases x1 : x = 1
    · subst x1
      rcases readN_only hb1 with ⟨y, l2, hy, rfl⟩ | ⟨hn, hno⟩
      · exact rr_int K a n c t w t y _ l2 true (readN_form hy l2) hy (fun _ => rfl) (fun h => by cases h) hB hf hK
      · exact rr_int K a n c t w t 0 l1 l1 false hn (by omega) (fun h => by cases h) (fun _ => noV_int hno) hB hf hK
    by_cases x2 : x = 2
    · subst x2
      by_cases h8 : l1.length < 8
      · exact rr_short K a n c t w t l1 (by unfold takeN; rw [if_neg (fun k => by have := k.2.2; omega)]) (noV_short h8) hB hf hK
      obtain ⟨y, hy, e8⟩ := be8_onto (b := l1.take 8) (by rw [List.length_take]; omega) (fun c hc => hb1 c (List.mem_of_mem_take hc))
      obtain ⟨l2, rfl⟩ : ∃ l2, l1 = be8 y ++ l2 := ⟨l1.drop 8, by rw [← e8, List.take_append_drop]⟩
      exact rr_eight K a n c t w t y l2 hy hB hf hK
    by_cases x3 : x = 3
    · subst x3
      rcases readB_only hb1 with ⟨s, l2, hs, rfl⟩ | ⟨hn, hno⟩
      · have hs8 : ∀ c ∈ s, c < 256 := fun c hc => hb1 c (by unfold formB; simp [hc])
        have hsl : s.length ≤ 1000000 := by rw [List.length_append] at hl1; unfold formB at hl1; rw [List.length_append] at hl1; omega
        exact rr_text K a n c t w t s _ l2 true (readB_form hs l2) hs8 hsl (fun _ => rfl) (fun h => by cases h) hB hf hK
      · exact rr_text K a n c t w t [] l1 l1 false hn (fun x hx => by cases hx) (by simp) (fun h => by cases h) (fun _ => noV_text hno) hB hf hK
    have x4 : x ≠ 4 := fun e => h4 ⟨l1, by rw [e]⟩
    exact rr_big K a n c t w t x l1 hx (by omega) (noV_big hx (by omega)) hB hf hK
  · exact rr_bad0 K a n c t w t l hn (noV_bad hno) hB hf hK

theorem rr_any (t : Nat) (ht : t ≤ 1000) : RrV t := by
  induction t with
  | zero =>
    intro K l a n c w hl hK hB hf
    by_cases h4 : ∃ r, l = form 4 ++ r
    · obtain ⟨r, rfl⟩ := h4
      obtain ⟨y, l2, ok, hn⟩ : ∃ y l2 ok, readN r true = (y, l2, ok) := ⟨_, _, _, rfl⟩
      exact rr_deep K a n c w y r l2 ok hn hB hf hK
    · exact rr_atom K 0 l a n c w hl hK hB hf h4
  | succ t ih =>
    intro K l a n c w hl hK hB hf
    by_cases h4 : ∃ r, l = form 4 ++ r
    · obtain ⟨r, rfl⟩ := h4
      have hb1 : ∀ c ∈ r, c < 256 := fun c hc => hB.byte c (List.mem_append.2 (.inr hc))
      rcases readN_only hb1 with ⟨m, l2, hm, rfl⟩ | ⟨hn, hno⟩
      · exact rr_list K a n c ((t + 1 : Nat) : Int) w t m l2 hm (ih (by omega)) (beq_eq_false_iff_ne.2 (by omega)) (by omega) (by omega) (by rw [List.length_append, List.length_append] at hl; omega) hB hf hK
      · exact rr_count K a n c ((t + 1 : Nat) : Int) w (t + 1) 0 r r false hn rfl rfl (beq_eq_false_iff_ne.2 (by omega)) (noV_count hno) hB hf hK
    · exact rr_atom K (t + 1) l a n c w hl hK hB hf h4

set_option maxRecDepth 100000 in
theorem rread04_any (K : Nat → Prop) (l : List Nat) (a : Option Addr) (n c : Nat) (w : World) (hl : l.length ≤ 1000000) (hK : ∀ b, K b → b < w.heap.size) (hB : Bytes w a n c l) (hf : FormedK K a c) :
    Calls Tryz.prog 57 #[.agg #[.slice a n c, .bool false]] w (RrAny K w 8 l) := by
  have h0 := rh_start w a n c false
  have HA := Lib.hid (fun W (hW : Below w.heap.size w W) => rr_any 8 (by omega) K l a n c W hl (fun b hb => Nat.lt_of_lt_of_le (hK b hb) hW.size) (hB.grow hW) hf)
  have HK := Lib.hid hK
  have H0 := Lib.hid h0
  have hsz0 : (((w.alloc (.cells #[.slice a n c, .bool false] 42)).alloc (.cells #[.slice none 0 0, .bool false] 42)).alloc (.cells #[.int .i64 0, .int .i64 0, .float .f64 0, .string ⟨#[]⟩, .slice none 0 0] 26)).heap.size = w.heap.size + 3 := by simp
  clear hl hK hB hf h0
  have hfl : ∀ (w : World) (a : Addr) (m : Mode) (b : Nat), (store a (.float .f64 b) m).run Tryz.prog w = stored Tryz.prog w a (.float .f64 b) m := fun w a m b => run_store Tryz.prog w a _ m rfl
  go_enter Tryz.func57, Tryz.ntmps57
  go_wp2_with fail
  generalize (((w.alloc (.cells #[.slice a n c, .bool false] 42)).alloc (.cells #[.slice none 0 0, .bool false] 42)).alloc (.cells #[.int .i64 0, .int .i64 0, .float .f64 0, .string ⟨#[]⟩, .slice none 0 0] 26)) = w0 at *
  refine (HA.out _ H0.out.below).mono ?_
  rintro e w1 ⟨a1, n1, c1, bad, ls, hBs, hfs, hbs, ⟨u, av, cap, rfl, rfl, hv, hiv⟩ | ⟨hno, rfl⟩⟩
  · have Hv := Lib.hid hv
    have Hiv := Lib.hid hiv
    clear hv hiv
    have h1 := H0.out.below' hbs
    obtain ⟨q0, q1, q2, q3⟩ := block_cells h1.rr
    have hrv : w1.heap[w.heap.size + 1 + 1]? = some (.cells #[.int .i64 0, .int .i64 0, .float .f64 0, .string ⟨#[]⟩, .slice none 0 0] 26 (0, 0)) := h1.rv
    obtain ⟨⟨s0, s1, s2, s3, s4⟩, ⟨u0, u1, u2, u3, u4⟩⟩ := res_cells hrv
    have H1 := Lib.hid h1
    have HBs := Lib.hid hBs
    have Hfs := Lib.hid hfs
    clear hrv h1 hBs hfs hbs
    unfold cells5
    go_wp2
    have hZ := H1.out.done a1 n1 c1 false (.int .i64 u.kind) (.int .i64 u.n) (.float .f64 u.f) (.string (str u.s)) (.slice av u.l.length cap)
    unfold sets7 at hZ
    clear q0 q1 q2 q3 s0 s1 s2 s3 s4 u0 u1 u2 u3 u4
    generalize World.setCell (World.setCell (World.setCell (World.setCell (World.setCell (World.setCell (World.setCell w1 _ _) _ _) _ _) _ _) _ _) _ _) _ _ = wz at *
    obtain ⟨⟨r0, r1⟩, r2, r3, r4, r5, r6⟩ := hZ.cells
    have HZ := Lib.hid hZ
    clear hZ
    refine bodyPost_ret (v := .tuple #[.agg #[.slice a1 n1 c1, .bool false], .agg #[.int .i64 u.kind, .int .i64 u.n, .float .f64 u.f, .string (str u.s), .slice av u.l.length cap], .bool true]) (by simp [results, Tryz.results57, go_sem, *]) rfl ?_
    have hbz := HZ.out.below
    exact ⟨a1, n1, c1, false, ls, bytesB HBs.out Hfs.out HK.out hbz, Hfs.out, H1.out.below.trans hbz, .inl ⟨u, av, cap, rfl, rfl, VInP.turn (fun b hb => ⟨by omega, by have := hbz.size; omega⟩) (fun p hp => by unfold World.cell?; rw [HZ.out.far p.block (by omega)]) u _ Hv.out, Hiv.out⟩⟩
  · have Hno := Lib.hid hno
    clear hno
    have h1 := H0.out.below' hbs
    obtain ⟨q0, q1, q2, q3⟩ := block_cells h1.rr
    have hrv : w1.heap[w.heap.size + 1 + 1]? = some (.cells #[.int .i64 0, .int .i64 0, .float .f64 0, .string ⟨#[]⟩, .slice none 0 0] 26 (0, 0)) := h1.rv
    obtain ⟨⟨s0, s1, s2, s3, s4⟩, ⟨u0, u1, u2, u3, u4⟩⟩ := res_cells hrv
    have H1 := Lib.hid h1
    have HBs := Lib.hid hBs
    have Hfs := Lib.hid hfs
    clear hrv h1 hBs hfs hbs
    unfold cells5
    go_wp2
    have hZ := H1.out.done a1 n1 c1 bad (.int .i64 0) (.int .i64 0) (.float .f64 0) (.string (str [])) (.slice none 0 0)
    unfold sets7 at hZ
    clear q0 q1 q2 q3 s0 s1 s2 s3 s4 u0 u1 u2 u3 u4
    generalize World.setCell (World.setCell (World.setCell (World.setCell (World.setCell (World.setCell (World.setCell w1 _ _) _ _) _ _) _ _) _ _) _ _) _ _ = wz at *
    obtain ⟨⟨r0, r1⟩, r2, r3, r4, r5, r6⟩ := hZ.cells
    have HZ := Lib.hid hZ
    clear hZ
    refine bodyPost_ret (v := .tuple #[.agg #[.slice a1 n1 c1, .bool bad], .agg #[.int .i64 0, .int .i64 0, .float .f64 0, .string (str []), .slice none 0 0], .bool false]) (by simp [results, Tryz.results57, go_sem, *]) rfl ?_
    have hbz := HZ.out.below
    exact ⟨a1, n1, c1, bad, ls, bytesB HBs.out Hfs.out HK.out hbz, Hfs.out, H1.out.below.trans hbz, .inr ⟨Hno.out, rfl⟩⟩
end Go.Proofs.YtmcdfmhciinocaaGreatDoor

/- The walk of the reference's Read of a value, where a read has failed before. -/
namespace Go.Proofs.YtmcdfmhciinocaaGreatDoor
open Go.RowKit Go.Shelf Fl

def RrBad (K : Nat → Prop) (w : World) (l : List Nat) (e : Ending) (w' : World) : Prop :=
  ∃ (a : Option Addr) (n c : Nat), Bytes w' a n c l ∧ FormedK K a c ∧ Below w.heap.size w w' ∧ e = .returned (.tuple #[.agg #[.slice a n c, .bool true], .agg (cells5 0 0 0 [] none 0 0), .bool false])

section
variable (K : Nat → Prop) (a : Option Addr) (n c : Nat) (T : Int) (w : World)

set_option maxRecDepth 100000 in
set_option maxHeartbeats 3200000 in
theorem rr_badR (l : List Nat) (hB : Bytes w a n c l) (hf : FormedK K a c) (hK : ∀ b, K b → b < w.heap.size) :
    Calls Tryz.prog 126 #[.agg #[.slice a n c, .bool true], .int .i64 T] w (RrBad K w l) := by
  have h0 := rh_start w a n c true
  have hw0 : (((w.alloc (.cells #[.slice a n c, .bool true] 42)).alloc (.cells #[.slice none 0 0, .bool false] 42)).alloc (.cells #[.int .i64 0, .int .i64 0, .float .f64 0, .string ⟨#[]⟩, .slice none 0 0] 26)).heap.size = w.heap.size + 3 := by simp
  have HU := Lib.hid (readUintK_any K a n c true l _ (hB.grow h0.below) hf)
  have hn' : readN l (!true) = (0, l, false) := by unfold readN; rw [if_neg (fun h => by cases h.1)]
  rw [hn'] at HU
  have H0 := Lib.hid h0
  have HK := Lib.hid hK
  clear h0 hn' hB hf hK
  have hfl : ∀ (w : World) (a : Addr) (m : Mode) (b : Nat), (store a (.float .f64 b) m).run Tryz.prog w = stored Tryz.prog w a (.float .f64 b) m := fun w a m b => run_store Tryz.prog w a _ m rfl
  go_enter Tryz.func126, Tryz.ntmps126
  go_wp2_with fail
  generalize (((w.alloc (.cells #[.slice a n c, .bool true] 42)).alloc (.cells #[.slice none 0 0, .bool false] 42)).alloc (.cells #[.int .i64 0, .int .i64 0, .float .f64 0, .string ⟨#[]⟩, .slice none 0 0] 26)) = w0 at *
  refine HU.out.mono ?_
  rintro e w1 ⟨a1, n1, c1, rfl, hB1, hf1, hb1⟩
  have h1 := H0.out.below' hb1
  obtain ⟨p0, p1, p2, p3⟩ := block_cells h1.rd
  have HB1 := Lib.hid hB1
  have Hf1 := Lib.hid hf1
  have H1 := Lib.hid h1
  have hsz1 : w.heap.size + 3 ≤ w1.heap.size := by have := hb1.size; omega
  clear h1 hB1 hf1 hb1
  have hal := (Below.refl ((w1.setCell ⟨w.heap.size, 0, none⟩ (.slice a1 n1 c1)).setCell ⟨w.heap.size, 1, none⟩ (.bool true)).heap.size _).alloc (Nat.le_refl _) (.cells #[.int .i64 0, .int .i64 0, .float .f64 0, .string ⟨#[]⟩, .slice none 0 0] 26)
  have H2 := Lib.hid ((H1.out.setR a1 n1 c1 true).1.below' hal)
  have HV8 := Lib.hid (heap_alloc_new ((w1.setCell ⟨w.heap.size, 0, none⟩ (.slice a1 n1 c1)).setCell ⟨w.heap.size, 1, none⟩ (.bool true)) (.cells #[.int .i64 0, .int .i64 0, .float .f64 0, .string ⟨#[]⟩, .slice none 0 0] 26))
  have Hb12 := Lib.hid (((H1.out.setR a1 n1 c1 true).2).trans (hal.mono (by simp; omega)))
  clear hal
  go_upto_region 3 with fail
  have hsz2 : ((w1.setCell ⟨w.heap.size, 0, none⟩ (.slice a1 n1 c1)).setCell ⟨w.heap.size, 1, none⟩ (.bool true)).heap.size = w1.heap.size := by simp
  rw [hsz2] at HV8
  generalize ((w1.setCell ⟨w.heap.size, 0, none⟩ (.slice a1 n1 c1)).setCell ⟨w.heap.size, 1, none⟩ (.bool true)).alloc (.cells #[.int .i64 0, .int .i64 0, .float .f64 0, .string ⟨#[]⟩, .slice none 0 0] 26) = w2 at *
  obtain ⟨y0, y1, y2, y3⟩ := block_cells H2.out.rd
  clear p0 p1 p2 p3 hsz2
  go_wp2_with fail
  obtain ⟨⟨v0, v1, v2, v3, v4⟩, _⟩ := res_cells HV8.out
  obtain ⟨_, _, q2, q3⟩ := block_cells H2.out.rr
  obtain ⟨q0, q1, _, _⟩ := block_cells H2.out.rr
  have hrv : w2.heap[w.heap.size + 1 + 1]? = some (.cells #[.int .i64 0, .int .i64 0, .float .f64 0, .string ⟨#[]⟩, .slice none 0 0] 26 (0, 0)) := H2.out.rv
  obtain ⟨⟨s0, s1, s2, s3, s4⟩, ⟨u0, u1, u2, u3, u4⟩⟩ := res_cells hrv
  clear hrv
  go_region
  have hZ := (H2.out.done a1 n1 c1 true (.int .i64 0) (.int .i64 0) (.float .f64 0) (.string ⟨#[]⟩) (.slice none 0 0)).drew
  unfold sets7 at hZ
  clear v0 v1 v2 v3 v4 q0 q1 q2 q3 s0 s1 s2 s3 s4 u0 u1 u2 u3 u4 y0 y1 y2 y3
  generalize World.drew _ = wz at *
  obtain ⟨⟨r0, r1⟩, r2, r3, r4, r5, r6⟩ := hZ.cells
  have HZ := Lib.hid hZ
  clear hZ
  go_wp2
  refine bodyPost_ret (v := .tuple #[.agg #[.slice a1 n1 c1, .bool true], .agg #[.int .i64 0, .int .i64 0, .float .f64 0, .string ⟨#[]⟩, .slice none 0 0], .bool false]) (by simp [results, Tryz.results126, go_sem, *]) rfl ?_
  have hbz := Hb12.out.trans HZ.out.below
  exact ⟨a1, n1, c1, bytesB HB1.out Hf1.out HK.out hbz, Hf1.out, H1.out.below.trans hbz, rfl⟩
end

set_option maxRecDepth 100000 in
theorem rread04_bad (K : Nat → Prop) (l : List Nat) (a : Option Addr) (n c : Nat) (w : World) (hK : ∀ b, K b → b < w.heap.size) (hB : Bytes w a n c l) (hf : FormedK K a c) :
    Calls Tryz.prog 57 #[.agg #[.slice a n c, .bool true]] w (RrBad K w l) := by
  have h0 := rh_start w a n c true
  have HA := Lib.hid (fun W (hW : Below w.heap.size w W) => rr_badR K a n c 8 W l (hB.grow hW) hf (fun b hb => Nat.lt_of_lt_of_le (hK b hb) hW.size))
  have HK := Lib.hid hK
  have H0 := Lib.hid h0
  have hsz0 : (((w.alloc (.cells #[.slice a n c, .bool true] 42)).alloc (.cells #[.slice none 0 0, .bool false] 42)).alloc (.cells #[.int .i64 0, .int .i64 0, .float .f64 0, .string ⟨#[]⟩, .slice none 0 0] 26)).heap.size = w.heap.size + 3 := by simp
  clear hK hB hf h0
  have hfl : ∀ (w : World) (a : Addr) (m : Mode) (b : Nat), (store a (.float .f64 b) m).run Tryz.prog w = stored Tryz.prog w a (.float .f64 b) m := fun w a m b => run_store Tryz.prog w a _ m rfl
  go_enter Tryz.func57, Tryz.ntmps57
  go_wp2_with fail
  generalize (((w.alloc (.cells #[.slice a n c, .bool true] 42)).alloc (.cells #[.slice none 0 0, .bool false] 42)).alloc (.cells #[.int .i64 0, .int .i64 0, .float .f64 0, .string ⟨#[]⟩, .slice none 0 0] 26)) = w0 at *
  refine (HA.out _ H0.out.below).mono ?_
  rintro e w1 ⟨a1, n1, c1, hBs, hfs, hbs, rfl⟩
  have h1 := H0.out.below' hbs
  obtain ⟨q0, q1, q2, q3⟩ := block_cells h1.rr
  have hrv : w1.heap[w.heap.size + 1 + 1]? = some (.cells #[.int .i64 0, .int .i64 0, .float .f64 0, .string ⟨#[]⟩, .slice none 0 0] 26 (0, 0)) := h1.rv
  obtain ⟨⟨s0, s1, s2, s3, s4⟩, ⟨u0, u1, u2, u3, u4⟩⟩ := res_cells hrv
  have H1 := Lib.hid h1
  have HBs := Lib.hid hBs
  have Hfs := Lib.hid hfs
  clear hrv h1 hBs hfs hbs
  unfold cells5
  go_wp2
  have hZ := H1.out.done a1 n1 c1 true (.int .i64 0) (.int .i64 0) (.float .f64 0) (.string (str [])) (.slice none 0 0)
  unfold sets7 at hZ
  clear q0 q1 q2 q3 s0 s1 s2 s3 s4 u0 u1 u2 u3 u4
  generalize World.setCell (World.setCell (World.setCell (World.setCell (World.setCell (World.setCell (World.setCell w1 _ _) _ _) _ _) _ _) _ _) _ _) _ _ = wz at *
  obtain ⟨⟨r0, r1⟩, r2, r3, r4, r5, r6⟩ := hZ.cells
  have HZ := Lib.hid hZ
  clear hZ
  refine bodyPost_ret (v := .tuple #[.agg #[.slice a1 n1 c1, .bool true], .agg #[.int .i64 0, .int .i64 0, .float .f64 0, .string (str []), .slice none 0 0], .bool false]) (by simp [results, Tryz.results57, go_sem, *]) rfl ?_
  have hbz := HZ.out.below
  exact ⟨a1, n1, c1, bytesB HBs.out Hfs.out HK.out hbz, Hfs.out, H1.out.below.trans hbz, rfl⟩
end Go.Proofs.YtmcdfmhciinocaaGreatDoor

/- The walks of the reference's fields and has. -/
namespace Go.Proofs.YtmcdfmhciinocaaGreatDoor
open Go.RowKit

/-- The letter of a field. -/
def lett (i : Nat) : Nat := if i = 0 then 105 else if i = 1 then 110 else if i = 2 then 97 else if i = 3 then 115 else if i = 4 then 116 else 118
/-- The letters of a kind's fields. -/
def evL (k : Int) : List Nat := (evFields k).map lett

set_option maxRecDepth 100000 in
set_option maxHeartbeats 3200000 in
theorem rfields_any (k : Int) (w : World) : Calls Tryz.prog 113 #[.int .i64 k] w fun e w' => e = .returned (.string (str (evL k))) ∧ Below w.heap.size w w' := by
  by_cases h1 : k < 1
  · have e1 : evL k = [] := by unfold evL; rw [(evName_none (k := k) (by omega)).2]; rfl
    rw [e1]
    clear e1
    go_enter Tryz.func113, Tryz.ntmps113
    go_wp2
    go_ret
    exact ⟨rfl, Below.refl _ _⟩
  by_cases h2 : (11 : Int) < k
  · have e1 : evL k = [] := by unfold evL; rw [(evName_none (k := k) (by omega)).2]; rfl
    rw [e1]
    clear e1
    go_enter Tryz.func113, Tryz.ntmps113
    go_wp2
    go_ret
    exact ⟨rfl, Below.refl _ _⟩
  have hb := fun o => (Below.refl w.heap.size w).alloc (Nat.le_refl _) o
  have hk : k = 1 ∨ k = 2 ∨ k = 3 ∨ k = 4 ∨ k = 5 ∨ k = 6 ∨ k = 7 ∨ k = 8 ∨ k = 9 ∨ k = 10 ∨ k = 11 := by omega
  clear h1 h2
  rcases hk with rfl | rfl | rfl | rfl | rfl | rfl | rfl | rfl | rfl | rfl | rfl
  all_goals go_enter Tryz.func113, Tryz.ntmps113
  all_goals go_wp2
  all_goals go_ret
  all_goals exact ⟨congrArg (fun x => Ending.returned (.string x)) (by kernel_rfl), hb _⟩

set_option maxRecDepth 100000 in
theorem has_any (k : Int) (c : Nat) (hc : c < 256) (w : World) : Calls Tryz.prog 44 #[.int .i64 k, .int .u8 (c : Int)] w fun e w' => e = .returned (.bool (decide (c ∈ evL k))) ∧ Below w.heap.size w w' := by
  have HF := Lib.hid (rfields_any k w)
  obtain ⟨l, hl⟩ : ∃ l, l = evL k := ⟨_, rfl⟩
  have hb : ∀ y ∈ l, y < 256 := fun y hy => by
    rw [hl] at hy
    unfold evL lett at hy
    obtain ⟨i, _, rfl⟩ := List.mem_map.1 hy
    (repeat' split) <;> omega
  have hn : l.length ≤ 6 := by rw [hl]; unfold evL; rw [List.length_map]; exact fields_len k
  rw [← hl] at HF ⊢
  clear hl
  have hz := str_size l
  have Hb := Lib.hid hb
  have Hn := Lib.hid hn
  clear hb hn
  go_enter Tryz.func44, Tryz.ntmps44
  go_wp2_with fail
  refine HF.out.mono ?_
  rintro e w1 ⟨rfl, hb1⟩
  have Hb1 := Lib.hid hb1
  clear hb1
  go_wp2
  go_loopw [6] (fun i wr => ∃ j : Nat, j ≤ l.length ∧ i = .int .i64 (j : Int) ∧ (∀ q, q < j → l[q]? ≠ some c) ∧ wr = w1) (fun i _ => l.length - (intOf i).toNat)
  case atStart => exact ⟨0, Nat.zero_le _, rfl, fun q h => absurd h (by omega), rfl⟩
  case round =>
    obtain ⟨j, hj, rfl, hall, rfl⟩ := hrel
    have Hall := Lib.hid hall
    clear hall
    by_cases hlt : j < l.length
    · have hs : j < (str l).size := by rw [str_size]; exact hlt
      have hg : ((((str l)[j]'hs).toNat : Nat) : Int) = ((l[j] : Nat) : Int) := by
        rw [get_str Hb.out j hs]
        simp [hlt]
      have hn6 : l.length ≤ 6 := Hn.out
      have hji : (j : Int) < (l.length : Int) := by omega
      have hj6 : (j : Int) < 6 := by omega
      have Hg := Lib.hid (List.getElem?_eq_getElem hlt)
      generalize l[j] = y at *
      by_cases hy : y = c
      · subst hy
        have Hr := Lib.hid (show decide (y ∈ l) = true from decide_eq_true (List.mem_of_getElem? Hg.out))
        have Hlt := Lib.hid hlt
        clear hlt
        go_wp2
        go_ret
        exact ⟨ret_bool Hr.out.symm, Hb1.out⟩
      · have hy2 : ((y : Int) == (c : Int)) = false := by rw [beq_eq_false_iff_ne]; omega
        have Hall2 := Lib.hid (show ∀ q, q < j + 1 → l[q]? ≠ some c from fun q hq => by
          rcases Nat.lt_or_eq_of_le (Nat.le_of_lt_succ hq) with h | h
          · exact Hall.out q h
          · rw [h, Hg.out]; intro e; exact hy (Option.some.inj e))
        have Hlt := Lib.hid hlt
        clear hlt hy
        go_wp2
        go_roundw
        case rel => exact ⟨j + 1, Hlt.out, by go_num, Hall2.out, by first | trivial | rfl⟩
        case measure => simp [intOf]; have := Hlt.out; omega
    · have Hr := Lib.hid (show decide (c ∈ l) = false from decide_eq_false (fun h => by
        obtain ⟨q, hq, e⟩ := List.getElem_of_mem h
        exact Hall.out q (by omega) (by rw [List.getElem?_eq_getElem hq, e])))
      have hji : ¬ ((j : Int) < (l.length : Int)) := by omega
      clear hlt
      go_wp2
      go_ret
      exact ⟨ret_bool Hr.out.symm, Hb1.out⟩
end Go.Proofs.YtmcdfmhciinocaaGreatDoor

/- Valid events, field by field, as the reference asks. -/
namespace Go.Proofs.YtmcdfmhciinocaaGreatDoor
open Go.RowKit Fl

theorem lett_mem {k : Int} {i : Nat} (hi : i < 6) : lett i ∈ evL k ↔ i ∈ evFields k := by
  unfold evL
  constructor
  · intro h
    obtain ⟨j, hj, e⟩ := List.mem_map.1 h
    have hj6 := evFields_lt _ _ hj
    have : j = i := by
      unfold lett at e
      match i, j, hi, hj6 with
      | 0, 0, _, _ | 1, 1, _, _ | 2, 2, _, _ | 3, 3, _, _ | 4, 4, _, _ | 5, 5, _, _ => rfl
      | 0, 1, _, _ | 0, 2, _, _ | 0, 3, _, _ | 0, 4, _, _ | 0, 5, _, _ => simp at e
      | 1, 0, _, _ | 1, 2, _, _ | 1, 3, _, _ | 1, 4, _, _ | 1, 5, _, _ => simp at e
      | 2, 0, _, _ | 2, 1, _, _ | 2, 3, _, _ | 2, 4, _, _ | 2, 5, _, _ => simp at e
      | 3, 0, _, _ | 3, 1, _, _ | 3, 2, _, _ | 3, 4, _, _ | 3, 5, _, _ => simp at e
      | 4, 0, _, _ | 4, 1, _, _ | 4, 2, _, _ | 4, 3, _, _ | 4, 5, _, _ => simp at e
      | 5, 0, _, _ | 5, 1, _, _ | 5, 2, _, _ | 5, 3, _, _ | 5, 4, _, _ => simp at e
    rw [← this]; exact hj
  · exact fun h => List.mem_map.2 ⟨i, h, rfl⟩

theorem zero_iff {v : V} : sameV v zeroV = true ↔ rightN 8 v = true ∧ v.kind = 0 := by
  obtain ⟨k, n, f, s, l⟩ := v
  constructor
  · intro h
    refine ⟨by rw [fields_same 8 _ _ h]; decide +kernel, ?_⟩
    unfold zeroV at h
    rw [sameV, Bool.and_eq_true, decide_eq_true_eq] at h
    exact h.1.1
  · rintro ⟨h, hk⟩
    change k = 0 at hk
    obtain ⟨⟨a1, a2, a3, a4⟩, _⟩ := rightN_field h
    change k = 1 ∨ n = 0 at a1
    change k = 2 ∨ bitsB f = 0 at a2
    change k = 3 ∨ s = [] at a3
    change k = 4 ∨ l = [] at a4
    have hz : bitsB 0 = 0 := by decide
    unfold zeroV
    rw [a4.resolve_left (by omega), a3.resolve_left (by omega), a1.resolve_left (by omega), hk, sameV, a2.resolve_left (by omega), hz]
    simp [sameL]

/-- Each field as the reference asks. -/
def refF (e : Ev) (i : Nat) : Bool :=
  if i = 0 then decide (105 ∈ evL e.k) == decide (e.id ≠ 0)
  else if i = 1 then (if decide (110 ∈ evL e.k) = true then decide (1 ≤ e.n) && decide (e.n ≤ 2147483647) else decide (e.n = 0))
  else if i = 2 then decide (e.t ≤ 9223372036854775807) && (decide (97 ∈ evL e.k) || decide (e.t = 0))
  else if i = 3 then (decide (115 ∈ evL e.k) == decide (e.nm ≠ [])) && decide (e.nm.length ≤ 1000)
  else if i = 4 then decide (e.tx.length ≤ 1000) && (decide (116 ∈ evL e.k) || decide (e.tx = []))
  else rightN 8 e.v && (decide (118 ∈ evL e.k) || decide (e.v.kind = 0))

theorem refF_is (e : Ev) (i : Nat) (hi : i < 6) : (if i ∈ evFields e.k then rightE e i else emptyE e i) = refF e i := by
  have hm := @lett_mem e.k i hi
  match i, hi with
  | 0, _ =>
    change 105 ∈ evL e.k ↔ _ at hm
    show _ = (decide (105 ∈ evL e.k) == decide (e.id ≠ 0))
    by_cases h : 0 ∈ evFields e.k
    · rw [if_pos h, decide_eq_true (hm.2 h)]; show decide (e.id ≠ 0) = _; simp
    · rw [if_neg h, decide_eq_false (fun h' => h (hm.1 h'))]; show decide (e.id = 0) = _; simp
  | 1, _ =>
    change 110 ∈ evL e.k ↔ _ at hm
    show _ = (if decide (110 ∈ evL e.k) = true then decide (1 ≤ e.n) && decide (e.n ≤ 2147483647) else decide (e.n = 0))
    by_cases h : 1 ∈ evFields e.k
    · rw [if_pos h, decide_eq_true (hm.2 h)]; show decide (1 ≤ e.n ∧ e.n ≤ 2147483647) = _; simp
    · rw [if_neg h, decide_eq_false (fun h' => h (hm.1 h'))]; rfl
  | 2, _ =>
    change 97 ∈ evL e.k ↔ _ at hm
    show _ = (decide (e.t ≤ 9223372036854775807) && (decide (97 ∈ evL e.k) || decide (e.t = 0)))
    by_cases h : 2 ∈ evFields e.k
    · rw [if_pos h, decide_eq_true (hm.2 h)]; show decide (e.t ≤ 9223372036854775807) = _; simp
    · rw [if_neg h, decide_eq_false (fun h' => h (hm.1 h'))]; show decide (e.t = 0) = _
      rw [Bool.eq_iff_iff]; simp; omega
  | 3, _ =>
    change 115 ∈ evL e.k ↔ _ at hm
    show _ = ((decide (115 ∈ evL e.k) == decide (e.nm ≠ [])) && decide (e.nm.length ≤ 1000))
    by_cases h : 3 ∈ evFields e.k
    · rw [if_pos h, decide_eq_true (hm.2 h)]; show decide (e.nm ≠ [] ∧ e.nm.length ≤ 1000) = _; simp
    · rw [if_neg h, decide_eq_false (fun h' => h (hm.1 h'))]; show decide (e.nm = []) = _
      rw [Bool.eq_iff_iff]; simp; intro h0; rw [h0]; simp
  | 4, _ =>
    change 116 ∈ evL e.k ↔ _ at hm
    show _ = (decide (e.tx.length ≤ 1000) && (decide (116 ∈ evL e.k) || decide (e.tx = [])))
    by_cases h : 4 ∈ evFields e.k
    · rw [if_pos h, decide_eq_true (hm.2 h)]; show decide (e.tx.length ≤ 1000) = _; simp
    · rw [if_neg h, decide_eq_false (fun h' => h (hm.1 h'))]; show decide (e.tx = []) = _
      rw [Bool.eq_iff_iff]; simp; intro h0; rw [h0]; simp
  | 5, _ =>
    change 118 ∈ evL e.k ↔ _ at hm
    show _ = (rightN 8 e.v && (decide (118 ∈ evL e.k) || decide (e.v.kind = 0)))
    by_cases h : 5 ∈ evFields e.k
    · rw [if_pos h, decide_eq_true (hm.2 h)]; show rightN 8 e.v = _; simp
    · rw [if_neg h, decide_eq_false (fun h' => h (hm.1 h'))]; show sameV e.v zeroV = _
      rw [Bool.eq_iff_iff, zero_iff]; simp

theorem evName_some {k : Int} (h : 1 ≤ k ∧ k ≤ 11) : evName k ≠ [] := by
  have c : k = 1 ∨ k = 2 ∨ k = 3 ∨ k = 4 ∨ k = 5 ∨ k = 6 ∨ k = 7 ∨ k = 8 ∨ k = 9 ∨ k = 10 ∨ k = 11 := by omega
  rcases c with rfl | rfl | rfl | rfl | rfl | rfl | rfl | rfl | rfl | rfl | rfl <;> decide

theorem okE_ref {e : Ev} (h : 1 ≤ e.k ∧ e.k ≤ 11) : okE e = (refF e 0 && refF e 1 && refF e 2 && refF e 3 && refF e 4 && refF e 5) := by
  unfold okE
  rw [decide_eq_true (evName_some h), Bool.true_and]
  have e1 : ((List.range 6).all fun i => if i ∈ evFields e.k then rightE e i else emptyE e i) = (List.range 6).all (refF e) := by
    rw [Bool.eq_iff_iff, List.all_eq_true, List.all_eq_true]
    constructor
    · intro h i hi; rw [← refF_is e i (by simpa using hi)]; exact h i hi
    · intro h i hi; rw [refF_is e i (by simpa using hi)]; exact h i hi
  rw [e1]
  simp [List.range, List.range.loop, Bool.and_assoc]
end Go.Proofs.YtmcdfmhciinocaaGreatDoor

/- The walk of the reference's form of an event. -/
namespace Go.Proofs.YtmcdfmhciinocaaGreatDoor
open Go.RowKit Go.Shelf Fl

/-- The pieces of the fields before j. -/
def upE (e : Ev) (j : Nat) : List Nat := (((List.range j).filter (fun i => decide (i ∈ evFields e.k))).map (pieceE e)).flatten

theorem upE_succ (e : Ev) (j : Nat) : upE e (j + 1) = upE e j ++ (if j ∈ evFields e.k then pieceE e j else []) := by
  unfold upE
  rw [List.range_succ, List.filter_append, List.map_append, List.flatten_append]
  congr 1
  by_cases h : j ∈ evFields e.k
  · simp [h]
  · simp [h]
theorem fields_filter (k : Int) : (List.range 6).filter (fun i => decide (i ∈ evFields k)) = evFields k := by
  by_cases h : 1 ≤ k ∧ k ≤ 11
  · have hk : k = 1 ∨ k = 2 ∨ k = 3 ∨ k = 4 ∨ k = 5 ∨ k = 6 ∨ k = 7 ∨ k = 8 ∨ k = 9 ∨ k = 10 ∨ k = 11 := by omega
    rcases hk with rfl | rfl | rfl | rfl | rfl | rfl | rfl | rfl | rfl | rfl | rfl <;> decide
  · rw [(evName_none h).2]
    decide
theorem upE_six (e : Ev) : upE e 6 = ((evFields e.k).map (pieceE e)).flatten := by
  unfold upE
  rw [fields_filter]

end Go.Proofs.YtmcdfmhciinocaaGreatDoor

/- Bytes that are read as an event by the reference, letter by letter: plain. -/
namespace Go.Proofs.YtmcdfmhciinocaaGreatDoor
open Go.RowKit Go.Shelf Fl

/-- The fields below j are read. -/
structure Dec2 (kk : Int) (l2 : List Nat) (j : Nat) (e : Ev) (lj : List Nat) : Prop where
  d : EvD e
  k : e.k = kk
  l : l2 = upE e j ++ lj
  m : ∀ i, i < 6 → (i ∉ evFields kk ∨ j ≤ i) → emptyE e i = true

theorem Dec2.start (k : Int) (l2 : List Nat) : Dec2 k l2 0 (ev0 k) l2 := ⟨ev0_d k, rfl, rfl, fun i _ _ => ev0_empty k i⟩

theorem upE_same {e e' : Ev} (hk : e'.k = e.k) : ∀ j, j ≤ 6 → (∀ i, i < j → pieceE e' i = pieceE e i) → upE e' j = upE e j
  | 0, _, _ => rfl
  | j + 1, hj, h => by
    rw [upE_succ, upE_succ, hk, upE_same hk j (by omega) (fun i hi => h i (by omega)), h j (by omega)]

theorem Dec2.step {k : Int} {l2 : List Nat} {j : Nat} {e e' : Ev} {lj rest : List Nat} (h : Dec2 k l2 j e lj) (hj : j < 6) (hm : j ∈ evFields k) (hf : FldOk j lj e e' rest) : Dec2 k l2 (j + 1) e' rest := by
  obtain ⟨h1, h2, h3, h4⟩ := hf
  refine ⟨h4 h.d, h2.trans h.k, ?_, fun i hi hc => ?_⟩
  · rw [upE_succ, h2, h.k, if_pos hm, upE_same h2 j (by omega) (fun i hi => (h3 i (by omega) (by omega)).1), List.append_assoc, ← h1]
    exact h.l
  · have hne : i ≠ j := fun e => by rw [e] at hc; rcases hc with hc | hc; exact hc hm; omega
    rw [(h3 i hi hne).2]
    exact h.m i hi (hc.imp id (fun h => by omega))

theorem Dec2.skip {k : Int} {l2 : List Nat} {j : Nat} {e : Ev} {lj : List Nat} (h : Dec2 k l2 j e lj) (hm : j ∉ evFields k) : Dec2 k l2 (j + 1) e lj := by
  refine ⟨h.d, h.k, ?_, fun i hi hc => h.m i hi ?_⟩
  · rw [upE_succ, h.k, if_neg hm, List.append_nil]
    exact h.l
  · rcases hc with hc | hc
    · exact .inl hc
    · exact .inr (by omega)

theorem fields_at (k : Int) (j : Nat) (hj : j < 6) (hm : j ∈ evFields k) : ∃ p, ∃ (h : p < (evFields k).length), (evFields k)[p] = j ∧ (evFields k).take p = (List.range j).filter (fun i => decide (i ∈ evFields k)) := by
  have hk : 1 ≤ k ∧ k ≤ 11 := by
    by_cases h : 1 ≤ k ∧ k ≤ 11
    · exact h
    · rw [(evName_none h).2] at hm; cases hm
  have hk' : k = 1 ∨ k = 2 ∨ k = 3 ∨ k = 4 ∨ k = 5 ∨ k = 6 ∨ k = 7 ∨ k = 8 ∨ k = 9 ∨ k = 10 ∨ k = 11 := by omega
  have hj' : j = 0 ∨ j = 1 ∨ j = 2 ∨ j = 3 ∨ j = 4 ∨ j = 5 := by omega
  clear hk hj
  rcases hk' with rfl | rfl | rfl | rfl | rfl | rfl | rfl | rfl | rfl | rfl | rfl <;> rcases hj' with rfl | rfl | rfl | rfl | rfl | rfl <;> first | (exfalso; revert hm; decide) | exact ⟨0, by decide, by decide, by decide⟩ | exact ⟨1, by decide, by decide, by decide⟩ | exact ⟨2, by decide, by decide, by decide⟩ | exact ⟨3, by decide, by decide, by decide⟩

theorem Dec2.no {k j : Nat} {l2 lj : List Nat} {e : Ev} (h : Dec2 (k : Int) l2 j e lj) (hk : k < 18446744073709551616) (hj : j < 6) (hm : j ∈ evFields (k : Int)) (hno : FldNo j lj) : NoE (form 1 ++ (form k ++ l2)) := by
  obtain ⟨p, hp, e1, e2⟩ := fields_at (k : Int) j hj hm
  refine noE_field hk h.d hp ?_ (by rw [e1]; exact hno)
  rw [e2]
  have := h.l
  unfold upE at this
  rw [h.k] at this
  exact this

theorem Dec2.invalid {k : Nat} {l2 lj : List Nat} {e : Ev} (h : Dec2 (k : Int) l2 6 e lj) (hk : k < 18446744073709551616) (hno : okE e = false) : NoE (form 1 ++ (form k ++ l2)) :=
  noE_valid hk h.d h.k (by have := h.l; rw [upE_six, h.k] at this; exact this) (fun i hi hm => h.m i hi (.inl hm)) hno

theorem Dec2.form {k : Nat} {l2 lj : List Nat} {e : Ev} (h : Dec2 (k : Int) l2 6 e lj) : form 1 ++ (form k ++ l2) = formE e ++ lj := by
  have := h.l
  rw [upE_six, h.k] at this
  rw [this]
  unfold formE
  rw [h.k, Int.toNat_natCast, List.append_assoc, List.append_assoc]

theorem okE_big {q : Ev} (h : 2147483647 < q.n) : okE q = false := by
  cases ho : okE q with
  | false => rfl
  | true =>
    have h1 := (okE_parts ho).2 1 (by omega)
    by_cases hm : 1 ∈ evFields q.k
    · rw [if_pos hm] at h1
      have : 1 ≤ q.n ∧ q.n ≤ 2147483647 := by simpa [rightE] using h1
      omega
    · rw [if_neg hm] at h1
      have : q.n = 0 := by simpa [emptyE] using h1
      omega
end Go.Proofs.YtmcdfmhciinocaaGreatDoor

/- The walk of the reference's Read of an event: where the version or the kind is not there. -/
namespace Go.Proofs.YtmcdfmhciinocaaGreatDoor
open Go.RowKit Go.Shelf Fl

/-- What the reference's Read of an event answers. -/
def ErAny (K : Nat → Prop) (w : World) (l : List Nat) (r : Ending) (w' : World) : Prop :=
  ∃ (a : Option Addr) (n c : Nat) (bad : Bool) (ls : List Nat), Bytes w' a n c ls ∧ FormedK K a c ∧ Below w.heap.size w w' ∧
  ((∃ e x, bad = false ∧ r = .returned (.tuple #[.agg #[.slice a n c, .bool false], .agg x, .bool true]) ∧ EvIn w' e x ∧ IsE l e ls) ∨
   (NoE l ∧ r = .returned (.tuple #[.agg #[.slice a n c, .bool bad], .agg evZ, .bool false])))

/-- The three blocks that the call begins with. -/
structure EH (w wr : World) (a : Option Addr) (n c : Nat) (bad : Bool) : Prop where
  rd : wr.heap[w.heap.size]? = some (.cells #[.slice a n c, .bool bad] 42 (0, 0))
  rr : wr.heap[w.heap.size + 1]? = some (.cells #[.slice none 0 0, .bool false] 42 (0, 0))
  rv : wr.heap[w.heap.size + 1 + 1]? = some (.cells #[.int .i64 0, .int .u64 0, .int .i64 0, .int .u64 0, .string ⟨#[]⟩, .string ⟨#[]⟩, .int .i64 0, .int .i64 0, .float .f64 0, .string ⟨#[]⟩, .slice none 0 0] 28 (0, 0))
  below : Below w.heap.size w wr

theorem EH.below' {w wr w' : World} {a : Option Addr} {n c : Nat} {bad : Bool} (h : EH w wr a n c bad) (hb : Below wr.heap.size wr w') : EH w w' a n c bad :=
  ⟨blk h.rd hb, blk h.rr hb, blk h.rv hb, h.below.trans (hb.mono h.below.size)⟩

abbrev ehW (w : World) (a : Option Addr) (n c : Nat) : World := ((w.alloc (.cells #[.slice a n c, .bool false] 42)).alloc (.cells #[.slice none 0 0, .bool false] 42)).alloc (.cells #[.int .i64 0, .int .u64 0, .int .i64 0, .int .u64 0, .string ⟨#[]⟩, .string ⟨#[]⟩, .int .i64 0, .int .i64 0, .float .f64 0, .string ⟨#[]⟩, .slice none 0 0] 28)
theorem eh_start (w : World) (a : Option Addr) (n c : Nat) : EH w (ehW w a n c) a n c false := by
  refine ⟨?_, ?_, ?_, (((Below.refl _ _).alloc (Nat.le_refl _) _).alloc (by simp) _).alloc (by simp; omega) _⟩
  · exact (Below.heap_alloc _ _ _ (by simp; omega)).trans ((Below.heap_alloc _ _ _ (by simp)).trans (heap_alloc_new _ _))
  · refine (Below.heap_alloc _ _ _ (by simp)).trans ?_
    have := heap_alloc_new (w.alloc (.cells #[.slice a n c, .bool false] 42)) (.cells #[.slice none 0 0, .bool false] 42)
    rwa [World.size_alloc] at this
  · have := heap_alloc_new ((w.alloc (.cells #[.slice a n c, .bool false] 42)).alloc (.cells #[.slice none 0 0, .bool false] 42)) (.cells #[.int .i64 0, .int .u64 0, .int .i64 0, .int .u64 0, .string ⟨#[]⟩, .string ⟨#[]⟩, .int .i64 0, .int .i64 0, .float .f64 0, .string ⟨#[]⟩, .slice none 0 0] 28)
    rwa [World.size_alloc, World.size_alloc] at this

theorem EH.setR {w wr : World} {a : Option Addr} {n c : Nat} {bad : Bool} (h : EH w wr a n c bad) (a' : Option Addr) (n' c' : Nat) (bad' : Bool) :
    EH w ((wr.setCell ⟨w.heap.size, 0, none⟩ (.slice a' n' c')).setCell ⟨w.heap.size, 1, none⟩ (.bool bad')) a' n' c' bad' ∧ Below w.heap.size wr ((wr.setCell ⟨w.heap.size, 0, none⟩ (.slice a' n' c')).setCell ⟨w.heap.size, 1, none⟩ (.bool bad')) := by
  have hb := ((Below.refl w.heap.size wr).setCell (p := ⟨w.heap.size, 0, none⟩) (Nat.le_refl _) (.slice a' n' c')).setCell (p := ⟨w.heap.size, 1, none⟩) (Nat.le_refl _) (.bool bad')
  refine ⟨⟨set_headE (set_headE h.rd (.slice a' n' c')) (.bool bad'), ?_, ?_, h.below.trans hb⟩, hb⟩
  · rw [← h.rr]; simp [World.setCell, Array.getElem?_modify]
  · rw [← h.rv]; simp [World.setCell, Array.getElem?_modify, show w.heap.size ≠ w.heap.size + 1 + 1 by omega]
theorem EH.setO {w wr : World} {a : Option Addr} {n c : Nat} {bad : Bool} (h : EH w wr a n c bad) {g i : Nat} (hg : w.heap.size + 2 < g) (v : Value) : EH w (wr.setCell ⟨g, i, none⟩ v) a n c bad ∧ Below w.heap.size wr (wr.setCell ⟨g, i, none⟩ v) := by
  have hb := (Below.refl w.heap.size wr).setCell (p := ⟨g, i, none⟩) (show w.heap.size ≤ g by omega) v
  refine ⟨⟨?_, ?_, ?_, h.below.trans hb⟩, hb⟩
  · rw [← h.rd]; simp [World.setCell, Array.getElem?_modify, show g ≠ w.heap.size by omega]
  · rw [← h.rr]; simp [World.setCell, Array.getElem?_modify, show g ≠ w.heap.size + 1 by omega]
  · rw [← h.rv]; simp [World.setCell, Array.getElem?_modify, show g ≠ w.heap.size + 1 + 1 by omega]

/-- The results' blocks at the end. -/
structure EZ (w wr wz : World) (a : Option Addr) (n c : Nat) (bad : Bool) (v0 v1 v2 v3 v4 v5 v6 v7 v8 v9 v10 : Value) : Prop where
  r : wz.heap[w.heap.size + 1]? = some (.cells #[.slice a n c, .bool bad] 42 (0, 0))
  v : wz.heap[w.heap.size + 1 + 1]? = some (.cells #[v0, v1, v2, v3, v4, v5, v6, v7, v8, v9, v10] 28 (0, 0))
  below : Below w.heap.size wr wz
  far : ∀ b, w.heap.size + 2 < b → wz.heap[b]? = wr.heap[b]?

theorem EH.done {w wr : World} {a : Option Addr} {n c : Nat} {bad : Bool} (h : EH w wr a n c bad) (a' : Option Addr) (n' c' : Nat) (bad' : Bool) (v0 v1 v2 v3 v4 v5 v6 v7 v8 v9 v10 : Value) :
    EZ w wr (sets11 ((wr.setCell ⟨w.heap.size + 1, 0, none⟩ (.slice a' n' c')).setCell ⟨w.heap.size + 1, 1, none⟩ (.bool bad')) (w.heap.size + 1 + 1) v0 v1 v2 v3 v4 v5 v6 v7 v8 v9 v10) a' n' c' bad' v0 v1 v2 v3 v4 v5 v6 v7 v8 v9 v10 := by
  have hrr := set_headE (i := 1) (set_headE (i := 0) h.rr (.slice a' n' c')) (.bool bad')
  have hrv : ((wr.setCell ⟨w.heap.size + 1, 0, none⟩ (.slice a' n' c')).setCell ⟨w.heap.size + 1, 1, none⟩ (.bool bad')).heap[w.heap.size + 1 + 1]? = some (.cells #[.int .i64 0, .int .u64 0, .int .i64 0, .int .u64 0, .string ⟨#[]⟩, .string ⟨#[]⟩, .int .i64 0, .int .i64 0, .float .f64 0, .string ⟨#[]⟩, .slice none 0 0] 28 (0, 0)) := by
    rw [← h.rv]
    simp [World.setCell, Array.getElem?_modify]
  have hb := ((Below.refl w.heap.size wr).setCell (p := ⟨w.heap.size + 1, 0, none⟩) (Nat.le_succ _) (.slice a' n' c')).setCell (p := ⟨w.heap.size + 1, 1, none⟩) (Nat.le_succ _) (.bool bad')
  refine ⟨?_, sets11_at hrv v0 v1 v2 v3 v4 v5 v6 v7 v8 v9 v10, sets11_below hb (by omega) v0 v1 v2 v3 v4 v5 v6 v7 v8 v9 v10, fun b hb => ?_⟩
  · rw [sets11_other (show w.heap.size + 1 ≠ w.heap.size + 1 + 1 by omega)]
    exact hrr
  · rw [sets11_other (show b ≠ w.heap.size + 1 + 1 by omega)]
    simp [World.setCell, Array.getElem?_modify, show w.heap.size + 1 ≠ b by omega]
theorem EZ.drew {w wr wz : World} {a : Option Addr} {n c : Nat} {bad : Bool} {v0 v1 v2 v3 v4 v5 v6 v7 v8 v9 v10 : Value} (h : EZ w wr wz a n c bad v0 v1 v2 v3 v4 v5 v6 v7 v8 v9 v10) : EZ w wr wz.drew a n c bad v0 v1 v2 v3 v4 v5 v6 v7 v8 v9 v10 :=
  ⟨h.r, h.v, ⟨h.below.os, h.below.tape, h.below.output, h.below.size, h.below.block⟩, h.far⟩

section
variable (K : Nat → Prop) (a : Option Addr) (n c : Nat) (w : World)

set_option maxRecDepth 100000 in
set_option maxHeartbeats 6400000 in
theorem er_short  (hB : Bytes w a n c ([])) (hf : FormedK K a c) (hK : ∀ b, K b → b < w.heap.size) :
    Calls Tryz.prog 19 #[.agg #[.slice a n c, .bool false]] w (ErAny K w ([])) := by
  have h0 := eh_start w a n c
  have HI := Lib.hid (rtakeK_any K a n c false ([]) 1 _ (hB.grow h0.below) hf (by omega) (by omega))
  have hn' : takeN ([]) (!false) 1 = ([], [], false) := rfl
  rw [hn'] at HI
  have H0 := Lib.hid h0
  have HK := Lib.hid hK
  have hsz0 : (ehW w a n c).heap.size = w.heap.size + 3 := by simp
  clear h0 hn' hB hf hK
  have hfl : ∀ (w : World) (a : Addr) (m : Mode) (b : Nat), (store a (.float .f64 b) m).run Tryz.prog w = stored Tryz.prog w a (.float .f64 b) m := fun w a m b => run_store Tryz.prog w a _ m rfl
  go_enter Tryz.func19, Tryz.ntmps19
  go_wp2_with fail
  unfold ehW at HI H0 hsz0
  generalize ((w.alloc (.cells #[.slice a n c, .bool false] 42)).alloc (.cells #[.slice none 0 0, .bool false] 42)).alloc (.cells #[.int .i64 0, .int .u64 0, .int .i64 0, .int .u64 0, .string ⟨#[]⟩, .string ⟨#[]⟩, .int .i64 0, .int .i64 0, .float .f64 0, .string ⟨#[]⟩, .slice none 0 0] 28) = w0 at *
  refine HI.out.mono ?_
  rintro e w1 ⟨a1, n1, c1, p1, m1, cp1, rfl, hB1, hf1, hP1, hb1⟩
  have h1 := H0.out.below' hb1
  obtain ⟨y0, y1, y2, y3⟩ := block_cells h1.rd
  have HB1 := Lib.hid hB1
  have Hf1 := Lib.hid hf1
  have H1 := Lib.hid h1
  have HP1 := Lib.hid hP1
  have hsz1 : w.heap.size + 3 ≤ w1.heap.size := by have := hb1.size; omega
  clear h1 hB1 hf1 hb1 hP1
  go_upto_region 2 with fail
  have H2 := Lib.hid (H1.out.setR a1 n1 c1 true)
  have HP2 := Lib.hid ((HP1.out.setFar (fun hn _ hx => rd_other H1.out.rd HP1.out hn hx) (i := 0) (.slice a1 n1 c1)).setFar (fun hn _ hx => rd_other H1.out.rd HP1.out hn hx) (i := 1) (.bool true))
  clear y0 y1 y2 y3
  generalize (w1.setCell ⟨w.heap.size, 0, none⟩ (.slice a1 n1 c1)).setCell ⟨w.heap.size, 1, none⟩ (.bool true) = w2 at *
  obtain ⟨y0, y1, y2, y3⟩ := block_cells H2.out.1.rd
  obtain ⟨q0, q1, q2, q3⟩ := block_cells H2.out.1.rr
  obtain ⟨s0, s1, s2, s3, s4, s5, s6, s7, s8, s9, s10⟩ := box11 H2.out.1.rv
  obtain ⟨⟨z0, z1, z2, z3, z4, z5⟩, z6, z7, z8, z9, z10⟩ := box11z H2.out.1.rv
  go_wp2
  have hZ := H2.out.1.done a1 n1 c1 true (.int .i64 0) (.int .u64 0) (.int .i64 0) (.int .u64 0) (.string ⟨#[]⟩) (.string ⟨#[]⟩) (.int .i64 0) (.int .i64 0) (.float .f64 0) (.string ⟨#[]⟩) (.slice none 0 0)
  unfold sets11 at hZ
  clear y0 y1 y2 y3 q0 q1 q2 q3 s0 s1 s2 s3 s4 s5 s6 s7 s8 s9 s10 z0 z1 z2 z3 z4 z5 z6 z7 z8 z9 z10
  generalize World.setCell (World.setCell (World.setCell (World.setCell (World.setCell (World.setCell (World.setCell (World.setCell (World.setCell (World.setCell (World.setCell (World.setCell (World.setCell w2 _ _) _ _) _ _) _ _) _ _) _ _) _ _) _ _) _ _) _ _) _ _) _ _) _ _ = wz at *
  obtain ⟨r0, r1, _, _⟩ := block_cells hZ.r
  obtain ⟨s0, s1, s2, s3, s4, s5, s6, s7, s8, s9, s10⟩ := box11 hZ.v
  have HZ := Lib.hid hZ
  clear hZ
  refine bodyPost_ret (v := .tuple #[.agg #[.slice a1 n1 c1, .bool true], .agg #[.int .i64 0, .int .u64 0, .int .i64 0, .int .u64 0, .string ⟨#[]⟩, .string ⟨#[]⟩, .int .i64 0, .int .i64 0, .float .f64 0, .string ⟨#[]⟩, .slice none 0 0], .bool false]) (by simp [results, Tryz.results19, go_sem, *]) rfl ?_
  have hbz := H2.out.2.trans HZ.out.below
  exact ⟨a1, n1, c1, true, [], bytesB HB1.out Hf1.out HK.out hbz, Hf1.out, H1.out.below.trans hbz, .inr ⟨noE_version (fun r h => by have := congrArg List.length h; rw [List.length_append] at this; have := form_pos 1; simp at *; omega), rfl⟩⟩

theorem bytes_zero {w w' : World} {a : Option Addr} {n c : Nat} (h : Bytes w a n c []) : Bytes w' a n c [] := by
  have hn : n = 0 := h.len.symm
  subst hn
  exact ⟨rfl, h.le, h.capmax, h.byte, h.nil, fun h => absurd h (Nat.lt_irrefl _)⟩

set_option maxRecDepth 100000 in
set_option maxHeartbeats 6400000 in
theorem er_short0  (hB : Bytes w a n c ([])) (hf : FormedK K a c) :
    Calls Tryz.prog 19 #[.agg #[.slice a n c, .bool false]] w (ErAny K w ([])) := by
  have h0 := eh_start w a n c
  have HI := Lib.hid (rtakeK_any K a n c false ([]) 1 _ (hB.grow h0.below) hf (by omega) (by omega))
  have hn' : takeN ([]) (!false) 1 = ([], [], false) := rfl
  rw [hn'] at HI
  have H0 := Lib.hid h0
  have hsz0 : (ehW w a n c).heap.size = w.heap.size + 3 := by simp
  clear h0 hn' hB hf
  have hfl : ∀ (w : World) (a : Addr) (m : Mode) (b : Nat), (store a (.float .f64 b) m).run Tryz.prog w = stored Tryz.prog w a (.float .f64 b) m := fun w a m b => run_store Tryz.prog w a _ m rfl
  go_enter Tryz.func19, Tryz.ntmps19
  go_wp2_with fail
  unfold ehW at HI H0 hsz0
  generalize ((w.alloc (.cells #[.slice a n c, .bool false] 42)).alloc (.cells #[.slice none 0 0, .bool false] 42)).alloc (.cells #[.int .i64 0, .int .u64 0, .int .i64 0, .int .u64 0, .string ⟨#[]⟩, .string ⟨#[]⟩, .int .i64 0, .int .i64 0, .float .f64 0, .string ⟨#[]⟩, .slice none 0 0] 28) = w0 at *
  refine HI.out.mono ?_
  rintro e w1 ⟨a1, n1, c1, p1, m1, cp1, rfl, hB1, hf1, hP1, hb1⟩
  have h1 := H0.out.below' hb1
  obtain ⟨y0, y1, y2, y3⟩ := block_cells h1.rd
  have HB1 := Lib.hid hB1
  have Hf1 := Lib.hid hf1
  have H1 := Lib.hid h1
  have HP1 := Lib.hid hP1
  have hsz1 : w.heap.size + 3 ≤ w1.heap.size := by have := hb1.size; omega
  clear h1 hB1 hf1 hb1 hP1
  go_upto_region 2 with fail
  have H2 := Lib.hid (H1.out.setR a1 n1 c1 true)
  have HP2 := Lib.hid ((HP1.out.setFar (fun hn _ hx => rd_other H1.out.rd HP1.out hn hx) (i := 0) (.slice a1 n1 c1)).setFar (fun hn _ hx => rd_other H1.out.rd HP1.out hn hx) (i := 1) (.bool true))
  clear y0 y1 y2 y3
  generalize (w1.setCell ⟨w.heap.size, 0, none⟩ (.slice a1 n1 c1)).setCell ⟨w.heap.size, 1, none⟩ (.bool true) = w2 at *
  obtain ⟨y0, y1, y2, y3⟩ := block_cells H2.out.1.rd
  obtain ⟨q0, q1, q2, q3⟩ := block_cells H2.out.1.rr
  obtain ⟨s0, s1, s2, s3, s4, s5, s6, s7, s8, s9, s10⟩ := box11 H2.out.1.rv
  obtain ⟨⟨z0, z1, z2, z3, z4, z5⟩, z6, z7, z8, z9, z10⟩ := box11z H2.out.1.rv
  go_wp2
  have hZ := H2.out.1.done a1 n1 c1 true (.int .i64 0) (.int .u64 0) (.int .i64 0) (.int .u64 0) (.string ⟨#[]⟩) (.string ⟨#[]⟩) (.int .i64 0) (.int .i64 0) (.float .f64 0) (.string ⟨#[]⟩) (.slice none 0 0)
  unfold sets11 at hZ
  clear y0 y1 y2 y3 q0 q1 q2 q3 s0 s1 s2 s3 s4 s5 s6 s7 s8 s9 s10 z0 z1 z2 z3 z4 z5 z6 z7 z8 z9 z10
  generalize World.setCell (World.setCell (World.setCell (World.setCell (World.setCell (World.setCell (World.setCell (World.setCell (World.setCell (World.setCell (World.setCell (World.setCell (World.setCell w2 _ _) _ _) _ _) _ _) _ _) _ _) _ _) _ _) _ _) _ _) _ _) _ _) _ _ = wz at *
  obtain ⟨r0, r1, _, _⟩ := block_cells hZ.r
  obtain ⟨s0, s1, s2, s3, s4, s5, s6, s7, s8, s9, s10⟩ := box11 hZ.v
  have HZ := Lib.hid hZ
  clear hZ
  refine bodyPost_ret (v := .tuple #[.agg #[.slice a1 n1 c1, .bool true], .agg #[.int .i64 0, .int .u64 0, .int .i64 0, .int .u64 0, .string ⟨#[]⟩, .string ⟨#[]⟩, .int .i64 0, .int .i64 0, .float .f64 0, .string ⟨#[]⟩, .slice none 0 0], .bool false]) (by simp [results, Tryz.results19, go_sem, *]) rfl ?_
  have hbz := H2.out.2.trans HZ.out.below
  exact ⟨a1, n1, c1, true, [], bytes_zero HB1.out, Hf1.out, H1.out.below.trans hbz, .inr ⟨noE_version (fun r h => by have := congrArg List.length h; rw [List.length_append] at this; have := form_pos 1; simp at *; omega), rfl⟩⟩

set_option maxRecDepth 100000 in
set_option maxHeartbeats 6400000 in
theorem er_ne (x : Nat) (l1 : List Nat) (hx : x ≠ 1) (hB : Bytes w a n c (x :: l1)) (hf : FormedK K a c) (hK : ∀ b, K b → b < w.heap.size) :
    Calls Tryz.prog 19 #[.agg #[.slice a n c, .bool false]] w (ErAny K w (x :: l1)) := by
  have h0 := eh_start w a n c
  have HI := Lib.hid (rtakeK_any K a n c false (x :: l1) 1 _ (hB.grow h0.below) hf (by omega) (by omega))
  have hn' : takeN (x :: l1) (!false) 1 = ([x], l1, true) := by unfold takeN; rw [if_pos ⟨rfl, by omega, by simp; omega⟩]; rfl
  rw [hn'] at HI
  have H0 := Lib.hid h0
  have HK := Lib.hid hK
  have hsz0 : (ehW w a n c).heap.size = w.heap.size + 3 := by simp
  have Hno := Lib.hid (noE_version (l := x :: l1) (fun r h => by rw [form_small (by omega)] at h; exact hx (List.cons.inj h).1))
  have hxi : ((x : Int) != 1) = true := by simp; omega
  clear h0 hn' hB hf hK hx
  have hfl : ∀ (w : World) (a : Addr) (m : Mode) (b : Nat), (store a (.float .f64 b) m).run Tryz.prog w = stored Tryz.prog w a (.float .f64 b) m := fun w a m b => run_store Tryz.prog w a _ m rfl
  go_enter Tryz.func19, Tryz.ntmps19
  go_wp2_with fail
  unfold ehW at HI H0 hsz0
  generalize ((w.alloc (.cells #[.slice a n c, .bool false] 42)).alloc (.cells #[.slice none 0 0, .bool false] 42)).alloc (.cells #[.int .i64 0, .int .u64 0, .int .i64 0, .int .u64 0, .string ⟨#[]⟩, .string ⟨#[]⟩, .int .i64 0, .int .i64 0, .float .f64 0, .string ⟨#[]⟩, .slice none 0 0] 28) = w0 at *
  refine HI.out.mono ?_
  rintro e w1 ⟨a1, n1, c1, p1, m1, cp1, rfl, hB1, hf1, hP1, hb1⟩
  have h1 := H0.out.below' hb1
  obtain ⟨y0, y1, y2, y3⟩ := block_cells h1.rd
  have HB1 := Lib.hid hB1
  have Hf1 := Lib.hid hf1
  have H1 := Lib.hid h1
  have HP1 := Lib.hid hP1
  have hsz1 : w.heap.size + 3 ≤ w1.heap.size := by have := hb1.size; omega
  clear h1 hB1 hf1 hb1 hP1
  go_upto_region 2 with fail
  have H2 := Lib.hid (H1.out.setR a1 n1 c1 false)
  have HP2 := Lib.hid ((HP1.out.setFar (fun hn _ hx => rd_other H1.out.rd HP1.out hn hx) (i := 0) (.slice a1 n1 c1)).setFar (fun hn _ hx => rd_other H1.out.rd HP1.out hn hx) (i := 1) (.bool false))
  clear y0 y1 y2 y3
  generalize (w1.setCell ⟨w.heap.size, 0, none⟩ (.slice a1 n1 c1)).setCell ⟨w.heap.size, 1, none⟩ (.bool false) = w2 at *
  obtain ⟨b0, o0, rfl, hc⟩ := HP2.out.cell (by rw [← HP2.out.len]; exact Nat.one_pos)
  have hm1 : m1 = 1 := by rw [← HP2.out.len]; rfl
  subst hm1
  have hc0 := hc 0 (by omega)
  have hcz : w2.cell? ⟨b0, o0, none⟩ = some (.int .u8 (x : Int)) := hc0
  clear hc hc0
  obtain ⟨y0, y1, y2, y3⟩ := block_cells H2.out.1.rd
  obtain ⟨q0, q1, q2, q3⟩ := block_cells H2.out.1.rr
  obtain ⟨s0, s1, s2, s3, s4, s5, s6, s7, s8, s9, s10⟩ := box11 H2.out.1.rv
  obtain ⟨⟨z0, z1, z2, z3, z4, z5⟩, z6, z7, z8, z9, z10⟩ := box11z H2.out.1.rv
  go_wp2
  have hZ := H2.out.1.done a1 n1 c1 false (.int .i64 0) (.int .u64 0) (.int .i64 0) (.int .u64 0) (.string ⟨#[]⟩) (.string ⟨#[]⟩) (.int .i64 0) (.int .i64 0) (.float .f64 0) (.string ⟨#[]⟩) (.slice none 0 0)
  unfold sets11 at hZ
  clear y0 y1 y2 y3 q0 q1 q2 q3 s0 s1 s2 s3 s4 s5 s6 s7 s8 s9 s10 z0 z1 z2 z3 z4 z5 z6 z7 z8 z9 z10
  generalize World.setCell (World.setCell (World.setCell (World.setCell (World.setCell (World.setCell (World.setCell (World.setCell (World.setCell (World.setCell (World.setCell (World.setCell (World.setCell w2 _ _) _ _) _ _) _ _) _ _) _ _) _ _) _ _) _ _) _ _) _ _) _ _) _ _ = wz at *
  obtain ⟨r0, r1, _, _⟩ := block_cells hZ.r
  obtain ⟨s0, s1, s2, s3, s4, s5, s6, s7, s8, s9, s10⟩ := box11 hZ.v
  have HZ := Lib.hid hZ
  clear hZ
  refine bodyPost_ret (v := .tuple #[.agg #[.slice a1 n1 c1, .bool false], .agg #[.int .i64 0, .int .u64 0, .int .i64 0, .int .u64 0, .string ⟨#[]⟩, .string ⟨#[]⟩, .int .i64 0, .int .i64 0, .float .f64 0, .string ⟨#[]⟩, .slice none 0 0], .bool false]) (by simp [results, Tryz.results19, go_sem, *]) rfl ?_
  have hbz := H2.out.2.trans HZ.out.below
  exact ⟨a1, n1, c1, false, l1, bytesB HB1.out Hf1.out HK.out hbz, Hf1.out, H1.out.below.trans hbz, .inr ⟨Hno.out, rfl⟩⟩

set_option maxRecDepth 100000 in
set_option maxHeartbeats 6400000 in
theorem er_nokind (x : Nat) (l1 l2 : List Nat) (ok : Bool) (hn : readN l1 true = (x, l2, ok)) (hk : ok = true → x < 1 ∨ 11 < x) (hno : NoE (1 :: l1)) (hB : Bytes w a n c (1 :: l1)) (hf : FormedK K a c) (hK : ∀ b, K b → b < w.heap.size) :
    Calls Tryz.prog 19 #[.agg #[.slice a n c, .bool false]] w (ErAny K w (1 :: l1)) := by
  have h0 := eh_start w a n c
  have HI := Lib.hid (rtakeK_any K a n c false (1 :: l1) 1 _ (hB.grow h0.below) hf (by omega) (by omega))
  have hn' : takeN (1 :: l1) (!false) 1 = ([1], l1, true) := by unfold takeN; rw [if_pos ⟨rfl, by omega, by simp; omega⟩]; rfl
  rw [hn'] at HI
  have H0 := Lib.hid h0
  have HK := Lib.hid hK
  have hsz0 : (ehW w a n c).heap.size = w.heap.size + 3 := by simp
  have Hn := Lib.hid hn
  have Hk := Lib.hid hk
  have Hno := Lib.hid hno
  clear h0 hn' hB hf hK hn hk hno
  have hfl : ∀ (w : World) (a : Addr) (m : Mode) (b : Nat), (store a (.float .f64 b) m).run Tryz.prog w = stored Tryz.prog w a (.float .f64 b) m := fun w a m b => run_store Tryz.prog w a _ m rfl
  go_enter Tryz.func19, Tryz.ntmps19
  go_wp2_with fail
  unfold ehW at HI H0 hsz0
  generalize ((w.alloc (.cells #[.slice a n c, .bool false] 42)).alloc (.cells #[.slice none 0 0, .bool false] 42)).alloc (.cells #[.int .i64 0, .int .u64 0, .int .i64 0, .int .u64 0, .string ⟨#[]⟩, .string ⟨#[]⟩, .int .i64 0, .int .i64 0, .float .f64 0, .string ⟨#[]⟩, .slice none 0 0] 28) = w0 at *
  refine HI.out.mono ?_
  rintro e w1 ⟨a1, n1, c1, p1, m1, cp1, rfl, hB1, hf1, hP1, hb1⟩
  have h1 := H0.out.below' hb1
  obtain ⟨y0, y1, y2, y3⟩ := block_cells h1.rd
  have HB1 := Lib.hid hB1
  have Hf1 := Lib.hid hf1
  have H1 := Lib.hid h1
  have HP1 := Lib.hid hP1
  have hsz1 : w.heap.size + 3 ≤ w1.heap.size := by have := hb1.size; omega
  clear h1 hB1 hf1 hb1 hP1
  go_upto_region 2 with fail
  have H2 := Lib.hid (H1.out.setR a1 n1 c1 false)
  have HP2 := Lib.hid ((HP1.out.setFar (fun hn _ hx => rd_other H1.out.rd HP1.out hn hx) (i := 0) (.slice a1 n1 c1)).setFar (fun hn _ hx => rd_other H1.out.rd HP1.out hn hx) (i := 1) (.bool false))
  clear y0 y1 y2 y3
  generalize (w1.setCell ⟨w.heap.size, 0, none⟩ (.slice a1 n1 c1)).setCell ⟨w.heap.size, 1, none⟩ (.bool false) = w2 at *
  obtain ⟨b0, o0, rfl, hc⟩ := HP2.out.cell (by rw [← HP2.out.len]; exact Nat.one_pos)
  have hm1 : m1 = 1 := by rw [← HP2.out.len]; rfl
  subst hm1
  have hc0 := hc 0 (by omega)
  have hcz : w2.cell? ⟨b0, o0, none⟩ = some (.int .u8 1) := hc0
  clear hc hc0
  have HB2 := Lib.hid (bytesB HB1.out Hf1.out HK.out H2.out.2)
  have HU := Lib.hid (readUintK_any K a1 n1 c1 false l1 w2 HB2.out Hf1.out)
  have hn'' : readN l1 (!false) = (x, l2, ok) := Hn.out
  rw [hn''] at HU
  clear hn''
  obtain ⟨y0, y1, y2, y3⟩ := block_cells H2.out.1.rd
  go_wp2_with fail
  refine HU.out.mono ?_
  rintro e w3 ⟨a3, n3, c3, rfl, hB3, hf3, hb3⟩
  have h3 := H2.out.1.below' hb3
  clear y0 y1 y2 y3
  obtain ⟨y0, y1, y2, y3⟩ := block_cells h3.rd
  have HB3 := Lib.hid hB3
  have Hf3 := Lib.hid hf3
  have H3 := Lib.hid h3
  have Hs3 := Lib.hid (show w.heap.size + 3 ≤ w3.heap.size from by have := hb3.size; have := H2.out.2.size; omega)
  clear h3 hB3 hf3 hb3 hcz
  go_upto_region 5 with fail
  have H4 := Lib.hid (H3.out.setR a3 n3 c3 (!ok))
  clear y0 y1 y2 y3
  have hsz4 : ((w3.setCell ⟨w.heap.size, 0, none⟩ (.slice a3 n3 c3)).setCell ⟨w.heap.size, 1, none⟩ (.bool (!ok))).heap.size = w3.heap.size := by simp
  have Hsz4 := Lib.hid hsz4
  clear hsz4
  generalize (w3.setCell ⟨w.heap.size, 0, none⟩ (.slice a3 n3 c3)).setCell ⟨w.heap.size, 1, none⟩ (.bool (!ok)) = w4 at *
  cases ok with
  | false =>
    obtain ⟨y0, y1, y2, y3⟩ := block_cells H4.out.1.rd
    obtain ⟨q0, q1, q2, q3⟩ := block_cells H4.out.1.rr
    obtain ⟨s0, s1, s2, s3, s4, s5, s6, s7, s8, s9, s10⟩ := box11 H4.out.1.rv
    obtain ⟨⟨z0, z1, z2, z3, z4, z5⟩, z6, z7, z8, z9, z10⟩ := box11z H4.out.1.rv
    go_wp2
    have hZ := H4.out.1.done a3 n3 c3 true (.int .i64 0) (.int .u64 0) (.int .i64 0) (.int .u64 0) (.string ⟨#[]⟩) (.string ⟨#[]⟩) (.int .i64 0) (.int .i64 0) (.float .f64 0) (.string ⟨#[]⟩) (.slice none 0 0)
    unfold sets11 at hZ
    clear y0 y1 y2 y3 q0 q1 q2 q3 s0 s1 s2 s3 s4 s5 s6 s7 s8 s9 s10 z0 z1 z2 z3 z4 z5 z6 z7 z8 z9 z10
    generalize World.setCell (World.setCell (World.setCell (World.setCell (World.setCell (World.setCell (World.setCell (World.setCell (World.setCell (World.setCell (World.setCell (World.setCell (World.setCell w4 _ _) _ _) _ _) _ _) _ _) _ _) _ _) _ _) _ _) _ _) _ _) _ _) _ _ = wz at *
    obtain ⟨r0, r1, _, _⟩ := block_cells hZ.r
    obtain ⟨s0, s1, s2, s3, s4, s5, s6, s7, s8, s9, s10⟩ := box11 hZ.v
    have HZ := Lib.hid hZ
    clear hZ
    refine bodyPost_ret (v := .tuple #[.agg #[.slice a3 n3 c3, .bool true], .agg #[.int .i64 0, .int .u64 0, .int .i64 0, .int .u64 0, .string ⟨#[]⟩, .string ⟨#[]⟩, .int .i64 0, .int .i64 0, .float .f64 0, .string ⟨#[]⟩, .slice none 0 0], .bool false]) (by simp [results, Tryz.results19, go_sem, *]) rfl ?_
    have hbz := H4.out.2.trans HZ.out.below
    exact ⟨a3, n3, c3, true, l2, bytesB HB3.out Hf3.out HK.out hbz, Hf3.out, H3.out.below.trans hbz, .inr ⟨Hno.out, rfl⟩⟩
  | true =>
    rcases Hk.out rfl with hx | hx
    · have hxi : (x : Int) < 1 := by omega
      obtain ⟨y0, y1, y2, y3⟩ := block_cells H4.out.1.rd
      obtain ⟨q0, q1, q2, q3⟩ := block_cells H4.out.1.rr
      obtain ⟨s0, s1, s2, s3, s4, s5, s6, s7, s8, s9, s10⟩ := box11 H4.out.1.rv
      obtain ⟨⟨z0, z1, z2, z3, z4, z5⟩, z6, z7, z8, z9, z10⟩ := box11z H4.out.1.rv
      go_wp2
      have hZ := H4.out.1.done a3 n3 c3 false (.int .i64 0) (.int .u64 0) (.int .i64 0) (.int .u64 0) (.string ⟨#[]⟩) (.string ⟨#[]⟩) (.int .i64 0) (.int .i64 0) (.float .f64 0) (.string ⟨#[]⟩) (.slice none 0 0)
      unfold sets11 at hZ
      clear y0 y1 y2 y3 q0 q1 q2 q3 s0 s1 s2 s3 s4 s5 s6 s7 s8 s9 s10 z0 z1 z2 z3 z4 z5 z6 z7 z8 z9 z10
      generalize World.setCell (World.setCell (World.setCell (World.setCell (World.setCell (World.setCell (World.setCell (World.setCell (World.setCell (World.setCell (World.setCell (World.setCell (World.setCell w4 _ _) _ _) _ _) _ _) _ _) _ _) _ _) _ _) _ _) _ _) _ _) _ _) _ _ = wz at *
      obtain ⟨r0, r1, _, _⟩ := block_cells hZ.r
      obtain ⟨s0, s1, s2, s3, s4, s5, s6, s7, s8, s9, s10⟩ := box11 hZ.v
      have HZ := Lib.hid hZ
      clear hZ
      refine bodyPost_ret (v := .tuple #[.agg #[.slice a3 n3 c3, .bool false], .agg #[.int .i64 0, .int .u64 0, .int .i64 0, .int .u64 0, .string ⟨#[]⟩, .string ⟨#[]⟩, .int .i64 0, .int .i64 0, .float .f64 0, .string ⟨#[]⟩, .slice none 0 0], .bool false]) (by simp [results, Tryz.results19, go_sem, *]) rfl ?_
      have hbz := H4.out.2.trans HZ.out.below
      exact ⟨a3, n3, c3, false, l2, bytesB HB3.out Hf3.out HK.out hbz, Hf3.out, H3.out.below.trans hbz, .inr ⟨Hno.out, rfl⟩⟩
    · have hxi : (11 : Int) < (x : Int) := by omega
      have hxj : ¬ (x : Int) < 1 := by omega
      obtain ⟨y0, y1, y2, y3⟩ := block_cells H4.out.1.rd
      obtain ⟨q0, q1, q2, q3⟩ := block_cells H4.out.1.rr
      obtain ⟨s0, s1, s2, s3, s4, s5, s6, s7, s8, s9, s10⟩ := box11 H4.out.1.rv
      obtain ⟨⟨z0, z1, z2, z3, z4, z5⟩, z6, z7, z8, z9, z10⟩ := box11z H4.out.1.rv
      go_wp2
      have hZ := H4.out.1.done a3 n3 c3 false (.int .i64 0) (.int .u64 0) (.int .i64 0) (.int .u64 0) (.string ⟨#[]⟩) (.string ⟨#[]⟩) (.int .i64 0) (.int .i64 0) (.float .f64 0) (.string ⟨#[]⟩) (.slice none 0 0)
      unfold sets11 at hZ
      clear y0 y1 y2 y3 q0 q1 q2 q3 s0 s1 s2 s3 s4 s5 s6 s7 s8 s9 s10 z0 z1 z2 z3 z4 z5 z6 z7 z8 z9 z10
      generalize World.setCell (World.setCell (World.setCell (World.setCell (World.setCell (World.setCell (World.setCell (World.setCell (World.setCell (World.setCell (World.setCell (World.setCell (World.setCell w4 _ _) _ _) _ _) _ _) _ _) _ _) _ _) _ _) _ _) _ _) _ _) _ _) _ _ = wz at *
      obtain ⟨r0, r1, _, _⟩ := block_cells hZ.r
      obtain ⟨s0, s1, s2, s3, s4, s5, s6, s7, s8, s9, s10⟩ := box11 hZ.v
      have HZ := Lib.hid hZ
      clear hZ
      refine bodyPost_ret (v := .tuple #[.agg #[.slice a3 n3 c3, .bool false], .agg #[.int .i64 0, .int .u64 0, .int .i64 0, .int .u64 0, .string ⟨#[]⟩, .string ⟨#[]⟩, .int .i64 0, .int .i64 0, .float .f64 0, .string ⟨#[]⟩, .slice none 0 0], .bool false]) (by simp [results, Tryz.results19, go_sem, *]) rfl ?_
      have hbz := H4.out.2.trans HZ.out.below
      exact ⟨a3, n3, c3, false, l2, bytesB HB3.out Hf3.out HK.out hbz, Hf3.out, H3.out.below.trans hbz, .inr ⟨Hno.out, rfl⟩⟩
end
end Go.Proofs.YtmcdfmhciinocaaGreatDoor

/- The states of the reference's Read of an event, between two letters: plain. -/
namespace Go.Proofs.YtmcdfmhciinocaaGreatDoor
open Go.RowKit Go.Shelf Fl

/-- The bounds of an event that is being read. -/
structure QB (x : Nat) (q : Ev) : Prop where
  k : q.k = (x : Int)
  id : q.id < 18446744073709551616
  n : 0 ≤ q.n ∧ q.n ≤ 1099511627776
  t : q.t < 18446744073709551616
  nm : (∀ c ∈ q.nm, c < 256) ∧ q.nm.length ≤ 1000000
  tx : (∀ c ∈ q.tx, c < 256) ∧ q.tx.length ≤ 1000000

/-- How far the reading has come: on the way, or at no event. -/
def St (L l2 : List Nat) (x j : Nat) (q : Ev) (lj : List Nat) (bad okv : Bool) : Prop :=
  (j ≤ 5 → okv = true ∧ lj.length ≤ 1000000) ∧ ((bad = false ∧ okv = true ∧ Dec2 (x : Int) l2 j q lj) ∨ (NoE L ∧ (bad = true ∨ okv = false ∨ (2 ≤ j ∧ 2147483647 < q.n))))

theorem readN_len (l : List Nat) (ok : Bool) : (readN l ok).2.1.length ≤ l.length := by
  unfold readN
  split
  · show (l.drop _).length ≤ _; rw [List.length_drop]; omega
  · exact Nat.le_refl _
theorem readB_len (l : List Nat) (ok : Bool) : (readB l ok).2.1.length ≤ l.length ∧ (readB l ok).1.length ≤ l.length ∧ ∀ c ∈ (readB l ok).1, c ∈ l := by
  unfold readB
  split
  · refine ⟨?_, ?_, fun c hc => List.mem_of_mem_drop (List.mem_of_mem_take hc)⟩
    · show (l.drop _).length ≤ _; rw [List.length_drop]; omega
    · show ((l.drop _).take _).length ≤ _; rw [List.length_take, List.length_drop]; omega
  · exact ⟨Nat.le_refl _, Nat.zero_le _, fun c hc => by cases hc⟩

section
variable {l2 lj l' : List Nat} {x j : Nat} {q : Ev} {bad okv ok : Bool}

theorem St.skip {L : List Nat} (h : St L l2 x j q lj bad okv) (hm : j ∉ evFields (x : Int)) : St L l2 x (j + 1) q lj bad okv := by
  obtain ⟨h1, h2⟩ := h
  refine ⟨fun hj => h1 (by omega), h2.imp (fun ⟨a, b, c⟩ => ⟨a, b, c.skip hm⟩) (fun ⟨a, b⟩ => ⟨a, b.imp id (fun b => b.imp id (fun ⟨c, d⟩ => ⟨by omega, d⟩))⟩)⟩

/-- A field that is a number. -/
theorem St.num (hx : x < 18446744073709551616) (h : St (form 1 ++ (form x ++ l2)) l2 x j q lj bad okv) (hj : j < 6) (_ : j ≠ 1) (hm : j ∈ evFields (x : Int)) {y : Nat} {q' : Ev} (hb : ∀ c ∈ lj, c < 256) (hr : readN lj (!bad) = (y, l', ok))
    (hq : ∀ z r, z < 18446744073709551616 → lj = form z ++ r → z = y → FldOk j lj q q' r) (hno : (∀ z r, z < 18446744073709551616 → lj ≠ form z ++ r) → FldNo j lj) (hn : q'.n = q.n) : St (form 1 ++ (form x ++ l2)) l2 x (j + 1) q' l' (!ok) okv := by
  obtain ⟨h1, h2⟩ := h
  have hl := readN_len lj (!bad)
  rw [hr] at hl
  refine ⟨fun hj5 => ⟨(h1 (by omega)).1, Nat.le_trans hl (h1 (by omega)).2⟩, ?_⟩
  rcases h2 with ⟨rfl, hok, hd⟩ | ⟨hN, hc⟩
  · rcases readN_only hb with ⟨z, r, hz, e⟩ | ⟨hn', hno'⟩
    · have e2 : readN lj true = (z, r, true) := by rw [e]; exact readN_form hz r
      rw [show (!false) = true from rfl, e2] at hr
      obtain ⟨rfl, rfl, rfl⟩ : z = y ∧ r = l' ∧ true = ok := by simpa using hr
      exact .inl ⟨rfl, hok, hd.step hj hm (hq z r hz e rfl)⟩
    · rw [show (!false) = true from rfl, hn'] at hr
      obtain ⟨_, _, rfl⟩ : 0 = y ∧ lj = l' ∧ false = ok := by simpa using hr
      exact .inr ⟨hd.no hx hj hm (hno hno'), .inl rfl⟩
  · refine .inr ⟨hN, ?_⟩
    rcases hc with rfl | hc | ⟨c1, c2⟩
    · have e2 : readN lj (!true) = (0, lj, false) := by unfold readN; rw [if_neg (fun h => by cases h.1)]
      rw [e2] at hr
      obtain ⟨_, _, rfl⟩ : 0 = y ∧ lj = l' ∧ false = ok := by simpa using hr
      exact .inl rfl
    · exact .inr (.inl hc)
    · exact .inr (.inr ⟨by omega, by rw [hn]; exact c2⟩)

/-- The number of the attempt. -/
theorem St.att (hx : x < 18446744073709551616) (h : St (form 1 ++ (form x ++ l2)) l2 x 1 q lj bad okv) (hm : 1 ∈ evFields (x : Int)) {y : Nat} (hb : ∀ c ∈ lj, c < 256) (hr : readN lj (!bad) = (y, l', ok)) :
    St (form 1 ++ (form x ++ l2)) l2 x 2 { q with n := ((min y 1099511627776 : Nat) : Int) } l' (!ok) okv := by
  obtain ⟨h1, h2⟩ := h
  have hl := readN_len lj (!bad)
  rw [hr] at hl
  refine ⟨fun hj5 => ⟨(h1 (by omega)).1, Nat.le_trans hl (h1 (by omega)).2⟩, ?_⟩
  rcases h2 with ⟨rfl, hok, hd⟩ | ⟨hN, hc⟩
  · rcases readN_only hb with ⟨z, r, hz, e⟩ | ⟨hn', hno'⟩
    · have e2 : readN lj true = (z, r, true) := by rw [e]; exact readN_form hz r
      rw [show (!false) = true from rfl, e2] at hr
      obtain ⟨rfl, rfl, rfl⟩ : z = y ∧ r = l' ∧ true = ok := by simpa using hr
      by_cases hs : z ≤ 2147483647
      · refine .inl ⟨rfl, hok, hd.step (by omega) hm ⟨?_, rfl, fun i hi hne => ?_, fun h => { h with n := (show (0 : Int) ≤ ((min z 1099511627776 : Nat) : Int) ∧ ((min z 1099511627776 : Nat) : Int) ≤ 2147483647 by omega) }⟩⟩
        · show lj = form ((min z 1099511627776 : Nat) : Int).toNat ++ r
          rw [Int.toNat_natCast, Nat.min_eq_left (by omega)]
          exact e
        · match i, hi, hne with
          | 1, _, h => exact absurd rfl h
          | 0, _, _ | 2, _, _ | 3, _, _ | 4, _, _ | 5, _, _ => exact ⟨rfl, rfl⟩
      · refine .inr ⟨hd.no hx (by omega) hm (fun e' r' hb' hr' hq' => ?_), .inr (.inr ⟨Nat.le_refl _, (show (2147483647 : Int) < ((min z 1099511627776 : Nat) : Int) by omega)⟩)⟩
        have h5 : 1 ≤ e'.n ∧ e'.n ≤ 2147483647 := by simpa [rightE] using hr'
        rw [e] at hq'
        obtain ⟨e2, _⟩ := form_split (y := e'.n.toNat) hz (by omega) hq'
        omega
    · rw [show (!false) = true from rfl, hn'] at hr
      obtain ⟨_, _, rfl⟩ : 0 = y ∧ lj = l' ∧ false = ok := by simpa using hr
      refine .inr ⟨hd.no hx (by omega) hm (fun e' r' hb' hr' hq' => ?_), .inl rfl⟩
      have h5 : 1 ≤ e'.n ∧ e'.n ≤ 2147483647 := by simpa [rightE] using hr'
      exact hno' e'.n.toNat _ (by omega) hq'
  · refine .inr ⟨hN, ?_⟩
    rcases hc with rfl | hc | ⟨c1, c2⟩
    · have e2 : readN lj (!true) = (0, lj, false) := by unfold readN; rw [if_neg (fun h => by cases h.1)]
      rw [e2] at hr
      obtain ⟨_, _, rfl⟩ : 0 = y ∧ lj = l' ∧ false = ok := by simpa using hr
      exact .inl rfl
    · exact .inr (.inl hc)
    · omega

/-- A field that is a string. -/
theorem St.str (hx : x < 18446744073709551616) (h : St (form 1 ++ (form x ++ l2)) l2 x j q lj bad okv) (hj : 2 ≤ j ∧ j < 6) (hm : j ∈ evFields (x : Int)) {s : List Nat} {q' : Ev} (hb : ∀ c ∈ lj, c < 256) (hr : readB lj (!bad) = (s, l', ok))
    (hq : ∀ z r, z.length < 18446744073709551616 → lj = formB z ++ r → z = s → FldOk j lj q q' r) (hno : (∀ z r, z.length < 18446744073709551616 → lj ≠ formB z ++ r) → FldNo j lj) (hn : q'.n = q.n) : St (form 1 ++ (form x ++ l2)) l2 x (j + 1) q' l' (!ok) okv := by
  obtain ⟨h1, h2⟩ := h
  have hl := (readB_len lj (!bad)).1
  rw [hr] at hl
  refine ⟨fun hj5 => ⟨(h1 (by omega)).1, Nat.le_trans hl (h1 (by omega)).2⟩, ?_⟩
  rcases h2 with ⟨rfl, hok, hd⟩ | ⟨hN, hc⟩
  · rcases readB_only hb with ⟨z, r, hz, e⟩ | ⟨hn', hno'⟩
    · have e2 : readB lj true = (z, r, true) := by rw [e]; exact readB_form hz r
      rw [show (!false) = true from rfl, e2] at hr
      obtain ⟨rfl, rfl, rfl⟩ : z = s ∧ r = l' ∧ true = ok := by simpa using hr
      exact .inl ⟨rfl, hok, hd.step (by omega) hm (hq z r hz e rfl)⟩
    · rw [show (!false) = true from rfl, hn'] at hr
      obtain ⟨_, _, rfl⟩ : [] = s ∧ lj = l' ∧ false = ok := by simpa using hr
      exact .inr ⟨hd.no hx (by omega) hm (hno hno'), .inl rfl⟩
  · refine .inr ⟨hN, ?_⟩
    rcases hc with rfl | hc | ⟨c1, c2⟩
    · have e2 : readB lj (!true) = ([], lj, false) := by unfold readB; rw [if_neg (fun h => by cases h.1)]
      rw [e2] at hr
      obtain ⟨_, _, rfl⟩ : [] = s ∧ lj = l' ∧ false = ok := by simpa using hr
      exact .inl rfl
    · exact .inr (.inl hc)
    · exact .inr (.inr ⟨by omega, by rw [hn]; exact c2⟩)

/-- The value, where it is there. -/
theorem St.val (_ : x < 18446744073709551616) (h : St (form 1 ++ (form x ++ l2)) l2 x 5 q lj false okv) (hm : 5 ∈ evFields (x : Int)) {u : V} (hi : IsV 8 lj u l') :
    St (form 1 ++ (form x ++ l2)) l2 x 6 { q with v := u } l' false true := by
  obtain ⟨h1, h2⟩ := h
  refine ⟨fun hj5 => by omega, ?_⟩
  rcases h2 with ⟨_, hok, hd⟩ | ⟨hN, hc⟩
  · refine .inl ⟨rfl, rfl, hd.step (by omega) hm ⟨hi.2.2, rfl, fun i hi' hne => ?_, fun h => { h with v := hi.2.1, r := hi.1 }⟩⟩
    match i, hi', hne with
    | 5, _, h => exact absurd rfl h
    | 0, _, _ | 1, _, _ | 2, _, _ | 3, _, _ | 4, _, _ => exact ⟨rfl, rfl⟩
  · refine .inr ⟨hN, ?_⟩
    rcases hc with hc | hc | ⟨c1, c2⟩
    · cases hc
    · rw [(h1 (by omega)).1] at hc; cases hc
    · exact .inr (.inr ⟨by omega, c2⟩)

/-- The value, where it is not there. -/
theorem St.noval (hx : x < 18446744073709551616) (h : St (form 1 ++ (form x ++ l2)) l2 x 5 q lj bad okv) (hm : 5 ∈ evFields (x : Int)) (hno : bad = false → NoV 8 lj) (q' : Ev) (l' : List Nat) (bad' : Bool) :
    St (form 1 ++ (form x ++ l2)) l2 x 6 q' l' bad' false := by
  obtain ⟨h1, h2⟩ := h
  refine ⟨fun hj5 => by omega, .inr ⟨?_, .inr (.inl rfl)⟩⟩
  rcases h2 with ⟨hb, hok, hd⟩ | ⟨hN, _⟩
  · exact hd.no hx (by omega) hm (fun e' r' hb' hr' hq' => hno hb _ _ ⟨by simpa [rightE] using hr', hb'.v, hq'⟩)
  · exact hN
end
end Go.Proofs.YtmcdfmhciinocaaGreatDoor

