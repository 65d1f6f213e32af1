import Derived.Test.YtcapbaocchaenaaGreatSR36
import Derived.Test.YtcapbaocchaenaaGreatSR2
import Derived.Lib.Hide
import Derived.Test.YtcapbaocchaenaaGreatSR21
import Derived.Test.YtcapbaocchaenaaGreatSR14
import Derived.Test.YtcapbaocchaenaaGreatSR27
import Derived.Test.YtcapbaocchaenaaGreatSR20
import Derived.Test.YtcapbaocchaenaaGreatSR32
import Derived.Test.YtcapbaocchaenaaGreatSR31
/- The walk of the reference's read and Read of a value, whatever the bytes. -/
namespace Go.Proofs.YtcapbaocchaenaaGreat
open Go.RowKit Go.Shelf Fl

theorem rr_atom (K : Nat → Prop) (t : Nat) (l : List Nat) (a : Option Addr) (n c : Nat) (w : World) (hl : l.length ≤ 100000000000) (hK : ∀ b, K b → b < w.heap.size) (hB : Bytes w a n c l) (hf : FormedK K a c) (h4 : ¬ ∃ r, l = form 4 ++ r) :
    Calls Tryz.prog 82 #[.agg #[.slice a n c, .bool false], .int .i64 (t : Int)] w (RrAny K w t l) := by
  have hb := hB.byte
  rcases readN_only hb with ⟨x, l1, hx, rfl⟩ | ⟨hn, hno⟩
  · have hb1 : ∀ c ∈ l1, c < 256 := fun c hc => hb c (List.mem_append.2 (.inr hc))
    have hl1 : l1.length ≤ 100000000000 := by rw [List.length_append] at hl; omega
    by_cases x0 : x = 0
    · subst x0; exact rr_nil K a n c t w t l1 hB hf hK
    by_cases x1 : x = 1
    · subst x1
      rcases readN_only hb1 with ⟨y, l2, hy, rfl⟩ | ⟨hn, hno⟩
      · exact rr_int K a n c t w t y _ l2 true (readN_form hy l2) hy (fun _ => rfl) (fun h => by cases h) hB hf hK
      · exact rr_int K a n c t w t 0 l1 l1 false hn (by omega) (fun h => by cases h) (fun _ => noV_int hno) hB hf hK
    by_cases x2 : x = 2
    · subst x2
      by_cases h8 : l1.length < 8
      · exact rr_short K a n c t w t l1 (by unfold takeN; rw [if_neg (fun k => by have := k.2.2; omega)]) (noV_short h8) hB hf hK
      obtain ⟨y, hy, e8⟩ := be8_onto (b := l1.take 8) (by rw [List.length_take]; omega) (fun c hc => hb1 c (List.mem_of_mem_take hc))
      obtain ⟨l2, rfl⟩ : ∃ l2, l1 = be8 y ++ l2 := ⟨l1.drop 8, by rw [← e8, List.take_append_drop]⟩
      exact rr_eight K a n c t w t y l2 hy hB hf hK
    by_cases x3 : x = 3
    · subst x3
      rcases readB_only hb1 with ⟨s, l2, hs, rfl⟩ | ⟨hn, hno⟩
      · have hs8 : ∀ c ∈ s, c < 256 := fun c hc => hb1 c (by unfold formB; simp [hc])
        have hsl : s.length ≤ 100000000000 := by rw [List.length_append] at hl1; unfold formB at hl1; rw [List.length_append] at hl1; omega
        exact rr_text K a n c t w t s _ l2 true (readB_form hs l2) hs8 hsl (fun _ => rfl) (fun h => by cases h) hB hf hK
      · exact rr_text K a n c t w t [] l1 l1 false hn (fun x hx => by cases hx) (by simp) (fun h => by cases h) (fun _ => noV_text hno) hB hf hK
    have x4 : x ≠ 4 := fun e => h4 ⟨l1, by rw [e]⟩
    exact rr_big K a n c t w t x l1 hx (by omega) (noV_big hx (by omega)) hB hf hK
  · exact rr_bad0 K a n c t w t l hn (noV_bad hno) hB hf hK

theorem rr_any (t : Nat) (ht : t ≤ 1000) : RrV t := by
  induction t with
  | zero =>
    intro K l a n c w hl hK hB hf
    by_cases h4 : ∃ r, l = form 4 ++ r
    · obtain ⟨r, rfl⟩ := h4
      obtain ⟨y, l2, ok, hn⟩ : ∃ y l2 ok, readN r true = (y, l2, ok) := ⟨_, _, _, rfl⟩
      exact rr_deep K a n c w y r l2 ok hn hB hf hK
    · exact rr_atom K 0 l a n c w hl hK hB hf h4
  | succ t ih =>
    intro K l a n c w hl hK hB hf
    by_cases h4 : ∃ r, l = form 4 ++ r
    · obtain ⟨r, rfl⟩ := h4
      have hb1 : ∀ c ∈ r, c < 256 := fun c hc => hB.byte c (List.mem_append.2 (.inr hc))
      rcases readN_only hb1 with ⟨m, l2, hm, rfl⟩ | ⟨hn, hno⟩
      · exact rr_list K a n c ((t + 1 : Nat) : Int) w t m l2 hm (ih (by omega)) (beq_eq_false_iff_ne.2 (by omega)) (by omega) (by omega) (by rw [List.length_append, List.length_append] at hl; omega) hB hf hK
      · exact rr_count K a n c ((t + 1 : Nat) : Int) w (t + 1) 0 r r false hn rfl rfl (beq_eq_false_iff_ne.2 (by omega)) (noV_count hno) hB hf hK
    · exact rr_atom K (t + 1) l a n c w hl hK hB hf h4

set_option maxRecDepth 100000 in
theorem rread04_any (K : Nat → Prop) (l : List Nat) (a : Option Addr) (n c : Nat) (w : World) (hl : l.length ≤ 100000000000) (hK : ∀ b, K b → b < w.heap.size) (hB : Bytes w a n c l) (hf : FormedK K a c) :
    Calls Tryz.prog 60 #[.agg #[.slice a n c, .bool false]] w (RrAny K w 8 l) := by
  have h0 := rh_start w a n c false
  have HA := Lib.hid (fun W (hW : Below w.heap.size w W) => rr_any 8 (by omega) K l a n c W hl (fun b hb => Nat.lt_of_lt_of_le (hK b hb) hW.size) (hB.grow hW) hf)
  have HK := Lib.hid hK
  have H0 := Lib.hid h0
  have hsz0 : (((w.alloc (.cells #[.slice a n c, .bool false] 55)).alloc (.cells #[.slice none 0 0, .bool false] 55)).alloc (.cells #[.int .i64 0, .int .i64 0, .float .f64 0, .string ⟨#[]⟩, .slice none 0 0] 41)).heap.size = w.heap.size + 3 := by simp
  clear hl hK hB hf h0
  have hfl : ∀ (w : World) (a : Addr) (m : Mode) (b : Nat), (store a (.float .f64 b) m).run Tryz.prog w = stored Tryz.prog w a (.float .f64 b) m := fun w a m b => run_store Tryz.prog w a _ m rfl
  go_enter Tryz.func60, Tryz.ntmps60
  go_wp2_with fail
  generalize (((w.alloc (.cells #[.slice a n c, .bool false] 55)).alloc (.cells #[.slice none 0 0, .bool false] 55)).alloc (.cells #[.int .i64 0, .int .i64 0, .float .f64 0, .string ⟨#[]⟩, .slice none 0 0] 41)) = w0 at *
  refine (HA.out _ H0.out.below).mono ?_
  rintro e w1 ⟨a1, n1, c1, bad, ls, hBs, hfs, hbs, ⟨u, av, cap, rfl, rfl, hv, hiv⟩ | ⟨hno, rfl⟩⟩
  · have Hv := Lib.hid hv
    have Hiv := Lib.hid hiv
    clear hv hiv
    have h1 := H0.out.below' hbs
    obtain ⟨q0, q1, q2, q3⟩ := block_cells h1.rr
    have hrv : w1.heap[w.heap.size + 1 + 1]? = some (.cells #[.int .i64 0, .int .i64 0, .float .f64 0, .string ⟨#[]⟩, .slice none 0 0] 41 (0, 0)) := h1.rv
    obtain ⟨⟨s0, s1, s2, s3, s4⟩, ⟨u0, u1, u2, u3, u4⟩⟩ := res_cells hrv
    have H1 := Lib.hid h1
    have HBs := Lib.hid hBs
    have Hfs := Lib.hid hfs
    clear hrv h1 hBs hfs hbs
    unfold cells5
    go_wp2
    have hZ := H1.out.done a1 n1 c1 false (.int .i64 u.kind) (.int .i64 u.n) (.float .f64 u.f) (.string (str u.s)) (.slice av u.l.length cap)
    unfold sets7 at hZ
    clear q0 q1 q2 q3 s0 s1 s2 s3 s4 u0 u1 u2 u3 u4
    generalize World.setCell (World.setCell (World.setCell (World.setCell (World.setCell (World.setCell (World.setCell w1 _ _) _ _) _ _) _ _) _ _) _ _) _ _ = wz at *
    obtain ⟨⟨r0, r1⟩, r2, r3, r4, r5, r6⟩ := hZ.cells
    have HZ := Lib.hid hZ
    clear hZ
    refine bodyPost_ret (v := .tuple #[.agg #[.slice a1 n1 c1, .bool false], .agg #[.int .i64 u.kind, .int .i64 u.n, .float .f64 u.f, .string (str u.s), .slice av u.l.length cap], .bool true]) (by simp [results, Tryz.results60, go_sem, *]) rfl ?_
    have hbz := HZ.out.below
    exact ⟨a1, n1, c1, false, ls, bytesB HBs.out Hfs.out HK.out hbz, Hfs.out, H1.out.below.trans hbz, .inl ⟨u, av, cap, rfl, rfl, VInP.turn (fun b hb => ⟨by omega, by have := hbz.size; omega⟩) (fun p hp => by unfold World.cell?; rw [HZ.out.far p.block (by omega)]) u _ Hv.out, Hiv.out⟩⟩
  · have Hno := Lib.hid hno
    clear hno
    have h1 := H0.out.below' hbs
    obtain ⟨q0, q1, q2, q3⟩ := block_cells h1.rr
    have hrv : w1.heap[w.heap.size + 1 + 1]? = some (.cells #[.int .i64 0, .int .i64 0, .float .f64 0, .string ⟨#[]⟩, .slice none 0 0] 41 (0, 0)) := h1.rv
    obtain ⟨⟨s0, s1, s2, s3, s4⟩, ⟨u0, u1, u2, u3, u4⟩⟩ := res_cells hrv
    have H1 := Lib.hid h1
    have HBs := Lib.hid hBs
    have Hfs := Lib.hid hfs
    clear hrv h1 hBs hfs hbs
    unfold cells5
    go_wp2
    have hZ := H1.out.done a1 n1 c1 bad (.int .i64 0) (.int .i64 0) (.float .f64 0) (.string (str [])) (.slice none 0 0)
    unfold sets7 at hZ
    clear q0 q1 q2 q3 s0 s1 s2 s3 s4 u0 u1 u2 u3 u4
    generalize World.setCell (World.setCell (World.setCell (World.setCell (World.setCell (World.setCell (World.setCell w1 _ _) _ _) _ _) _ _) _ _) _ _) _ _ = wz at *
    obtain ⟨⟨r0, r1⟩, r2, r3, r4, r5, r6⟩ := hZ.cells
    have HZ := Lib.hid hZ
    clear hZ
    refine bodyPost_ret (v := .tuple #[.agg #[.slice a1 n1 c1, .bool bad], .agg #[.int .i64 0, .int .i64 0, .float .f64 0, .string (str []), .slice none 0 0], .bool false]) (by simp [results, Tryz.results60, go_sem, *]) rfl ?_
    have hbz := HZ.out.below
    exact ⟨a1, n1, c1, bad, ls, bytesB HBs.out Hfs.out HK.out hbz, Hfs.out, H1.out.below.trans hbz, .inr ⟨Hno.out, rfl⟩⟩
end Go.Proofs.YtcapbaocchaenaaGreat

/- The walk of the reference's Read of a value, where a read has failed before. -/
namespace Go.Proofs.YtcapbaocchaenaaGreat
open Go.RowKit Go.Shelf Fl

def RrBad (K : Nat → Prop) (w : World) (l : List Nat) (e : Ending) (w' : World) : Prop :=
  ∃ (a : Option Addr) (n c : Nat), Bytes w' a n c l ∧ FormedK K a c ∧ Below w.heap.size w w' ∧ e = .returned (.tuple #[.agg #[.slice a n c, .bool true], .agg (cells5 0 0 0 [] none 0 0), .bool false])

section
variable (K : Nat → Prop) (a : Option Addr) (n c : Nat) (T : Int) (w : World)

set_option maxRecDepth 100000 in
set_option maxHeartbeats 3200000 in
theorem rr_badR (l : List Nat) (hB : Bytes w a n c l) (hf : FormedK K a c) (hK : ∀ b, K b → b < w.heap.size) :
    Calls Tryz.prog 82 #[.agg #[.slice a n c, .bool true], .int .i64 T] w (RrBad K w l) := by
  have h0 := rh_start w a n c true
  have hw0 : (((w.alloc (.cells #[.slice a n c, .bool true] 55)).alloc (.cells #[.slice none 0 0, .bool false] 55)).alloc (.cells #[.int .i64 0, .int .i64 0, .float .f64 0, .string ⟨#[]⟩, .slice none 0 0] 41)).heap.size = w.heap.size + 3 := by simp
  have HU := Lib.hid (readUintK_any K a n c true l _ (hB.grow h0.below) hf)
  have hn' : readN l (!true) = (0, l, false) := by unfold readN; rw [if_neg (fun h => by cases h.1)]
  rw [hn'] at HU
  have H0 := Lib.hid h0
  have HK := Lib.hid hK
  clear h0 hn' hB hf hK
  have hfl : ∀ (w : World) (a : Addr) (m : Mode) (b : Nat), (store a (.float .f64 b) m).run Tryz.prog w = stored Tryz.prog w a (.float .f64 b) m := fun w a m b => run_store Tryz.prog w a _ m rfl
  go_enter Tryz.func82, Tryz.ntmps82
  go_wp2_with fail
  generalize (((w.alloc (.cells #[.slice a n c, .bool true] 55)).alloc (.cells #[.slice none 0 0, .bool false] 55)).alloc (.cells #[.int .i64 0, .int .i64 0, .float .f64 0, .string ⟨#[]⟩, .slice none 0 0] 41)) = w0 at *
  refine HU.out.mono ?_
  rintro e w1 ⟨a1, n1, c1, rfl, hB1, hf1, hb1⟩
  have h1 := H0.out.below' hb1
  obtain ⟨p0, p1, p2, p3⟩ := block_cells h1.rd
  have HB1 := Lib.hid hB1
  have Hf1 := Lib.hid hf1
  have H1 := Lib.hid h1
  have hsz1 : w.heap.size + 3 ≤ w1.heap.size := by have := hb1.size; omega
  clear h1 hB1 hf1 hb1
  have hal := (Below.refl ((w1.setCell ⟨w.heap.size, 0, none⟩ (.slice a1 n1 c1)).setCell ⟨w.heap.size, 1, none⟩ (.bool true)).heap.size _).alloc (Nat.le_refl _) (.cells #[.int .i64 0, .int .i64 0, .float .f64 0, .string ⟨#[]⟩, .slice none 0 0] 41)
  have H2 := Lib.hid ((H1.out.setR a1 n1 c1 true).1.below' hal)
  have HV8 := Lib.hid (heap_alloc_new ((w1.setCell ⟨w.heap.size, 0, none⟩ (.slice a1 n1 c1)).setCell ⟨w.heap.size, 1, none⟩ (.bool true)) (.cells #[.int .i64 0, .int .i64 0, .float .f64 0, .string ⟨#[]⟩, .slice none 0 0] 41))
  have Hb12 := Lib.hid (((H1.out.setR a1 n1 c1 true).2).trans (hal.mono (by simp; omega)))
  clear hal
  go_upto_region 3 with fail
  have hsz2 : ((w1.setCell ⟨w.heap.size, 0, none⟩ (.slice a1 n1 c1)).setCell ⟨w.heap.size, 1, none⟩ (.bool true)).heap.size = w1.heap.size := by simp
  rw [hsz2] at HV8
  generalize ((w1.setCell ⟨w.heap.size, 0, none⟩ (.slice a1 n1 c1)).setCell ⟨w.heap.size, 1, none⟩ (.bool true)).alloc (.cells #[.int .i64 0, .int .i64 0, .float .f64 0, .string ⟨#[]⟩, .slice none 0 0] 41) = w2 at *
  obtain ⟨y0, y1, y2, y3⟩ := block_cells H2.out.rd
  clear p0 p1 p2 p3 hsz2
  go_wp2_with fail
  obtain ⟨⟨v0, v1, v2, v3, v4⟩, _⟩ := res_cells HV8.out
  obtain ⟨_, _, q2, q3⟩ := block_cells H2.out.rr
  obtain ⟨q0, q1, _, _⟩ := block_cells H2.out.rr
  have hrv : w2.heap[w.heap.size + 1 + 1]? = some (.cells #[.int .i64 0, .int .i64 0, .float .f64 0, .string ⟨#[]⟩, .slice none 0 0] 41 (0, 0)) := H2.out.rv
  obtain ⟨⟨s0, s1, s2, s3, s4⟩, ⟨u0, u1, u2, u3, u4⟩⟩ := res_cells hrv
  clear hrv
  go_region
  have hZ := (H2.out.done a1 n1 c1 true (.int .i64 0) (.int .i64 0) (.float .f64 0) (.string ⟨#[]⟩) (.slice none 0 0)).drew
  unfold sets7 at hZ
  clear v0 v1 v2 v3 v4 q0 q1 q2 q3 s0 s1 s2 s3 s4 u0 u1 u2 u3 u4 y0 y1 y2 y3
  generalize World.drew _ = wz at *
  obtain ⟨⟨r0, r1⟩, r2, r3, r4, r5, r6⟩ := hZ.cells
  have HZ := Lib.hid hZ
  clear hZ
  go_wp2
  refine bodyPost_ret (v := .tuple #[.agg #[.slice a1 n1 c1, .bool true], .agg #[.int .i64 0, .int .i64 0, .float .f64 0, .string ⟨#[]⟩, .slice none 0 0], .bool false]) (by simp [results, Tryz.results82, go_sem, *]) rfl ?_
  have hbz := Hb12.out.trans HZ.out.below
  exact ⟨a1, n1, c1, bytesB HB1.out Hf1.out HK.out hbz, Hf1.out, H1.out.below.trans hbz, rfl⟩
end

set_option maxRecDepth 100000 in
theorem rread04_bad (K : Nat → Prop) (l : List Nat) (a : Option Addr) (n c : Nat) (w : World) (hK : ∀ b, K b → b < w.heap.size) (hB : Bytes w a n c l) (hf : FormedK K a c) :
    Calls Tryz.prog 60 #[.agg #[.slice a n c, .bool true]] w (RrBad K w l) := by
  have h0 := rh_start w a n c true
  have HA := Lib.hid (fun W (hW : Below w.heap.size w W) => rr_badR K a n c 8 W l (hB.grow hW) hf (fun b hb => Nat.lt_of_lt_of_le (hK b hb) hW.size))
  have HK := Lib.hid hK
  have H0 := Lib.hid h0
  have hsz0 : (((w.alloc (.cells #[.slice a n c, .bool true] 55)).alloc (.cells #[.slice none 0 0, .bool false] 55)).alloc (.cells #[.int .i64 0, .int .i64 0, .float .f64 0, .string ⟨#[]⟩, .slice none 0 0] 41)).heap.size = w.heap.size + 3 := by simp
  clear hK hB hf h0
  have hfl : ∀ (w : World) (a : Addr) (m : Mode) (b : Nat), (store a (.float .f64 b) m).run Tryz.prog w = stored Tryz.prog w a (.float .f64 b) m := fun w a m b => run_store Tryz.prog w a _ m rfl
  go_enter Tryz.func60, Tryz.ntmps60
  go_wp2_with fail
  generalize (((w.alloc (.cells #[.slice a n c, .bool true] 55)).alloc (.cells #[.slice none 0 0, .bool false] 55)).alloc (.cells #[.int .i64 0, .int .i64 0, .float .f64 0, .string ⟨#[]⟩, .slice none 0 0] 41)) = w0 at *
  refine (HA.out _ H0.out.below).mono ?_
  rintro e w1 ⟨a1, n1, c1, hBs, hfs, hbs, rfl⟩
  have h1 := H0.out.below' hbs
  obtain ⟨q0, q1, q2, q3⟩ := block_cells h1.rr
  have hrv : w1.heap[w.heap.size + 1 + 1]? = some (.cells #[.int .i64 0, .int .i64 0, .float .f64 0, .string ⟨#[]⟩, .slice none 0 0] 41 (0, 0)) := h1.rv
  obtain ⟨⟨s0, s1, s2, s3, s4⟩, ⟨u0, u1, u2, u3, u4⟩⟩ := res_cells hrv
  have H1 := Lib.hid h1
  have HBs := Lib.hid hBs
  have Hfs := Lib.hid hfs
  clear hrv h1 hBs hfs hbs
  unfold cells5
  go_wp2
  have hZ := H1.out.done a1 n1 c1 true (.int .i64 0) (.int .i64 0) (.float .f64 0) (.string (str [])) (.slice none 0 0)
  unfold sets7 at hZ
  clear q0 q1 q2 q3 s0 s1 s2 s3 s4 u0 u1 u2 u3 u4
  generalize World.setCell (World.setCell (World.setCell (World.setCell (World.setCell (World.setCell (World.setCell w1 _ _) _ _) _ _) _ _) _ _) _ _) _ _ = wz at *
  obtain ⟨⟨r0, r1⟩, r2, r3, r4, r5, r6⟩ := hZ.cells
  have HZ := Lib.hid hZ
  clear hZ
  refine bodyPost_ret (v := .tuple #[.agg #[.slice a1 n1 c1, .bool true], .agg #[.int .i64 0, .int .i64 0, .float .f64 0, .string (str []), .slice none 0 0], .bool false]) (by simp [results, Tryz.results60, go_sem, *]) rfl ?_
  have hbz := HZ.out.below
  exact ⟨a1, n1, c1, bytesB HBs.out Hfs.out HK.out hbz, Hfs.out, H1.out.below.trans hbz, rfl⟩
end Go.Proofs.YtcapbaocchaenaaGreat

/- The walks of the reference's fields and has. -/
namespace Go.Proofs.YtcapbaocchaenaaGreat
open Go.RowKit

/-- The letter of a field. -/
def lett (i : Nat) : Nat := if i = 0 then 105 else if i = 1 then 110 else if i = 2 then 97 else if i = 3 then 115 else if i = 4 then 116 else 118
/-- The letters of a kind's fields. -/
def evL (k : Int) : List Nat := (evFields k).map lett

set_option maxRecDepth 100000 in
set_option maxHeartbeats 3200000 in
theorem rfields_any (k : Int) (w : World) : Calls Tryz.prog 81 #[.int .i64 k] w fun e w' => e = .returned (.string (str (evL k))) ∧ Below w.heap.size w w' := by
  by_cases h1 : k < 1
  · have e1 : evL k = [] := by unfold evL; rw [(evName_none (k := k) (by omega)).2]; rfl
    rw [e1]
    clear e1
    go_enter Tryz.func81, Tryz.ntmps81
    go_wp2
    go_ret
    exact ⟨rfl, Below.refl _ _⟩
  by_cases h2 : (11 : Int) < k
  · have e1 : evL k = [] := by unfold evL; rw [(evName_none (k := k) (by omega)).2]; rfl
    rw [e1]
    clear e1
    go_enter Tryz.func81, Tryz.ntmps81
    go_wp2
    go_ret
    exact ⟨rfl, Below.refl _ _⟩
  have hb := fun o => (Below.refl w.heap.size w).alloc (Nat.le_refl _) o
  have hk : k = 1 ∨ k = 2 ∨ k = 3 ∨ k = 4 ∨ k = 5 ∨ k = 6 ∨ k = 7 ∨ k = 8 ∨ k = 9 ∨ k = 10 ∨ k = 11 := by omega
  clear h1 h2
  rcases hk with rfl | rfl | rfl | rfl | rfl | rfl | rfl | rfl | rfl | rfl | rfl
  all_goals go_enter Tryz.func81, Tryz.ntmps81
  all_goals go_wp2
  all_goals go_ret
  all_goals exact ⟨congrArg (fun x => Ending.returned (.string x)) (by kernel_rfl), hb _⟩

set_option maxRecDepth 100000 in
theorem has_any (k : Int) (c : Nat) (hc : c < 256) (w : World) : Calls Tryz.prog 59 #[.int .i64 k, .int .u8 (c : Int)] w fun e w' => e = .returned (.bool (decide (c ∈ evL k))) ∧ Below w.heap.size w w' := by
  have HF := Lib.hid (rfields_any k w)
  obtain ⟨l, hl⟩ : ∃ l, l = evL k := ⟨_, rfl⟩
  have hb : ∀ y ∈ l, y < 256 := fun y hy => by
    rw [hl] at hy
    unfold evL lett at hy
    obtain ⟨i, _, rfl⟩ := List.mem_map.1 hy
    (repeat' split) <;> omega
  have hn : l.length ≤ 6 := by rw [hl]; unfold evL; rw [List.length_map]; exact fields_len k
  rw [← hl] at HF ⊢
  clear hl
  have hz := str_size l
  have Hb := Lib.hid hb
  have Hn := Lib.hid hn
  clear hb hn
  go_enter Tryz.func59, Tryz.ntmps59
  go_wp2_with fail
  refine HF.out.mono ?_
  rintro e w1 ⟨rfl, hb1⟩
  have Hb1 := Lib.hid hb1
  clear hb1
  go_wp2
  go_loopw [6] (fun i wr => ∃ j : Nat, j ≤ l.length ∧ i = .int .i64 (j : Int) ∧ (∀ q, q < j → l[q]? ≠ some c) ∧ wr = w1) (fun i _ => l.length - (intOf i).toNat)
  case atStart => exact ⟨0, Nat.zero_le _, rfl, fun q h => absurd h (by omega), rfl⟩
  case round =>
    obtain ⟨j, hj, rfl, hall, rfl⟩ := hrel
    have Hall := Lib.hid hall
    clear hall
    by_cases hlt : j < l.length
    · have hs : j < (str l).size := by rw [str_size]; exact hlt
      have hg : ((((str l)[j]'hs).toNat : Nat) : Int) = ((l[j] : Nat) : Int) := by
        rw [get_str Hb.out j hs]
        simp [hlt]
      have hn6 : l.length ≤ 6 := Hn.out
      have hji : (j : Int) < (l.length : Int) := by omega
      have hj6 : (j : Int) < 6 := by omega
      have Hg := Lib.hid (List.getElem?_eq_getElem hlt)
      generalize l[j] = y at *
      by_cases hy : y = c
      · subst hy
        have Hr := Lib.hid (show decide (y ∈ l) = true from decide_eq_true (List.mem_of_getElem? Hg.out))
        have Hlt := Lib.hid hlt
        clear hlt
        go_wp2
        go_ret
        exact ⟨ret_bool Hr.out.symm, Hb1.out⟩
      · have hy2 : ((y : Int) == (c : Int)) = false := by rw [beq_eq_false_iff_ne]; omega
        have Hall2 := Lib.hid (show ∀ q, q < j + 1 → l[q]? ≠ some c from fun q hq => by
          rcases Nat.lt_or_eq_of_le (Nat.le_of_lt_succ hq) with h | h
          · exact Hall.out q h
          · rw [h, Hg.out]; intro e; exact hy (Option.some.inj e))
        have Hlt := Lib.hid hlt
        clear hlt hy
        go_wp2
        go_roundw
        case rel => exact ⟨j + 1, Hlt.out, by go_num, Hall2.out, by first | trivial | rfl⟩
        case measure => simp [intOf]; have := Hlt.out; omega
    · have Hr := Lib.hid (show decide (c ∈ l) = false from decide_eq_false (fun h => by
        obtain ⟨q, hq, e⟩ := List.getElem_of_mem h
        exact Hall.out q (by omega) (by rw [List.getElem?_eq_getElem hq, e])))
      have hji : ¬ ((j : Int) < (l.length : Int)) := by omega
      clear hlt
      go_wp2
      go_ret
      exact ⟨ret_bool Hr.out.symm, Hb1.out⟩
end Go.Proofs.YtcapbaocchaenaaGreat

/- Valid events, field by field, as the reference asks. -/
namespace Go.Proofs.YtcapbaocchaenaaGreat
open Go.RowKit Fl

theorem lett_mem {k : Int} {i : Nat} (hi : i < 6) : lett i ∈ evL k ↔ i ∈ evFields k := by
  unfold evL
  constructor
  · intro h
    obtain ⟨j, hj, e⟩ := List.mem_map.1 h
    have hj6 := evFields_lt _ _ hj
    have : j = i := by
      unfold lett at e
      match i, j, hi, hj6 with
      | 0, 0, _, _ | 1, 1, _, _ | 2, 2, _, _ | 3, 3, _, _ | 4, 4, _, _ | 5, 5, _, _ => rfl
      | 0, 1, _, _ | 0, 2, _, _ | 0, 3, _, _ | 0, 4, _, _ | 0, 5, _, _ => simp at e
      | 1, 0, _, _ | 1, 2, _, _ | 1, 3, _, _ | 1, 4, _, _ | 1, 5, _, _ => simp at e
      | 2, 0, _, _ | 2, 1, _, _ | 2, 3, _, _ | 2, 4, _, _ | 2, 5, _, _ => simp at e
      | 3, 0, _, _ | 3, 1, _, _ | 3, 2, _, _ | 3, 4, _, _ | 3, 5, _, _ => simp at e
      | 4, 0, _, _ | 4, 1, _, _ | 4, 2, _, _ | 4, 3, _, _ | 4, 5, _, _ => simp at e
      | 5, 0, _, _ | 5, 1, _, _ | 5, 2, _, _ | 5, 3, _, _ | 5, 4, _, _ => simp at e
    rw [← this]; exact hj
  · exact fun h => List.mem_map.2 ⟨i, h, rfl⟩

theorem zero_iff {v : V} : sameV v zeroV = true ↔ rightN 8 v = true ∧ v.kind = 0 := by
  obtain ⟨k, n, f, s, l⟩ := v
  constructor
  · intro h
    refine ⟨by rw [fields_same 8 _ _ h]; decide +kernel, ?_⟩
    unfold zeroV at h
    rw [sameV, Bool.and_eq_true, decide_eq_true_eq] at h
    exact h.1.1
  · rintro ⟨h, hk⟩
    change k = 0 at hk
    obtain ⟨⟨a1, a2, a3, a4⟩, _⟩ := rightN_field h
    change k = 1 ∨ n = 0 at a1
    change k = 2 ∨ bitsB f = 0 at a2
    change k = 3 ∨ s = [] at a3
    change k = 4 ∨ l = [] at a4
    have hz : bitsB 0 = 0 := by decide
    unfold zeroV
    rw [a4.resolve_left (by omega), a3.resolve_left (by omega), a1.resolve_left (by omega), hk, sameV, a2.resolve_left (by omega), hz]
    simp [sameL]

/-- Each field as the reference asks. -/
def refF (e : Ev) (i : Nat) : Bool :=
  if i = 0 then decide (105 ∈ evL e.k) == decide (e.id ≠ 0)
  else if i = 1 then (if decide (110 ∈ evL e.k) = true then decide (1 ≤ e.n) && decide (e.n ≤ 2147483647) else decide (e.n = 0))
  else if i = 2 then decide (e.t ≤ 9223372036854775807) && (decide (97 ∈ evL e.k) || decide (e.t = 0))
  else if i = 3 then (decide (115 ∈ evL e.k) == decide (e.nm ≠ [])) && decide (e.nm.length ≤ 1000)
  else if i = 4 then decide (e.tx.length ≤ 1000) && (decide (116 ∈ evL e.k) || decide (e.tx = []))
  else rightN 8 e.v && (decide (118 ∈ evL e.k) || decide (e.v.kind = 0))

theorem refF_is (e : Ev) (i : Nat) (hi : i < 6) : (if i ∈ evFields e.k then rightE e i else emptyE e i) = refF e i := by
  have hm := @lett_mem e.k i hi
  match i, hi with
  | 0, _ =>
    change 105 ∈ evL e.k ↔ _ at hm
    show _ = (decide (105 ∈ evL e.k) == decide (e.id ≠ 0))
    by_cases h : 0 ∈ evFields e.k
    · rw [if_pos h, decide_eq_true (hm.2 h)]; show decide (e.id ≠ 0) = _; simp
    · rw [if_neg h, decide_eq_false (fun h' => h (hm.1 h'))]; show decide (e.id = 0) = _; simp
  | 1, _ =>
    change 110 ∈ evL e.k ↔ _ at hm
    show _ = (if decide (110 ∈ evL e.k) = true then decide (1 ≤ e.n) && decide (e.n ≤ 2147483647) else decide (e.n = 0))
    by_cases h : 1 ∈ evFields e.k
    · rw [if_pos h, decide_eq_true (hm.2 h)]; show decide (1 ≤ e.n ∧ e.n ≤ 2147483647) = _; simp
    · rw [if_neg h, decide_eq_false (fun h' => h (hm.1 h'))]; rfl
  | 2, _ =>
    change 97 ∈ evL e.k ↔ _ at hm
    show _ = (decide (e.t ≤ 9223372036854775807) && (decide (97 ∈ evL e.k) || decide (e.t = 0)))
    by_cases h : 2 ∈ evFields e.k
    · rw [if_pos h, decide_eq_true (hm.2 h)]; show decide (e.t ≤ 9223372036854775807) = _; simp
    · rw [if_neg h, decide_eq_false (fun h' => h (hm.1 h'))]; show decide (e.t = 0) = _
      rw [Bool.eq_iff_iff]; simp; omega
  | 3, _ =>
    change 115 ∈ evL e.k ↔ _ at hm
    show _ = ((decide (115 ∈ evL e.k) == decide (e.nm ≠ [])) && decide (e.nm.length ≤ 1000))
    by_cases h : 3 ∈ evFields e.k
    · rw [if_pos h, decide_eq_true (hm.2 h)]; show decide (e.nm ≠ [] ∧ e.nm.length ≤ 1000) = _; simp
    · rw [if_neg h, decide_eq_false (fun h' => h (hm.1 h'))]; show decide (e.nm = []) = _
      rw [Bool.eq_iff_iff]; simp; intro h0; rw [h0]; simp
  | 4, _ =>
    change 116 ∈ evL e.k ↔ _ at hm
    show _ = (decide (e.tx.length ≤ 1000) && (decide (116 ∈ evL e.k) || decide (e.tx = [])))
    by_cases h : 4 ∈ evFields e.k
    · rw [if_pos h, decide_eq_true (hm.2 h)]; show decide (e.tx.length ≤ 1000) = _; simp
    · rw [if_neg h, decide_eq_false (fun h' => h (hm.1 h'))]; show decide (e.tx = []) = _
      rw [Bool.eq_iff_iff]; simp; intro h0; rw [h0]; simp
  | 5, _ =>
    change 118 ∈ evL e.k ↔ _ at hm
    show _ = (rightN 8 e.v && (decide (118 ∈ evL e.k) || decide (e.v.kind = 0)))
    by_cases h : 5 ∈ evFields e.k
    · rw [if_pos h, decide_eq_true (hm.2 h)]; show rightN 8 e.v = _; simp
    · rw [if_neg h, decide_eq_false (fun h' => h (hm.1 h'))]; show sameV e.v zeroV = _
      rw [Bool.eq_iff_iff, zero_iff]; simp

theorem evName_some {k : Int} (h : 1 ≤ k ∧ k ≤ 11) : evName k ≠ [] := by
  have c : k = 1 ∨ k = 2 ∨ k = 3 ∨ k = 4 ∨ k = 5 ∨ k = 6 ∨ k = 7 ∨ k = 8 ∨ k = 9 ∨ k = 10 ∨ k = 11 := by omega
  rcases c with rfl | rfl | rfl | rfl | rfl | rfl | rfl | rfl | rfl | rfl | rfl <;> decide

theorem okE_ref {e : Ev} (h : 1 ≤ e.k ∧ e.k ≤ 11) : okE e = (refF e 0 && refF e 1 && refF e 2 && refF e 3 && refF e 4 && refF e 5) := by
  unfold okE
  rw [decide_eq_true (evName_some h), Bool.true_and]
  have e1 : ((List.range 6).all fun i => if i ∈ evFields e.k then rightE e i else emptyE e i) = (List.range 6).all (refF e) := by
    rw [Bool.eq_iff_iff, List.all_eq_true, List.all_eq_true]
    constructor
    · intro h i hi; rw [← refF_is e i (by simpa using hi)]; exact h i hi
    · intro h i hi; rw [refF_is e i (by simpa using hi)]; exact h i hi
  rw [e1]
  simp [List.range, List.range.loop, Bool.and_assoc]
end Go.Proofs.YtcapbaocchaenaaGreat

/- The walk of the reference's form of an event. -/
namespace Go.Proofs.YtcapbaocchaenaaGreat
open Go.RowKit Go.Shelf Fl

/-- The pieces of the fields before j. -/
def upE (e : Ev) (j : Nat) : List Nat := (((List.range j).filter (fun i => decide (i ∈ evFields e.k))).map (pieceE e)).flatten

theorem upE_zero (e : Ev) : upE e 0 = [] := rfl
theorem upE_succ (e : Ev) (j : Nat) : upE e (j + 1) = upE e j ++ (if j ∈ evFields e.k then pieceE e j else []) := by
  unfold upE
  rw [List.range_succ, List.filter_append, List.map_append, List.flatten_append]
  congr 1
  by_cases h : j ∈ evFields e.k
  · simp [h]
  · simp [h]
theorem fields_filter (k : Int) : (List.range 6).filter (fun i => decide (i ∈ evFields k)) = evFields k := by
  by_cases h : 1 ≤ k ∧ k ≤ 11
  · have hk : k = 1 ∨ k = 2 ∨ k = 3 ∨ k = 4 ∨ k = 5 ∨ k = 6 ∨ k = 7 ∨ k = 8 ∨ k = 9 ∨ k = 10 ∨ k = 11 := by omega
    rcases hk with rfl | rfl | rfl | rfl | rfl | rfl | rfl | rfl | rfl | rfl | rfl <;> decide
  · rw [(evName_none h).2]
    decide
theorem upE_six (e : Ev) : upE e 6 = ((evFields e.k).map (pieceE e)).flatten := by
  unfold upE
  rw [fields_filter]

set_option maxRecDepth 100000 in
set_option maxHeartbeats 12800000 in
theorem rform11_any (e : Ev) (x : Array Value) (w : World) (h : EvIn w e x) (hok : okE e = true) (hlen : (formV e.v).length ≤ 10000000) (hsl : ∀ u ∈ preV e.v, u.s.length ≤ 1000000) :
    Calls Tryz.prog 68 #[.agg x] w (NewBytes w (formE e)) := by
  obtain ⟨hk1, _⟩ := okE_parts hok
  have hrt := fun i hi => okE_right hok (i := i) hi
  have hfin := upE_six e
  have hsucc := upE_succ e
  have hfe : formE e = form 1 ++ form e.k.toNat ++ upE e 6 := by rw [hfin]; rfl
  rw [hfe]
  obtain ⟨F, hF⟩ : ∃ F : Nat → List Nat, F = fun j => form 1 ++ form e.k.toNat ++ upE e j := ⟨_, rfl⟩
  have hF0 : F 0 = form 1 ++ form e.k.toNat := by rw [hF]; simp [upE_zero]
  have HFin := Lib.hid (show ∀ j, j ∈ evFields e.k → F (j + 1) = F j ++ pieceE e j from fun j h => by rw [hF]; simp only [upE_succ]; rw [if_pos h, ← List.append_assoc])
  have HFout := Lib.hid (show ∀ j, j ∉ evFields e.k → F (j + 1) = F j from fun j h => by rw [hF]; simp only [upE_succ]; rw [if_neg h, List.append_nil])
  rw [show form 1 ++ form e.k.toNat ++ upE e 6 = F 6 from by rw [hF]]
  clear hF hfe hfin hsucc
  have hbyte : ∀ i, ∀ c ∈ pieceE e i, c < 256 := fun i c hc => by
    obtain ⟨_, _, _, _, h5, h6, a, cap, _, hv⟩ := h
    unfold pieceE at hc
    (repeat' split at hc)
    · exact form_byte _ c hc
    · exact form_byte _ c hc
    · exact form_byte _ c hc
    · exact formB_byte h5.1 c hc
    · exact formB_byte h6.1 c hc
    · exact formV_byte e.v w _ hv c hc
  have Hbyte := Lib.hid hbyte
  have Hrt := Lib.hid hrt
  have Hpl := Lib.hid (show ∀ i, i ∈ evFields e.k → (pieceE e i).length ≤ 10000100 from fun i hi => by
    have hr := hrt i hi
    have h6 := evFields_lt _ _ hi
    obtain ⟨b1, b2, b3, b4, b5, b6, _⟩ := h
    match i, h6 with
    | 0, _ => have := form_len b2; show (form e.id).length ≤ _; omega
    | 1, _ => have h1 : 1 ≤ e.n ∧ e.n ≤ 2147483647 := by simpa [rightE] using hr
              have := form_len (x := e.n.toNat) (by omega); show (form e.n.toNat).length ≤ _; omega
    | 2, _ => have := form_len b4; show (form e.t).length ≤ _; omega
    | 3, _ => have h1 : e.nm ≠ [] ∧ e.nm.length ≤ 1000 := by simpa [rightE] using hr
              have := form_len (x := e.nm.length) (by omega); show (form e.nm.length ++ e.nm).length ≤ _; rw [List.length_append]; omega
    | 4, _ => have h1 : e.tx.length ≤ 1000 := by simpa [rightE] using hr
              have := form_len (x := e.tx.length) (by omega); show (form e.tx.length ++ e.tx).length ≤ _; rw [List.length_append]; omega
    | 5, _ => show (formV e.v).length ≤ _; omega)
  have Hlv := Lib.hid (And.intro hlen hsl)
  clear hbyte hrt hlen hsl hok
  obtain ⟨k, id, n, t, nm, tx, v⟩ := e
  obtain ⟨b1, b2, b3, b4, b5, b6, a, cap, rfl, hv⟩ := h
  change -9223372036854775808 ≤ k ∧ k ≤ 9223372036854775807 at b1
  change id < 18446744073709551616 at b2
  change -9223372036854775808 ≤ n ∧ n ≤ 9223372036854775807 at b3
  change t < 18446744073709551616 at b4
  change (∀ c ∈ nm, c < 256) ∧ nm.length ≤ 9223372036854775807 at b5
  change (∀ c ∈ tx, c < 256) ∧ tx.length ≤ 9223372036854775807 at b6
  change VIn w v (cells5 v.kind v.n v.f v.s a v.l.length cap) at hv
  change 1 ≤ k ∧ k ≤ 11 at hk1
  have hal := (Below.refl w.heap.size w).alloc (Nat.le_refl _) (.cells (evC k id n t nm tx v.kind v.n v.f v.s a v.l.length cap) 43)
  have HE0 := Lib.hid (heap_alloc_new w (.cells (evC k id n t nm tx v.kind v.n v.f v.s a v.l.length cap) 43))
  obtain ⟨kk, rfl⟩ : ∃ kk : Nat, k = (kk : Int) := ⟨k.toNat, by omega⟩
  have hk11 : kk ≤ 11 := by omega
  have HU := Lib.hid (fun W => ruint_any kk W (by omega))
  have hwk : IntKind.u64.wrap (kk : Int) = (kk : Int) := by rw [IntKind.wrap_u64]; omega
  have hf0 : F 0 = [1] ++ form kk := by rw [hF0]; show form 1 ++ form ((kk : Int)).toNat = _; rw [Int.toNat_natCast, form_small (by omega)]
  have Hl2 := Lib.hid (form_len (x := kk) (by omega))
  have HV := Lib.hid hv
  have HB2 := Lib.hid b2
  have HB3 := Lib.hid b3
  have HB4 := Lib.hid b4
  have HB5 := Lib.hid b5
  have HB6 := Lib.hid b6
  have Hk1 := Lib.hid hk1
  have Hf0 := Lib.hid hf0
  have Hal := Lib.hid hal
  clear hF0 hf0 hal hv b2 b3 b4 b5 b6 b1 hk1
  obtain ⟨ee, hee⟩ : ∃ ee : Ev, ee = ⟨(kk : Int), id, n, t, nm, tx, v⟩ := ⟨_, rfl⟩
  have hp0 : pieceE ee 0 = form id := by rw [hee]; rfl
  have hp1 : pieceE ee 1 = form n.toNat := by rw [hee]; rfl
  have hp2 : pieceE ee 2 = form t := by rw [hee]; rfl
  have hp3 : pieceE ee 3 = formB nm := by rw [hee]; rfl
  have hp4 : pieceE ee 4 = formB tx := by rw [hee]; rfl
  have hp5 : pieceE ee 5 = formV v := by rw [hee]; rfl
  have hr1 : rightE ee 1 = true → 1 ≤ n ∧ n ≤ 2147483647 := fun h => by rw [hee] at h; simpa [rightE] using h
  have hr3 : rightE ee 3 = true → nm.length ≤ 1000 := fun h => by
    rw [hee] at h
    have h : nm ≠ [] ∧ nm.length ≤ 1000 := by simpa [rightE] using h
    exact h.2
  have hr4 : rightE ee 4 = true → tx.length ≤ 1000 := fun h => by rw [hee] at h; simpa [rightE] using h
  have hr5 : rightE ee 5 = true → rightN 8 v = true := fun h => by rw [hee] at h; simpa [rightE] using h
  have hke : ee.k = (kk : Int) := by rw [hee]
  have hlv : (formV v).length ≤ 10000000 ∧ ∀ u ∈ preV v, u.s.length ≤ 1000000 := Hlv.out
  rw [← hee] at HFin HFout Hbyte Hrt Hpl
  rw [hke] at HFin HFout Hrt Hpl
  have Hp := Lib.hid (And.intro hp0 (And.intro hp1 (And.intro hp2 (And.intro hp3 (And.intro hp4 hp5)))))
  have Hr := Lib.hid (And.intro hr1 (And.intro hr3 (And.intro hr4 hr5)))
  clear hee hp0 hp1 hp2 hp3 hp4 hp5 hr1 hr3 hr4 hr5 hke Hlv
  have Hlv := Lib.hid hlv
  clear hlv
  go_enter Tryz.func68, Tryz.ntmps68
  go_wp2_with fail
  have hal1 := (Below.refl w.heap.size (w.alloc (.cells (evC (kk : Int) id n t nm tx v.kind v.n v.f v.s a v.l.length cap) 43))).alloc (by simp) (.cells #[.int .u8 1] 5)
  have hown := new_row (w.alloc (.cells (evC (kk : Int) id n t nm tx v.kind v.n v.f v.s a v.l.length cap) 43)) [1] (by simp)
  rw [World.size_alloc] at hown
  have Hown := Lib.hid (own_base hown (Nat.le_succ w.heap.size))
  have Hb1 := Lib.hid (Hal.out.trans (hal1.mono (Nat.le_refl _)))
  have HE1 := Lib.hid (blk HE0.out ((Below.refl _ _).alloc (Nat.le_refl _) (.cells #[.int .u8 1] 5)))
  clear hal1 hown
  refine (HU.out _).mono ?_
  rintro r w2 ⟨u2, rfl, hu2, hb2⟩
  obtain ⟨p2, cp2, rfl, hB2⟩ := own_slice hu2 (form_byte kk)
  have Hown2 := Lib.hid (own_below Hown.out hb2)
  have HBy := Lib.hid hB2
  have Hb2 := Lib.hid (Hb1.out.trans (hb2.mono Hb1.out.size))
  have HE2 := Lib.hid (blk HE1.out hb2)
  clear hu2 hb2 hB2
  go_wp2_with (at_builtin; refine wpList_append_bytes _ rfl _ _ 22 rfl w.heap.size 5 Tryz.underlying22 info_u8 _ _ _ rfl Hown2.out p2 _ cp2 (form kk) rfl HBy.out (by have := Hl2.out; simp; omega) Hb2.out.size ?_; intro v' w3 g1 g2)
  have Hs0 := Lib.hid (show w3.ownsRow w.heap.size 5 1 v' (F 0).length (u8s (F 0)) from by rw [Hf0.out, List.length_append]; exact g1)
  have Hb3 := Lib.hid (Hb2.out.grown g2 Hb2.out.size (fun k hk => (Hown2.out.lt k hk).1))
  have HE3 := Lib.hid (grown_keep g2 HE2.out (row_ne Hown2.out HE2.out (by decide)))
  have Hn0 := Lib.hid (show (F 0).length ≤ 20 + 0 * 10000100 from by rw [Hf0.out, List.length_append]; have := Hl2.out; simp; omega)
  clear g1 g2 HBy Hown2 Hb2 HE2 Hown Hb1 HE1 HE0 Hal HU
  go_loopw [3, 4, 5, 6] (fun t3 t4 t5 t6 wr => ∃ j : Nat, j ≤ 6 ∧ t4 = .int .i64 (j : Int) ∧ wr.ownsRow w.heap.size 5 1 t3 (F j).length (u8s (F j)) ∧ (F j).length ≤ 20 + j * 10000100 ∧ wr.heap[w.heap.size]? = some (.cells (evC (kk : Int) id n t nm tx v.kind v.n v.f v.s a v.l.length cap) 43 (0, 0)) ∧ Below w.heap.size w wr) (fun _ i _ _ _ => 6 - (intOf i).toNat)
  case atStart => exact ⟨0, by omega, rfl, Hs0.out, Hn0.out, HE3.out, Hb3.out⟩
  case round =>
    obtain ⟨j, hj, rfl, hr, hn, hE, hb⟩ := hrel
    have Hr0 := Lib.hid hr
    have Hn := Lib.hid hn
    have HE := Lib.hid hE
    have Hb := Lib.hid hb
    clear hr hn hb Hs0 Hn0 HE3 Hb3
    have hjj : j = 0 ∨ j = 1 ∨ j = 2 ∨ j = 3 ∨ j = 4 ∨ j = 5 ∨ j = 6 := by omega
    rcases hjj with rfl | rfl | rfl | rfl | rfl | rfl | rfl
    · have HH := Lib.hid (has_any (kk : Int) 105 (by omega) wr)
      rw [show decide (105 ∈ evL (kk : Int)) = decide (0 ∈ evFields (kk : Int)) from decide_eq_decide.2 (lett_mem (i := 0) (by omega))] at HH
      obtain ⟨g0, g1, g2, g3, g4, g5, g6, g7, g8, g9, g10⟩ := box11 hE
      clear hE g1 g2 g3 g4 g5 g6 g7 g8 g9 g10
      by_cases hm : 0 ∈ evFields (kk : Int)
      · rw [decide_eq_true hm] at HH
        have Hm := Lib.hid hm
        clear hm hj
        go_wp2_with fail
        refine HH.out.mono ?_
        rintro r w4 ⟨rfl, hb4⟩
        have HE4 := Lib.hid (blk HE.out hb4)
        have Hr4 := Lib.hid (own_below Hr0.out hb4)
        have Hb4 := Lib.hid (Hb.out.trans (hb4.mono Hb.out.size))
        obtain ⟨g0, g1, g2, g3, g4, g5, g6, g7, g8, g9, g10⟩ := box11 HE4.out
        clear hb4
        have HC := Lib.hid (ruint_any id w4 (HB2.out))
        go_wp2_with fail
        refine HC.out.mono ?_
        rintro r w5 ⟨u5, rfl, hu5, hb5⟩
        obtain ⟨p5, cp5, rfl, hB5⟩ := own_slice hu5 (form_byte _)
        have Hpe := Lib.hid (show pieceE ee 0 = form id from Hp.out.1)
        have HB5' := Lib.hid hB5
        have Hr5 := Lib.hid (own_below Hr4.out hb5)
        have Hb5 := Lib.hid (Hb4.out.trans (hb5.mono Hb4.out.size))
        have HE5 := Lib.hid (blk HE4.out hb5)
        have Hl5 := Lib.hid (show (form id).length ≤ 10000100 from by rw [← Hpe.out]; exact Hpl.out 0 Hm.out)
        have HF1 := Lib.hid (show F (0 + 1) = F 0 ++ form id from by rw [← Hpe.out]; exact HFin.out 0 Hm.out)
        clear hu5 hb5 hB5 g0 g1 g2 g3 g4 g5 g6 g7 g8 g9 g10
        generalize form id = P at *
        go_wp2_with (at_builtin; refine wpList_append_bytes _ rfl _ _ 22 rfl w.heap.size 5 Tryz.underlying22 info_u8 _ _ _ rfl Hr5.out p5 _ cp5 P rfl HB5'.out (by have := Hn.out; have := Hl5.out; omega) Hb5.out.size ?_; intro v9 w9 g1 g2)
        have Hs9 := Lib.hid (show w9.ownsRow w.heap.size 5 1 v9 (F (0 + 1)).length (u8s (F (0 + 1))) from by rw [HF1.out, List.length_append]; exact g1)
        have Hb9 := Lib.hid (Hb5.out.grown g2 Hb5.out.size (fun k hk => (Hr5.out.lt k hk).1))
        have HE9 := Lib.hid (grown_keep g2 HE5.out (row_ne Hr5.out HE5.out (by decide)))
        have Hn9 := Lib.hid (show (F (0 + 1)).length ≤ 20 + (0 + 1) * 10000100 from by rw [HF1.out, List.length_append]; have := Hn.out; have := Hl5.out; omega)
        clear g1 g2
        go_roundw
        case rel => exact ⟨0 + 1, by omega, rfl, Hs9.out, Hn9.out, HE9.out, Hb9.out⟩
        case measure => simp [intOf]
      · rw [decide_eq_false hm] at HH
        have HF1 := Lib.hid (HFout.out 0 hm)
        clear hm hj
        go_wp2_with fail
        refine HH.out.mono ?_
        rintro r w4 ⟨rfl, hb4⟩
        have HE4 := Lib.hid (blk HE.out hb4)
        have Hr4 := Lib.hid (own_below Hr0.out hb4)
        have Hb4 := Lib.hid (Hb.out.trans (hb4.mono Hb.out.size))
        clear hb4 g0
        go_wp2
        go_roundw
        case rel => exact ⟨0 + 1, by omega, rfl, by rw [HF1.out]; exact Hr4.out, by rw [HF1.out]; have := Hn.out; omega, HE4.out, Hb4.out⟩
        case measure => simp [intOf]
    · have HH := Lib.hid (has_any (kk : Int) 110 (by omega) wr)
      rw [show decide (110 ∈ evL (kk : Int)) = decide (1 ∈ evFields (kk : Int)) from decide_eq_decide.2 (lett_mem (i := 1) (by omega))] at HH
      obtain ⟨g0, g1, g2, g3, g4, g5, g6, g7, g8, g9, g10⟩ := box11 hE
      clear hE g1 g2 g3 g4 g5 g6 g7 g8 g9 g10
      by_cases hm : 1 ∈ evFields (kk : Int)
      · rw [decide_eq_true hm] at HH
        have Hm := Lib.hid hm
        clear hm hj
        go_wp2_with fail
        refine HH.out.mono ?_
        rintro r w4 ⟨rfl, hb4⟩
        have HE4 := Lib.hid (blk HE.out hb4)
        have Hr4 := Lib.hid (own_below Hr0.out hb4)
        have Hb4 := Lib.hid (Hb.out.trans (hb4.mono Hb.out.size))
        obtain ⟨g0, g1, g2, g3, g4, g5, g6, g7, g8, g9, g10⟩ := box11 HE4.out
        clear hb4
        have h1 := Hr.out.1 (Hrt.out 1 Hm.out)
        obtain ⟨m, rfl⟩ : ∃ m : Nat, n = (m : Int) := ⟨n.toNat, by omega⟩
        have HC := Lib.hid (ruint_any m w4 (by omega))
        have hwm : IntKind.u64.wrap (m : Int) = (m : Int) := by rw [IntKind.wrap_u64]; omega
        clear h1
        go_wp2_with fail
        refine HC.out.mono ?_
        rintro r w5 ⟨u5, rfl, hu5, hb5⟩
        obtain ⟨p5, cp5, rfl, hB5⟩ := own_slice hu5 (form_byte _)
        have Hpe := Lib.hid (show pieceE ee 1 = form m from by rw [Hp.out.2.1, Int.toNat_natCast])
        have HB5' := Lib.hid hB5
        have Hr5 := Lib.hid (own_below Hr4.out hb5)
        have Hb5 := Lib.hid (Hb4.out.trans (hb5.mono Hb4.out.size))
        have HE5 := Lib.hid (blk HE4.out hb5)
        have Hl5 := Lib.hid (show (form m).length ≤ 10000100 from by rw [← Hpe.out]; exact Hpl.out 1 Hm.out)
        have HF1 := Lib.hid (show F (1 + 1) = F 1 ++ form m from by rw [← Hpe.out]; exact HFin.out 1 Hm.out)
        clear hu5 hb5 hB5 g0 g1 g2 g3 g4 g5 g6 g7 g8 g9 g10
        generalize form m = P at *
        go_wp2_with (at_builtin; refine wpList_append_bytes _ rfl _ _ 22 rfl w.heap.size 5 Tryz.underlying22 info_u8 _ _ _ rfl Hr5.out p5 _ cp5 P rfl HB5'.out (by have := Hn.out; have := Hl5.out; omega) Hb5.out.size ?_; intro v9 w9 g1 g2)
        have Hs9 := Lib.hid (show w9.ownsRow w.heap.size 5 1 v9 (F (1 + 1)).length (u8s (F (1 + 1))) from by rw [HF1.out, List.length_append]; exact g1)
        have Hb9 := Lib.hid (Hb5.out.grown g2 Hb5.out.size (fun k hk => (Hr5.out.lt k hk).1))
        have HE9 := Lib.hid (grown_keep g2 HE5.out (row_ne Hr5.out HE5.out (by decide)))
        have Hn9 := Lib.hid (show (F (1 + 1)).length ≤ 20 + (1 + 1) * 10000100 from by rw [HF1.out, List.length_append]; have := Hn.out; have := Hl5.out; omega)
        clear g1 g2
        go_roundw
        case rel => exact ⟨1 + 1, by omega, rfl, Hs9.out, Hn9.out, HE9.out, Hb9.out⟩
        case measure => simp [intOf]
      · rw [decide_eq_false hm] at HH
        have HF1 := Lib.hid (HFout.out 1 hm)
        clear hm hj
        go_wp2_with fail
        refine HH.out.mono ?_
        rintro r w4 ⟨rfl, hb4⟩
        have HE4 := Lib.hid (blk HE.out hb4)
        have Hr4 := Lib.hid (own_below Hr0.out hb4)
        have Hb4 := Lib.hid (Hb.out.trans (hb4.mono Hb.out.size))
        clear hb4 g0
        go_wp2
        go_roundw
        case rel => exact ⟨1 + 1, by omega, rfl, by rw [HF1.out]; exact Hr4.out, by rw [HF1.out]; have := Hn.out; omega, HE4.out, Hb4.out⟩
        case measure => simp [intOf]
    · have HH := Lib.hid (has_any (kk : Int) 97 (by omega) wr)
      rw [show decide (97 ∈ evL (kk : Int)) = decide (2 ∈ evFields (kk : Int)) from decide_eq_decide.2 (lett_mem (i := 2) (by omega))] at HH
      obtain ⟨g0, g1, g2, g3, g4, g5, g6, g7, g8, g9, g10⟩ := box11 hE
      clear hE g1 g2 g3 g4 g5 g6 g7 g8 g9 g10
      by_cases hm : 2 ∈ evFields (kk : Int)
      · rw [decide_eq_true hm] at HH
        have Hm := Lib.hid hm
        clear hm hj
        go_wp2_with fail
        refine HH.out.mono ?_
        rintro r w4 ⟨rfl, hb4⟩
        have HE4 := Lib.hid (blk HE.out hb4)
        have Hr4 := Lib.hid (own_below Hr0.out hb4)
        have Hb4 := Lib.hid (Hb.out.trans (hb4.mono Hb.out.size))
        obtain ⟨g0, g1, g2, g3, g4, g5, g6, g7, g8, g9, g10⟩ := box11 HE4.out
        clear hb4
        have HC := Lib.hid (ruint_any t w4 (HB4.out))
        go_wp2_with fail
        refine HC.out.mono ?_
        rintro r w5 ⟨u5, rfl, hu5, hb5⟩
        obtain ⟨p5, cp5, rfl, hB5⟩ := own_slice hu5 (form_byte _)
        have Hpe := Lib.hid (show pieceE ee 2 = form t from Hp.out.2.2.1)
        have HB5' := Lib.hid hB5
        have Hr5 := Lib.hid (own_below Hr4.out hb5)
        have Hb5 := Lib.hid (Hb4.out.trans (hb5.mono Hb4.out.size))
        have HE5 := Lib.hid (blk HE4.out hb5)
        have Hl5 := Lib.hid (show (form t).length ≤ 10000100 from by rw [← Hpe.out]; exact Hpl.out 2 Hm.out)
        have HF1 := Lib.hid (show F (2 + 1) = F 2 ++ form t from by rw [← Hpe.out]; exact HFin.out 2 Hm.out)
        clear hu5 hb5 hB5 g0 g1 g2 g3 g4 g5 g6 g7 g8 g9 g10
        generalize form t = P at *
        go_wp2_with (at_builtin; refine wpList_append_bytes _ rfl _ _ 22 rfl w.heap.size 5 Tryz.underlying22 info_u8 _ _ _ rfl Hr5.out p5 _ cp5 P rfl HB5'.out (by have := Hn.out; have := Hl5.out; omega) Hb5.out.size ?_; intro v9 w9 g1 g2)
        have Hs9 := Lib.hid (show w9.ownsRow w.heap.size 5 1 v9 (F (2 + 1)).length (u8s (F (2 + 1))) from by rw [HF1.out, List.length_append]; exact g1)
        have Hb9 := Lib.hid (Hb5.out.grown g2 Hb5.out.size (fun k hk => (Hr5.out.lt k hk).1))
        have HE9 := Lib.hid (grown_keep g2 HE5.out (row_ne Hr5.out HE5.out (by decide)))
        have Hn9 := Lib.hid (show (F (2 + 1)).length ≤ 20 + (2 + 1) * 10000100 from by rw [HF1.out, List.length_append]; have := Hn.out; have := Hl5.out; omega)
        clear g1 g2
        go_roundw
        case rel => exact ⟨2 + 1, by omega, rfl, Hs9.out, Hn9.out, HE9.out, Hb9.out⟩
        case measure => simp [intOf]
      · rw [decide_eq_false hm] at HH
        have HF1 := Lib.hid (HFout.out 2 hm)
        clear hm hj
        go_wp2_with fail
        refine HH.out.mono ?_
        rintro r w4 ⟨rfl, hb4⟩
        have HE4 := Lib.hid (blk HE.out hb4)
        have Hr4 := Lib.hid (own_below Hr0.out hb4)
        have Hb4 := Lib.hid (Hb.out.trans (hb4.mono Hb.out.size))
        clear hb4 g0
        go_wp2
        go_roundw
        case rel => exact ⟨2 + 1, by omega, rfl, by rw [HF1.out]; exact Hr4.out, by rw [HF1.out]; have := Hn.out; omega, HE4.out, Hb4.out⟩
        case measure => simp [intOf]
    · have HH := Lib.hid (has_any (kk : Int) 115 (by omega) wr)
      rw [show decide (115 ∈ evL (kk : Int)) = decide (3 ∈ evFields (kk : Int)) from decide_eq_decide.2 (lett_mem (i := 3) (by omega))] at HH
      obtain ⟨g0, g1, g2, g3, g4, g5, g6, g7, g8, g9, g10⟩ := box11 hE
      clear hE g1 g2 g3 g4 g5 g6 g7 g8 g9 g10
      by_cases hm : 3 ∈ evFields (kk : Int)
      · rw [decide_eq_true hm] at HH
        have Hm := Lib.hid hm
        clear hm hj
        go_wp2_with fail
        refine HH.out.mono ?_
        rintro r w4 ⟨rfl, hb4⟩
        have HE4 := Lib.hid (blk HE.out hb4)
        have Hr4 := Lib.hid (own_below Hr0.out hb4)
        have Hb4 := Lib.hid (Hb.out.trans (hb4.mono Hb.out.size))
        obtain ⟨g0, g1, g2, g3, g4, g5, g6, g7, g8, g9, g10⟩ := box11 HE4.out
        clear hb4
        have h1 := Hr.out.2.1 (Hrt.out 3 Hm.out)
        obtain ⟨cq, wq, hcv, hBq, hbq⟩ := bytes_of_str nm w4 HB5.out.1 (by omega)
        have HC := Lib.hid (rbytesF_any _ _ cq nm wq hBq (by omega))
        clear h1 hBq
        go_wp2_with fail
        refine HC.out.mono ?_
        rintro r w5 ⟨u5, rfl, hu5, hb50⟩
        have hb5 := hbq.trans (hb50.mono hbq.size)
        obtain ⟨p5, cp5, rfl, hB5⟩ := own_slice hu5 (formB_byte HB5.out.1)
        clear hb50 hbq
        have Hpe := Lib.hid (show pieceE ee 3 = formB nm from Hp.out.2.2.2.1)
        have HB5' := Lib.hid hB5
        have Hr5 := Lib.hid (own_below Hr4.out hb5)
        have Hb5 := Lib.hid (Hb4.out.trans (hb5.mono Hb4.out.size))
        have HE5 := Lib.hid (blk HE4.out hb5)
        have Hl5 := Lib.hid (show (formB nm).length ≤ 10000100 from by rw [← Hpe.out]; exact Hpl.out 3 Hm.out)
        have HF1 := Lib.hid (show F (3 + 1) = F 3 ++ formB nm from by rw [← Hpe.out]; exact HFin.out 3 Hm.out)
        clear hu5 hb5 hB5 g0 g1 g2 g3 g4 g5 g6 g7 g8 g9 g10
        generalize formB nm = P at *
        go_wp2_with (at_builtin; refine wpList_append_bytes _ rfl _ _ 22 rfl w.heap.size 5 Tryz.underlying22 info_u8 _ _ _ rfl Hr5.out p5 _ cp5 P rfl HB5'.out (by have := Hn.out; have := Hl5.out; omega) Hb5.out.size ?_; intro v9 w9 g1 g2)
        have Hs9 := Lib.hid (show w9.ownsRow w.heap.size 5 1 v9 (F (3 + 1)).length (u8s (F (3 + 1))) from by rw [HF1.out, List.length_append]; exact g1)
        have Hb9 := Lib.hid (Hb5.out.grown g2 Hb5.out.size (fun k hk => (Hr5.out.lt k hk).1))
        have HE9 := Lib.hid (grown_keep g2 HE5.out (row_ne Hr5.out HE5.out (by decide)))
        have Hn9 := Lib.hid (show (F (3 + 1)).length ≤ 20 + (3 + 1) * 10000100 from by rw [HF1.out, List.length_append]; have := Hn.out; have := Hl5.out; omega)
        clear g1 g2
        go_roundw
        case rel => exact ⟨3 + 1, by omega, rfl, Hs9.out, Hn9.out, HE9.out, Hb9.out⟩
        case measure => simp [intOf]
      · rw [decide_eq_false hm] at HH
        have HF1 := Lib.hid (HFout.out 3 hm)
        clear hm hj
        go_wp2_with fail
        refine HH.out.mono ?_
        rintro r w4 ⟨rfl, hb4⟩
        have HE4 := Lib.hid (blk HE.out hb4)
        have Hr4 := Lib.hid (own_below Hr0.out hb4)
        have Hb4 := Lib.hid (Hb.out.trans (hb4.mono Hb.out.size))
        clear hb4 g0
        go_wp2
        go_roundw
        case rel => exact ⟨3 + 1, by omega, rfl, by rw [HF1.out]; exact Hr4.out, by rw [HF1.out]; have := Hn.out; omega, HE4.out, Hb4.out⟩
        case measure => simp [intOf]
    · have HH := Lib.hid (has_any (kk : Int) 116 (by omega) wr)
      rw [show decide (116 ∈ evL (kk : Int)) = decide (4 ∈ evFields (kk : Int)) from decide_eq_decide.2 (lett_mem (i := 4) (by omega))] at HH
      obtain ⟨g0, g1, g2, g3, g4, g5, g6, g7, g8, g9, g10⟩ := box11 hE
      clear hE g1 g2 g3 g4 g5 g6 g7 g8 g9 g10
      by_cases hm : 4 ∈ evFields (kk : Int)
      · rw [decide_eq_true hm] at HH
        have Hm := Lib.hid hm
        clear hm hj
        go_wp2_with fail
        refine HH.out.mono ?_
        rintro r w4 ⟨rfl, hb4⟩
        have HE4 := Lib.hid (blk HE.out hb4)
        have Hr4 := Lib.hid (own_below Hr0.out hb4)
        have Hb4 := Lib.hid (Hb.out.trans (hb4.mono Hb.out.size))
        obtain ⟨g0, g1, g2, g3, g4, g5, g6, g7, g8, g9, g10⟩ := box11 HE4.out
        clear hb4
        have h1 := Hr.out.2.2.1 (Hrt.out 4 Hm.out)
        obtain ⟨cq, wq, hcv, hBq, hbq⟩ := bytes_of_str tx w4 HB6.out.1 (by omega)
        have HC := Lib.hid (rbytesF_any _ _ cq tx wq hBq (by omega))
        clear h1 hBq
        go_wp2_with fail
        refine HC.out.mono ?_
        rintro r w5 ⟨u5, rfl, hu5, hb50⟩
        have hb5 := hbq.trans (hb50.mono hbq.size)
        obtain ⟨p5, cp5, rfl, hB5⟩ := own_slice hu5 (formB_byte HB6.out.1)
        clear hb50 hbq
        have Hpe := Lib.hid (show pieceE ee 4 = formB tx from Hp.out.2.2.2.2.1)
        have HB5' := Lib.hid hB5
        have Hr5 := Lib.hid (own_below Hr4.out hb5)
        have Hb5 := Lib.hid (Hb4.out.trans (hb5.mono Hb4.out.size))
        have HE5 := Lib.hid (blk HE4.out hb5)
        have Hl5 := Lib.hid (show (formB tx).length ≤ 10000100 from by rw [← Hpe.out]; exact Hpl.out 4 Hm.out)
        have HF1 := Lib.hid (show F (4 + 1) = F 4 ++ formB tx from by rw [← Hpe.out]; exact HFin.out 4 Hm.out)
        clear hu5 hb5 hB5 g0 g1 g2 g3 g4 g5 g6 g7 g8 g9 g10
        generalize formB tx = P at *
        go_wp2_with (at_builtin; refine wpList_append_bytes _ rfl _ _ 22 rfl w.heap.size 5 Tryz.underlying22 info_u8 _ _ _ rfl Hr5.out p5 _ cp5 P rfl HB5'.out (by have := Hn.out; have := Hl5.out; omega) Hb5.out.size ?_; intro v9 w9 g1 g2)
        have Hs9 := Lib.hid (show w9.ownsRow w.heap.size 5 1 v9 (F (4 + 1)).length (u8s (F (4 + 1))) from by rw [HF1.out, List.length_append]; exact g1)
        have Hb9 := Lib.hid (Hb5.out.grown g2 Hb5.out.size (fun k hk => (Hr5.out.lt k hk).1))
        have HE9 := Lib.hid (grown_keep g2 HE5.out (row_ne Hr5.out HE5.out (by decide)))
        have Hn9 := Lib.hid (show (F (4 + 1)).length ≤ 20 + (4 + 1) * 10000100 from by rw [HF1.out, List.length_append]; have := Hn.out; have := Hl5.out; omega)
        clear g1 g2
        go_roundw
        case rel => exact ⟨4 + 1, by omega, rfl, Hs9.out, Hn9.out, HE9.out, Hb9.out⟩
        case measure => simp [intOf]
      · rw [decide_eq_false hm] at HH
        have HF1 := Lib.hid (HFout.out 4 hm)
        clear hm hj
        go_wp2_with fail
        refine HH.out.mono ?_
        rintro r w4 ⟨rfl, hb4⟩
        have HE4 := Lib.hid (blk HE.out hb4)
        have Hr4 := Lib.hid (own_below Hr0.out hb4)
        have Hb4 := Lib.hid (Hb.out.trans (hb4.mono Hb.out.size))
        clear hb4 g0
        go_wp2
        go_roundw
        case rel => exact ⟨4 + 1, by omega, rfl, by rw [HF1.out]; exact Hr4.out, by rw [HF1.out]; have := Hn.out; omega, HE4.out, Hb4.out⟩
        case measure => simp [intOf]
    · have HH := Lib.hid (has_any (kk : Int) 118 (by omega) wr)
      rw [show decide (118 ∈ evL (kk : Int)) = decide (5 ∈ evFields (kk : Int)) from decide_eq_decide.2 (lett_mem (i := 5) (by omega))] at HH
      obtain ⟨g0, g1, g2, g3, g4, g5, g6, g7, g8, g9, g10⟩ := box11 hE
      clear hE g1 g2 g3 g4 g5 g6 g7 g8 g9 g10
      by_cases hm : 5 ∈ evFields (kk : Int)
      · rw [decide_eq_true hm] at HH
        have Hm := Lib.hid hm
        clear hm hj
        go_wp2_with fail
        refine HH.out.mono ?_
        rintro r w4 ⟨rfl, hb4⟩
        have HE4 := Lib.hid (blk HE.out hb4)
        have Hr4 := Lib.hid (own_below Hr0.out hb4)
        have Hb4 := Lib.hid (Hb.out.trans (hb4.mono Hb.out.size))
        obtain ⟨g0, g1, g2, g3, g4, g5, g6, g7, g8, g9, g10⟩ := box11 HE4.out
        clear hb4
        have h1 := Hr.out.2.2.2 (Hrt.out 5 Hm.out)
        have H1 := Lib.hid h1
        have HC := Lib.hid (rbytesV_any v _ w4 (HV.out.below Hb4.out) Hlv.out.1 Hlv.out.2)
        unfold cells5 at HC
        clear h1
        go_wp2_with fail
        refine HC.out.mono ?_
        rintro r w5 (⟨h0, _⟩ | ⟨_, u5, rfl, hu5, hb5⟩)
        · rw [H1.out] at h0; cases h0
        obtain ⟨p5, cp5, rfl, hB5⟩ := own_slice hu5 (fun c hc => Hbyte.out 5 c (by rw [Hp.out.2.2.2.2.2]; exact hc))
        have Hpe := Lib.hid (show pieceE ee 5 = formV v from Hp.out.2.2.2.2.2)
        have HB5' := Lib.hid hB5
        have Hr5 := Lib.hid (own_below Hr4.out hb5)
        have Hb5 := Lib.hid (Hb4.out.trans (hb5.mono Hb4.out.size))
        have HE5 := Lib.hid (blk HE4.out hb5)
        have Hl5 := Lib.hid (show (formV v).length ≤ 10000100 from by rw [← Hpe.out]; exact Hpl.out 5 Hm.out)
        have HF1 := Lib.hid (show F (5 + 1) = F 5 ++ formV v from by rw [← Hpe.out]; exact HFin.out 5 Hm.out)
        clear hu5 hb5 hB5 g0 g1 g2 g3 g4 g5 g6 g7 g8 g9 g10
        generalize formV v = P at *
        go_wp2_with (at_builtin; refine wpList_append_bytes _ rfl _ _ 22 rfl w.heap.size 5 Tryz.underlying22 info_u8 _ _ _ rfl Hr5.out p5 _ cp5 P rfl HB5'.out (by have := Hn.out; have := Hl5.out; omega) Hb5.out.size ?_; intro v9 w9 g1 g2)
        have Hs9 := Lib.hid (show w9.ownsRow w.heap.size 5 1 v9 (F (5 + 1)).length (u8s (F (5 + 1))) from by rw [HF1.out, List.length_append]; exact g1)
        have Hb9 := Lib.hid (Hb5.out.grown g2 Hb5.out.size (fun k hk => (Hr5.out.lt k hk).1))
        have HE9 := Lib.hid (grown_keep g2 HE5.out (row_ne Hr5.out HE5.out (by decide)))
        have Hn9 := Lib.hid (show (F (5 + 1)).length ≤ 20 + (5 + 1) * 10000100 from by rw [HF1.out, List.length_append]; have := Hn.out; have := Hl5.out; omega)
        clear g1 g2
        go_roundw
        case rel => exact ⟨5 + 1, by omega, rfl, Hs9.out, Hn9.out, HE9.out, Hb9.out⟩
        case measure => simp [intOf]
      · rw [decide_eq_false hm] at HH
        have HF1 := Lib.hid (HFout.out 5 hm)
        clear hm hj
        go_wp2_with fail
        refine HH.out.mono ?_
        rintro r w4 ⟨rfl, hb4⟩
        have HE4 := Lib.hid (blk HE.out hb4)
        have Hr4 := Lib.hid (own_below Hr0.out hb4)
        have Hb4 := Lib.hid (Hb.out.trans (hb4.mono Hb.out.size))
        clear hb4 g0
        go_wp2
        go_roundw
        case rel => exact ⟨5 + 1, by omega, rfl, by rw [HF1.out]; exact Hr4.out, by rw [HF1.out]; have := Hn.out; omega, HE4.out, Hb4.out⟩
        case measure => simp [intOf]
    · clear hE
      go_wp2
      go_ret
      exact ⟨_, rfl, Hr0.out, Hb.out⟩
end Go.Proofs.YtcapbaocchaenaaGreat

/- Bytes that are read as an event by the reference, letter by letter: plain. -/
namespace Go.Proofs.YtcapbaocchaenaaGreat
open Go.RowKit Go.Shelf Fl

/-- The fields below j are read. -/
structure Dec2 (kk : Int) (l2 : List Nat) (j : Nat) (e : Ev) (lj : List Nat) : Prop where
  d : EvD e
  k : e.k = kk
  l : l2 = upE e j ++ lj
  m : ∀ i, i < 6 → (i ∉ evFields kk ∨ j ≤ i) → emptyE e i = true

theorem Dec2.start (k : Int) (l2 : List Nat) : Dec2 k l2 0 (ev0 k) l2 := ⟨ev0_d k, rfl, rfl, fun i _ _ => ev0_empty k i⟩

theorem upE_same {e e' : Ev} (hk : e'.k = e.k) : ∀ j, j ≤ 6 → (∀ i, i < j → pieceE e' i = pieceE e i) → upE e' j = upE e j
  | 0, _, _ => rfl
  | j + 1, hj, h => by
    rw [upE_succ, upE_succ, hk, upE_same hk j (by omega) (fun i hi => h i (by omega)), h j (by omega)]

theorem Dec2.step {k : Int} {l2 : List Nat} {j : Nat} {e e' : Ev} {lj rest : List Nat} (h : Dec2 k l2 j e lj) (hj : j < 6) (hm : j ∈ evFields k) (hf : FldOk j lj e e' rest) : Dec2 k l2 (j + 1) e' rest := by
  obtain ⟨h1, h2, h3, h4⟩ := hf
  refine ⟨h4 h.d, h2.trans h.k, ?_, fun i hi hc => ?_⟩
  · rw [upE_succ, h2, h.k, if_pos hm, upE_same h2 j (by omega) (fun i hi => (h3 i (by omega) (by omega)).1), List.append_assoc, ← h1]
    exact h.l
  · have hne : i ≠ j := fun e => by rw [e] at hc; rcases hc with hc | hc; exact hc hm; omega
    rw [(h3 i hi hne).2]
    exact h.m i hi (hc.imp id (fun h => by omega))

theorem Dec2.skip {k : Int} {l2 : List Nat} {j : Nat} {e : Ev} {lj : List Nat} (h : Dec2 k l2 j e lj) (hm : j ∉ evFields k) : Dec2 k l2 (j + 1) e lj := by
  refine ⟨h.d, h.k, ?_, fun i hi hc => h.m i hi ?_⟩
  · rw [upE_succ, h.k, if_neg hm, List.append_nil]
    exact h.l
  · rcases hc with hc | hc
    · exact .inl hc
    · exact .inr (by omega)

theorem fields_at (k : Int) (j : Nat) (hj : j < 6) (hm : j ∈ evFields k) : ∃ p, ∃ (h : p < (evFields k).length), (evFields k)[p] = j ∧ (evFields k).take p = (List.range j).filter (fun i => decide (i ∈ evFields k)) := by
  have hk : 1 ≤ k ∧ k ≤ 11 := by
    by_cases h : 1 ≤ k ∧ k ≤ 11
    · exact h
    · rw [(evName_none h).2] at hm; cases hm
  have hk' : k = 1 ∨ k = 2 ∨ k = 3 ∨ k = 4 ∨ k = 5 ∨ k = 6 ∨ k = 7 ∨ k = 8 ∨ k = 9 ∨ k = 10 ∨ k = 11 := by omega
  have hj' : j = 0 ∨ j = 1 ∨ j = 2 ∨ j = 3 ∨ j = 4 ∨ j = 5 := by omega
  clear hk hj
  rcases hk' with rfl | rfl | rfl | rfl | rfl | rfl | rfl | rfl | rfl | rfl | rfl <;> rcases hj' with rfl | rfl | rfl | rfl | rfl | rfl <;> first | (exfalso; revert hm; decide) | exact ⟨0, by decide, by decide, by decide⟩ | exact ⟨1, by decide, by decide, by decide⟩ | exact ⟨2, by decide, by decide, by decide⟩ | exact ⟨3, by decide, by decide, by decide⟩

theorem Dec2.no {k j : Nat} {l2 lj : List Nat} {e : Ev} (h : Dec2 (k : Int) l2 j e lj) (hk : k < 18446744073709551616) (hj : j < 6) (hm : j ∈ evFields (k : Int)) (hno : FldNo j lj) : NoE (form 1 ++ (form k ++ l2)) := by
  obtain ⟨p, hp, e1, e2⟩ := fields_at (k : Int) j hj hm
  refine noE_field hk h.d hp ?_ (by rw [e1]; exact hno)
  rw [e2]
  have := h.l
  unfold upE at this
  rw [h.k] at this
  exact this

theorem Dec2.invalid {k : Nat} {l2 lj : List Nat} {e : Ev} (h : Dec2 (k : Int) l2 6 e lj) (hk : k < 18446744073709551616) (hno : okE e = false) : NoE (form 1 ++ (form k ++ l2)) :=
  noE_valid hk h.d h.k (by have := h.l; rw [upE_six, h.k] at this; exact this) (fun i hi hm => h.m i hi (.inl hm)) hno

theorem Dec2.form {k : Nat} {l2 lj : List Nat} {e : Ev} (h : Dec2 (k : Int) l2 6 e lj) : form 1 ++ (form k ++ l2) = formE e ++ lj := by
  have := h.l
  rw [upE_six, h.k] at this
  rw [this]
  unfold formE
  rw [h.k, Int.toNat_natCast, List.append_assoc, List.append_assoc]

theorem okE_big {q : Ev} (h : 2147483647 < q.n) : okE q = false := by
  cases ho : okE q with
  | false => rfl
  | true =>
    have h1 := (okE_parts ho).2 1 (by omega)
    by_cases hm : 1 ∈ evFields q.k
    · rw [if_pos hm] at h1
      have : 1 ≤ q.n ∧ q.n ≤ 2147483647 := by simpa [rightE] using h1
      omega
    · rw [if_neg hm] at h1
      have : q.n = 0 := by simpa [emptyE] using h1
      omega
end Go.Proofs.YtcapbaocchaenaaGreat

