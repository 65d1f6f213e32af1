import Derived.Test.YtnbddiiedagllaaGreatSSB32
import Derived.Test.YtnbddiiedagllaaGreatSSB30
import Derived.Test.YtnbddiiedagllaaGreatSSB31
import Derived.Test.YtnbddiiedagllaaGreatSSB35
/- Rows of changes that the reference makes; the walks of its Clean and Older. -/
namespace Go.Proofs.YtnbddiiedagllaaGreat
open Go.RowKit Go.Maps Go.Shelf

attribute [local go_sem ↓] Go.wp_at_zero Go.wp_at_succ

abbrev OQ := SO × (Option Addr × Nat)
def cellsO (q : OQ) : List Value := [.int .i64 q.1.k, .string ⟨q.1.nm.toArray⟩, .string ⟨q.1.tt.toArray⟩, .slice q.2.1 q.1.bs.length q.2.2]
def flatO (xs : List OQ) : List Value := (xs.map cellsO).flatten

theorem flatO_len (xs : List OQ) : (flatO xs).length = xs.length * 4 := by
 induction xs with
 | nil => rfl
 | cons x xs ih =>
  show (cellsO x ++ flatO xs).length = _
  rw [List.length_append, ih, List.length_cons]
  show 4 + _ = _
  omega

theorem flatO_app (xs ys : List OQ) : flatO (xs ++ ys) = flatO xs ++ flatO ys := by
 unfold flatO
 rw [List.map_append, List.flatten_append]

theorem flatO_at : ∀ (xs : List OQ) (i r : Nat) (h : i < xs.length), r < 4 → (flatO xs)[i * 4 + r]? = (cellsO xs[i])[r]?
 | [], i, r, h, _ => absurd h (by simp)
 | x :: xs, i, r, h, hr => by
  show (cellsO x ++ flatO xs)[i * 4 + r]? = _
  match i with
  | 0 =>
   rw [List.getElem?_append_left (by show _ < 4; omega)]
   simp
  | i + 1 =>
   rw [List.getElem?_append_right (by show 4 ≤ _; omega)]
   have := flatO_at xs i r (by simpa using h) hr
   have e : (i + 1) * 4 + r - (cellsO x).length = i * 4 + r := by show (i + 1) * 4 + r - 4 = _; omega
   rw [e, this]
   simp

theorem flatO_one (xs : List OQ) : ∀ u ∈ flatO xs, u.oneCell' = true := by
 intro u hu
 obtain ⟨l, hl, hu⟩ := List.mem_flatten.1 hu
 obtain ⟨x, _, rfl⟩ := List.mem_map.1 hl
 unfold cellsO at hu
 simp only [List.mem_cons, List.not_mem_nil, or_false] at hu
 rcases hu with rfl | rfl | rfl | rfl <;> rfl

theorem info_op : (Tryz.prog.info? 101).map (fun i => (i.zero, i.size, i.bytes)) = some (some (.agg #[.int .i64 0, .string ⟨#[]⟩, .string ⟨#[]⟩, .slice none 0 0]), 4, 64) := by kernel_rfl

structure SOok (G : Nat) (w : World) (q : OQ) : Prop where
 bytes : Bytes w q.2.1 q.1.bs.length q.2.2 q.1.bs
 blk : 0 < q.1.bs.length → ∀ a, q.2.1 = some a → a.block < G
 kk : 1 ≤ q.1.k ∧ q.1.k ≤ 5
 n1 : q.1.nm.length ≤ 9223372036854775807
 n2 : q.1.tt.length ≤ 9223372036854775807

theorem SOok.grow {G : Nat} {w w' : World} {q : OQ} (h : SOok G w q) (hb : Below G w w') : SOok G w' q :=
 ⟨h.bytes.moved (fun h0 x hx => hb.block _ (h.blk h0 x hx)), h.blk, h.kk, h.n1, h.n2⟩

theorem sook_nil {G : Nat} {w : World} {k : Int} {nm tt : List UInt8} (hk : 1 ≤ k ∧ k ≤ 5) (hn : nm.length ≤ 9223372036854775807) (ht : tt.length ≤ 9223372036854775807) : SOok G w (⟨k, nm, tt, []⟩, (none, 0)) :=
 ⟨⟨rfl, Nat.le_refl _, Nat.zero_le _, (fun _ h => by cases h), fun _ => rfl, fun h => absurd h (Nat.lt_irrefl _)⟩, fun h => absurd h (Nat.lt_irrefl _), hk, hn, ht⟩

def ROps (G : Nat) (w : World) (v : Value) (l : List SO) : Prop :=
 ∃ qs : List OQ, qs.map Prod.fst = l ∧ w.ownsRow G 101 4 v l.length (flatO qs) ∧ ∀ q ∈ qs, SOok G w q

theorem ROps.nil (G : Nat) (w : World) : ROps G w (.slice none 0 0) [] :=
 ⟨[], rfl, World.ownsRow_nil _ _ _ _, fun _ h => by cases h⟩

theorem ROps.lt {G : Nat} {w : World} {v : Value} {l : List SO} (h : ROps G w v l) : ∀ k, v.ownBlock = some k → G ≤ k ∧ k < w.heap.size := by
 obtain ⟨qs, _, h2, _⟩ := h
 intro k hk
 rcases h2.2 with ⟨rfl, _⟩ | ⟨g, cap, cur, rfl, hb, hg, _⟩
 ·cases hk
 ·cases hk
  exact ⟨hb, (Array.getElem?_eq_some_iff.1 hg).1⟩

theorem ROps.grow {G : Nat} {w w' : World} {v : Value} {l : List SO} (h : ROps G w v l) (hG : G ≤ w.heap.size) (hb : Below w.heap.size w w') : ROps G w' v l := by
 obtain ⟨qs, h1, h2, h3⟩ := h
 exact ⟨qs, h1, own_belowF h2 hb, fun q hq => (h3 q hq).grow (hb.mono hG)⟩

theorem ROps.app {G : Nat} {w w' : World} {v' : Value} {qs rs : List OQ} {l m : List SO} (h1 : qs.map Prod.fst = l) (h3 : ∀ q ∈ qs, SOok G w q) (k1 : rs.map Prod.fst = m) (k3 : ∀ q ∈ rs, SOok G w q)
  (hown : w'.ownsRow G 101 4 v' (l.length + m.length) (flatO qs ++ flatO rs)) (hb : Below G w w') : ROps G w' v' (l ++ m) := by
 refine ⟨qs ++ rs, by rw [List.map_append, h1, k1], by rw [List.length_append, flatO_app]; exact hown, fun q hq => ?_⟩
 rcases List.mem_append.1 hq with h | h
 ·exact (h3 q h).grow hb
 ·exact (k3 q h).grow hb

theorem ROps.form {G : Nat} {w : World} {v : Value} {l : List SO} (h : ROps G w v l) : ∃ a c, v = .slice a l.length c := by
 obtain ⟨qs, _, h2, _⟩ := h
 rcases h2.2 with ⟨rfl, h0⟩ | ⟨g, cap, cur, rfl, _⟩
 ·exact ⟨none, 0, by rw [h0]⟩
 ·exact ⟨_, cap, rfl⟩

theorem ROps.sos {G : Nat} {w : World} {a : Option Addr} {n c : Nat} {l : List SO} (h : ROps G w (.slice a n c) l) (hm : n ≤ 1000000) (hn : n = l.length) : SOs w a n c l := by
 obtain ⟨qs, rfl, h2, h3⟩ := h
 refine ⟨hn.symm, hm, fun h0 => ?_⟩
 rcases h2.2 with ⟨e, _⟩ | ⟨g, cap, cur, e, hb, hg, hle, hcm, hsz, htk⟩
 ·cases e; omega
 ·cases e
  refine ⟨g, 0, rfl, fun i hi => ?_⟩
  have hq : i < qs.length := by rw [List.length_map] at hi; exact hi
  have key : ∀ r, r < 4 → w.cell? ⟨g, 0 + i * 4 + r, none⟩ = (cellsO qs[i])[r]? := by
   intro r hr
   rw [cell_of_row w g _ cur _ (0, 0) hg, ← flatO_at qs i r hq hr, ← htk, List.getElem?_take, if_pos ?_, Array.getElem?_toList, Nat.zero_add]
   rw [List.length_map]; omega
  have hk := h3 qs[i] (List.getElem_mem hq)
  have e : (qs.map Prod.fst)[i] = qs[i].1 := by rw [List.getElem_map]
  rw [e]
  exact ⟨qs[i].2.1, qs[i].2.2, key 0 (by omega), key 1 (by omega), key 2 (by omega), key 3 (by omega), hk.bytes, hk.kk, hk.n1, hk.n2⟩

theorem cellsO_one (q : OQ) : ∀ u ∈ cellsO q, u.oneCell' = true := fun u hu => flatO_one [q] u (by unfold flatO; simpa using hu)

theorem op_appends {G : Nat} {w : World} {v : Value} {l : List SO} (h : ROps G w v l) (hG : G ≤ w.heap.size) (q : OQ) (hq : SOok G w q) (cs : Array Value) (hcs : cs.toList = cellsO q) :
  ∃ xs : List Value, (w.alloc (.cells cs 101)).ownsRow G 101 4 v l.length xs ∧ G ≤ (w.alloc (.cells cs 101)).heap.size ∧
   (∀ j u, (cellsO q)[j]? = some u → (w.alloc (.cells cs 101)).cell? ((⟨w.heap.size, 0, none⟩ : Addr).add j) = some u) ∧
   ∀ w' v', w'.ownsRow G 101 4 v' (l.length + 1) (xs ++ cellsO q) → (w.alloc (.cells cs 101)).grownBy w' v.ownBlock → ROps G w' v' (l ++ [q.1]) ∧ Below G w w' := by
 have hb := (Below.refl w.heap.size w).alloc (Nat.le_refl _) (.cells cs 101)
 have hlt := (h.grow hG hb).lt
 have hs := hb.size
 obtain ⟨qs, h1, h2, h3⟩ := h.grow hG hb
 refine ⟨flatO qs, h2, by omega, fun j u hu => cells_new w cs _ j u (by rw [hcs]; exact hu), fun w' v' ho hg => ?_⟩
 have hbg : Below G (w.alloc (.cells cs 101)) w' := (Below.refl _ _).grown hg (by omega) (fun k e => (hlt k e).1)
 have hq' : SOok G (w.alloc (.cells cs 101)) q := hq.grow (hb.mono hG)
 refine ⟨ROps.app (rs := [q]) h1 h3 rfl (fun x hx => by rw [List.mem_singleton.1 hx]; exact hq') ?_ hbg, (hb.mono hG).trans hbg⟩
 have e : flatO [q] = cellsO q := by unfold flatO; simp
 rw [e]
 exact ho

theorem ROps.base {G G' : Nat} {w : World} {v : Value} {l : List SO} (h : ROps G w v l) (hg : G' ≤ G) (hs : ∀ x ∈ l, x.bs = []) : ROps G' w v l := by
 obtain ⟨qs, h1, h2, h3⟩ := h
 refine ⟨qs, h1, own_base5 h2 hg, fun q hq => ?_⟩
 have hk := h3 q hq
 have e : q.1.bs = [] := hs q.1 (by rw [← h1]; exact List.mem_map.2 ⟨q, hq, rfl⟩)
 exact ⟨hk.bytes, fun h0 => by rw [e] at h0; exact absurd h0 (Nat.lt_irrefl _), hk.kk, hk.n1, hk.n2⟩

structure Nms (w : World) (a : Option Addr) (n c : Nat) (nms : List (List UInt8)) : Prop where
 len : nms.length = n
 max : n ≤ 1000000
 byte : ∀ x ∈ nms, x.length ≤ 9223372036854775807
 cell : 0 < n → ∃ b o, a = some ⟨b, o, none⟩ ∧ ∀ i (h : i < nms.length), w.cell? ⟨b, o + i, none⟩ = some (.string ⟨nms[i].toArray⟩)

theorem Nms.grow {w w' : World} {a : Option Addr} {n c : Nat} {nms : List (List UInt8)} (h : Nms w a n c nms) (hb : Below w.heap.size w w') : Nms w' a n c nms := by
 refine ⟨h.len, h.max, h.byte, fun hn => ?_⟩
 obtain ⟨b, o, e, hc⟩ := h.cell hn
 exact ⟨b, o, e, fun i hi => cell_keep hb (hc i hi)⟩
end Go.Proofs.YtnbddiiedagllaaGreat

/- The walks of the reference's Clean and Older. -/
namespace Go.Proofs.YtnbddiiedagllaaGreat
open Go.RowKit Go.Maps Go.Shelf

attribute [local go_sem ↓] Go.wp_at_zero Go.wp_at_succ

theorem cleanM_take {nms : List (List UInt8)} {M : DM} {j : Nat} (h : j < nms.length) : cleanM (nms.take (j + 1)) M = cleanM (nms.take j) M ++ (if nms[j] ∈ M.fs.map F.n then [⟨5, nms[j], [], []⟩] else []) := by
 rw [List.take_succ_eq_append_getElem h, cleanM_snoc]

theorem cleanM_bs (nms : List (List UInt8)) (M : DM) : ∀ x ∈ cleanM nms M, x.bs = [] := by
 intro x hx
 unfold cleanM at hx
 obtain ⟨n, _, rfl⟩ := List.mem_map.1 hx
 rfl

theorem found_iff {M : DM} {R : List FR} (hfs : R.map FR.f = M.fs) (n : List UInt8) : findN FR.n n R ≠ none ↔ n ∈ M.fs.map F.n := by
 rw [← hfs, List.map_map]
 constructor
 ·intro h
  cases hf : findN FR.n n R with
  | none => exact absurd hf h
  | some y =>
   obtain ⟨h1, h2⟩ := findN_some hf
   exact List.mem_map.2 ⟨y, h1, h2⟩
 ·intro h e
  obtain ⟨y, hy, e2⟩ := List.mem_map.1 h
  exact findN_none e y hy e2

set_option maxRecDepth 100000 in
set_option maxHeartbeats 6400000 in
theorem rclean_any {X : Nat → Prop} {w : World} {M : DM} {a : Option Addr} {n c : Nat} {R : List FR} (hR : RowF X w a n c R) (hX : ∀ b, X b → b < w.heap.size) (hfs : R.map FR.f = M.fs) (p : Option Addr) (m k : Nat) (nms : List (List UInt8)) (hN : Nms w p m k nms) :
  Calls Tryz.prog 68 #[refV (M.room : Int) a n c (M.plan : Int) M.down, .slice p m k] w fun e w' => ∃ v, e = .returned v ∧ ROps w.heap.size w' v (cleanM nms M) ∧ Below w.heap.size w w' := by
 have hb1 := (Below.refl w.heap.size w).alloc (Nat.le_refl _) (.cells #[.int .i64 (M.room : Int), .slice a n c, .int .i64 (M.plan : Int), .bool M.down] 25)
 obtain ⟨b0, b1, b2, b3⟩ := box4 w (M.room : Int) a n c (M.plan : Int) M.down
 obtain ⟨i0, hi, hz0, hz1, hz2⟩ := info_parts info_op
 generalize hW1 : w.alloc (.cells #[.int .i64 (M.room : Int), .slice a n c, .int .i64 (M.plan : Int), .bool M.down] 25) = w1 at *
 have hR1 := hR.below hX hb1
 have hX1 : ∀ b, X b → b < w1.heap.size := fun b h => Nat.lt_of_lt_of_le (hX b h) hb1.size
 have HF2 := Lib.hid (fun W (hW : Below w1.heap.size w1 W) nm => rfind_any (hR1.below hX1 hW) (fun b hb => Nat.lt_of_lt_of_le (hX1 b hb) hW.size) nm (M.room : Int) (M.plan : Int) M.down)
 have HKK := Lib.hid (fun W (hW : Below w1.heap.size w1 W) => (show W.cell? ⟨w.heap.size, 0, none⟩ = some (.int .i64 (M.room : Int)) ∧ W.cell? ⟨w.heap.size, 1, none⟩ = some (.slice a n c) ∧ W.cell? ⟨w.heap.size, 2, none⟩ = some (.int .i64 (M.plan : Int)) ∧ W.cell? ⟨w.heap.size, 3, none⟩ = some (.bool M.down) from
  ⟨cell_keep hW b0, cell_keep hW b1, cell_keep hW b2, cell_keep hW b3⟩))
 have HN := Lib.hid (fun W (hW : Below w.heap.size w W) => hN.grow hW)
 have hls := Lib.hid hN.len
 have hmx := Lib.hid hN.max
 have hby := Lib.hid hN.byte
 have Hin := Lib.hid (fun nm => found_iff hfs nm)
 have Hb1 := Lib.hid hb1
 unfold refV
 clear hR hR1 hX hX1 hb1 hN hfs b0 b1 b2 b3
 generalize hpl : (M.plan : Int) = pl at *
 generalize hro : (M.room : Int) = ro at *
 generalize hdn : M.down = dn at *
 clear hpl hro hdn
 go_enter Tryz.func68, Tryz.ntmps68
 go_wp2_with fail
 (try rw [hW1])
 have HW1 := Lib.hid hW1
 clear hW1
 go_loopw [5, 6] (fun v i wr => ∃ j : Nat, j ≤ m ∧ i = .int .i64 (j : Int) ∧ ROps w1.heap.size wr v (cleanM (nms.take j) M) ∧ Below w1.heap.size w1 wr) (fun _ i _ => m - (intOf i).toNat)
 case atStart => exact ⟨0, Nat.zero_le _, rfl, ROps.nil _ _, Below.refl _ _⟩
 case round =>
  obtain ⟨j, hj, rfl, hS, hbr⟩ := hrel
  by_cases hlt : j < m
  ·have hjl : j < nms.length := by rw [hls.out]; exact hlt
   have hbw := Hb1.out.trans (hbr.mono Hb1.out.size)
   obtain ⟨b, o, rfl, hc⟩ := (HN.out wr hbw).cell (by omega)
   have hcj := hc j hjl
   have hct := cleanM_take (M := M) hjl
   have hnl := hby.out nms[j] (List.getElem_mem hjl)
   generalize nms[j] = nm at *
   have hbr2 := hbr
   have HF2y := Lib.hid (fun (hmem : nm ∈ M.fs.map F.n) W (hW : Below wr.heap.size wr W) => (HF2.out W (hbr.trans (hW.mono hbr.size)) nm).mono (R' := fun e w' => ∃ z : Int, e = .returned (.int .i64 z) ∧ 0 ≤ z ∧ Below W.heap.size W w') (by
    rintro e w' ⟨hb', ⟨i, hi, rfl, hfi⟩ | ⟨rfl, hno⟩⟩
    ·exact ⟨_, rfl, by omega, hb'⟩
    ·exact absurd hno ((Hin.out nm).2 hmem)))
   have HF2n := Lib.hid (fun (hmem : nm ∉ M.fs.map F.n) W (hW : Below wr.heap.size wr W) => (HF2.out W (hbr.trans (hW.mono hbr.size)) nm).mono (R' := fun e w' => ∃ z : Int, e = .returned (.int .i64 z) ∧ ¬ (0 ≤ z) ∧ Below W.heap.size W w') (by
    rintro e w' ⟨hb', ⟨i, hi, rfl, hfi⟩ | ⟨rfl, hno⟩⟩
    ·exact absurd ((Hin.out nm).1 (by rw [hfi]; simp)) hmem
    ·exact ⟨_, rfl, by omega, hb'⟩))
   have HS5 := Lib.hid (fun W (hW : Below wr.heap.size wr W) => by
    obtain ⟨k0, k1, k2, k3⟩ := HKK.out wr hbr
    exact (show W.cell? ⟨w.heap.size, 0, none⟩ = some (.int .i64 ro) ∧ W.cell? ⟨w.heap.size, 1, none⟩ = some (.slice a n c) ∧ W.cell? ⟨w.heap.size, 2, none⟩ = some (.int .i64 pl) ∧ W.cell? ⟨w.heap.size, 3, none⟩ = some (.bool dn) ∧ W.cell? ⟨b, o + j, none⟩ = some (.string ⟨nm.toArray⟩) from ⟨cell_keep hW k0, cell_keep hW k1, cell_keep hW k2, cell_keep hW k3, cell_keep hW hcj⟩))
   have hji : (j : Int) < (m : Int) := by omega
   have hmv := hmx.out
   have Hnl := Lib.hid hnl
   have Hct := Lib.hid hct
   have HS := Lib.hid hS
   have Hbr := Lib.hid hbr
   have Hlt := Lib.hid hlt
   have hcl := cleanM_len (nms.take j) M
   have Hcl := Lib.hid (show (cleanM (nms.take j) M).length ≤ 1000000 by have := hmx.out; rw [List.length_take] at hcl; omega)
   clear hc hct hnl hS hbr hlt hcl hbr2
   by_cases hmem : nm ∈ M.fs.map F.n
   ·have HFm := Lib.hid (HF2y.out hmem)
    unfold refV at HFm
    rw [if_pos hmem] at Hct
    clear hmem HF2y HF2n
    go_wp2_with fail
    go_region_held3 (fun w' => w'.cell? ⟨w.heap.size, 0, none⟩ = some (.int .i64 ro) ∧ w'.cell? ⟨w.heap.size, 1, none⟩ = some (.slice a n c) ∧ w'.cell? ⟨w.heap.size, 2, none⟩ = some (.int .i64 pl) ∧ w'.cell? ⟨w.heap.size, 3, none⟩ = some (.bool dn) ∧ w'.cell? ⟨b, o + j, none⟩ = some (.string ⟨nm.toArray⟩))
     (first | exact HS5.out _ hb5w | exact HS5.out _ (Below.drew (Below.refl _ _)))
     (first
      | (go_at_call 108; (with_reducible refine (HFm.out _ (Below.drew (Below.refl _ _))).mono ?_); rintro e w5 ⟨z, rfl, hz, hb5⟩; have hb5w : Below wr.heap.size wr w5 := (Below.drew (Below.refl _ _)).trans hb5))
    have Hb5 := Lib.hid hb5w
    have k4 := (HS5.out _ hb5w).2.2.2.2
    clear hb5 hb5w
    obtain ⟨xs, hown, hG, hnew, hclose⟩ := op_appends (HS.out.grow Hbr.out.size Hb5.out) (Nat.le_trans Hbr.out.size Hb5.out.size) (⟨5, nm, [], []⟩, (none, 0)) (sook_nil (by decide) Hnl.out (by decide)) #[.int .i64 5, .string ⟨nm.toArray⟩, .string ⟨#[]⟩, .slice none 0 0] rfl
    have Hown := Lib.hid hown
    have Hclose := Lib.hid hclose
    have Hnew := Lib.hid hnew
    clear hown hclose hnew
    go_wp2_with (at_builtin; go_loud (refine wpList_append_own_at _ rfl _ _ 102 rfl w1.heap.size 101 i0 _ 4 64 Tryz.underlying102 hi hz0 hz1 hz2 rfl (by decide) _ _ _ rfl Hown.out ⟨_, 0, none⟩ 1 1 (cellsO (⟨5, nm, [], []⟩, (none, 0))) rfl rfl Hnew.out (cellsO_one _) (by rw [maxLen_nat]; have := Hcl.out; omega) (by have := Hcl.out; omega) hG ?_; intro v' w6 hown' hgrow _ hblk))
    go_roundw
    case rel =>
     obtain ⟨q1, q2⟩ := Hclose.out _ _ hown' hgrow
     exact ⟨j + 1, Hlt.out, by go_num, by rw [Hct.out]; exact q1, Hbr.out.trans ((Hb5.out.mono Hbr.out.size).trans q2)⟩
    case measure => simp [intOf]; have := Hlt.out; omega
   ·have HFm := Lib.hid (HF2n.out hmem)
    unfold refV at HFm
    rw [if_neg hmem, List.append_nil] at Hct
    clear hmem HF2y HF2n
    go_wp2_with fail
    go_region_held3 (fun w' => w'.cell? ⟨w.heap.size, 0, none⟩ = some (.int .i64 ro) ∧ w'.cell? ⟨w.heap.size, 1, none⟩ = some (.slice a n c) ∧ w'.cell? ⟨w.heap.size, 2, none⟩ = some (.int .i64 pl) ∧ w'.cell? ⟨w.heap.size, 3, none⟩ = some (.bool dn) ∧ w'.cell? ⟨b, o + j, none⟩ = some (.string ⟨nm.toArray⟩))
     (first | exact HS5.out _ hb5w | exact HS5.out _ (Below.drew (Below.refl _ _)))
     (first
      | (go_at_call 108; (with_reducible refine (HFm.out _ (Below.drew (Below.refl _ _))).mono ?_); rintro e w5 ⟨z, rfl, hz, hb5⟩; have hb5w : Below wr.heap.size wr w5 := (Below.drew (Below.refl _ _)).trans hb5))
    have Hb5 := Lib.hid hb5w
    clear hb5 hb5w
    go_wp2
    go_roundw
    case rel => exact ⟨j + 1, Hlt.out, by go_num, by rw [Hct.out]; exact HS.out.grow Hbr.out.size Hb5.out, Hbr.out.trans (Hb5.out.mono Hbr.out.size)⟩
    case measure => simp [intOf]; have := Hlt.out; omega
  ·obtain rfl : j = m := by omega
   have hji : ¬ (j : Int) < (j : Int) := by omega
   have HS := Lib.hid (show ROps w.heap.size wr _ (cleanM nms M) from by rw [List.take_of_length_le (Nat.le_of_eq hls.out)] at hS; exact hS.base Hb1.out.size (cleanM_bs nms M))
   have Hb := Lib.hid (Hb1.out.trans (hbr.mono Hb1.out.size))
   clear hS hbr
   go_wp2
   go_ret
   exact ⟨_, rfl, HS.out, Hb.out⟩
end Go.Proofs.YtnbddiiedagllaaGreat

/- The walk of the reference's Older. -/
namespace Go.Proofs.YtnbddiiedagllaaGreat
open Go.RowKit Go.Maps Go.Shelf

attribute [local go_sem ↓] Go.wp_at_zero Go.wp_at_succ

def olderL (l : List Int) (first : Int) : List (List UInt8) := (l.filter fun x => decide (x < first)).map fun x => nmB x.toNat

theorem olderL_take {l : List Int} {first : Int} {j : Nat} (h : j < l.length) : olderL (l.take (j + 1)) first = olderL (l.take j) first ++ (if l[j] < first then [nmB l[j].toNat] else []) := by
 rw [List.take_succ_eq_append_getElem h]
 unfold olderL
 rw [List.filter_append, List.map_append]
 congr 1
 by_cases hx : l[j] < first
 ·rw [if_pos hx, List.filter_cons_of_pos (by simpa using hx)]; rfl
 ·rw [if_neg hx, List.filter_cons_of_neg (by simpa using hx)]; rfl

theorem olderL_len (l : List Int) (first : Int) : (olderL l first).length ≤ l.length := by
 unfold olderL
 rw [List.length_map]
 exact List.length_filter_le _ _

theorem info_strO : (Tryz.prog.info? 9).map (fun i => (i.zero, i.size, i.bytes)) = some (some (.string ⟨#[]⟩), 1, 16) := by kernel_rfl

theorem nms_row {w : World} {base : Nat} {e : TypeId} {v : Value} {m : Nat} {ns : List (List UInt8)} (h : w.ownsRow base e 1 v m (ns.map encStr)) (hm : ∀ n ∈ ns, n.length ≤ 9223372036854775807) (hx : m ≤ 1000000) : ∃ p c, v = .slice p m c ∧ Nms w p m c ns := by
 have hlen : ns.length = m := by have := h.1; simpa using this
 rcases h.2 with ⟨rfl, rfl⟩ | ⟨g, cap, cur, rfl, hbg, hg, hle, hcm, hsz, htake⟩
 ·exact ⟨none, 0, rfl, hlen, hx, hm, fun h => absurd h (Nat.lt_irrefl _)⟩
 ·refine ⟨_, cap, rfl, hlen, hx, hm, fun _ => ⟨g, 0, rfl, fun i hi => ?_⟩⟩
  rw [cell_of_row w g (0 + i) cur _ (0, 0) hg, Nat.zero_add]
  have h1 : cur[i]? = (ns.map encStr)[i]? := by
   rw [← htake, List.getElem?_take, if_pos (by omega), Array.getElem?_toList]
  rw [h1, List.getElem?_map, List.getElem?_eq_getElem hi]
  rfl

set_option maxRecDepth 100000 in
set_option maxHeartbeats 6400000 in
theorem rolder_any (p : Option Addr) (m k : Nat) (l : List Int) (first : Int) (w : World) (hI : Ints w p m k l) (hm : m ≤ 1000000) (hl : ∀ x ∈ l, 1 ≤ x ∧ x ≤ 99999999) :
  Calls Tryz.prog 70 #[.slice p m k, .int .i64 first] w fun e w' => ∃ a c, e = .returned (.slice a (olderL l first).length c) ∧ Nms w' a (olderL l first).length c (olderL l first) ∧ Below w.heap.size w w' := by
 obtain ⟨i0, hi, hz0, hz1, hz2⟩ := info_parts info_strO
 have HI := Lib.hid (fun W (hW : Below w.heap.size w W) => hI.grow hW)
 have HNm := Lib.hid (fun N h1 h2 W => rsegname_yes N W h1 h2)
 have hls := Lib.hid hI.len
 have Hl := Lib.hid hl
 clear hI hl
 go_enter Tryz.func70, Tryz.ntmps70
 go_wp2_with fail
 go_loopw [5, 6] (fun v i wr => ∃ j : Nat, j ≤ m ∧ i = .int .i64 (j : Int) ∧ wr.ownsRow w.heap.size 9 1 v (olderL (l.take j) first).length ((olderL (l.take j) first).map encStr) ∧ Below w.heap.size w wr) (fun _ i _ => m - (intOf i).toNat)
 case atStart => exact ⟨0, Nat.zero_le _, rfl, World.ownsRow_nil _ _ _ _, Below.refl _ _⟩
 case round =>
  obtain ⟨j, hj, rfl, hS, hbr⟩ := hrel
  by_cases hlt : j < m
  ·have hjl : j < l.length := by rw [hls.out]; exact hlt
   obtain ⟨b, o, rfl, hc⟩ := (HI.out wr hbr).cell (by omega)
   have hcj := hc j hlt
   have hgj : l.getD j 0 = l[j] := by rw [List.getD_eq_getElem?_getD, List.getElem?_eq_getElem hjl]; rfl
   rw [hgj] at hcj
   have hot := olderL_take (first := first) hjl
   obtain ⟨p1, p2⟩ := Hl.out l[j] (List.getElem_mem hjl)
   clear hgj
   generalize l[j] = y at *
   obtain ⟨N, rfl⟩ : ∃ N : Nat, y = (N : Int) := ⟨y.toNat, by omega⟩
   rw [Int.toNat_natCast] at hot
   have hol := olderL_len (l.take j) first
   have hli : (olderL (l.take j) first).length ≤ 1000000 := by rw [List.length_take] at hol; omega
   have Hol := Lib.hid hli
   have hji : (j : Int) < (m : Int) := by omega
   have Hlt := Lib.hid hlt
   have Hot := Lib.hid hot
   have HS := Lib.hid hS
   have Hbr := Lib.hid hbr
   have hsz := hbr.size
   clear hc hot hS hbr hlt hol hli
   by_cases hy : (N : Int) < first
   ·have Hot2 := Lib.hid (Hot.out.trans (by rw [if_pos hy]))
    go_wp2_with fail
    refine (HNm.out N (by omega) (by omega) _).mono ?_
    rintro e w4 ⟨rfl, rfl⟩
    go_wp2_with (at_builtin; refine wpList_append_own_at _ rfl _ _ 78 rfl w.heap.size 9 i0 _ 1 16 Tryz.underlying78 hi hz0 hz1 hz2 rfl (by decide) _ _ _ rfl (own_below HS.out ((Below.refl _ _).alloc (Nat.le_refl _) _)) ⟨_, 0, none⟩ 1 1 [.string (str (nameL N))] rfl rfl (cell_one_new _ _ _) (by simp [Value.oneCell']) (by rw [maxLen_nat]; have := Hol.out; omega) (by have := Hol.out; omega) (by rw [World.size_alloc]; omega) ?_; intro v' w6 hown' hgrow _ hblk)
    refine ⟨⟨j + 1, Hlt.out, by go_num, ?_, (Hbr.out.alloc hsz _).grown hgrow (by rw [World.size_alloc]; omega) (fun k e => own_ge5 HS.out k e)⟩, by simp [intOf]; have := Hlt.out; omega⟩
    rw [Hot2.out, List.length_append, List.map_append]
    exact hown'
   ·have Hot2 := Lib.hid (Hot.out.trans (by rw [if_neg hy, List.append_nil]))
    go_wp2
    go_roundw
    case rel => exact ⟨j + 1, Hlt.out, by go_num, by rw [Hot2.out]; exact HS.out, Hbr.out⟩
    case measure => simp [intOf]; have := Hlt.out; omega
  ·obtain rfl : j = m := by omega
   have hji : ¬ (j : Int) < (j : Int) := by omega
   rw [List.take_of_length_le (Nat.le_of_eq hls.out)] at hS
   have hol := olderL_len l first
   have hq := hls.out
   obtain ⟨a, c, rfl, hN⟩ := nms_row hS (fun n hn => by
    unfold olderL at hn
    obtain ⟨x, _, rfl⟩ := List.mem_map.1 hn
    rw [nmB_length]; decide) (by omega)
   have HN := Lib.hid hN
   have Hb := Lib.hid hbr
   clear hS hbr hN hol hq
   go_wp2
   go_ret
   exact ⟨_, _, rfl, HN.out, Hb.out⟩
end Go.Proofs.YtnbddiiedagllaaGreat

