import Derived.Test.YtmiepigieajpcaaGreatHScanOpensJ3
import Derived.Test.YtmiepigieajpcaaGreatHScanOpensJ1
import Derived.Test.YtmiepigieajpcaaGreatHScanOpensJ5
import Derived.Test.YtmiepigieajpcaaGreatHScanOpensJ4
import Derived.Test.YtmiepigieajpcaaGreatHScanOpensJ6
import Derived.Deep.AppendLies
import Derived.Deep.RegionHeld3
import Derived.Deep.DeepCutAuto
import Derived.Deep.CutBlock
/- Rows of changes that the reference makes; the walks of its Clean and Older. -/
namespace Go.Proofs.YtmiepigieajpcaaGreat
open Go.RowKit Go.Maps Go.Shelf

attribute [local go_sem ↓] Go.wp_at_zero Go.wp_at_succ

abbrev OQ := SO × (Option Addr × Nat)
def cellsO (q : OQ) : List Value := [.int .i64 q.1.k, .string ⟨q.1.nm.toArray⟩, .string ⟨q.1.tt.toArray⟩, .slice q.2.1 q.1.bs.length q.2.2]
def flatO (xs : List OQ) : List Value := (xs.map cellsO).flatten

theorem flatO_len (xs : List OQ) : (flatO xs).length = xs.length * 4 := by
  induction xs with
  | nil => rfl
  | cons x xs ih =>
    show (cellsO x ++ flatO xs).length = _
    rw [List.length_append, ih, List.length_cons]
    show 4 + _ = _
    omega

theorem flatO_app (xs ys : List OQ) : flatO (xs ++ ys) = flatO xs ++ flatO ys := by
  unfold flatO
  rw [List.map_append, List.flatten_append]

theorem flatO_at : ∀ (xs : List OQ) (i r : Nat) (h : i < xs.length), r < 4 → (flatO xs)[i * 4 + r]? = (cellsO xs[i])[r]?
  | [], i, r, h, _ => absurd h (by simp)
  | x :: xs, i, r, h, hr => by
    show (cellsO x ++ flatO xs)[i * 4 + r]? = _
    match i with
    | 0 =>
      rw [List.getElem?_append_left (by show _ < 4; omega)]
      simp
    | i + 1 =>
      rw [List.getElem?_append_right (by show 4 ≤ _; omega)]
      have := flatO_at xs i r (by simpa using h) hr
      have e : (i + 1) * 4 + r - (cellsO x).length = i * 4 + r := by show (i + 1) * 4 + r - 4 = _; omega
      rw [e, this]
      simp

theorem flatO_one (xs : List OQ) : ∀ u ∈ flatO xs, u.oneCell' = true := by
  intro u hu
  obtain ⟨l, hl, hu⟩ := List.mem_flatten.1 hu
  obtain ⟨x, _, rfl⟩ := List.mem_map.1 hl
  unfold cellsO at hu
  simp only [List.mem_cons, List.not_mem_nil, or_false] at hu
  rcases hu with rfl | rfl | rfl | rfl <;> rfl

theorem info_op : (Tryz.prog.info? 101).map (fun i => (i.zero, i.size, i.bytes)) = some (some (.agg #[.int .i64 0, .string ⟨#[]⟩, .string ⟨#[]⟩, .slice none 0 0]), 4, 64) := by kernel_rfl

/-- A change whose bytes lie below G. -/
structure SOok (G : Nat) (w : World) (q : OQ) : Prop where
  bytes : Bytes w q.2.1 q.1.bs.length q.2.2 q.1.bs
  blk : 0 < q.1.bs.length → ∀ a, q.2.1 = some a → a.block < G
  kk : 1 ≤ q.1.k ∧ q.1.k ≤ 5
  n1 : q.1.nm.length ≤ 9223372036854775807
  n2 : q.1.tt.length ≤ 9223372036854775807

theorem SOok.grow {G : Nat} {w w' : World} {q : OQ} (h : SOok G w q) (hb : Below G w w') : SOok G w' q :=
  ⟨h.bytes.moved (fun h0 x hx => hb.block _ (h.blk h0 x hx)), h.blk, h.kk, h.n1, h.n2⟩

theorem sook_nil {G : Nat} {w : World} {k : Int} {nm tt : List UInt8} (hk : 1 ≤ k ∧ k ≤ 5) (hn : nm.length ≤ 9223372036854775807) (ht : tt.length ≤ 9223372036854775807) : SOok G w (⟨k, nm, tt, []⟩, (none, 0)) :=
  ⟨⟨rfl, Nat.le_refl _, Nat.zero_le _, (fun _ h => by cases h), fun _ => rfl, fun h => absurd h (Nat.lt_irrefl _)⟩, fun h => absurd h (Nat.lt_irrefl _), hk, hn, ht⟩

/-- A row of the call's own holds the changes l. -/
def ROps (G : Nat) (w : World) (v : Value) (l : List SO) : Prop :=
  ∃ qs : List OQ, qs.map Prod.fst = l ∧ w.ownsRow G 101 4 v l.length (flatO qs) ∧ ∀ q ∈ qs, SOok G w q

theorem ROps.nil (G : Nat) (w : World) : ROps G w (.slice none 0 0) [] :=
  ⟨[], rfl, World.ownsRow_nil _ _ _ _, fun _ h => by cases h⟩

theorem ROps.lt {G : Nat} {w : World} {v : Value} {l : List SO} (h : ROps G w v l) : ∀ k, v.ownBlock = some k → G ≤ k ∧ k < w.heap.size := by
  obtain ⟨qs, _, h2, _⟩ := h
  intro k hk
  rcases h2.2 with ⟨rfl, _⟩ | ⟨g, cap, cur, rfl, hb, hg, _⟩
  · cases hk
  · cases hk
    exact ⟨hb, (Array.getElem?_eq_some_iff.1 hg).1⟩

theorem ROps.grow {G : Nat} {w w' : World} {v : Value} {l : List SO} (h : ROps G w v l) (hG : G ≤ w.heap.size) (hb : Below w.heap.size w w') : ROps G w' v l := by
  obtain ⟨qs, h1, h2, h3⟩ := h
  exact ⟨qs, h1, own_belowF h2 hb, fun q hq => (h3 q hq).grow (hb.mono hG)⟩

theorem ROps.app {G : Nat} {w w' : World} {v' : Value} {qs rs : List OQ} {l m : List SO} (h1 : qs.map Prod.fst = l) (h3 : ∀ q ∈ qs, SOok G w q) (k1 : rs.map Prod.fst = m) (k3 : ∀ q ∈ rs, SOok G w q)
    (hown : w'.ownsRow G 101 4 v' (l.length + m.length) (flatO qs ++ flatO rs)) (hb : Below G w w') : ROps G w' v' (l ++ m) := by
  refine ⟨qs ++ rs, by rw [List.map_append, h1, k1], by rw [List.length_append, flatO_app]; exact hown, fun q hq => ?_⟩
  rcases List.mem_append.1 hq with h | h
  · exact (h3 q h).grow hb
  · exact (k3 q h).grow hb

theorem ROps.form {G : Nat} {w : World} {v : Value} {l : List SO} (h : ROps G w v l) : ∃ a c, v = .slice a l.length c := by
  obtain ⟨qs, _, h2, _⟩ := h
  rcases h2.2 with ⟨rfl, h0⟩ | ⟨g, cap, cur, rfl, _⟩
  · exact ⟨none, 0, by rw [h0]⟩
  · exact ⟨_, cap, rfl⟩

/-- The changes that lie at a row, as what Steps takes. -/
theorem ROps.sos {G : Nat} {w : World} {a : Option Addr} {n c : Nat} {l : List SO} (h : ROps G w (.slice a n c) l) (hm : n ≤ 1000000) (hn : n = l.length) : SOs w a n c l := by
  obtain ⟨qs, rfl, h2, h3⟩ := h
  refine ⟨hn.symm, hm, fun h0 => ?_⟩
  rcases h2.2 with ⟨e, _⟩ | ⟨g, cap, cur, e, hb, hg, hle, hcm, hsz, htk⟩
  · cases e; omega
  · cases e
    refine ⟨g, 0, rfl, fun i hi => ?_⟩
    have hq : i < qs.length := by rw [List.length_map] at hi; exact hi
    have key : ∀ r, r < 4 → w.cell? ⟨g, 0 + i * 4 + r, none⟩ = (cellsO qs[i])[r]? := by
      intro r hr
      rw [cell_of_row w g _ cur _ (0, 0) hg, ← flatO_at qs i r hq hr, ← htk, List.getElem?_take, if_pos ?_, Array.getElem?_toList, Nat.zero_add]
      rw [List.length_map]; omega
    have hk := h3 qs[i] (List.getElem_mem hq)
    have e : (qs.map Prod.fst)[i] = qs[i].1 := by rw [List.getElem_map]
    rw [e]
    exact ⟨qs[i].2.1, qs[i].2.2, key 0 (by omega), key 1 (by omega), key 2 (by omega), key 3 (by omega), hk.bytes, hk.kk, hk.n1, hk.n2⟩

theorem cellsO_one (q : OQ) : ∀ u ∈ cellsO q, u.oneCell' = true := fun u hu => flatO_one [q] u (by unfold flatO; simpa using hu)

/-- One change more. -/
theorem op_appends {G : Nat} {w : World} {v : Value} {l : List SO} (h : ROps G w v l) (hG : G ≤ w.heap.size) (q : OQ) (hq : SOok G w q) (cs : Array Value) (hcs : cs.toList = cellsO q) :
    ∃ xs : List Value, (w.alloc (.cells cs 101)).ownsRow G 101 4 v l.length xs ∧ G ≤ (w.alloc (.cells cs 101)).heap.size ∧
      (∀ j u, (cellsO q)[j]? = some u → (w.alloc (.cells cs 101)).cell? ((⟨w.heap.size, 0, none⟩ : Addr).add j) = some u) ∧
      ∀ w' v', w'.ownsRow G 101 4 v' (l.length + 1) (xs ++ cellsO q) → (w.alloc (.cells cs 101)).grownBy w' v.ownBlock → ROps G w' v' (l ++ [q.1]) ∧ Below G w w' := by
  have hb := (Below.refl w.heap.size w).alloc (Nat.le_refl _) (.cells cs 101)
  have hlt := (h.grow hG hb).lt
  have hs := hb.size
  obtain ⟨qs, h1, h2, h3⟩ := h.grow hG hb
  refine ⟨flatO qs, h2, by omega, fun j u hu => cells_new w cs _ j u (by rw [hcs]; exact hu), fun w' v' ho hg => ?_⟩
  have hbg : Below G (w.alloc (.cells cs 101)) w' := (Below.refl _ _).grown hg (by omega) (fun k e => (hlt k e).1)
  have hq' : SOok G (w.alloc (.cells cs 101)) q := hq.grow (hb.mono hG)
  refine ⟨ROps.app (rs := [q]) h1 h3 rfl (fun x hx => by rw [List.mem_singleton.1 hx]; exact hq') ?_ hbg, (hb.mono hG).trans hbg⟩
  have e : flatO [q] = cellsO q := by unfold flatO; simp
  rw [e]
  exact ho

/-- A row of changes put behind another. -/
theorem ops_appends {G : Nat} {w : World} {v : Value} {l m : List SO} (h : ROps G w v l) (hG : G ≤ w.heap.size) {a : Option Addr} {n c : Nat} (k : ROps G w (.slice a n c) m) (hm : 0 < m.length) :
    ∃ (xs : List Value) (ad : Addr) (ns : List Value), w.ownsRow G 101 4 v l.length xs ∧ a = some ad ∧ n = m.length ∧ ns.length = n * 4 ∧ (∀ u ∈ ns, u.oneCell' = true) ∧ (∀ j u, ns[j]? = some u → w.cell? (ad.add j) = some u) ∧
      ∀ w' v', w'.ownsRow G 101 4 v' (l.length + m.length) (xs ++ ns) → w.grownBy w' v.ownBlock → ROps G w' v' (l ++ m) ∧ Below G w w' := by
  have hlt := h.lt
  obtain ⟨qs, h1, h2, h3⟩ := h
  obtain ⟨rs, k1, k2, k3⟩ := k
  have hrl : rs.length = m.length := by rw [← k1, List.length_map]
  rcases k2.2 with ⟨e, h0⟩ | ⟨g, cap, cur, e, hb, hg, hle, hcm, hsz, htk⟩
  · omega
  · cases e
    refine ⟨flatO qs, ⟨g, 0, none⟩, flatO rs, h2, rfl, rfl, by rw [flatO_len, hrl], flatO_one rs, fun j u hu => ?_, fun w' v' ho hgr => ?_⟩
    · rw [addr_add, Nat.zero_add, cell_of_row w g j cur _ (0, 0) hg, ← Array.getElem?_toList]
      have hj : j < (flatO rs).length := (List.getElem?_eq_some_iff.1 hu).1
      rw [← htk, List.getElem?_take] at hu
      split at hu
      · exact hu
      · cases hu
    · have hbg : Below G w w' := (Below.refl _ _).grown hgr hG (fun k e => (hlt k e).1)
      exact ⟨ROps.app h1 h3 k1 k3 ho hbg, hbg⟩

theorem ROps.base {G G' : Nat} {w : World} {v : Value} {l : List SO} (h : ROps G w v l) (hg : G' ≤ G) (hs : ∀ x ∈ l, x.bs = []) : ROps G' w v l := by
  obtain ⟨qs, h1, h2, h3⟩ := h
  refine ⟨qs, h1, own_base5 h2 hg, fun q hq => ?_⟩
  have hk := h3 q hq
  have e : q.1.bs = [] := hs q.1 (by rw [← h1]; exact List.mem_map.2 ⟨q, hq, rfl⟩)
  exact ⟨hk.bytes, fun h0 => by rw [e] at h0; exact absurd h0 (Nat.lt_irrefl _), hk.kk, hk.n1, hk.n2⟩

/-- Names in cells. -/
structure Nms (w : World) (a : Option Addr) (n c : Nat) (nms : List (List UInt8)) : Prop where
  len : nms.length = n
  max : n ≤ 1000000
  byte : ∀ x ∈ nms, x.length ≤ 9223372036854775807
  cell : 0 < n → ∃ b o, a = some ⟨b, o, none⟩ ∧ ∀ i (h : i < nms.length), w.cell? ⟨b, o + i, none⟩ = some (.string ⟨nms[i].toArray⟩)

theorem Nms.grow {w w' : World} {a : Option Addr} {n c : Nat} {nms : List (List UInt8)} (h : Nms w a n c nms) (hb : Below w.heap.size w w') : Nms w' a n c nms := by
  refine ⟨h.len, h.max, h.byte, fun hn => ?_⟩
  obtain ⟨b, o, e, hc⟩ := h.cell hn
  exact ⟨b, o, e, fun i hi => cell_keep hb (hc i hi)⟩
end Go.Proofs.YtmiepigieajpcaaGreat

/- The walks of the reference's Clean and Older. -/
namespace Go.Proofs.YtmiepigieajpcaaGreat
open Go.RowKit Go.Maps Go.Shelf

attribute [local go_sem ↓] Go.wp_at_zero Go.wp_at_succ

theorem cleanM_take {nms : List (List UInt8)} {M : DM} {j : Nat} (h : j < nms.length) : cleanM (nms.take (j + 1)) M = cleanM (nms.take j) M ++ (if nms[j] ∈ M.fs.map F.n then [⟨5, nms[j], [], []⟩] else []) := by
  rw [List.take_succ_eq_append_getElem h, cleanM_snoc]

theorem cleanM_bs (nms : List (List UInt8)) (M : DM) : ∀ x ∈ cleanM nms M, x.bs = [] := by
  intro x hx
  unfold cleanM at hx
  obtain ⟨n, _, rfl⟩ := List.mem_map.1 hx
  rfl

theorem found_iff {M : DM} {R : List FR} (hfs : R.map FR.f = M.fs) (n : List UInt8) : findN FR.n n R ≠ none ↔ n ∈ M.fs.map F.n := by
  rw [← hfs, List.map_map]
  constructor
  · intro h
    cases hf : findN FR.n n R with
    | none => exact absurd hf h
    | some y =>
      obtain ⟨h1, h2⟩ := findN_some hf
      exact List.mem_map.2 ⟨y, h1, h2⟩
  · intro h e
    obtain ⟨y, hy, e2⟩ := List.mem_map.1 h
    exact findN_none e y hy e2

set_option maxRecDepth 100000 in
set_option maxHeartbeats 6400000 in
theorem rclean_any {X : Nat → Prop} {w : World} {M : DM} {a : Option Addr} {n c : Nat} {R : List FR} (hR : RowF X w a n c R) (hX : ∀ b, X b → b < w.heap.size) (hfs : R.map FR.f = M.fs) (p : Option Addr) (m k : Nat) (nms : List (List UInt8)) (hN : Nms w p m k nms) :
    Calls Tryz.prog 68 #[refV (M.room : Int) a n c (M.plan : Int) M.down, .slice p m k] w fun e w' => ∃ v, e = .returned v ∧ ROps w.heap.size w' v (cleanM nms M) ∧ Below w.heap.size w w' := by
  have hb1 := (Below.refl w.heap.size w).alloc (Nat.le_refl _) (.cells #[.int .i64 (M.room : Int), .slice a n c, .int .i64 (M.plan : Int), .bool M.down] 25)
  obtain ⟨b0, b1, b2, b3⟩ := box4 w (M.room : Int) a n c (M.plan : Int) M.down
  obtain ⟨i0, hi, hz0, hz1, hz2⟩ := info_parts info_op
  generalize hW1 : w.alloc (.cells #[.int .i64 (M.room : Int), .slice a n c, .int .i64 (M.plan : Int), .bool M.down] 25) = w1 at *
  have hR1 := hR.below hX hb1
  have hX1 : ∀ b, X b → b < w1.heap.size := fun b h => Nat.lt_of_lt_of_le (hX b h) hb1.size
  have HF2 := Lib.hid (fun W (hW : Below w1.heap.size w1 W) nm => rfind_any (hR1.below hX1 hW) (fun b hb => Nat.lt_of_lt_of_le (hX1 b hb) hW.size) nm (M.room : Int) (M.plan : Int) M.down)
  have HKK := Lib.hid (fun W (hW : Below w1.heap.size w1 W) => (show W.cell? ⟨w.heap.size, 0, none⟩ = some (.int .i64 (M.room : Int)) ∧ W.cell? ⟨w.heap.size, 1, none⟩ = some (.slice a n c) ∧ W.cell? ⟨w.heap.size, 2, none⟩ = some (.int .i64 (M.plan : Int)) ∧ W.cell? ⟨w.heap.size, 3, none⟩ = some (.bool M.down) from
    ⟨cell_keep hW b0, cell_keep hW b1, cell_keep hW b2, cell_keep hW b3⟩))
  have HN := Lib.hid (fun W (hW : Below w.heap.size w W) => hN.grow hW)
  have hls := Lib.hid hN.len
  have hmx := Lib.hid hN.max
  have hby := Lib.hid hN.byte
  have Hin := Lib.hid (fun nm => found_iff hfs nm)
  have Hb1 := Lib.hid hb1
  unfold refV
  clear hR hR1 hX hX1 hb1 hN hfs b0 b1 b2 b3
  generalize hpl : (M.plan : Int) = pl at *
  generalize hro : (M.room : Int) = ro at *
  generalize hdn : M.down = dn at *
  clear hpl hro hdn
  go_enter Tryz.func68, Tryz.ntmps68
  go_wp2_with fail
  (try rw [hW1])
  have HW1 := Lib.hid hW1
  clear hW1
  go_loopw [5, 6] (fun v i wr => ∃ j : Nat, j ≤ m ∧ i = .int .i64 (j : Int) ∧ ROps w1.heap.size wr v (cleanM (nms.take j) M) ∧ Below w1.heap.size w1 wr) (fun _ i _ => m - (intOf i).toNat)
  case atStart => exact ⟨0, Nat.zero_le _, rfl, ROps.nil _ _, Below.refl _ _⟩
  case round =>
    obtain ⟨j, hj, rfl, hS, hbr⟩ := hrel
    by_cases hlt : j < m
    · have hjl : j < nms.length := by rw [hls.out]; exact hlt
      have hbw := Hb1.out.trans (hbr.mono Hb1.out.size)
      obtain ⟨b, o, rfl, hc⟩ := (HN.out wr hbw).cell (by omega)
      have hcj := hc j hjl
      have hct := cleanM_take (M := M) hjl
      have hnl := hby.out nms[j] (List.getElem_mem hjl)
      generalize nms[j] = nm at *
      have hbr2 := hbr
      have HF2y := Lib.hid (fun (hmem : nm ∈ M.fs.map F.n) W (hW : Below wr.heap.size wr W) => (HF2.out W (hbr.trans (hW.mono hbr.size)) nm).mono (R' := fun e w' => ∃ z : Int, e = .returned (.int .i64 z) ∧ 0 ≤ z ∧ Below W.heap.size W w') (by
        rintro e w' ⟨hb', ⟨i, hi, rfl, hfi⟩ | ⟨rfl, hno⟩⟩
        · exact ⟨_, rfl, by omega, hb'⟩
        · exact absurd hno ((Hin.out nm).2 hmem)))
      have HF2n := Lib.hid (fun (hmem : nm ∉ M.fs.map F.n) W (hW : Below wr.heap.size wr W) => (HF2.out W (hbr.trans (hW.mono hbr.size)) nm).mono (R' := fun e w' => ∃ z : Int, e = .returned (.int .i64 z) ∧ ¬ (0 ≤ z) ∧ Below W.heap.size W w') (by
        rintro e w' ⟨hb', ⟨i, hi, rfl, hfi⟩ | ⟨rfl, hno⟩⟩
        · exact absurd ((Hin.out nm).1 (by rw [hfi]; simp)) hmem
        · exact ⟨_, rfl, by omega, hb'⟩))
      have HS5 := Lib.hid (fun W (hW : Below wr.heap.size wr W) => by
        obtain ⟨k0, k1, k2, k3⟩ := HKK.out wr hbr
        exact (show W.cell? ⟨w.heap.size, 0, none⟩ = some (.int .i64 ro) ∧ W.cell? ⟨w.heap.size, 1, none⟩ = some (.slice a n c) ∧ W.cell? ⟨w.heap.size, 2, none⟩ = some (.int .i64 pl) ∧ W.cell? ⟨w.heap.size, 3, none⟩ = some (.bool dn) ∧ W.cell? ⟨b, o + j, none⟩ = some (.string ⟨nm.toArray⟩) from ⟨cell_keep hW k0, cell_keep hW k1, cell_keep hW k2, cell_keep hW k3, cell_keep hW hcj⟩))
      have hji : (j : Int) < (m : Int) := by omega
      have hmv := hmx.out
      have Hnl := Lib.hid hnl
      have Hct := Lib.hid hct
      have HS := Lib.hid hS
      have Hbr := Lib.hid hbr
      have Hlt := Lib.hid hlt
      have hcl := cleanM_len (nms.take j) M
      have Hcl := Lib.hid (show (cleanM (nms.take j) M).length ≤ 1000000 by have := hmx.out; rw [List.length_take] at hcl; omega)
      clear hc hct hnl hS hbr hlt hcl hbr2
      by_cases hmem : nm ∈ M.fs.map F.n
      · have HFm := Lib.hid (HF2y.out hmem)
        unfold refV at HFm
        rw [if_pos hmem] at Hct
        clear hmem HF2y HF2n
        go_wp2_with fail
        go_region_held3 (fun w' => w'.cell? ⟨w.heap.size, 0, none⟩ = some (.int .i64 ro) ∧ w'.cell? ⟨w.heap.size, 1, none⟩ = some (.slice a n c) ∧ w'.cell? ⟨w.heap.size, 2, none⟩ = some (.int .i64 pl) ∧ w'.cell? ⟨w.heap.size, 3, none⟩ = some (.bool dn) ∧ w'.cell? ⟨b, o + j, none⟩ = some (.string ⟨nm.toArray⟩))
          (first | exact HS5.out _ hb5w | exact HS5.out _ (Below.drew (Below.refl _ _)))
          (first
            | (go_at_call 108; (with_reducible refine (HFm.out _ (Below.drew (Below.refl _ _))).mono ?_); rintro e w5 ⟨z, rfl, hz, hb5⟩; have hb5w : Below wr.heap.size wr w5 := (Below.drew (Below.refl _ _)).trans hb5))
        have Hb5 := Lib.hid hb5w
        have k4 := (HS5.out _ hb5w).2.2.2.2
        clear hb5 hb5w
        obtain ⟨xs, hown, hG, hnew, hclose⟩ := op_appends (HS.out.grow Hbr.out.size Hb5.out) (Nat.le_trans Hbr.out.size Hb5.out.size) (⟨5, nm, [], []⟩, (none, 0)) (sook_nil (by decide) Hnl.out (by decide)) #[.int .i64 5, .string ⟨nm.toArray⟩, .string ⟨#[]⟩, .slice none 0 0] rfl
        have Hown := Lib.hid hown
        have Hclose := Lib.hid hclose
        have Hnew := Lib.hid hnew
        clear hown hclose hnew
        go_wp2_with (at_builtin; go_loud (refine wpList_append_own_at _ rfl _ _ 102 rfl w1.heap.size 101 i0 _ 4 64 Tryz.underlying102 hi hz0 hz1 hz2 rfl (by decide) _ _ _ rfl Hown.out ⟨_, 0, none⟩ 1 1 (cellsO (⟨5, nm, [], []⟩, (none, 0))) rfl rfl Hnew.out (cellsO_one _) (by rw [maxLen_nat]; have := Hcl.out; omega) (by have := Hcl.out; omega) hG ?_; intro v' w6 hown' hgrow _ hblk))
        go_roundw
        case rel =>
          obtain ⟨q1, q2⟩ := Hclose.out _ _ hown' hgrow
          exact ⟨j + 1, Hlt.out, by go_num, by rw [Hct.out]; exact q1, Hbr.out.trans ((Hb5.out.mono Hbr.out.size).trans q2)⟩
        case measure => simp [intOf]; have := Hlt.out; omega
      · have HFm := Lib.hid (HF2n.out hmem)
        unfold refV at HFm
        rw [if_neg hmem, List.append_nil] at Hct
        clear hmem HF2y HF2n
        go_wp2_with fail
        go_region_held3 (fun w' => w'.cell? ⟨w.heap.size, 0, none⟩ = some (.int .i64 ro) ∧ w'.cell? ⟨w.heap.size, 1, none⟩ = some (.slice a n c) ∧ w'.cell? ⟨w.heap.size, 2, none⟩ = some (.int .i64 pl) ∧ w'.cell? ⟨w.heap.size, 3, none⟩ = some (.bool dn) ∧ w'.cell? ⟨b, o + j, none⟩ = some (.string ⟨nm.toArray⟩))
          (first | exact HS5.out _ hb5w | exact HS5.out _ (Below.drew (Below.refl _ _)))
          (first
            | (go_at_call 108; (with_reducible refine (HFm.out _ (Below.drew (Below.refl _ _))).mono ?_); rintro e w5 ⟨z, rfl, hz, hb5⟩; have hb5w : Below wr.heap.size wr w5 := (Below.drew (Below.refl _ _)).trans hb5))
        have Hb5 := Lib.hid hb5w
        clear hb5 hb5w
        go_wp2
        go_roundw
        case rel => exact ⟨j + 1, Hlt.out, by go_num, by rw [Hct.out]; exact HS.out.grow Hbr.out.size Hb5.out, Hbr.out.trans (Hb5.out.mono Hbr.out.size)⟩
        case measure => simp [intOf]; have := Hlt.out; omega
    · obtain rfl : j = m := by omega
      have hji : ¬ (j : Int) < (j : Int) := by omega
      have HS := Lib.hid (show ROps w.heap.size wr _ (cleanM nms M) from by rw [List.take_of_length_le (Nat.le_of_eq hls.out)] at hS; exact hS.base Hb1.out.size (cleanM_bs nms M))
      have Hb := Lib.hid (Hb1.out.trans (hbr.mono Hb1.out.size))
      clear hS hbr
      go_wp2
      go_ret
      exact ⟨_, rfl, HS.out, Hb.out⟩
end Go.Proofs.YtmiepigieajpcaaGreat

/- The walk of the reference's Older. -/
namespace Go.Proofs.YtmiepigieajpcaaGreat
open Go.RowKit Go.Maps Go.Shelf

attribute [local go_sem ↓] Go.wp_at_zero Go.wp_at_succ

def olderL (l : List Int) (first : Int) : List (List UInt8) := (l.filter fun x => decide (x < first)).map fun x => nmB x.toNat

theorem olderL_take {l : List Int} {first : Int} {j : Nat} (h : j < l.length) : olderL (l.take (j + 1)) first = olderL (l.take j) first ++ (if l[j] < first then [nmB l[j].toNat] else []) := by
  rw [List.take_succ_eq_append_getElem h]
  unfold olderL
  rw [List.filter_append, List.map_append]
  congr 1
  by_cases hx : l[j] < first
  · rw [if_pos hx, List.filter_cons_of_pos (by simpa using hx)]; rfl
  · rw [if_neg hx, List.filter_cons_of_neg (by simpa using hx)]; rfl

theorem olderL_len (l : List Int) (first : Int) : (olderL l first).length ≤ l.length := by
  unfold olderL
  rw [List.length_map]
  exact List.length_filter_le _ _

theorem info_strO : (Tryz.prog.info? 9).map (fun i => (i.zero, i.size, i.bytes)) = some (some (.string ⟨#[]⟩), 1, 16) := by kernel_rfl

theorem nms_row {w : World} {base : Nat} {e : TypeId} {v : Value} {m : Nat} {ns : List (List UInt8)} (h : w.ownsRow base e 1 v m (ns.map encStr)) (hm : ∀ n ∈ ns, n.length ≤ 9223372036854775807) (hx : m ≤ 1000000) : ∃ p c, v = .slice p m c ∧ Nms w p m c ns := by
  have hlen : ns.length = m := by have := h.1; simpa using this
  rcases h.2 with ⟨rfl, rfl⟩ | ⟨g, cap, cur, rfl, hbg, hg, hle, hcm, hsz, htake⟩
  · exact ⟨none, 0, rfl, hlen, hx, hm, fun h => absurd h (Nat.lt_irrefl _)⟩
  · refine ⟨_, cap, rfl, hlen, hx, hm, fun _ => ⟨g, 0, rfl, fun i hi => ?_⟩⟩
    rw [cell_of_row w g (0 + i) cur _ (0, 0) hg, Nat.zero_add]
    have h1 : cur[i]? = (ns.map encStr)[i]? := by
      rw [← htake, List.getElem?_take, if_pos (by omega), Array.getElem?_toList]
    rw [h1, List.getElem?_map, List.getElem?_eq_getElem hi]
    rfl

set_option maxRecDepth 100000 in
set_option maxHeartbeats 6400000 in
theorem rolder_any (p : Option Addr) (m k : Nat) (l : List Int) (first : Int) (w : World) (hI : Ints w p m k l) (hm : m ≤ 1000000) (hl : ∀ x ∈ l, 1 ≤ x ∧ x ≤ 99999999) :
    Calls Tryz.prog 70 #[.slice p m k, .int .i64 first] w fun e w' => ∃ a c, e = .returned (.slice a (olderL l first).length c) ∧ Nms w' a (olderL l first).length c (olderL l first) ∧ Below w.heap.size w w' := by
  obtain ⟨i0, hi, hz0, hz1, hz2⟩ := info_parts info_strO
  have HI := Lib.hid (fun W (hW : Below w.heap.size w W) => hI.grow hW)
  have HNm := Lib.hid (fun N h1 h2 W => rsegname_yes N W h1 h2)
  have hls := Lib.hid hI.len
  have Hl := Lib.hid hl
  clear hI hl
  go_enter Tryz.func70, Tryz.ntmps70
  go_wp2_with fail
  go_loopw [5, 6] (fun v i wr => ∃ j : Nat, j ≤ m ∧ i = .int .i64 (j : Int) ∧ wr.ownsRow w.heap.size 9 1 v (olderL (l.take j) first).length ((olderL (l.take j) first).map encStr) ∧ Below w.heap.size w wr) (fun _ i _ => m - (intOf i).toNat)
  case atStart => exact ⟨0, Nat.zero_le _, rfl, World.ownsRow_nil _ _ _ _, Below.refl _ _⟩
  case round =>
    obtain ⟨j, hj, rfl, hS, hbr⟩ := hrel
    by_cases hlt : j < m
    · have hjl : j < l.length := by rw [hls.out]; exact hlt
      obtain ⟨b, o, rfl, hc⟩ := (HI.out wr hbr).cell (by omega)
      have hcj := hc j hlt
      have hgj : l.getD j 0 = l[j] := by rw [List.getD_eq_getElem?_getD, List.getElem?_eq_getElem hjl]; rfl
      rw [hgj] at hcj
      have hot := olderL_take (first := first) hjl
      obtain ⟨p1, p2⟩ := Hl.out l[j] (List.getElem_mem hjl)
      clear hgj
      generalize l[j] = y at *
      obtain ⟨N, rfl⟩ : ∃ N : Nat, y = (N : Int) := ⟨y.toNat, by omega⟩
      rw [Int.toNat_natCast] at hot
      have hol := olderL_len (l.take j) first
      have hli : (olderL (l.take j) first).length ≤ 1000000 := by rw [List.length_take] at hol; omega
      have Hol := Lib.hid hli
      have hji : (j : Int) < (m : Int) := by omega
      have Hlt := Lib.hid hlt
      have Hot := Lib.hid hot
      have HS := Lib.hid hS
      have Hbr := Lib.hid hbr
      have hsz := hbr.size
      clear hc hot hS hbr hlt hol hli
      by_cases hy : (N : Int) < first
      · have Hot2 := Lib.hid (Hot.out.trans (by rw [if_pos hy]))
        go_wp2_with fail
        refine (HNm.out N (by omega) (by omega) _).mono ?_
        rintro e w4 ⟨rfl, rfl⟩
        go_wp2_with (at_builtin; refine wpList_append_own_at _ rfl _ _ 78 rfl w.heap.size 9 i0 _ 1 16 Tryz.underlying78 hi hz0 hz1 hz2 rfl (by decide) _ _ _ rfl (own_below HS.out ((Below.refl _ _).alloc (Nat.le_refl _) _)) ⟨_, 0, none⟩ 1 1 [.string (str (nameL N))] rfl rfl (cell_one_new _ _ _) (by simp [Value.oneCell']) (by rw [maxLen_nat]; have := Hol.out; omega) (by have := Hol.out; omega) (by rw [World.size_alloc]; omega) ?_; intro v' w6 hown' hgrow _ hblk)
        refine ⟨⟨j + 1, Hlt.out, by go_num, ?_, (Hbr.out.alloc hsz _).grown hgrow (by rw [World.size_alloc]; omega) (fun k e => own_ge5 HS.out k e)⟩, by simp [intOf]; have := Hlt.out; omega⟩
        rw [Hot2.out, List.length_append, List.map_append]
        exact hown'
      · have Hot2 := Lib.hid (Hot.out.trans (by rw [if_neg hy, List.append_nil]))
        go_wp2
        go_roundw
        case rel => exact ⟨j + 1, Hlt.out, by go_num, by rw [Hot2.out]; exact HS.out, Hbr.out⟩
        case measure => simp [intOf]; have := Hlt.out; omega
    · obtain rfl : j = m := by omega
      have hji : ¬ (j : Int) < (j : Int) := by omega
      rw [List.take_of_length_le (Nat.le_of_eq hls.out)] at hS
      have hol := olderL_len l first
      have hq := hls.out
      obtain ⟨a, c, rfl, hN⟩ := nms_row hS (fun n hn => by
        unfold olderL at hn
        obtain ⟨x, _, rfl⟩ := List.mem_map.1 hn
        rw [nmB_length]; decide) (by omega)
      have HN := Lib.hid hN
      have Hb := Lib.hid hbr
      clear hS hbr hN hol hq
      go_wp2
      go_ret
      exact ⟨_, _, rfl, HN.out, Hb.out⟩
end Go.Proofs.YtmiepigieajpcaaGreat

/- The walk of the reference's Open. -/
namespace Go.Proofs.YtmiepigieajpcaaGreat
open Go.RowKit Go.Maps Go.Shelf

attribute [local go_sem ↓] Go.wp_at_zero Go.wp_at_succ

/-- What the reference's Open answers. -/
def ROEnd (X : Nat → Prop) (w : World) (most : Int) (r : OR) (e : Ending) (w' : World) : Prop :=
  ∃ a n c R, RowF (fun b => (X b ∨ w.heap.size ≤ b) ∧ b < w'.heap.size) w' a n c R ∧ R.map FR.f = r.M.fs ∧ Below w.heap.size w w' ∧
    ((r.z ≠ 0 ∧ ∃ mo N S, e = .returned (.tuple #[logV (r.M.room : Int) a n c (r.M.plan : Int) r.M.down mo N S 0, .slice none 0 0, .int .i64 r.z])) ∨
     (r.z = 0 ∧ ∃ va vc, e = .returned (.tuple #[logV (r.M.room : Int) a n c (r.M.plan : Int) r.M.down most (r.N : Int) (r.size : Int) 0, .slice va r.recs.length vc, .int .i64 0]) ∧ Parts w' va r.recs.length vc r.recs))

theorem results_ctt {fn : Func} {p u t : Tmp} {ty : TypeId} (h : fn.results = #[.cell p ty, .tmp u, .tmp t]) (tmps : Array Value) (P : Program) (w : World) :
    (results fn tmps).run P w = ((asAddr (tmps.getD p undef)).run P w).andThen fun a w₁ => ((loadVar ty a).run P w₁).andThen fun v w₂ => .ok (.tuple #[v, tmps.getD u undef, tmps.getD t undef]) w₂ := by
  simp only [results, h]
  simp [Sem.run_bind, Result.andThen]

/-- The result's box is filled. -/
theorem fill8 {n : Nat} {w0 w : World} {B : Nat} (h : Below n w0 w) (hn : n ≤ B) (v0 v1 v2 v3 v4 v5 v6 v7 : Value) : Below n w0 ((((((((w.setCell ⟨B, 0, none⟩ v0).setCell ⟨B, 1, none⟩ v1).setCell ⟨B, 2, none⟩ v2).setCell ⟨B, 3, none⟩ v3).setCell ⟨B, 4, none⟩ v4).setCell ⟨B, 5, none⟩ v5).setCell ⟨B, 6, none⟩ v6).setCell ⟨B, 7, none⟩ v7) :=
  (((((((h.setCell hn _).setCell hn _).setCell hn _).setCell hn _).setCell hn _).setCell hn _).setCell hn _).setCell hn _

theorem row_fill {Z Z' : Nat → Prop} {w : World} {B : Nat} {a : Option Addr} {n c : Nat} {R : List FR} (h : RowF Z w a n c R) (hne : ∀ b, Z b → b ≠ B) (hz : ∀ b, Z b → Z' b) (v0 v1 v2 v3 v4 v5 v6 v7 : Value) :
    RowF Z' ((((((((w.setCell ⟨B, 0, none⟩ v0).setCell ⟨B, 1, none⟩ v1).setCell ⟨B, 2, none⟩ v2).setCell ⟨B, 3, none⟩ v3).setCell ⟨B, 4, none⟩ v4).setCell ⟨B, 5, none⟩ v5).setCell ⟨B, 6, none⟩ v6).setCell ⟨B, 7, none⟩ v7) a n c R :=
  h.mono (fun b hb => by
    have := hne b hb
    repeat rw [Below.heap_setCell _ _ _ _ this]) hz

theorem rowF_end {X : Nat → Prop} {w W : World} {a : Option Addr} {n c : Nat} {R : List FR} (h : RowF X W a n c R) (hX : ∀ b, X b → b < w.heap.size) (hb : Below w.heap.size w W) : RowF (fun b => (X b ∨ w.heap.size ≤ b) ∧ b < W.heap.size) W a n c R :=
  h.mono (fun _ _ => rfl) (fun b hx => ⟨.inl hx, Nat.lt_of_lt_of_le (hX b hx) hb.size⟩)

/-- The disk's box and the result's, at the call's start. -/
def startO (w : World) (ro : Int) (a : Option Addr) (n c : Nat) (pl : Int) (dn : Bool) : World :=
  (w.alloc (.cells #[.int .i64 ro, .slice a n c, .int .i64 pl, .bool dn] 25)).alloc (.cells #[.int .i64 0, .slice none 0 0, .int .i64 0, .bool false, .int .i64 0, .int .i64 0, .int .i64 0, .int .i64 0] 47)

theorem startO_facts (w : World) (ro : Int) (a : Option Addr) (n c : Nat) (pl : Int) (dn : Bool) :
    Below w.heap.size w (startO w ro a n c pl dn) ∧ (startO w ro a n c pl dn).heap.size = w.heap.size + 2 ∧
    (startO w ro a n c pl dn).heap[w.heap.size]? = some (.cells #[.int .i64 ro, .slice a n c, .int .i64 pl, .bool dn] 25 (0, 0)) ∧
    (startO w ro a n c pl dn).heap[w.heap.size + 1]? = some (.cells #[.int .i64 0, .slice none 0 0, .int .i64 0, .bool false, .int .i64 0, .int .i64 0, .int .i64 0, .int .i64 0] 47 (0, 0)) := by
  unfold startO
  refine ⟨((Below.refl _ _).alloc (Nat.le_refl _) _).alloc (by simp) _, by simp, (Below.heap_alloc _ _ _ (by simp)).trans (heap_alloc_new _ _), ?_⟩
  have h := heap_alloc_new (w.alloc (.cells #[.int .i64 ro, .slice a n c, .int .i64 pl, .bool dn] 25)) (.cells #[.int .i64 0, .slice none 0 0, .int .i64 0, .bool false, .int .i64 0, .int .i64 0, .int .i64 0, .int .i64 0] 47)
  rw [World.size_alloc] at h
  exact h

set_option maxRecDepth 100000 in
set_option maxHeartbeats 6400000 in
theorem ropen_broken {X : Nat → Prop} {w : World} {M : DM} {a : Option Addr} {n c : Nat} {R : List FR} (hR : RowF X w a n c R) (hX : ∀ b, X b → b < w.heap.size) (hfs : R.map FR.f = M.fs) (most : Int)
    (hF : ∀ W, Below w.heap.size w W → Calls Tryz.prog 16 #[refV (M.room : Int) a n c (M.plan : Int) M.down] W fun e w' => e = .returned (logRV none 0 0 0 0 none 0 0 0 0 11) ∧ Below W.heap.size W w') :
    Calls Tryz.prog 22 #[refV (M.room : Int) a n c (M.plan : Int) M.down, .int .i64 most] w (ROEnd X w most ⟨11, M, 0, 0, []⟩) := by
  obtain ⟨hb1, hz1, hB0, hB1⟩ := startO_facts w (M.room : Int) a n c (M.plan : Int) M.down
  unfold startO at hb1 hz1 hB0 hB1
  unfold refV at *
  obtain ⟨w1, hw1⟩ : ∃ w1, w1 = (w.alloc (.cells #[.int .i64 (M.room : Int), .slice a n c, .int .i64 (M.plan : Int), .bool M.down] 25)).alloc (.cells #[.int .i64 0, .slice none 0 0, .int .i64 0, .bool false, .int .i64 0, .int .i64 0, .int .i64 0, .int .i64 0] 47) := ⟨_, rfl⟩
  rw [← hw1] at hb1 hz1 hB0 hB1
  have HF := Lib.hid (hF w1 hb1)
  have HR := Lib.hid (fun W (h : Below w.heap.size w W) => hR.below hX h)
  have HX := Lib.hid hX
  have Hfs := Lib.hid hfs
  have Hb1 := Lib.hid hb1
  have HB0 := Lib.hid hB0
  have HB1 := Lib.hid hB1
  clear hF hR hX hfs hb1 hB0 hB1
  go_enter Tryz.func22, Tryz.ntmps22
  go_wp2_with fail
  rw [← hw1]
  refine HF.out.mono ?_
  rintro e w2 ⟨rfl, hb2⟩
  have hB0 := (hb2.block _ (Array.getElem?_eq_some_iff.1 HB0.out).1).trans HB0.out
  have hB1 := (hb2.block _ (Array.getElem?_eq_some_iff.1 HB1.out).1).trans HB1.out
  have hb3 := (Below.refl w2.heap.size w2).alloc (Nat.le_refl _) (.cells #[.slice none 0 0, .int .i64 0, .int .i64 0, .slice none 0 0, .int .i64 0, .int .i64 0, .int .i64 11] 35)
  have hB0 := (hb3.block _ (Array.getElem?_eq_some_iff.1 hB0).1).trans hB0
  have hB1 := (hb3.block _ (Array.getElem?_eq_some_iff.1 hB1).1).trans hB1
  obtain ⟨c0, c1, c2, c3, cf⟩ := box4c hB0
  obtain ⟨q0, q1, q2, q3, q4, q5, q6, q7, qf⟩ := box8 hB1
  unfold logRV
  have k6 : (w2.alloc (.cells #[.slice none 0 0, .int .i64 0, .int .i64 0, .slice none 0 0, .int .i64 0, .int .i64 0, .int .i64 11] 35)).cell? ⟨w2.heap.size, 6, none⟩ = some (.int .i64 11) := by
    rw [cell_of_row _ _ _ _ _ (0, 0) (heap_alloc_new _ _)]; rfl
  have hne1 : ¬ w2.heap.size = w.heap.size + 1 := by have := hb2.size; omega
  have hne2 : ¬ w.heap.size + 1 = w2.heap.size := by have := hb2.size; omega
  go_wp2_with fail
  go_region
  go_wp2
  have hbF := fill8 (B := w.heap.size + 1) (Hb1.out.trans ((hb2.trans (hb3.mono hb2.size)).mono Hb1.out.size)) (Nat.le_succ _) (.int .i64 (M.room : Int)) (.slice a n c) (.int .i64 (M.plan : Int)) (.bool M.down) (.int .i64 0) (.int .i64 0) (.int .i64 0) (.int .i64 0)
  refine bodyPost_ret (v := .tuple #[logV (M.room : Int) a n c (M.plan : Int) M.down 0 0 0 0, .slice none 0 0, .int .i64 11]) ?_ rfl ⟨a, n, c, R, rowF_end (HR.out _ hbF.drew) HX.out hbF.drew, Hfs.out, hbF.drew, .inl ⟨(by show (11 : Int) ≠ 0; decide), 0, 0, 0, rfl⟩⟩
  rw [results_ctt rfl]
  go_simp
  rfl

theorem box_p0 {w5 w6 w7 : World} {o : Obj} {cs : Array Value} (hs6 : ((w5.alloc (.cells cs 25)).alloc o).drew.heap.size ≤ w6.heap.size) (hbx : ∀ k, w5.heap.size ≤ k → k < ((w5.alloc (.cells cs 25)).alloc o).drew.heap.size → w6.heap[k]? = ((w5.alloc (.cells cs 25)).alloc o).drew.heap[k]?) (hb7 : Below w6.heap.size w6 w7) :
    w7.heap[w5.heap.size]? = some (.cells cs 25 (0, 0)) := by
  have h1 : ((w5.alloc (.cells cs 25)).alloc o).heap.size ≤ w6.heap.size := hs6
  have h2 : ((w5.alloc (.cells cs 25)).alloc o).drew.heap.size = w5.heap.size + 2 := by show ((w5.alloc (.cells cs 25)).alloc o).heap.size = _; simp
  simp only [World.size_alloc] at h1
  refine (hb7.block _ (by omega)).trans ((hbx _ (Nat.le_refl _) (by omega)).trans ?_)
  exact (Below.heap_alloc (w5.alloc (.cells cs 25)) o w5.heap.size (by rw [World.size_alloc]; omega)).trans (heap_alloc_new w5 _)

theorem box_p1 {w5 w6 w7 : World} {o : Obj} {cs : Array Value} (hs6 : ((w5.alloc o).alloc (.cells cs 25)).drew.heap.size ≤ w6.heap.size) (hbx : ∀ k, w5.heap.size ≤ k → k < ((w5.alloc o).alloc (.cells cs 25)).drew.heap.size → w6.heap[k]? = ((w5.alloc o).alloc (.cells cs 25)).drew.heap[k]?) (hb7 : Below w6.heap.size w6 w7) :
    w7.heap[w5.heap.size + 1]? = some (.cells cs 25 (0, 0)) := by
  have h1 : ((w5.alloc o).alloc (.cells cs 25)).heap.size ≤ w6.heap.size := hs6
  have h2 : ((w5.alloc o).alloc (.cells cs 25)).drew.heap.size = w5.heap.size + 2 := by show ((w5.alloc o).alloc (.cells cs 25)).heap.size = _; simp
  simp only [World.size_alloc] at h1
  refine (hb7.block _ (by omega)).trans ((hbx _ (by omega) (by omega)).trans ?_)
  have h := heap_alloc_new (w5.alloc o) (.cells cs 25)
  rw [World.size_alloc] at h
  exact h

theorem p1_size {w5 w6 : World} {o o' : Obj} (hs6 : ((w5.alloc o).alloc o').drew.heap.size ≤ w6.heap.size) : w5.heap.size + 2 ≤ w6.heap.size := by
  have h1 : ((w5.alloc o).alloc o').heap.size ≤ w6.heap.size := hs6
  simp only [World.size_alloc] at h1
  omega

theorem names_two (w : World) : Nms (w.alloc (.cells #[.string ⟨#[99, 117, 116]⟩, .string ⟨#[110, 101, 119]⟩] 9)) (some ⟨w.heap.size, 0, none⟩) 2 2 [cutB, newB] := by
  refine ⟨rfl, by decide, by decide, fun _ => ⟨w.heap.size, 0, rfl, fun i hi => ?_⟩⟩
  rw [cell_of_row _ _ _ _ _ (0, 0) (heap_alloc_new _ _)]
  match i, hi with
  | 0, _ => rfl
  | 1, _ => rfl

set_option maxRecDepth 100000 in
set_option maxHeartbeats 6400000 in
theorem ropen_none {X : Nat → Prop} {w : World} {M : DM} {a : Option Addr} {n c : Nat} {R : List FR} (hR : RowF X w a n c R) (hX : ∀ b, X b → b < w.heap.size) (hfs : R.map FR.f = M.fs) (hn : n ≤ 1000000) {U : Nat} (hnt : Neat M 900 U) (hU : U ≤ 9000) (most : Int)
    (hF : ∀ W, Below w.heap.size w W → Calls Tryz.prog 16 #[refV (M.room : Int) a n c (M.plan : Int) M.down] W fun e w' => e = .returned (logRV none 0 0 0 0 none 0 0 0 0 0) ∧ Below W.heap.size W w') :
    Calls Tryz.prog 22 #[refV (M.room : Int) a n c (M.plan : Int) M.down, .int .i64 most] w (ROEnd X w most ⟨(stepsM (repNone M) M).2, (stepsM (repNone M) M).1, 1, 0, []⟩) := by
  obtain ⟨hb1, hz1, hB0, hB1⟩ := startO_facts w (M.room : Int) a n c (M.plan : Int) M.down
  unfold startO at hb1 hz1 hB0 hB1
  have HCl := Lib.hid (fun W (h : Below w.heap.size w W) p m k nms hN => rclean_any (hR.below hX h) (fun b hb => Nat.lt_of_lt_of_le (hX b hb) h.size) hfs p m k nms hN)
  have HSt := Lib.hid (fun W (h : Below w.heap.size w W) p n' c' l hl hN' hT hub => rsteps_any (X := X) (w := W) (v := refV (M.room : Int) a n c (M.plan : Int) M.down) (M := M) ⟨a, n, c, R, rfl, hR.below hX h, hfs, hn⟩ (fun b hb => Nat.lt_of_lt_of_le (hX b hb) h.size) p n' c' l hl hnt (T := 9000) hN' hT hub)
  obtain ⟨i0, hi, hz0, hz1', hz2⟩ := info_parts info_op
  unfold refV at *
  obtain ⟨w1, hw1⟩ : ∃ w1, w1 = (w.alloc (.cells #[.int .i64 (M.room : Int), .slice a n c, .int .i64 (M.plan : Int), .bool M.down] 25)).alloc (.cells #[.int .i64 0, .slice none 0 0, .int .i64 0, .bool false, .int .i64 0, .int .i64 0, .int .i64 0, .int .i64 0] 47) := ⟨_, rfl⟩
  rw [← hw1] at hb1 hz1 hB0 hB1
  have HF := Lib.hid (hF w1 hb1)
  have HX := Lib.hid hX
  have Hb1 := Lib.hid hb1
  have HB0 := Lib.hid hB0
  have HB1 := Lib.hid hB1
  clear hF hR hX hfs hb1 hB0 hB1 hn hnt
  go_enter Tryz.func22, Tryz.ntmps22
  go_wp2_with fail
  rw [← hw1]
  refine HF.out.mono ?_
  rintro e w2 ⟨rfl, hb2⟩
  unfold logRV
  have hb23 := (Below.refl w2.heap.size w2).alloc (Nat.le_refl _) (.cells #[.slice none 0 0, .int .i64 0, .int .i64 0, .slice none 0 0, .int .i64 0, .int .i64 0, .int .i64 0] 35)
  have hBL := heap_alloc_new w2 (.cells #[.slice none 0 0, .int .i64 0, .int .i64 0, .slice none 0 0, .int .i64 0, .int .i64 0, .int .i64 0] 35)
  have hb13 := hb2.trans (hb23.mono hb2.size)
  have hB0 := (hb13.block _ (Array.getElem?_eq_some_iff.1 HB0.out).1).trans HB0.out
  obtain ⟨g0, g1, g2, g3, g4, g5, g6, gf⟩ := box7 hBL
  obtain ⟨c0, c1, c2, c3, cf⟩ := box4c hB0
  go_wp2_with fail
  have hb4 := (hb13.mono (Nat.le_refl _)).alloc hb13.size (.cells #[.string ⟨#[99, 117, 116]⟩, .string ⟨#[110, 101, 119]⟩] 9)
  have hN2 := names_two (w2.alloc (.cells #[.slice none 0 0, .int .i64 0, .int .i64 0, .slice none 0 0, .int .i64 0, .int .i64 0, .int .i64 0] 35))
  rw [World.size_alloc] at hN2
  refine (HCl.out _ (Hb1.out.trans (hb4.mono Hb1.out.size)) _ 2 2 _ hN2).mono ?_
  rintro e w5 ⟨v5, rfl, hops, hb5⟩
  have hb15 := hb4.trans (hb5.mono hb4.size)
  have hB0 := (hb15.block _ (Array.getElem?_eq_some_iff.1 HB0.out).1).trans HB0.out
  have hB1 := (hb15.block _ (Array.getElem?_eq_some_iff.1 HB1.out).1).trans HB1.out
  have hqL := (Below.refl (w2.alloc (.cells #[.slice none 0 0, .int .i64 0, .int .i64 0, .slice none 0 0, .int .i64 0, .int .i64 0, .int .i64 0] 35)).heap.size (w2.alloc (.cells #[.slice none 0 0, .int .i64 0, .int .i64 0, .slice none 0 0, .int .i64 0, .int .i64 0, .int .i64 0] 35))).alloc (Nat.le_refl _) (.cells #[.string ⟨#[99, 117, 116]⟩, .string ⟨#[110, 101, 119]⟩] 9)
  have hBL5 := ((hqL.trans (hb5.mono hqL.size)).block w2.heap.size (by rw [World.size_alloc]; omega)).trans hBL
  obtain ⟨w4, hw4⟩ : ∃ w4, w4 = (w2.alloc (.cells #[.slice none 0 0, .int .i64 0, .int .i64 0, .slice none 0 0, .int .i64 0, .int .i64 0, .int .i64 0] 35)).alloc (.cells #[.string ⟨#[99, 117, 116]⟩, .string ⟨#[110, 101, 119]⟩] 9) := ⟨_, rfl⟩
  have hz4 : w4.heap.size = w2.heap.size + 2 := by rw [hw4]; simp
  rw [← hw4] at hops hb5 hb4
  have hs12 := hb2.size
  have HB05 := Lib.hid hB0
  have HB15 := Lib.hid hB1
  have Hb4 := Lib.hid hb4
  have Hb5 := Lib.hid hb5
  have hs5 := hb5.size
  obtain ⟨qs, hq1, hq2, hq3⟩ := hops
  have Hown := Lib.hid hq2
  have hcl := cleanM_len [cutB, newB] M
  simp only [List.length_cons, List.length_nil] at hcl
  have hs04 : w.heap.size ≤ w4.heap.size := by have := Hb1.out.size; omega
  have Hrl := Lib.hid (show (cleanM [cutB, newB] M).length + 1 = (repNone M).length from by unfold repNone; rw [List.length_append]; rfl)
  have Hrb := Lib.hid (show ∀ x ∈ repNone M, x.bs.length ≤ 9000 from fun x hx => by
    unfold repNone at hx
    rcases List.mem_append.1 hx with h | h
    · rw [cleanM_bs _ M x h]; exact Nat.zero_le _
    · rw [List.mem_singleton.1 h]; exact Nat.zero_le _)
  have HX4 := Lib.hid (fun b (hb : X b) => Nat.lt_of_lt_of_le (HX.out b hb) hs04)
  have HB14 := Lib.hid ((Hb4.out.block _ (Array.getElem?_eq_some_iff.1 HB1.out).1).trans HB1.out)
  have HA := Lib.hid (fun W (hW : Below w4.heap.size w5 W) (hcell : W.ownsRow w4.heap.size 101 4 v5 (cleanM [cutB, newB] M).length (flatO qs)) w' v' (ho : w'.ownsRow w4.heap.size 101 4 v' ((cleanM [cutB, newB] M).length + 1) (flatO qs ++ cellsO (⟨1, nmB 1, [], []⟩, (none, 0)))) (hg : W.grownBy w' v5.ownBlock) => (show ROps w4.heap.size w' v' (repNone M) ∧ Below w4.heap.size w5 w' from by
    have hbg : Below w4.heap.size W w' := (Below.refl _ _).grown hg (Nat.le_trans hs5 hW.size) (fun k e => own_ge5 hcell k e)
    refine ⟨ROps.app (w := w5) (rs := [(⟨1, nmB 1, [], []⟩, (none, 0))]) hq1 hq3 rfl (fun x hx => by rw [List.mem_singleton.1 hx]; exact sook_nil (by decide) (by rw [nmB_length]; decide) (by decide)) ?_ (hW.trans hbg), hW.trans hbg⟩
    have e : flatO [((⟨1, nmB 1, [], []⟩, (none, 0)) : OQ)] = cellsO (⟨1, nmB 1, [], []⟩, (none, 0)) := by unfold flatO; simp
    rw [e]
    exact ho))
  have hcs1 : (#[.int .i64 1, .string ⟨#[108, 111, 103, 45, 48, 48, 48, 48, 48, 48, 48, 49]⟩, .string ⟨#[]⟩, .slice none 0 0] : Array Value).toList = cellsO (⟨1, nmB 1, [], []⟩, (none, 0)) := by
    unfold cellsO
    simp only [nmB_one']
    rfl
  have HnA := Lib.hid (fun j u (h : (cellsO (⟨1, nmB 1, [], []⟩, (none, 0)))[j]? = some u) => cells_new w5 #[.int .i64 1, .string ⟨#[108, 111, 103, 45, 48, 48, 48, 48, 48, 48, 48, 49]⟩, .string ⟨#[]⟩, .slice none 0 0] 101 j u (by rw [hcs1]; exact h))
  have hnB := fun j u (h : (cellsO (⟨1, nmB 1, [], []⟩, (none, 0)))[j]? = some u) => cells_new (w5.alloc (.cells #[.int .i64 0, .slice none 0 0, .int .i64 0, .bool false] 25)) #[.int .i64 1, .string ⟨#[108, 111, 103, 45, 48, 48, 48, 48, 48, 48, 48, 49]⟩, .string ⟨#[]⟩, .slice none 0 0] 101 j u (by rw [hcs1]; exact h)
  rw [World.size_alloc] at hnB
  have HnB := Lib.hid hnB
  clear hcs1
  have HKd := Lib.hid (fun (W : World) (hW : Below w4.heap.size w5 W) => (show W.cell? ⟨w.heap.size, 0, none⟩ = some (.int .i64 (M.room : Int)) ∧ W.cell? ⟨w.heap.size, 1, none⟩ = some (.slice a n c) ∧ W.cell? ⟨w.heap.size, 2, none⟩ = some (.int .i64 (M.plan : Int)) ∧ W.cell? ⟨w.heap.size, 3, none⟩ = some (.bool M.down) from by
    obtain ⟨c0, c1, c2, c3, _⟩ := box4c ((hW.block w.heap.size (by omega)).trans hB0)
    exact ⟨c0, c1, c2, c3⟩))
  obtain ⟨g0, g1, g2, g3, g4, g5, g6, gf⟩ := box7 hBL5
  obtain ⟨c0, c1, c2, c3, cf⟩ := box4c hB0
  clear hb4 hb5 hq1 hq2 hq3 hw4 hnB
  go_upto_region 6 with fail
  generalize hrr : stepsM (repNone M) M = rr at *
  go_cut [9, 10] (fun t4 t5 wx => DoCut X w4 rr t4 t5 wx)
  case first =>
    go_region_held3 (fun w' => w'.cell? ⟨w.heap.size, 0, none⟩ = some (.int .i64 (M.room : Int)) ∧ w'.cell? ⟨w.heap.size, 1, none⟩ = some (.slice a n c) ∧ w'.cell? ⟨w.heap.size, 2, none⟩ = some (.int .i64 (M.plan : Int)) ∧ w'.cell? ⟨w.heap.size, 3, none⟩ = some (.bool M.down))
      (first | exact HKd.out _ (by (repeat (first | assumption | exact Below.refl _ _ | refine Below.drew ?_ | refine Below.alloc ?_ (by (first | exact Nat.le_refl _ | (simp; done) | (simp; omega) | omega)) _ | refine Below.setCell ?_ (by (first | exact Nat.le_refl _ | (show _ ≤ _; omega) | (simp; done) | (simp; omega))) _))))
      (first
        | (refine step_append_lies _ rfl (.tmp 33) (.tmp 35) 102 rfl w4.heap.size 101 i0 _ 4 64 Tryz.underlying102 hi hz0 hz1' hz2 rfl (by decide) v5 (cleanM [cutB, newB] M).length (flatO qs) (by first | rfl | (simp [Act.eval]; done)) (own_belowF Hown.out (by (repeat (first | assumption | exact Below.refl _ _ | refine Below.drew ?_ | refine Below.alloc ?_ (by (first | exact Nat.le_refl _ | (simp; done) | (simp; omega) | omega)) _ | refine Below.setCell ?_ (by (first | exact Nat.le_refl _ | (show _ ≤ _; omega) | (simp; done) | (simp; omega))) _)))) ⟨_, 0, none⟩ 1 1 (cellsO (⟨1, nmB 1, [], []⟩, (none, 0))) (by first | rfl | (simp [Act.eval]; done)) rfl (by first | exact HnA.out | exact HnB.out | exact fun j u h => cell_keep ((Below.refl _ _).alloc (Nat.le_refl _) _) (HnA.out j u h)) (cellsO_one _) (by decide) (by rw [maxLen_nat]; omega) (by omega) (by first | omega | (simp; omega)) _ rfl ?_; intro g cap w6 hown' hgrow hat hlt8; obtain ⟨hrw6, hb56⟩ := HA.out _ (by (repeat (first | assumption | exact Below.refl _ _ | refine Below.drew ?_ | refine Below.alloc ?_ (by (first | exact Nat.le_refl _ | (simp; done) | (simp; omega) | omega)) _ | refine Below.setCell ?_ (by (first | exact Nat.le_refl _ | (show _ ≤ _; omega) | (simp; done) | (simp; omega))) _))) (own_belowF Hown.out (by (repeat (first | assumption | exact Below.refl _ _ | refine Below.drew ?_ | refine Below.alloc ?_ (by (first | exact Nat.le_refl _ | (simp; done) | (simp; omega) | omega)) _ | refine Below.setCell ?_ (by (first | exact Nat.le_refl _ | (show _ ≤ _; omega) | (simp; done) | (simp; omega))) _)))) w6 _ hown' hgrow; have hbx := (fun k (hk : w5.heap.size ≤ k) hk2 => hgrow.block k hk2 (fun e => by have := own_lt5 Hown.out k e.symm; omega)); have hs6 := hgrow.size; clear hown' hgrow hat; have hb46 := Hb5.out.trans hb56; have hb06 := (Hb1.out.trans (Hb4.out.mono Hb1.out.size)).trans (hb46.mono hs04); have hs46 := hb46.size)
        | (go_at_call 54; (with_reducible refine (HSt.out _ (by (repeat (first | assumption | exact Below.refl _ _ | refine Below.drew ?_ | refine Below.alloc ?_ (by (first | exact Nat.le_refl _ | (simp; done) | (simp; omega) | omega)) _ | refine Below.setCell ?_ (by (first | exact Nat.le_refl _ | (show _ ≤ _; omega) | (simp; done) | (simp; omega))) _))) _ _ _ _ (ROps.sos (hrw6.grow hs46 (by (repeat (first | assumption | exact Below.refl _ _ | refine Below.drew ?_ | refine Below.alloc ?_ (by (first | exact Nat.le_refl _ | (simp; done) | (simp; omega) | omega)) _ | refine Below.setCell ?_ (by (first | exact Nat.le_refl _ | (show _ ≤ _; omega) | (simp; done) | (simp; omega))) _)))) (by omega) Hrl.out) (by omega) Hrb.out (by omega)).mono ?_); rintro e w7 ⟨a7, n7, c7, R7, rfl, hR7, hf7, hb7⟩; unfold refV; have hb47 : Below w4.heap.size w4 w7 := Below.trans (by (repeat (first | assumption | exact Below.refl _ _ | refine Below.drew ?_ | refine Below.alloc ?_ (by (first | exact Nat.le_refl _ | (simp; done) | (simp; omega) | omega)) _ | refine Below.setCell ?_ (by (first | exact Nat.le_refl _ | (show _ ≤ _; omega) | (simp; done) | (simp; omega))) _))) (hb7.mono (by (first | exact Nat.le_refl _ | (simp; done) | (simp; omega) | omega))); have hb57 : Below w4.heap.size w5 w7 := Below.trans (by (repeat (first | assumption | exact Below.refl _ _ | refine Below.drew ?_ | refine Below.alloc ?_ (by (first | exact Nat.le_refl _ | (simp; done) | (simp; omega) | omega)) _ | refine Below.setCell ?_ (by (first | exact Nat.le_refl _ | (show _ ≤ _; omega) | (simp; done) | (simp; omega))) _))) (hb7.mono (by (first | exact Nat.le_refl _ | (simp; done) | (simp; omega) | omega))); have hb7s := hb7.size; (first | (have hq7 := (hb7.block w6.heap.size (by simp)).trans (heap_alloc_new w6 (.cells #[.int .i64 0, .slice none 0 0, .int .i64 0, .bool false] 25))) | (have hq7 := box_p0 hs6 hbx hb7) | (have hq7 := box_p1 hs6 hbx hb7) | skip); (first | (have hq5 := box4c hq7; obtain ⟨q0, q1, q2, q3, qf⟩ := hq5) | skip)))
    all_goals go_wp2_with fail
    all_goals go_meet
    · exact doCut_new hb47 hs46 hR7 (hrr ▸ hf7)
    · exact doCut_set hb47 (Nat.le_trans hs46 (by rw [World.size_alloc]; omega)) HX4.out hR7 (hrr ▸ hf7) hs46 (by rw [World.size_alloc]; omega) hq7
    · exact doCut_set hb47 hs46 HX4.out hR7 (hrr ▸ hf7) (by omega) (by have h1 := p1_size hs6; omega) hq7
    · exact doCut_set hb47 hs46 HX4.out hR7 (hrr ▸ hf7) hs5 (by have h1 := p1_size hs6; omega) hq7
  case rest =>
    obtain ⟨B, a7, n7, c7, R7, rfl, rfl, hBx, hBle, hR7, hf7, hb7⟩ := hcut
    obtain ⟨x0, x1, x2, x3, xf⟩ := box4c hBx
    obtain ⟨z0, z1, z2, z3, z4, z5, z6, z7, zf⟩ := box8 ((hb7.block _ (by omega)).trans HB14.out)
    have hne1 : ¬ B = w.heap.size + 1 := by omega
    have hne2 : ¬ w.heap.size + 1 = B := by omega
    have HR7 := Lib.hid hR7
    have Hf7 := Lib.hid hf7
    have Hb7 := Lib.hid hb7
    clear hR7 hf7 hb7 hBx
    go_wp2
    have hb0c := (Hb1.out.trans (Hb4.out.mono Hb1.out.size)).trans (Hb7.out.mono hs04)
    have hbF := fill8 (B := w.heap.size + 1) hb0c (Nat.le_succ _) (.int .i64 (rr.1.room : Int)) (.slice a7 n7 c7) (.int .i64 (rr.1.plan : Int)) (.bool rr.1.down) (.int .i64 most) (.int .i64 1) (.int .i64 0) (.int .i64 0)
    have hrF := row_fill (B := w.heap.size + 1) (Z' := fun b => (X b ∨ w.heap.size ≤ b) ∧ b < wc.heap.size) HR7.out (fun b hb => by
      rcases hb.1 with h | h
      · have := HX.out b h; omega
      · omega) (fun b hb => ⟨hb.1.imp id (fun h => Nat.le_trans hs04 h), hb.2.2⟩) (.int .i64 (rr.1.room : Int)) (.slice a7 n7 c7) (.int .i64 (rr.1.plan : Int)) (.bool rr.1.down) (.int .i64 most) (.int .i64 1) (.int .i64 0) (.int .i64 0)
    refine bodyPost_ret (v := .tuple #[logV (rr.1.room : Int) a7 n7 c7 (rr.1.plan : Int) rr.1.down most 1 0 0, .slice none 0 0, .int .i64 rr.2]) ?_ rfl ⟨a7, n7, c7, R7, ?_, Hf7.out, hbF, ?_⟩
    · rw [results_ctt rfl]
      go_simp
      rfl
    · exact hrF.mono (fun _ _ => rfl) (fun b hb => ⟨hb.1, by simp only [World.size_setCell]; exact hb.2⟩)
    · by_cases hz : rr.2 = 0
      · refine .inr ⟨hz, none, 0, by rw [hz]; rfl, ?_⟩
        obtain ⟨a', c', e', hp⟩ := (OwnParts.nil ((((((((wc.setCell ⟨w.heap.size + 1, 0, none⟩ (.int .i64 (rr.1.room : Int))).setCell ⟨w.heap.size + 1, 1, none⟩ (.slice a7 n7 c7)).setCell ⟨w.heap.size + 1, 2, none⟩ (.int .i64 (rr.1.plan : Int))).setCell ⟨w.heap.size + 1, 3, none⟩ (.bool rr.1.down)).setCell ⟨w.heap.size + 1, 4, none⟩ (.int .i64 most)).setCell ⟨w.heap.size + 1, 5, none⟩ (.int .i64 1)).setCell ⟨w.heap.size + 1, 6, none⟩ (.int .i64 0)).setCell ⟨w.heap.size + 1, 7, none⟩ (.int .i64 0)) 0).parts
        cases e'
        exact hp
      · exact .inl ⟨hz, most, 1, 0, rfl⟩
end Go.Proofs.YtmiepigieajpcaaGreat

/- The walk of the reference's Open where there is a log. -/
namespace Go.Proofs.YtmiepigieajpcaaGreat
open Go.RowKit Go.Maps Go.Shelf

attribute [local go_sem ↓] Go.wp_at_zero Go.wp_at_succ

/-- What Find answers where there is a log. -/
def RFindOk (X : Nat → Prop) (ps : List PS) (first : Int) (N size torn : Nat) (recs : List (List Nat)) (W : World) (e : Ending) (w' : World) : Prop :=
  ∃ aa ac va vc, e = .returned (logRV aa ps.length ac first (N : Int) va recs.length vc (size : Int) (torn : Int) 0) ∧ Ints w' aa ps.length ac (ps.map PS.n) ∧ PartsZ (fun b => X b ∨ W.heap.size ≤ b) w' W.heap.size (.slice va recs.length vc) recs ∧ Below W.heap.size W w'

theorem mem_le_sum2 : ∀ (l : List Nat) (x : Nat), x ∈ l → x ≤ l.sum
  | [], _, h => by cases h
  | y :: l, x, h => by
    rw [List.sum_cons]
    rcases List.mem_cons.1 h with rfl | h
    · omega
    · have := mem_le_sum2 l x h
      omega

/-- A row of changes, new in memory. -/
theorem rops_new {G : Nat} {w : World} (hG : G ≤ w.heap.size) (rs : List OQ) (hrs : ∀ q ∈ rs, SOok G w q) (cs : Array Value) (hcs : cs.toList = flatO rs) (hm : rs.length ≤ 1000) :
    ROps G (w.alloc (.cells cs 101)) (.slice (some ⟨w.heap.size, 0, none⟩) rs.length rs.length) (rs.map Prod.fst) := by
  have hb := (Below.refl w.heap.size w).alloc (Nat.le_refl _) (.cells cs 101)
  refine ⟨rs, rfl, ?_, fun q hq => (hrs q hq).grow (hb.mono hG)⟩
  rw [List.length_map]
  refine ⟨flatO_len rs, .inr ⟨w.heap.size, rs.length, cs, rfl, hG, heap_alloc_new _ _, Nat.le_refl _, by rw [maxLen_nat]; omega, ?_, ?_⟩⟩
  · rw [← Array.length_toList, hcs, flatO_len]
  · rw [hcs]
    exact List.take_of_length_le (by rw [flatO_len]; exact Nat.le_refl _)

/-- 'append(v, u...)' of rows of changes: what it runs to. -/
theorem wp_append_rops {o : Oper} {a : Act} {w : World} {K : Act → World → Prop} {Q : Exit → Act → World → Prop} (s x : Operand)
    (ho : o.op = .call { callee := .builtin .append, args := #[s, x], argTypes := #[102, 102] })
    (G : Nat) (v : Value) (l : List SO) (hs : a.eval s = v) (hv : ROps G w v l) (u : Value) (m : List SO) (hx : a.eval x = u) (hu : ROps G w u m) (hlm : l.length + m.length ≤ 1000000) (hG : G ≤ w.heap.size)
    (h : ∀ v' w', ROps G w' v' (l ++ m) → Below G w w' → K (a.put o.dst v') w') : Oper.wp Tryz.prog o a w K Q := by
  obtain ⟨i, hi, hz, hsz, hby⟩ := info_parts info_op
  obtain ⟨qs, h1, h2, h3⟩ := hv
  obtain ⟨rs, k1, k2, k3⟩ := hu
  have hrl : rs.length = m.length := by rw [← k1, List.length_map]
  rcases k2.2 with ⟨rfl, h0⟩ | ⟨g, cap, cur, rfl, hb, hg, hle, hcm, hsz2, htk⟩
  · have hm0 : m = [] := List.length_eq_zero_iff.1 h0
    subst hm0
    have hrun := run_append_owned_none (P := Tryz.prog) (w := w) G 102 o.type 101 i 4 Tryz.underlying102 hi v l.length (flatO qs) h2
    unfold Oper.wp
    have hh := h v w (by rw [List.append_nil]; exact ⟨qs, h1, h2, h3⟩) (Below.refl _ _)
    simp [execOp, ho, resolve, invoke, builtin, hs, hx, hrun, Result.andThen]
    rw [Oper.upon_value]
    simpa using hh
  · have hlt := own_ge5 h2
    refine wp_append_own w s x 102 ho G 101 i _ 4 64 Tryz.underlying102 hi hz hsz hby rfl (by decide) v l.length (flatO qs) hs h2 ⟨g, 0, none⟩ m.length cap (flatO rs) hx (by rw [flatO_len, hrl]) (fun j z hj => ?_) (flatO_one rs) (by rw [maxLen_nat]; omega) (by omega) hG (fun v' w' g1 g2 _ => ?_)
    · rw [addr_add, Nat.zero_add, cell_of_row w g j cur _ (0, 0) hg, ← Array.getElem?_toList]
      rw [← htk, List.getElem?_take] at hj
      split at hj
      · exact hj
      · cases hj
    · have hbg : Below G w w' := (Below.refl _ _).grown g2 hG (fun k e => hlt k e)
      exact h v' w' (ROps.app h1 h3 k1 k3 g1 hbg) hbg

theorem step_append_rops {ops : Array Oper} {o : Oper} {a : Act} {w : World} {K : Act → World → Prop} {Q : Exit → Act → World → Prop} {E : Prop} (hgd : o.guard = none) (s x : Operand)
    (ho : o.op = .call { callee := .builtin .append, args := #[s, x], argTypes := #[102, 102] })
    (G : Nat) (v : Value) (l : List SO) (hs : a.eval s = v) (hv : ROps G w v l) (u : Value) (m : List SO) (hx : a.eval x = u) (hu : ROps G w u m) (hlm : l.length + m.length ≤ 1000000) (hG : G ≤ w.heap.size)
    (h : ∀ v' w', ROps G w' v' (l ++ m) → Below G w w' → K (a.put o.dst v') w') : if Region.wanted o (yielded ops a.tmps) = true then Oper.wp Tryz.prog o a w K Q else E := by
  rw [if_pos (by simp [Region.wanted, hgd])]
  exact wp_append_rops s x ho G v l hs hv u m hx hu hlm hG h

theorem wpList_append_rops {ops : Array Oper} {rest : List Oper} {o : Oper} {a : Act} {w : World} {Q : Exit → Act → World → Prop} (hgd : o.guard = none) (s x : Operand)
    (ho : o.op = .call { callee := .builtin .append, args := #[s, x], argTypes := #[102, 102] })
    (G : Nat) (v : Value) (l : List SO) (hs : a.eval s = v) (hv : ROps G w v l) (u : Value) (m : List SO) (hx : a.eval x = u) (hu : ROps G w u m) (hlm : l.length + m.length ≤ 1000000) (hG : G ≤ w.heap.size)
    (h : ∀ v' w', ROps G w' v' (l ++ m) → Below G w w' → wpList Tryz.prog ops Q rest (a.put o.dst v') w') : wpList Tryz.prog ops Q (o :: rest) a w := by
  refine wpList_plain hgd fun K hK => ?_
  exact wp_append_rops s x ho G v l hs hv u m hx hu hlm hG (fun v' w' h1 h2 => hK _ _ (h v' w' h1 h2))

/-- The blocks but B, up to N, are as they were. -/
def Off (B N : Nat) (w0 w : World) : Prop := ∀ b, b ≠ B → b < N → w.heap[b]? = w0.heap[b]?
theorem Off.refl (B N : Nat) (w : World) : Off B N w w := fun _ _ _ => rfl
theorem Off.drew {B N : Nat} {w0 w : World} (h : Off B N w0 w) : Off B N w0 w.drew := h
theorem Off.setCell {B N i : Nat} {w0 w : World} {v : Value} (h : Off B N w0 w) : Off B N w0 (w.setCell ⟨B, i, none⟩ v) := fun b hb hn => by
  rw [Below.heap_setCell _ _ _ _ hb]
  exact h b hb hn

theorem kept_any2 {Z : Nat → Prop} {w W : World} {B : Nat} {a : Option Addr} {n c : Nat} {ls : List (List Nat)} (h : PartsZ Z w B (.slice a n c) ls) (key : ∀ b, (B ≤ b ∨ Z b) → b < w.heap.size → W.heap[b]? = w.heap[b]?) : Parts W a n c ls := by
  obtain ⟨vs, h1, h2, h3⟩ := h
  have hO : OwnParts W B (.slice a n c) ls := ⟨vs, h1, own_same5 h2 (fun k e => key k (.inl (own_ge5 h2 k e)) (own_lt5 h2 k e)), fun i hi => by
    obtain ⟨a', n', c', g1, g2, g3⟩ := h3 i hi
    exact ⟨a', n', c', g1, g2.moved (fun h0 x hx => key _ (.inr (g3 h0 x hx).2) (bytes_lt g2 h0 x hx)), fun h0 x hx => (g3 h0 x hx).1⟩⟩
  obtain ⟨a6, c6, e6, hp⟩ := hO.parts
  injection e6 with e7 e8 e9
  rw [e7, e8, e9]
  exact hp

theorem row8_other (w : World) {B b : Nat} (h : b ≠ B) (v0 v1 v2 v3 v4 v5 v6 v7 : Value) : ((((((((w.setCell ⟨B, 0, none⟩ v0).setCell ⟨B, 1, none⟩ v1).setCell ⟨B, 2, none⟩ v2).setCell ⟨B, 3, none⟩ v3).setCell ⟨B, 4, none⟩ v4).setCell ⟨B, 5, none⟩ v5).setCell ⟨B, 6, none⟩ v6).setCell ⟨B, 7, none⟩ v7).heap[b]? = w.heap[b]? := by
  repeat rw [Below.heap_setCell _ _ _ _ h]

/-- What 'd, e := Steps(..)' leaves where d is the call's own box. -/
def DCut (X : Nat → Prop) (w w4 : World) (rr : DM × Int) (t : Value) (wx : World) : Prop :=
  ∃ a n c R, t = .int .i64 rr.2 ∧ wx.heap[w.heap.size]? = some (.cells #[.int .i64 (rr.1.room : Int), .slice a n c, .int .i64 (rr.1.plan : Int), .bool rr.1.down] 25 (0, 0)) ∧ RowF (fun b => (X b ∨ w4.heap.size ≤ b) ∧ b < wx.heap.size) wx a n c R ∧ R.map FR.f = rr.1.fs ∧
    (∀ b, b ≠ w.heap.size → b < w4.heap.size → wx.heap[b]? = w4.heap[b]?) ∧ Below w.heap.size w wx ∧ w4.heap.size ≤ wx.heap.size

theorem dcut {X : Nat → Prop} {w w4 w7 : World} {rr : DM × Int} {v0 v1 v2 v3 : Value} {a : Option Addr} {n c N : Nat} {R : List FR} (h04 : Below w.heap.size w w4) (hlt : w.heap.size < w4.heap.size) (hX : ∀ b, X b → b < w.heap.size) (hb : Below w4.heap.size w4 w7) (hq : w7.heap[w.heap.size]? = some (.cells #[v0, v1, v2, v3] 25 (0, 0))) (hN : w4.heap.size ≤ N) (hR : RowF (fun b => (X b ∨ N ≤ b) ∧ b < w7.heap.size) w7 a n c R) (hf : R.map FR.f = rr.1.fs) :
    DCut X w w4 rr (.int .i64 rr.2) ((((w7.setCell ⟨w.heap.size, 0, none⟩ (.int .i64 (rr.1.room : Int))).setCell ⟨w.heap.size, 1, none⟩ (.slice a n c)).setCell ⟨w.heap.size, 2, none⟩ (.int .i64 (rr.1.plan : Int))).setCell ⟨w.heap.size, 3, none⟩ (.bool rr.1.down)) := by
  have hsz : ((((w7.setCell ⟨w.heap.size, 0, none⟩ (.int .i64 (rr.1.room : Int))).setCell ⟨w.heap.size, 1, none⟩ (.slice a n c)).setCell ⟨w.heap.size, 2, none⟩ (.int .i64 (rr.1.plan : Int))).setCell ⟨w.heap.size, 3, none⟩ (.bool rr.1.down)).heap.size = w7.heap.size := by simp only [World.size_setCell]
  have ho : ∀ b, b ≠ w.heap.size → ((((w7.setCell ⟨w.heap.size, 0, none⟩ (.int .i64 (rr.1.room : Int))).setCell ⟨w.heap.size, 1, none⟩ (.slice a n c)).setCell ⟨w.heap.size, 2, none⟩ (.int .i64 (rr.1.plan : Int))).setCell ⟨w.heap.size, 3, none⟩ (.bool rr.1.down)).heap[b]? = w7.heap[b]? := fun b hb => by
    repeat rw [Below.heap_setCell _ _ _ _ hb]
  have h07 := h04.trans (hb.mono h04.size)
  refine ⟨a, n, c, R, rfl, boxD_set hq _ _ _ _, hR.mono (fun b h => ho b ?_) (fun b h => ⟨h.1.imp id (fun h1 => Nat.le_trans hN h1), by rw [hsz]; exact h.2⟩), hf, fun b hne hlt => (ho b hne).trans (hb.block b hlt), ?_, by rw [hsz]; exact hb.size⟩
  · rcases h.1 with h1 | h1
    · have := hX b h1; omega
    · omega
  · exact (((h07.setCell (Nat.le_refl _) _).setCell (Nat.le_refl _) _).setCell (Nat.le_refl _) _).setCell (Nat.le_refl _) _

theorem older_take {M : DM} {ps : List PS} (hA : AllOf M ps) {k : Nat} (hk : k < ps.length) : (ps.map PS.n).filter (fun x => decide (x < ps[k].n)) = (ps.take k).map PS.n := by
  have h1 : ((ps.take k).map PS.n).filter (fun x => decide (x < ps[k].n)) = (ps.take k).map PS.n := by
    rw [List.filter_eq_self]
    intro x hx
    obtain ⟨q, hq, rfl⟩ := List.mem_map.1 hx
    obtain ⟨i, hi, rfl⟩ := List.getElem_of_mem hq
    rw [List.length_take] at hi
    rw [List.getElem_take]
    exact decide_eq_true (allOf_lt hA (by omega) hk)
  have h2 : ((ps.drop k).map PS.n).filter (fun x => decide (x < ps[k].n)) = [] := by
    rw [List.filter_eq_nil_iff]
    intro x hx
    obtain ⟨q, hq, rfl⟩ := List.mem_map.1 hx
    obtain ⟨i, hi, rfl⟩ := List.getElem_of_mem hq
    rw [List.length_drop] at hi
    rw [List.getElem_drop]
    intro h
    have := (allOf_lt_iff hA (show k + i < ps.length by omega) hk).1 (of_decide_eq_true h)
    omega
  generalize ps[k].n = z at h1 h2 ⊢
  have e : ps.map PS.n = (ps.take k).map PS.n ++ (ps.drop k).map PS.n := by rw [← List.map_append, List.take_append_drop]
  rw [e, List.filter_append, h1, h2, List.append_nil]

theorem older_clean {M : DM} {ps : List PS} (hA : AllOf M ps) {k : Nat} (hk : k < ps.length) : cleanM (olderL (ps.map PS.n) ps[k].n) M = ((ps.take k).map PS.n).map fun n => ⟨5, nmB n.toNat, [], []⟩ := by
  unfold olderL
  rw [older_take hA hk]
  unfold cleanM
  rw [List.filter_eq_self.2 ?_, List.map_map]
  · rfl
  · intro x hx
    obtain ⟨z, hz, rfl⟩ := List.mem_map.1 hx
    obtain ⟨q, hq, rfl⟩ := List.mem_map.1 hz
    obtain ⟨l, hl, h0, e⟩ := (hA.1.2 q.n).1 (List.mem_map.2 ⟨q, List.mem_of_mem_take hq, rfl⟩)
    obtain ⟨f, hf, rfl⟩ := List.mem_map.1 hl
    refine decide_eq_true (List.mem_map.2 ⟨f, hf, ?_⟩)
    rw [e, Int.toNat_natCast, nmB_of_num h0]

theorem asc_sub2 : ∀ (xs ys : List Int), xs.Pairwise (· < ·) → (∀ x ∈ xs, x ∈ ys) → xs.length ≤ ys.length
  | [], _, _, _ => Nat.zero_le _
  | x :: xs, ys, hp, hs => by
    obtain ⟨h1, h2⟩ := List.pairwise_cons.1 hp
    have hx := hs x (List.mem_cons_self ..)
    have ih := asc_sub2 xs (ys.erase x) h2 (fun y hy => by
      have hne : y ≠ x := fun e => by have := h1 y hy; omega
      exact (List.mem_erase_of_ne hne).2 (hs y (List.mem_cons_of_mem _ hy)))
    rw [List.length_erase_of_mem hx] at ih
    have : 0 < ys.length := List.length_pos_of_mem hx
    rw [List.length_cons]
    omega

theorem segs_many' {M : DM} {ps : List PS} (hA : AllOf M ps) : ps.length ≤ M.fs.length := by
  have h1 := asc_sub2 (ps.map PS.n) (M.fs.map fun f => ((segNum (nmL f.n) : Nat) : Int)) hA.1.1 (fun x hx => by
    obtain ⟨l, hl, _, rfl⟩ := (hA.1.2 x).1 hx
    obtain ⟨f, hf, rfl⟩ := List.mem_map.1 hl
    exact List.mem_map.2 ⟨f, hf, rfl⟩)
  rw [List.length_map, List.length_map] at h1
  exact h1

/-- A world that has drawn is no other to what Open leaves. -/
theorem roend_drew {X : Nat → Prop} {w W : World} {most : Int} {r : OR} {e : Ending} (h : ROEnd X w most r e W) : ROEnd X w most r e W.drew := by
  obtain ⟨a, n, c, R, h1, h2, h3, h4⟩ := h
  refine ⟨a, n, c, R, h1.mono (fun _ _ => rfl) (fun _ h => h), h2, h3.drew, ?_⟩
  rcases h4 with h | ⟨hz, va, vc, he, hp⟩
  · exact .inl h
  · exact .inr ⟨hz, va, vc, he, hp.grow (Below.refl _ _).drew⟩

set_option maxRecDepth 100000 in
set_option maxHeartbeats 12800000 in
theorem ropen_good {X : Nat → Prop} {w : World} {M : DM} {a : Option Addr} {n c : Nat} {R : List FR} (hR : RowF X w a n c R) (hX : ∀ b, X b → b < w.heap.size) (hfs : R.map FR.f = M.fs) (hn : n ≤ 1000000) {U : Nat} (hnt : Neat M 900 U) (hU : U ≤ 9000) (hd : M.down = false) (most : Int)
    (ps : List PS) (hA : AllOf M ps) (k : Nat) (hp : 0 < ps.length) (hk : k < ps.length) (N : Nat) (hN : (lastP ps hp).n = (N : Int)) (recs : List (List Nat))
    (hF : ∀ W, Below w.heap.size w W → Calls Tryz.prog 16 #[refV (M.room : Int) a n c (M.plan : Int) M.down] W (RFindOk X ps ps[k].n N (joinL (lastP ps hp).ls).length (lastP ps hp).t.length recs W)) :
    Calls Tryz.prog 22 #[refV (M.room : Int) a n c (M.plan : Int) M.down, .int .i64 most] w (ROEnd X w most ⟨(stepsM (repOps M ((ps.take k).map PS.n) N (joinL (lastP ps hp).ls) (lastP ps hp).t.length) M).2, (stepsM (repOps M ((ps.take k).map PS.n) N (joinL (lastP ps hp).ls) (lastP ps hp).t.length) M).1, N, (joinL (lastP ps hp).ls).length, recs⟩) := by
  obtain ⟨hb1, hz1, hB0, hB1⟩ := startO_facts w (M.room : Int) a n c (M.plan : Int) M.down
  unfold startO at hb1 hz1 hB0 hB1
  have hRW := fun W (h : Below w.heap.size w W) => hR.below hX h
  have hXW := fun W (h : Below w.heap.size w W) b (hb : X b) => Nat.lt_of_lt_of_le (hX b hb) h.size
  have HCl := Lib.hid (fun W (h : Below w.heap.size w W) p m k nms hN => rclean_any (hRW W h) (hXW W h) hfs p m k nms hN)
  have HSt := Lib.hid (fun W (h : Below w.heap.size w W) p n' c' l hl hN' hT hub => rsteps_any (X := X) (w := W) (v := refV (M.room : Int) a n c (M.plan : Int) M.down) (M := M) ⟨a, n, c, R, rfl, hRW W h, hfs, hn⟩ (hXW W h) p n' c' l hl hnt (T := 9000) hN' hT hub)
  have hlm : lastP ps hp ∈ ps := List.getElem_mem _
  obtain ⟨N', y, hN', hn1, hn2, hyf, hyR, hyb, hys⟩ := seg_file hA hfs hd hlm
  obtain rfl : N' = N := by rw [hN] at hN'; omega
  have hyB := fun W (h : Below w.heap.size w W) => ((hRW W h).files y hyR).bytes
  have hyX := fun (h0 : 0 < y.f.b.length) x (hx : y.pa = some x) => (hR.files y hyR).blk h0 x hx
  have HBt := Lib.hid (fun W (h : Below w.heap.size w W) => rbytes_any (M := M) (hRW W h) (hXW W h) N' hn1 hn2 y hyf)
  have HOl := Lib.hid (fun p m k l first W hI hm hl => rolder_any p m k l first W hI hm hl)
  have HNm := Lib.hid (fun W => rsegname_yes N' W hn1 hn2)
  obtain ⟨i0, hi, hz0, hz1', hz2⟩ := info_parts info_op
  obtain ⟨OPS, hOPS⟩ : ∃ OPS, OPS = repOps M ((ps.take k).map PS.n) N' (joinL (lastP ps hp).ls) (lastP ps hp).t.length := ⟨_, rfl⟩
  rw [← hOPS]
  have hOP2 : OPS = cleanM [cutB, newB] M ++ (if (lastP ps hp).t.length = 0 then [] else cutOps (nmB N') (joinL (lastP ps hp).ls)) ++ cleanM (olderL (ps.map PS.n) ps[k].n) M ++ [⟨3, nmB N', [], []⟩] := by rw [older_clean hA hk]; exact hOPS
  clear hOPS
  generalize hll : joinL (lastP ps hp).ls = L at *
  generalize htt : (lastP ps hp).t.length = T at *
  have hpos := allOf_pos hA
  have hyl : y.f.b.length = L.length + T := by rw [hyb, List.length_append, htt]
  have hytk : y.f.b.take L.length = L := by rw [hyb, List.take_left]
  have hyfm := (hR.files y hyR).form
  have hyle := (hR.files y hyR).bytes.le
  have hL9 : L.length ≤ 9000 := by
    have h1 := hnt.small.used
    have h2 : y.f.b.length ≤ usedF M.fs := by
      unfold usedF
      exact mem_le_sum2 (M.fs.map fun f => f.b.length) _ (List.mem_map.2 ⟨y.f, by rw [← hfs]; exact List.mem_map.2 ⟨y, hyR, rfl⟩, rfl⟩)
    omega
  have hplen : ps.length ≤ 900 := by
    have h1 := segs_many' hA
    have := hnt.small.files
    omega
  unfold refV at *
  obtain ⟨w1, hw1⟩ : ∃ w1, w1 = (w.alloc (.cells #[.int .i64 (M.room : Int), .slice a n c, .int .i64 (M.plan : Int), .bool M.down] 25)).alloc (.cells #[.int .i64 0, .slice none 0 0, .int .i64 0, .bool false, .int .i64 0, .int .i64 0, .int .i64 0, .int .i64 0] 47) := ⟨_, rfl⟩
  rw [← hw1] at hb1 hz1 hB0 hB1
  have HF := Lib.hid (hF w1 hb1)
  have HX := Lib.hid hX
  have Hb1 := Lib.hid hb1
  have HB0 := Lib.hid hB0
  have HB1 := Lib.hid hB1
  have HyB := Lib.hid hyB
  have HyX := Lib.hid hyX
  have Hyb := Lib.hid hyb
  have Hpos := Lib.hid hpos
  have HOP := Lib.hid hOP2
  clear hOP2 hd hll htt
  clear hF hR hX hfs hb1 hB0 hB1 hn hnt hRW hXW hyB hyX hyb hys hyf hyR hN' hlm hpos hA
  generalize ps[k].n = first at *
  clear hk hN
  go_enter Tryz.func22, Tryz.ntmps22
  go_wp2_with fail
  rw [← hw1]
  clear hw1
  refine HF.out.mono ?_
  rintro e w2 ⟨aa, ac, va, vc, rfl, hI2, hP2, hb2⟩
  unfold logRV
  have hb23 := (Below.refl w2.heap.size w2).alloc (Nat.le_refl _) (.cells #[.slice aa ps.length ac, .int .i64 first, .int .i64 (N' : Int), .slice va recs.length vc, .int .i64 (L.length : Int), .int .i64 (T : Int), .int .i64 0] 35)
  have hBL := heap_alloc_new w2 (.cells #[.slice aa ps.length ac, .int .i64 first, .int .i64 (N' : Int), .slice va recs.length vc, .int .i64 (L.length : Int), .int .i64 (T : Int), .int .i64 0] 35)
  have hb13 := hb2.trans (hb23.mono hb2.size)
  have hB0 := (hb13.block _ (Array.getElem?_eq_some_iff.1 HB0.out).1).trans HB0.out
  obtain ⟨g0, g1, g2, g3, g4, g5, g6, gf⟩ := box7 hBL
  obtain ⟨c0, c1, c2, c3, cf⟩ := box4c hB0
  go_wp2_with fail
  have hb4 := (hb13.mono (Nat.le_refl _)).alloc hb13.size (.cells #[.string ⟨#[99, 117, 116]⟩, .string ⟨#[110, 101, 119]⟩] 9)
  have hN2 := names_two (w2.alloc (.cells #[.slice aa ps.length ac, .int .i64 first, .int .i64 (N' : Int), .slice va recs.length vc, .int .i64 (L.length : Int), .int .i64 (T : Int), .int .i64 0] 35))
  rw [World.size_alloc] at hN2
  refine (HCl.out _ (Hb1.out.trans (hb4.mono Hb1.out.size)) _ 2 2 _ hN2).mono ?_
  rintro e w5 ⟨v5, rfl, hops, hb5⟩
  obtain ⟨w4, hw4⟩ : ∃ w4, w4 = (w2.alloc (.cells #[.slice aa ps.length ac, .int .i64 first, .int .i64 (N' : Int), .slice va recs.length vc, .int .i64 (L.length : Int), .int .i64 (T : Int), .int .i64 0] 35)).alloc (.cells #[.string ⟨#[99, 117, 116]⟩, .string ⟨#[110, 101, 119]⟩] 9) := ⟨_, rfl⟩
  have hz4 : w4.heap.size = w2.heap.size + 2 := by rw [hw4]; simp
  have hBL4 := (Below.heap_alloc (w2.alloc (.cells #[.slice aa ps.length ac, .int .i64 first, .int .i64 (N' : Int), .slice va recs.length vc, .int .i64 (L.length : Int), .int .i64 (T : Int), .int .i64 0] 35)) (.cells #[.string ⟨#[99, 117, 116]⟩, .string ⟨#[110, 101, 119]⟩] 9) w2.heap.size (by rw [World.size_alloc]; omega)).trans hBL
  have hb24 := hb23.alloc hb23.size (.cells #[.string ⟨#[99, 117, 116]⟩, .string ⟨#[110, 101, 119]⟩] 9)
  rw [← hw4] at hops hb5 hb4 hBL4 hb24
  have hs12 := hb2.size
  have hs04 : w.heap.size ≤ w4.heap.size := by have := Hb1.out.size; omega
  have hB04 := (hb4.block _ (Array.getElem?_eq_some_iff.1 HB0.out).1).trans HB0.out
  have HB04 := Lib.hid hB04
  have HBL4 := Lib.hid hBL4
  have hlt04 : w.heap.size < w4.heap.size := by have := Hb1.out.size; omega
  have HB14 := Lib.hid ((hb4.block _ (Array.getElem?_eq_some_iff.1 HB1.out).1).trans HB1.out)
  have HX4 := Lib.hid (fun b (hb : X b) => Nat.lt_of_lt_of_le (HX.out b hb) hs04)
  have H04 := Lib.hid (Hb1.out.trans (hb4.mono Hb1.out.size))
  have HBX := Lib.hid (fun (W : World) (hW : Below w4.heap.size w4 W) => (show (W.cell? ⟨w.heap.size, 0, none⟩ = some (.int .i64 (M.room : Int)) ∧ W.cell? ⟨w.heap.size, 1, none⟩ = some (.slice a n c) ∧ W.cell? ⟨w.heap.size, 2, none⟩ = some (.int .i64 (M.plan : Int)) ∧ W.cell? ⟨w.heap.size, 3, none⟩ = some (.bool M.down)) ∧ (W.cell? ⟨w2.heap.size, 0, none⟩ = some (.slice aa ps.length ac) ∧ W.cell? ⟨w2.heap.size, 1, none⟩ = some (.int .i64 first) ∧ W.cell? ⟨w2.heap.size, 2, none⟩ = some (.int .i64 (N' : Int)) ∧ W.cell? ⟨w2.heap.size, 3, none⟩ = some (.slice va recs.length vc) ∧ W.cell? ⟨w2.heap.size, 4, none⟩ = some (.int .i64 (L.length : Int)) ∧ W.cell? ⟨w2.heap.size, 5, none⟩ = some (.int .i64 (T : Int))) from by
    obtain ⟨c0, c1, c2, c3, _⟩ := box4c ((hW.block w.heap.size (by omega)).trans hB04)
    obtain ⟨g0, g1, g2, g3, g4, g5, g6, _⟩ := box7 ((hW.block w2.heap.size (by omega)).trans hBL4)
    exact ⟨⟨c0, c1, c2, c3⟩, g0, g1, g2, g3, g4, g5⟩))
  have HI := Lib.hid (fun W (hW : Below w4.heap.size w4 W) => hI2.grow (hb24.trans (hW.mono (by omega))))
  have HP := Lib.hid (hP2.grow hb24)
  have Hops := Lib.hid hops
  have Hb5 := Lib.hid hb5
  have hs5 := hb5.size
  obtain ⟨⟨c0, c1, c2, c3⟩, g0, g1, g2, g3, g4, g5⟩ := HBX.out w5 hb5
  clear hb4 hb5 hw4 hops hI2 hP2 hb2 hb23 hb13 hBL4 hb24 hB04 hB0 hBL hN2
  have hpz : ((ps.length : Int) == 0) = false := by rw [beq_eq_false_iff_ne]; omega
  have hcl := cleanM_len [cutB, newB] M
  simp only [List.length_cons, List.length_nil] at hcl
  have hsB : ∀ (W : World) (l : List Nat), Bytes W y.pa y.f.b.length y.k l → Bytes W y.pa L.length y.k (l.take L.length) := fun W l h => h.takeTo (by omega) (by omega) (Nat.le_refl _)
  have HsB := Lib.hid (fun W (hW : Below w4.heap.size w4 W) => (show Bytes W y.pa L.length y.k L from by
    have h := hsB W _ (HyB.out W (H04.out.trans (hW.mono hs04)))
    rw [hytk] at h
    exact h))
  have hsB0 := hsB w _ (HyB.out w (Below.refl _ _))
  have HsX := Lib.hid (fun (h0 : 0 < L.length) z (hz : y.pa = some z) => Nat.lt_of_lt_of_le (bytes_lt hsB0 h0 z hz) hs04)
  have hyk : L.length ≤ y.k := by omega
  have hyk2 : (L.length : Int) ≤ (y.k : Int) := by omega
  clear hsB hsB0 hytk hyfm hyle
  go_wp2_with fail
  refine (HNm.out _).mono ?_
  rintro e w6 ⟨rfl, rfl⟩
  obtain ⟨pre, hpre⟩ : ∃ pre, pre = cleanM [cutB, newB] M ++ (if T = 0 then [] else cutOps (nmB N') L) := ⟨_, rfl⟩
  rcases Nat.eq_zero_or_pos T with rfl | hT
  case' inl =>
    have HR6 := Lib.hid (show ROps w4.heap.size w5 v5 pre ∧ Below w4.heap.size w4 w5 from ⟨by rw [hpre, if_pos rfl, List.append_nil]; exact Hops.out, Hb5.out⟩)
    go_wp2_with fail
  case' inr =>
    have hTp : (0 : Int) < (T : Int) := by omega
    go_wp2_with fail
    refine (HBt.out w5 (H04.out.trans (Hb5.out.mono hs04))).mono ?_
    rintro e w6 ⟨rfl, hb6⟩
    have hb46 := Hb5.out.trans (hb6.mono hs5)
    obtain ⟨⟨c0, c1, c2, c3⟩, g0, g1, g2, g3, g4, g5⟩ := HBX.out w6 hb46
    have hs6 := hb6.size
    have hrn := rops_new (G := w4.heap.size) (w := w6) (by omega) [(⟨1, cutB, [], []⟩, (none, 0)), (⟨2, cutB, [], L⟩, (y.pa, y.k)), (⟨3, cutB, [], []⟩, (none, 0)), (⟨4, cutB, nmB N', []⟩, (none, 0))] (fun q hq => by
        simp only [List.mem_cons, List.not_mem_nil, or_false] at hq
        rcases hq with rfl | rfl | rfl | rfl
        · exact sook_nil (by decide) (by decide) (by decide)
        · exact ⟨HsB.out w6 hb46, HsX.out, (by show (1 : Int) ≤ 2 ∧ (2 : Int) ≤ 5; decide), (by show cutB.length ≤ _; decide), (by show ([] : List UInt8).length ≤ _; decide)⟩
        · exact sook_nil (by decide) (by decide) (by decide)
        · exact sook_nil (by decide) (by decide) (by rw [nmB_length]; decide))
      #[.int .i64 1, .string ⟨#[99, 117, 116]⟩, .string ⟨#[]⟩, .slice none 0 0, .int .i64 2, .string ⟨#[99, 117, 116]⟩, .string ⟨#[]⟩, .slice y.pa L.length y.k, .int .i64 3, .string ⟨#[99, 117, 116]⟩, .string ⟨#[]⟩, .slice none 0 0, .int .i64 4, .string ⟨#[99, 117, 116]⟩, .string (str (nameL N')), .slice none 0 0] rfl (by show 4 ≤ 1000; decide)
    have Hrn := Lib.hid hrn
    have Hb46 := Lib.hid hb46
    have Hop6 := Lib.hid (Hops.out.grow hs5 hb6)
    clear hrn hb46 hb6
    go_wp2_with (at_builtin; go_loud (refine wpList_append_rops rfl _ _ rfl w4.heap.size _ _ rfl (Hop6.out.grow (by omega) ((Below.refl _ _).alloc (Nat.le_refl _) _)) _ _ rfl Hrn.out (by show (cleanM [cutB, newB] M).length + 4 ≤ _; omega) (by rw [World.size_alloc]; omega) ?_; intro v' w7 hro hb67; have HR6 := Lib.hid (show ROps w4.heap.size w7 v' pre ∧ Below w4.heap.size w4 w7 from ⟨by rw [hpre, if_neg (Nat.ne_of_gt hT)]; exact hro, (Hb46.out.alloc Hb46.out.size _).trans hb67⟩)))
  all_goals
    obtain ⟨hr6, hb46⟩ := HR6.out
    have HR6 := Lib.hid hr6
    have hs6 := hb46.size
    have hpl6 : pre.length ≤ 6 := by
      rw [hpre, List.length_append]
      split
      · simp only [List.length_nil]; omega
      · simp only [cutOps, List.length_cons, List.length_nil]; omega
    have hol := olderL_len (ps.map PS.n) first
    rw [List.length_map] at hol
    have hcl2 := cleanM_len (olderL (ps.map PS.n) first) M
    have HS6 := Lib.hid (fun (W : World) (hW : Below w4.heap.size w4 W) => (show W.cell? ⟨w.heap.size, 0, none⟩ = some (.int .i64 (M.room : Int)) ∧ W.cell? ⟨w.heap.size, 1, none⟩ = some (.slice a n c) ∧ W.cell? ⟨w.heap.size, 2, none⟩ = some (.int .i64 (M.plan : Int)) ∧ W.cell? ⟨w.heap.size, 3, none⟩ = some (.bool M.down) ∧ W.cell? ⟨w2.heap.size, 0, none⟩ = some (.slice aa ps.length ac) ∧ W.cell? ⟨w2.heap.size, 1, none⟩ = some (.int .i64 first) from by
      obtain ⟨⟨c0, c1, c2, c3⟩, g0, g1, _⟩ := HBX.out W hW
      exact ⟨c0, c1, c2, c3, g0, g1⟩))
    clear hr6
    go_region_held3 (fun W => W.cell? ⟨w.heap.size, 0, none⟩ = some (.int .i64 (M.room : Int)) ∧ W.cell? ⟨w.heap.size, 1, none⟩ = some (.slice a n c) ∧ W.cell? ⟨w.heap.size, 2, none⟩ = some (.int .i64 (M.plan : Int)) ∧ W.cell? ⟨w.heap.size, 3, none⟩ = some (.bool M.down) ∧ W.cell? ⟨w2.heap.size, 0, none⟩ = some (.slice aa ps.length ac) ∧ W.cell? ⟨w2.heap.size, 1, none⟩ = some (.int .i64 first))
      (first | exact HS6.out _ (by (repeat (first | assumption | exact Below.refl _ _ | refine Below.drew ?_ | refine Below.alloc ?_ (by (first | exact Nat.le_refl _ | (simp; done) | (simp; omega) | omega)) _ | refine Below.setCell ?_ (by (first | exact Nat.le_refl _ | (show _ ≤ _; omega) | (simp; done) | (simp; omega))) _))))
      (first
        | (go_at_call 70; (with_reducible refine (HOl.out aa ps.length ac (ps.map PS.n) first _ (HI.out _ (by (repeat (first | assumption | exact Below.refl _ _ | refine Below.drew ?_ | refine Below.alloc ?_ (by (first | exact Nat.le_refl _ | (simp; done) | (simp; omega) | omega)) _ | refine Below.setCell ?_ (by (first | exact Nat.le_refl _ | (show _ ≤ _; omega) | (simp; done) | (simp; omega))) _)))) (by omega) (fun x hx => by have := Hpos.out x hx; omega)).mono ?_); rintro e w20 ⟨ao, co, rfl, hNm, hb20⟩; have hb420 : Below w4.heap.size w4 w20 := Below.trans (by (repeat (first | assumption | exact Below.refl _ _ | refine Below.drew ?_ | refine Below.alloc ?_ (by (first | exact Nat.le_refl _ | (simp; done) | (simp; omega) | omega)) _ | refine Below.setCell ?_ (by (first | exact Nat.le_refl _ | (show _ ≤ _; omega) | (simp; done) | (simp; omega))) _))) (hb20.mono (by first | exact hs6 | omega)); have hs20 := hb20.size; have hr620 := HR6.out.grow hs6 (Below.trans (by (repeat (first | assumption | exact Below.refl _ _ | refine Below.drew ?_ | refine Below.alloc ?_ (by (first | exact Nat.le_refl _ | (simp; done) | (simp; omega) | omega)) _ | refine Below.setCell ?_ (by (first | exact Nat.le_refl _ | (show _ ≤ _; omega) | (simp; done) | (simp; omega))) _))) hb20))
        | (go_at_call 68; (with_reducible refine (HCl.out w20 (H04.out.trans (hb420.mono hs04)) ao _ co _ hNm).mono ?_); rintro e w21 ⟨v21, rfl, hrc, hb21⟩; have hs420 := hb420.size; have hb421 : Below w4.heap.size w4 w21 := hb420.trans (hb21.mono hs420); have hs21 := hb21.size; have hrc4 := hrc.base hs420 (cleanM_bs _ M); have hr621 := hr620.grow hs420 hb21; clear hrc hNm)
        | (refine step_append_rops rfl (.tmp 69) (.tmp 76) rfl w4.heap.size _ pre (by first | rfl | (simp [Act.eval]; done)) hr621 _ (cleanM (olderL (ps.map PS.n) first) M) (by first | rfl | (simp [Act.eval]; done)) hrc4 (by omega) (by omega) ?_; intro v22 w22 hro22 hb2122; have hb422 := hb421.trans hb2122))
    have hs22 := hb422.size
    obtain ⟨⟨c0, c1, c2, c3⟩, g0, g1, g2, g3, g4, g5⟩ := HBX.out w22 hb422
    have Hro22 := Lib.hid hro22
    have Hb422 := Lib.hid hb422
    have hOPSe : OPS = (pre ++ cleanM (olderL (ps.map PS.n) first) M) ++ [⟨3, nmB N', [], []⟩] := by rw [HOP.out, hpre]
    have hopl : OPS.length ≤ 1000 := by
      rw [hOPSe, List.length_append, List.length_append]
      simp only [List.length_cons, List.length_nil]
      omega
    have Hopb := Lib.hid (show ∀ x ∈ OPS, x.bs.length ≤ 9000 from fun x hx => by
      rw [hOPSe] at hx
      rcases List.mem_append.1 hx with h | h
      · rcases List.mem_append.1 h with h | h
        · rw [hpre] at h
          rcases List.mem_append.1 h with h | h
          · rw [cleanM_bs _ M x h]; exact Nat.zero_le _
          · split at h
            · cases h
            · unfold cutOps at h
              simp only [List.mem_cons, List.not_mem_nil, or_false] at h
              rcases h with rfl | rfl | rfl | rfl
              · exact Nat.zero_le _
              · exact hL9
              · exact Nat.zero_le _
              · exact Nat.zero_le _
        · rw [cleanM_bs _ M x h]; exact Nat.zero_le _
      · rw [List.mem_singleton.1 h]; exact Nat.zero_le _)
    have HOPSe := Lib.hid hOPSe
    have hB22 := (hb422.block w.heap.size (by omega)).trans HB04.out
    have e0 := fun o => row_alloc' hB22 o 0
    have e1 := fun o => row_alloc' hB22 o 1
    have e2 := fun o => row_alloc' hB22 o 2
    have e3 := fun o => row_alloc' hB22 o 3
    simp only [List.getElem?_toArray, List.getElem?_cons_zero, List.getElem?_cons_succ] at e0 e1 e2 e3
    clear hB22
    have hlen22 : (pre ++ cleanM (olderL (ps.map PS.n) first) M).length ≤ 906 := by rw [List.length_append]; omega
    have Hrn := Lib.hid (rops_new (G := w4.heap.size) (w := w22) hs22 [(⟨3, nmB N', [], []⟩, (none, 0))] (fun q hq => by rw [List.mem_singleton.1 hq]; exact sook_nil (by decide) (by rw [nmB_length]; decide) (by decide)) #[.int .i64 3, .string (str (nameL N')), .string ⟨#[]⟩, .slice none 0 0] rfl (by show 1 ≤ 1000; decide))
    clear hro22 hb20 hs20 hb21 hs21 hb420 hb421 hs420 hb2122 hrc4 hr620 hr621 hb422 hOPSe
    go_upto_region 13 with fail
    generalize hrr : stepsM OPS M = rr at *
    go_cut [14] (fun t wx => DCut X w w4 rr t wx)
    case first =>
      go_region_law
        (first
          | (refine step_append_rops rfl (.tmp 80) (.tmp 83) rfl w4.heap.size _ (pre ++ cleanM (olderL (ps.map PS.n) first) M) (by first | rfl | (simp [Act.eval]; done)) (Hro22.out.grow hs22 (by (repeat (first | assumption | exact Below.refl _ _ | refine Below.drew ?_ | refine Below.alloc ?_ (by (first | exact Nat.le_refl _ | (simp; done) | (simp; omega) | omega)) _ | refine Below.setCell ?_ (by (first | exact Nat.le_refl _ | (show _ ≤ _; omega) | (simp; done) | (simp; omega))) _)))) _ [⟨3, nmB N', [], []⟩] (by first | rfl | (simp [Act.eval]; done)) (Hrn.out.grow (by rw [World.size_alloc]; omega) (by (repeat (first | assumption | exact Below.refl _ _ | refine Below.drew ?_ | refine Below.alloc ?_ (by (first | exact Nat.le_refl _ | (simp; done) | (simp; omega) | omega)) _ | refine Below.setCell ?_ (by (first | exact Nat.le_refl _ | (show _ ≤ _; omega) | (simp; done) | (simp; omega))) _)))) (by show (pre ++ cleanM (olderL (ps.map PS.n) first) M).length + 1 ≤ _; omega) (by first | (rw [World.size_alloc]; omega) | (show _ ≤ (World.alloc _ _).heap.size; rw [World.size_alloc]; omega)) ?_; intro v24 w24 hro24 hb24; rw [← HOPSe.out] at hro24; obtain ⟨a24, c24, rfl⟩ := hro24.form; have hb2224 : Below w4.heap.size w22 w24 := Below.trans (by (repeat (first | assumption | exact Below.refl _ _ | refine Below.drew ?_ | refine Below.alloc ?_ (by (first | exact Nat.le_refl _ | (simp; done) | (simp; omega) | omega)) _ | refine Below.setCell ?_ (by (first | exact Nat.le_refl _ | (show _ ≤ _; omega) | (simp; done) | (simp; omega))) _))) hb24; have hb424 := Hb422.out.trans hb2224; have hs424 := hb424.size; have hq24 := (hb424.block w.heap.size (by omega)).trans HB04.out; obtain ⟨y0, y1, y2, y3, yf⟩ := box4c hq24)
          | (go_simp; go_at_call 54; (with_reducible refine (HSt.out _ (H04.out.trans (hb424.mono hs04)) _ _ _ _ (ROps.sos hro24 (by omega) rfl) (by omega) Hopb.out (by omega)).mono ?_); rintro e w7 ⟨a7, n7, c7, R7, rfl, hR7, hf7, hb7⟩; rw [hrr] at hf7; simp only [hrr]; unfold refV; have hb47 := hb424.trans (hb7.mono hs424); have hq7 := (hb47.block w.heap.size (by omega)).trans HB04.out; obtain ⟨q0, q1, q2, q3, qf⟩ := box4c hq7))
      all_goals go_wp2_with fail
      all_goals go_meet
      all_goals exact dcut H04.out hlt04 HX.out hb47 hq7 hs424 hR7 hf7
    case rest =>
      obtain ⟨a7, n7, c7, R7, rfl, hBx, hR7, hf7, hoth, hb7, hs7⟩ := hcut
      obtain ⟨x0, x1, x2, x3, xf⟩ := box4c hBx
      obtain ⟨z0, z1, z2, z3, z4, z5, z6, z7, zf⟩ := box8 ((hoth (w.heap.size + 1) (by omega) (by omega)).trans HB14.out)
      obtain ⟨g0, g1, g2, g3, g4, g5, g6, gf⟩ := box7 ((hoth w2.heap.size (by omega) (by omega)).trans HBL4.out)
      have hne1 : ¬ w2.heap.size = w.heap.size + 1 := by omega
      have hne2 : ¬ w.heap.size + 1 = w2.heap.size := by omega
      have hne3 : ¬ w.heap.size = w.heap.size + 1 := by omega
      have HR7 := Lib.hid hR7
      have Hf7 := Lib.hid hf7
      have Hb7 := Lib.hid hb7
      have Hs7 := Lib.hid hs7
      have Hoth := Lib.hid hoth
      clear hR7 hf7 hb7 hBx hs7 hoth
      by_cases hr : rr.2 = 0
      · rw [hr]
        have HS8 := Lib.hid (fun (W : World) (hW : Off (w.heap.size + 1) w4.heap.size wc W) => (show (W.cell? ⟨w.heap.size, 0, none⟩ = some (.int .i64 (rr.1.room : Int)) ∧ W.cell? ⟨w.heap.size, 1, none⟩ = some (.slice a7 n7 c7) ∧ W.cell? ⟨w.heap.size, 2, none⟩ = some (.int .i64 (rr.1.plan : Int)) ∧ W.cell? ⟨w.heap.size, 3, none⟩ = some (.bool rr.1.down)) ∧ W.cell? ⟨w2.heap.size, 2, none⟩ = some (.int .i64 (N' : Int)) ∧ W.cell? ⟨w2.heap.size, 3, none⟩ = some (.slice va recs.length vc) ∧ W.cell? ⟨w2.heap.size, 4, none⟩ = some (.int .i64 (L.length : Int)) from
          ⟨⟨(World.cell?_of_block (a := ⟨w.heap.size, 0, none⟩) (hW w.heap.size (by omega) (by omega))).trans x0, (World.cell?_of_block (a := ⟨w.heap.size, 1, none⟩) (hW w.heap.size (by omega) (by omega))).trans x1, (World.cell?_of_block (a := ⟨w.heap.size, 2, none⟩) (hW w.heap.size (by omega) (by omega))).trans x2, (World.cell?_of_block (a := ⟨w.heap.size, 3, none⟩) (hW w.heap.size (by omega) (by omega))).trans x3⟩, (World.cell?_of_block (a := ⟨w2.heap.size, 2, none⟩) (hW w2.heap.size (by omega) (by omega))).trans g2, (World.cell?_of_block (a := ⟨w2.heap.size, 3, none⟩) (hW w2.heap.size (by omega) (by omega))).trans g3, (World.cell?_of_block (a := ⟨w2.heap.size, 4, none⟩) (hW w2.heap.size (by omega) (by omega))).trans g4⟩))
        go_wp2_with fail
        clear c0 c1 c2 c3 e0 e1 e2 e3 x0 x1 x2 x3 g0 g1 g2 g3 g4 g5 g6 gf
        go_region_held3 (fun W => (W.cell? ⟨w.heap.size, 0, none⟩ = some (.int .i64 (rr.1.room : Int)) ∧ W.cell? ⟨w.heap.size, 1, none⟩ = some (.slice a7 n7 c7) ∧ W.cell? ⟨w.heap.size, 2, none⟩ = some (.int .i64 (rr.1.plan : Int)) ∧ W.cell? ⟨w.heap.size, 3, none⟩ = some (.bool rr.1.down)) ∧ W.cell? ⟨w2.heap.size, 2, none⟩ = some (.int .i64 (N' : Int)) ∧ W.cell? ⟨w2.heap.size, 3, none⟩ = some (.slice va recs.length vc) ∧ W.cell? ⟨w2.heap.size, 4, none⟩ = some (.int .i64 (L.length : Int)))
          (first | (refine HS8.out _ ?_; (repeat (first | with_reducible exact Off.refl _ _ _ | with_reducible refine Off.drew ?_ | with_reducible refine Off.setCell ?_))))
          (fail)
        go_wp2
        have hbF := fill8 (B := w.heap.size + 1) Hb7.out (Nat.le_succ _) (.int .i64 (rr.1.room : Int)) (.slice a7 n7 c7) (.int .i64 (rr.1.plan : Int)) (.bool rr.1.down) (.int .i64 most) (.int .i64 (N' : Int)) (.int .i64 (L.length : Int)) (.int .i64 0)
        have hrF := row_fill (B := w.heap.size + 1) (Z' := fun b => (X b ∨ w.heap.size ≤ b) ∧ b < wc.heap.size) HR7.out (fun b hb => by
          rcases hb.1 with h | h
          · have := HX.out b h; omega
          · omega) (fun b hb => ⟨hb.1.imp id (fun h => Nat.le_trans hs04 h), hb.2⟩) (.int .i64 (rr.1.room : Int)) (.slice a7 n7 c7) (.int .i64 (rr.1.plan : Int)) (.bool rr.1.down) (.int .i64 most) (.int .i64 (N' : Int)) (.int .i64 (L.length : Int)) (.int .i64 0)
        refine bodyPost_ret (v := .tuple #[logV (rr.1.room : Int) a7 n7 c7 (rr.1.plan : Int) rr.1.down most (N' : Int) (L.length : Int) 0, .slice va recs.length vc, .int .i64 0]) ?_ rfl (roend_drew ⟨a7, n7, c7, R7, hrF.mono (fun _ _ => rfl) (fun b hb => ⟨hb.1, ?_⟩), Hf7.out, hbF, .inr ⟨hr, va, vc, rfl, kept_any2 HP.out (fun b hb hlt => ?_)⟩⟩)
        · rw [results_ctt rfl]
          go_simp
          rfl
        · simp only [World.size_setCell]
          exact hb.2
        · have hne : b ≠ w.heap.size + 1 ∧ b ≠ w.heap.size := by
            rcases hb with h | h | h
            · omega
            · have := HX.out b h; omega
            · omega
          have h8 := row8_other wc (B := w.heap.size + 1) hne.1 (.int .i64 (rr.1.room : Int)) (.slice a7 n7 c7) (.int .i64 (rr.1.plan : Int)) (.bool rr.1.down) (.int .i64 most) (.int .i64 (N' : Int)) (.int .i64 (L.length : Int)) (.int .i64 0)
          exact h8.trans (Hoth.out b hne.2 hlt)
      · have hr1 : (rr.2 != 0) = true := by simp [hr]
        have hr2 : (rr.2 == 0) = false := by simp [hr]
        go_wp2
        have hbF := fill8 (B := w.heap.size + 1) Hb7.out (Nat.le_succ _) (.int .i64 (rr.1.room : Int)) (.slice a7 n7 c7) (.int .i64 (rr.1.plan : Int)) (.bool rr.1.down) (.int .i64 0) (.int .i64 0) (.int .i64 0) (.int .i64 0)
        have hrF := row_fill (B := w.heap.size + 1) (Z' := fun b => (X b ∨ w.heap.size ≤ b) ∧ b < wc.heap.size) HR7.out (fun b hb => by
          rcases hb.1 with h | h
          · have := HX.out b h; omega
          · omega) (fun b hb => ⟨hb.1.imp id (fun h => Nat.le_trans hs04 h), hb.2⟩) (.int .i64 (rr.1.room : Int)) (.slice a7 n7 c7) (.int .i64 (rr.1.plan : Int)) (.bool rr.1.down) (.int .i64 0) (.int .i64 0) (.int .i64 0) (.int .i64 0)
        refine bodyPost_ret (v := .tuple #[logV (rr.1.room : Int) a7 n7 c7 (rr.1.plan : Int) rr.1.down 0 0 0 0, .slice none 0 0, .int .i64 rr.2]) ?_ rfl ⟨a7, n7, c7, R7, hrF.mono (fun _ _ => rfl) (fun b hb => ⟨hb.1, ?_⟩), Hf7.out, hbF, .inl ⟨hr, 0, 0, 0, rfl⟩⟩
        · rw [results_ctt rfl]
          go_simp
          rfl
        · simp only [World.size_setCell]
          exact hb.2
end Go.Proofs.YtmiepigieajpcaaGreat

