import Derived.Test.YtjoolocdejnohaaGreatSA33
import Derived.Test.YtjoolocdejnohaaGreatSA30
import Derived.Test.YtjoolocdejnohaaGreatSA27
import Derived.Test.YtjoolocdejnohaaGreatSA25
import Derived.Test.YtjoolocdejnohaaGreatSA26
import Derived.Test.YtjoolocdejnohaaGreatSA29
import Derived.Test.YtjoolocdejnohaaGreatSA28
import Derived.Deep.AppendLies
import Derived.Deep.RegionHeld3
import Derived.Deep.DeepCutAuto
import Derived.Deep.CutBlock
/- What the reference finds. -/
namespace Go.Proofs.YtjoolocdejnohaaGreat
open Go.RowKit Go.Maps

/-- The reference's log: its parts. -/
def RLogIs (X : Nat → Prop) (w : World) (ps : List PS) (e : Ending) (w' : World) : Prop :=
  ∃ y aa an ac first last va vc size, IsLog ps y ∧ e = .returned (logRV aa an ac first last va y.recs.length vc size (y.torn : Int) y.z) ∧ Parts w' va y.recs.length vc y.recs ∧ PartsZ (fun b => X b ∨ w.heap.size ≤ b) w' w.heap.size (.slice va y.recs.length vc) y.recs ∧ Below w.heap.size w w'

theorem rfind_log {X : Nat → Prop} {w w' : World} {ps : List PS} {e : Ending} (h : RFindEnd X w ps e w') : RLogIs X w ps e w' := by
  obtain ⟨h, hb⟩ := h
  have hnil : Parts w' none 0 0 ([] : List (List Nat)) := by
    obtain ⟨a, c, e, hp⟩ := (OwnParts.nil w' 0).parts
    cases e
    exact hp
  rcases h with ⟨h0, rfl⟩ | ⟨k, hF, ⟨hg, rfl⟩ | ⟨hg, aa, ac, va, vn, vc, hk, rfl, hI, hP⟩⟩
  · exact ⟨⟨0, [], 0⟩, none, 0, 0, 0, 0, none, 0, 0, .inl ⟨h0, rfl⟩, rfl, hnil, PartsZ.nil _ _ _, hb⟩
  · exact ⟨⟨11, [], 0⟩, none, 0, 0, 0, 0, none, 0, 0, .inr ⟨k, Nat.lt_of_le_of_lt (Nat.zero_le _) hF.1, hF, .inl ⟨hg, rfl⟩⟩, rfl, hnil, PartsZ.nil _ _ _, hb⟩
  · obtain ⟨a, c, e, hp⟩ := hP.own.parts
    injection e with e1 e2 e3
    subst e1 e2 e3
    exact ⟨⟨0, recsL (ps.drop k), (ps[ps.length - 1]'(by omega)).t.length⟩, aa, ps.length, ac, ps[k].n, (ps[ps.length - 1]'(by omega)).n, va, vc, _, .inr ⟨k, by omega, hF, .inr ⟨hg, rfl⟩⟩, rfl, hp, hP, hb⟩
end Go.Proofs.YtjoolocdejnohaaGreat

/- Rows of changes that the reference makes; the walks of its Clean and Older. -/
namespace Go.Proofs.YtjoolocdejnohaaGreat
open Go.RowKit Go.Maps Go.Shelf

attribute [local go_sem ↓] Go.wp_at_zero Go.wp_at_succ

abbrev OQ := SO × (Option Addr × Nat)
def cellsO (q : OQ) : List Value := [.int .i64 q.1.k, .string ⟨q.1.nm.toArray⟩, .string ⟨q.1.tt.toArray⟩, .slice q.2.1 q.1.bs.length q.2.2]
def flatO (xs : List OQ) : List Value := (xs.map cellsO).flatten

theorem flatO_len (xs : List OQ) : (flatO xs).length = xs.length * 4 := by
  induction xs with
  | nil => rfl
  | cons x xs ih =>
    show (cellsO x ++ flatO xs).length = _
    rw [List.length_append, ih, List.length_cons]
    show 4 + _ = _
    omega

theorem flatO_app (xs ys : List OQ) : flatO (xs ++ ys) = flatO xs ++ flatO ys := by
  unfold flatO
  rw [List.map_append, List.flatten_append]

theorem flatO_at : ∀ (xs : List OQ) (i r : Nat) (h : i < xs.length), r < 4 → (flatO xs)[i * 4 + r]? = (cellsO xs[i])[r]?
  | [], i, r, h, _ => absurd h (by simp)
  | x :: xs, i, r, h, hr => by
    show (cellsO x ++ flatO xs)[i * 4 + r]? = _
    match i with
    | 0 =>
      rw [List.getElem?_append_left (by show _ < 4; omega)]
      simp
    | i + 1 =>
      rw [List.getElem?_append_right (by show 4 ≤ _; omega)]
      have := flatO_at xs i r (by simpa using h) hr
      have e : (i + 1) * 4 + r - (cellsO x).length = i * 4 + r := by show (i + 1) * 4 + r - 4 = _; omega
      rw [e, this]
      simp

theorem flatO_one (xs : List OQ) : ∀ u ∈ flatO xs, u.oneCell' = true := by
  intro u hu
  obtain ⟨l, hl, hu⟩ := List.mem_flatten.1 hu
  obtain ⟨x, _, rfl⟩ := List.mem_map.1 hl
  unfold cellsO at hu
  simp only [List.mem_cons, List.not_mem_nil, or_false] at hu
  rcases hu with rfl | rfl | rfl | rfl <;> rfl

theorem info_op : (Tryz.prog.info? 101).map (fun i => (i.zero, i.size, i.bytes)) = some (some (.agg #[.int .i64 0, .string ⟨#[]⟩, .string ⟨#[]⟩, .slice none 0 0]), 4, 64) := by kernel_rfl

/-- A change whose bytes lie below G. -/
structure SOok (G : Nat) (w : World) (q : OQ) : Prop where
  bytes : Bytes w q.2.1 q.1.bs.length q.2.2 q.1.bs
  blk : 0 < q.1.bs.length → ∀ a, q.2.1 = some a → a.block < G
  kk : 1 ≤ q.1.k ∧ q.1.k ≤ 5
  n1 : q.1.nm.length ≤ 9223372036854775807
  n2 : q.1.tt.length ≤ 9223372036854775807

theorem SOok.grow {G : Nat} {w w' : World} {q : OQ} (h : SOok G w q) (hb : Below G w w') : SOok G w' q :=
  ⟨h.bytes.moved (fun h0 x hx => hb.block _ (h.blk h0 x hx)), h.blk, h.kk, h.n1, h.n2⟩

theorem sook_nil {G : Nat} {w : World} {k : Int} {nm tt : List UInt8} (hk : 1 ≤ k ∧ k ≤ 5) (hn : nm.length ≤ 9223372036854775807) (ht : tt.length ≤ 9223372036854775807) : SOok G w (⟨k, nm, tt, []⟩, (none, 0)) :=
  ⟨⟨rfl, Nat.le_refl _, Nat.zero_le _, (fun _ h => by cases h), fun _ => rfl, fun h => absurd h (Nat.lt_irrefl _)⟩, fun h => absurd h (Nat.lt_irrefl _), hk, hn, ht⟩

/-- A row of the call's own holds the changes l. -/
def ROps (G : Nat) (w : World) (v : Value) (l : List SO) : Prop :=
  ∃ qs : List OQ, qs.map Prod.fst = l ∧ w.ownsRow G 101 4 v l.length (flatO qs) ∧ ∀ q ∈ qs, SOok G w q

theorem ROps.nil (G : Nat) (w : World) : ROps G w (.slice none 0 0) [] :=
  ⟨[], rfl, World.ownsRow_nil _ _ _ _, fun _ h => by cases h⟩

theorem ROps.lt {G : Nat} {w : World} {v : Value} {l : List SO} (h : ROps G w v l) : ∀ k, v.ownBlock = some k → G ≤ k ∧ k < w.heap.size := by
  obtain ⟨qs, _, h2, _⟩ := h
  intro k hk
  rcases h2.2 with ⟨rfl, _⟩ | ⟨g, cap, cur, rfl, hb, hg, _⟩
  · cases hk
  · cases hk
    exact ⟨hb, (Array.getElem?_eq_some_iff.1 hg).1⟩

theorem ROps.grow {G : Nat} {w w' : World} {v : Value} {l : List SO} (h : ROps G w v l) (hG : G ≤ w.heap.size) (hb : Below w.heap.size w w') : ROps G w' v l := by
  obtain ⟨qs, h1, h2, h3⟩ := h
  exact ⟨qs, h1, own_belowF h2 hb, fun q hq => (h3 q hq).grow (hb.mono hG)⟩

theorem ROps.app {G : Nat} {w w' : World} {v' : Value} {qs rs : List OQ} {l m : List SO} (h1 : qs.map Prod.fst = l) (h3 : ∀ q ∈ qs, SOok G w q) (k1 : rs.map Prod.fst = m) (k3 : ∀ q ∈ rs, SOok G w q)
    (hown : w'.ownsRow G 101 4 v' (l.length + m.length) (flatO qs ++ flatO rs)) (hb : Below G w w') : ROps G w' v' (l ++ m) := by
  refine ⟨qs ++ rs, by rw [List.map_append, h1, k1], by rw [List.length_append, flatO_app]; exact hown, fun q hq => ?_⟩
  rcases List.mem_append.1 hq with h | h
  · exact (h3 q h).grow hb
  · exact (k3 q h).grow hb

theorem ROps.form {G : Nat} {w : World} {v : Value} {l : List SO} (h : ROps G w v l) : ∃ a c, v = .slice a l.length c := by
  obtain ⟨qs, _, h2, _⟩ := h
  rcases h2.2 with ⟨rfl, h0⟩ | ⟨g, cap, cur, rfl, _⟩
  · exact ⟨none, 0, by rw [h0]⟩
  · exact ⟨_, cap, rfl⟩

/-- The changes that lie at a row, as what Steps takes. -/
theorem ROps.sos {G : Nat} {w : World} {a : Option Addr} {n c : Nat} {l : List SO} (h : ROps G w (.slice a n c) l) (hm : n ≤ 1000000) (hn : n = l.length) : SOs w a n c l := by
  obtain ⟨qs, rfl, h2, h3⟩ := h
  refine ⟨hn.symm, hm, fun h0 => ?_⟩
  rcases h2.2 with ⟨e, _⟩ | ⟨g, cap, cur, e, hb, hg, hle, hcm, hsz, htk⟩
  · cases e; omega
  · cases e
    refine ⟨g, 0, rfl, fun i hi => ?_⟩
    have hq : i < qs.length := by rw [List.length_map] at hi; exact hi
    have key : ∀ r, r < 4 → w.cell? ⟨g, 0 + i * 4 + r, none⟩ = (cellsO qs[i])[r]? := by
      intro r hr
      rw [cell_of_row w g _ cur _ (0, 0) hg, ← flatO_at qs i r hq hr, ← htk, List.getElem?_take, if_pos ?_, Array.getElem?_toList, Nat.zero_add]
      rw [List.length_map]; omega
    have hk := h3 qs[i] (List.getElem_mem hq)
    have e : (qs.map Prod.fst)[i] = qs[i].1 := by rw [List.getElem_map]
    rw [e]
    exact ⟨qs[i].2.1, qs[i].2.2, key 0 (by omega), key 1 (by omega), key 2 (by omega), key 3 (by omega), hk.bytes, hk.kk, hk.n1, hk.n2⟩

theorem cellsO_one (q : OQ) : ∀ u ∈ cellsO q, u.oneCell' = true := fun u hu => flatO_one [q] u (by unfold flatO; simpa using hu)

/-- One change more. -/
theorem op_appends {G : Nat} {w : World} {v : Value} {l : List SO} (h : ROps G w v l) (hG : G ≤ w.heap.size) (q : OQ) (hq : SOok G w q) (cs : Array Value) (hcs : cs.toList = cellsO q) :
    ∃ xs : List Value, (w.alloc (.cells cs 101)).ownsRow G 101 4 v l.length xs ∧ G ≤ (w.alloc (.cells cs 101)).heap.size ∧
      (∀ j u, (cellsO q)[j]? = some u → (w.alloc (.cells cs 101)).cell? ((⟨w.heap.size, 0, none⟩ : Addr).add j) = some u) ∧
      ∀ w' v', w'.ownsRow G 101 4 v' (l.length + 1) (xs ++ cellsO q) → (w.alloc (.cells cs 101)).grownBy w' v.ownBlock → ROps G w' v' (l ++ [q.1]) ∧ Below G w w' := by
  have hb := (Below.refl w.heap.size w).alloc (Nat.le_refl _) (.cells cs 101)
  have hlt := (h.grow hG hb).lt
  have hs := hb.size
  obtain ⟨qs, h1, h2, h3⟩ := h.grow hG hb
  refine ⟨flatO qs, h2, by omega, fun j u hu => cells_new w cs _ j u (by rw [hcs]; exact hu), fun w' v' ho hg => ?_⟩
  have hbg : Below G (w.alloc (.cells cs 101)) w' := (Below.refl _ _).grown hg (by omega) (fun k e => (hlt k e).1)
  have hq' : SOok G (w.alloc (.cells cs 101)) q := hq.grow (hb.mono hG)
  refine ⟨ROps.app (rs := [q]) h1 h3 rfl (fun x hx => by rw [List.mem_singleton.1 hx]; exact hq') ?_ hbg, (hb.mono hG).trans hbg⟩
  have e : flatO [q] = cellsO q := by unfold flatO; simp
  rw [e]
  exact ho

theorem ROps.base {G G' : Nat} {w : World} {v : Value} {l : List SO} (h : ROps G w v l) (hg : G' ≤ G) (hs : ∀ x ∈ l, x.bs = []) : ROps G' w v l := by
  obtain ⟨qs, h1, h2, h3⟩ := h
  refine ⟨qs, h1, own_base5 h2 hg, fun q hq => ?_⟩
  have hk := h3 q hq
  have e : q.1.bs = [] := hs q.1 (by rw [← h1]; exact List.mem_map.2 ⟨q, hq, rfl⟩)
  exact ⟨hk.bytes, fun h0 => by rw [e] at h0; exact absurd h0 (Nat.lt_irrefl _), hk.kk, hk.n1, hk.n2⟩

/-- Names in cells. -/
structure Nms (w : World) (a : Option Addr) (n c : Nat) (nms : List (List UInt8)) : Prop where
  len : nms.length = n
  max : n ≤ 1000000
  byte : ∀ x ∈ nms, x.length ≤ 9223372036854775807
  cell : 0 < n → ∃ b o, a = some ⟨b, o, none⟩ ∧ ∀ i (h : i < nms.length), w.cell? ⟨b, o + i, none⟩ = some (.string ⟨nms[i].toArray⟩)

theorem Nms.grow {w w' : World} {a : Option Addr} {n c : Nat} {nms : List (List UInt8)} (h : Nms w a n c nms) (hb : Below w.heap.size w w') : Nms w' a n c nms := by
  refine ⟨h.len, h.max, h.byte, fun hn => ?_⟩
  obtain ⟨b, o, e, hc⟩ := h.cell hn
  exact ⟨b, o, e, fun i hi => cell_keep hb (hc i hi)⟩
end Go.Proofs.YtjoolocdejnohaaGreat

/- The walks of the reference's Clean and Older. -/
namespace Go.Proofs.YtjoolocdejnohaaGreat
open Go.RowKit Go.Maps Go.Shelf

attribute [local go_sem ↓] Go.wp_at_zero Go.wp_at_succ

theorem cleanM_take {nms : List (List UInt8)} {M : DM} {j : Nat} (h : j < nms.length) : cleanM (nms.take (j + 1)) M = cleanM (nms.take j) M ++ (if nms[j] ∈ M.fs.map F.n then [⟨5, nms[j], [], []⟩] else []) := by
  rw [List.take_succ_eq_append_getElem h, cleanM_snoc]

theorem cleanM_bs (nms : List (List UInt8)) (M : DM) : ∀ x ∈ cleanM nms M, x.bs = [] := by
  intro x hx
  unfold cleanM at hx
  obtain ⟨n, _, rfl⟩ := List.mem_map.1 hx
  rfl

theorem found_iff {M : DM} {R : List FR} (hfs : R.map FR.f = M.fs) (n : List UInt8) : findN FR.n n R ≠ none ↔ n ∈ M.fs.map F.n := by
  rw [← hfs, List.map_map]
  constructor
  · intro h
    cases hf : findN FR.n n R with
    | none => exact absurd hf h
    | some y =>
      obtain ⟨h1, h2⟩ := findN_some hf
      exact List.mem_map.2 ⟨y, h1, h2⟩
  · intro h e
    obtain ⟨y, hy, e2⟩ := List.mem_map.1 h
    exact findN_none e y hy e2

set_option maxRecDepth 100000 in
set_option maxHeartbeats 6400000 in
theorem rclean_any {X : Nat → Prop} {w : World} {M : DM} {a : Option Addr} {n c : Nat} {R : List FR} (hR : RowF X w a n c R) (hX : ∀ b, X b → b < w.heap.size) (hfs : R.map FR.f = M.fs) (p : Option Addr) (m k : Nat) (nms : List (List UInt8)) (hN : Nms w p m k nms) :
    Calls Tryz.prog 68 #[refV (M.room : Int) a n c (M.plan : Int) M.down, .slice p m k] w fun e w' => ∃ v, e = .returned v ∧ ROps w.heap.size w' v (cleanM nms M) ∧ Below w.heap.size w w' := by
  have hb1 := (Below.refl w.heap.size w).alloc (Nat.le_refl _) (.cells #[.int .i64 (M.room : Int), .slice a n c, .int .i64 (M.plan : Int), .bool M.down] 25)
  obtain ⟨b0, b1, b2, b3⟩ := box4 w (M.room : Int) a n c (M.plan : Int) M.down
  obtain ⟨i0, hi, hz0, hz1, hz2⟩ := info_parts info_op
  generalize hW1 : w.alloc (.cells #[.int .i64 (M.room : Int), .slice a n c, .int .i64 (M.plan : Int), .bool M.down] 25) = w1 at *
  have hR1 := hR.below hX hb1
  have hX1 : ∀ b, X b → b < w1.heap.size := fun b h => Nat.lt_of_lt_of_le (hX b h) hb1.size
  have HF2 := Lib.hid (fun W (hW : Below w1.heap.size w1 W) nm => rfind_any (hR1.below hX1 hW) (fun b hb => Nat.lt_of_lt_of_le (hX1 b hb) hW.size) nm (M.room : Int) (M.plan : Int) M.down)
  have HKK := Lib.hid (fun W (hW : Below w1.heap.size w1 W) => (show W.cell? ⟨w.heap.size, 0, none⟩ = some (.int .i64 (M.room : Int)) ∧ W.cell? ⟨w.heap.size, 1, none⟩ = some (.slice a n c) ∧ W.cell? ⟨w.heap.size, 2, none⟩ = some (.int .i64 (M.plan : Int)) ∧ W.cell? ⟨w.heap.size, 3, none⟩ = some (.bool M.down) from
    ⟨cell_keep hW b0, cell_keep hW b1, cell_keep hW b2, cell_keep hW b3⟩))
  have HN := Lib.hid (fun W (hW : Below w.heap.size w W) => hN.grow hW)
  have hls := Lib.hid hN.len
  have hmx := Lib.hid hN.max
  have hby := Lib.hid hN.byte
  have Hin := Lib.hid (fun nm => found_iff hfs nm)
  have Hb1 := Lib.hid hb1
  unfold refV
  clear hR hR1 hX hX1 hb1 hN hfs b0 b1 b2 b3
  generalize hpl : (M.plan : Int) = pl at *
  generalize hro : (M.room : Int) = ro at *
  generalize hdn : M.down = dn at *
  clear hpl hro hdn
  go_enter Tryz.func68, Tryz.ntmps68
  go_wp2_with fail
  (try rw [hW1])
  have HW1 := Lib.hid hW1
  clear hW1
  go_loopw [5, 6] (fun v i wr => ∃ j : Nat, j ≤ m ∧ i = .int .i64 (j : Int) ∧ ROps w1.heap.size wr v (cleanM (nms.take j) M) ∧ Below w1.heap.size w1 wr) (fun _ i _ => m - (intOf i).toNat)
  case atStart => exact ⟨0, Nat.zero_le _, rfl, ROps.nil _ _, Below.refl _ _⟩
  case round =>
    obtain ⟨j, hj, rfl, hS, hbr⟩ := hrel
    by_cases hlt : j < m
    · have hjl : j < nms.length := by rw [hls.out]; exact hlt
      have hbw := Hb1.out.trans (hbr.mono Hb1.out.size)
      obtain ⟨b, o, rfl, hc⟩ := (HN.out wr hbw).cell (by omega)
      have hcj := hc j hjl
      have hct := cleanM_take (M := M) hjl
      have hnl := hby.out nms[j] (List.getElem_mem hjl)
      generalize nms[j] = nm at *
      have hbr2 := hbr
      have HF2y := Lib.hid (fun (hmem : nm ∈ M.fs.map F.n) W (hW : Below wr.heap.size wr W) => (HF2.out W (hbr.trans (hW.mono hbr.size)) nm).mono (R' := fun e w' => ∃ z : Int, e = .returned (.int .i64 z) ∧ 0 ≤ z ∧ Below W.heap.size W w') (by
        rintro e w' ⟨hb', ⟨i, hi, rfl, hfi⟩ | ⟨rfl, hno⟩⟩
        · exact ⟨_, rfl, by omega, hb'⟩
        · exact absurd hno ((Hin.out nm).2 hmem)))
      have HF2n := Lib.hid (fun (hmem : nm ∉ M.fs.map F.n) W (hW : Below wr.heap.size wr W) => (HF2.out W (hbr.trans (hW.mono hbr.size)) nm).mono (R' := fun e w' => ∃ z : Int, e = .returned (.int .i64 z) ∧ ¬ (0 ≤ z) ∧ Below W.heap.size W w') (by
        rintro e w' ⟨hb', ⟨i, hi, rfl, hfi⟩ | ⟨rfl, hno⟩⟩
        · exact absurd ((Hin.out nm).1 (by rw [hfi]; simp)) hmem
        · exact ⟨_, rfl, by omega, hb'⟩))
      have HS5 := Lib.hid (fun W (hW : Below wr.heap.size wr W) => by
        obtain ⟨k0, k1, k2, k3⟩ := HKK.out wr hbr
        exact (show W.cell? ⟨w.heap.size, 0, none⟩ = some (.int .i64 ro) ∧ W.cell? ⟨w.heap.size, 1, none⟩ = some (.slice a n c) ∧ W.cell? ⟨w.heap.size, 2, none⟩ = some (.int .i64 pl) ∧ W.cell? ⟨w.heap.size, 3, none⟩ = some (.bool dn) ∧ W.cell? ⟨b, o + j, none⟩ = some (.string ⟨nm.toArray⟩) from ⟨cell_keep hW k0, cell_keep hW k1, cell_keep hW k2, cell_keep hW k3, cell_keep hW hcj⟩))
      have hji : (j : Int) < (m : Int) := by omega
      have hmv := hmx.out
      have Hnl := Lib.hid hnl
      have Hct := Lib.hid hct
      have HS := Lib.hid hS
      have Hbr := Lib.hid hbr
      have Hlt := Lib.hid hlt
      have hcl := cleanM_len (nms.take j) M
      have Hcl := Lib.hid (show (cleanM (nms.take j) M).length ≤ 1000000 by have := hmx.out; rw [List.length_take] at hcl; omega)
      clear hc hct hnl hS hbr hlt hcl hbr2
      by_cases hmem : nm ∈ M.fs.map F.n
      · have HFm := Lib.hid (HF2y.out hmem)
        unfold refV at HFm
        rw [if_pos hmem] at Hct
        clear hmem HF2y HF2n
        go_wp2_with fail
        go_region_held3 (fun w' => w'.cell? ⟨w.heap.size, 0, none⟩ = some (.int .i64 ro) ∧ w'.cell? ⟨w.heap.size, 1, none⟩ = some (.slice a n c) ∧ w'.cell? ⟨w.heap.size, 2, none⟩ = some (.int .i64 pl) ∧ w'.cell? ⟨w.heap.size, 3, none⟩ = some (.bool dn) ∧ w'.cell? ⟨b, o + j, none⟩ = some (.string ⟨nm.toArray⟩))
          (first | exact HS5.out _ hb5w | exact HS5.out _ (Below.drew (Below.refl _ _)))
          (first
            | (go_at_call 108; (with_reducible refine (HFm.out _ (Below.drew (Below.refl _ _))).mono ?_); rintro e w5 ⟨z, rfl, hz, hb5⟩; have hb5w : Below wr.heap.size wr w5 := (Below.drew (Below.refl _ _)).trans hb5))
        have Hb5 := Lib.hid hb5w
        have k4 := (HS5.out _ hb5w).2.2.2.2
        clear hb5 hb5w
        obtain ⟨xs, hown, hG, hnew, hclose⟩ := op_appends (HS.out.grow Hbr.out.size Hb5.out) (Nat.le_trans Hbr.out.size Hb5.out.size) (⟨5, nm, [], []⟩, (none, 0)) (sook_nil (by decide) Hnl.out (by decide)) #[.int .i64 5, .string ⟨nm.toArray⟩, .string ⟨#[]⟩, .slice none 0 0] rfl
        have Hown := Lib.hid hown
        have Hclose := Lib.hid hclose
        have Hnew := Lib.hid hnew
        clear hown hclose hnew
        go_wp2_with (at_builtin; go_loud (refine wpList_append_own_at _ rfl _ _ 102 rfl w1.heap.size 101 i0 _ 4 64 Tryz.underlying102 hi hz0 hz1 hz2 rfl (by decide) _ _ _ rfl Hown.out ⟨_, 0, none⟩ 1 1 (cellsO (⟨5, nm, [], []⟩, (none, 0))) rfl rfl Hnew.out (cellsO_one _) (by rw [maxLen_nat]; have := Hcl.out; omega) (by have := Hcl.out; omega) hG ?_; intro v' w6 hown' hgrow _ hblk))
        go_roundw
        case rel =>
          obtain ⟨q1, q2⟩ := Hclose.out _ _ hown' hgrow
          exact ⟨j + 1, Hlt.out, by go_num, by rw [Hct.out]; exact q1, Hbr.out.trans ((Hb5.out.mono Hbr.out.size).trans q2)⟩
        case measure => simp [intOf]; have := Hlt.out; omega
      · have HFm := Lib.hid (HF2n.out hmem)
        unfold refV at HFm
        rw [if_neg hmem, List.append_nil] at Hct
        clear hmem HF2y HF2n
        go_wp2_with fail
        go_region_held3 (fun w' => w'.cell? ⟨w.heap.size, 0, none⟩ = some (.int .i64 ro) ∧ w'.cell? ⟨w.heap.size, 1, none⟩ = some (.slice a n c) ∧ w'.cell? ⟨w.heap.size, 2, none⟩ = some (.int .i64 pl) ∧ w'.cell? ⟨w.heap.size, 3, none⟩ = some (.bool dn) ∧ w'.cell? ⟨b, o + j, none⟩ = some (.string ⟨nm.toArray⟩))
          (first | exact HS5.out _ hb5w | exact HS5.out _ (Below.drew (Below.refl _ _)))
          (first
            | (go_at_call 108; (with_reducible refine (HFm.out _ (Below.drew (Below.refl _ _))).mono ?_); rintro e w5 ⟨z, rfl, hz, hb5⟩; have hb5w : Below wr.heap.size wr w5 := (Below.drew (Below.refl _ _)).trans hb5))
        have Hb5 := Lib.hid hb5w
        clear hb5 hb5w
        go_wp2
        go_roundw
        case rel => exact ⟨j + 1, Hlt.out, by go_num, by rw [Hct.out]; exact HS.out.grow Hbr.out.size Hb5.out, Hbr.out.trans (Hb5.out.mono Hbr.out.size)⟩
        case measure => simp [intOf]; have := Hlt.out; omega
    · obtain rfl : j = m := by omega
      have hji : ¬ (j : Int) < (j : Int) := by omega
      have HS := Lib.hid (show ROps w.heap.size wr _ (cleanM nms M) from by rw [List.take_of_length_le (Nat.le_of_eq hls.out)] at hS; exact hS.base Hb1.out.size (cleanM_bs nms M))
      have Hb := Lib.hid (Hb1.out.trans (hbr.mono Hb1.out.size))
      clear hS hbr
      go_wp2
      go_ret
      exact ⟨_, rfl, HS.out, Hb.out⟩
end Go.Proofs.YtjoolocdejnohaaGreat

/- The walk of the reference's Older. -/
namespace Go.Proofs.YtjoolocdejnohaaGreat
open Go.RowKit Go.Maps Go.Shelf

attribute [local go_sem ↓] Go.wp_at_zero Go.wp_at_succ

def olderL (l : List Int) (first : Int) : List (List UInt8) := (l.filter fun x => decide (x < first)).map fun x => nmB x.toNat

theorem olderL_take {l : List Int} {first : Int} {j : Nat} (h : j < l.length) : olderL (l.take (j + 1)) first = olderL (l.take j) first ++ (if l[j] < first then [nmB l[j].toNat] else []) := by
  rw [List.take_succ_eq_append_getElem h]
  unfold olderL
  rw [List.filter_append, List.map_append]
  congr 1
  by_cases hx : l[j] < first
  · rw [if_pos hx, List.filter_cons_of_pos (by simpa using hx)]; rfl
  · rw [if_neg hx, List.filter_cons_of_neg (by simpa using hx)]; rfl

theorem olderL_len (l : List Int) (first : Int) : (olderL l first).length ≤ l.length := by
  unfold olderL
  rw [List.length_map]
  exact List.length_filter_le _ _

theorem info_strO : (Tryz.prog.info? 9).map (fun i => (i.zero, i.size, i.bytes)) = some (some (.string ⟨#[]⟩), 1, 16) := by kernel_rfl

theorem nms_row {w : World} {base : Nat} {e : TypeId} {v : Value} {m : Nat} {ns : List (List UInt8)} (h : w.ownsRow base e 1 v m (ns.map encStr)) (hm : ∀ n ∈ ns, n.length ≤ 9223372036854775807) (hx : m ≤ 1000000) : ∃ p c, v = .slice p m c ∧ Nms w p m c ns := by
  have hlen : ns.length = m := by have := h.1; simpa using this
  rcases h.2 with ⟨rfl, rfl⟩ | ⟨g, cap, cur, rfl, hbg, hg, hle, hcm, hsz, htake⟩
  · exact ⟨none, 0, rfl, hlen, hx, hm, fun h => absurd h (Nat.lt_irrefl _)⟩
  · refine ⟨_, cap, rfl, hlen, hx, hm, fun _ => ⟨g, 0, rfl, fun i hi => ?_⟩⟩
    rw [cell_of_row w g (0 + i) cur _ (0, 0) hg, Nat.zero_add]
    have h1 : cur[i]? = (ns.map encStr)[i]? := by
      rw [← htake, List.getElem?_take, if_pos (by omega), Array.getElem?_toList]
    rw [h1, List.getElem?_map, List.getElem?_eq_getElem hi]
    rfl

set_option maxRecDepth 100000 in
set_option maxHeartbeats 6400000 in
theorem rolder_any (p : Option Addr) (m k : Nat) (l : List Int) (first : Int) (w : World) (hI : Ints w p m k l) (hm : m ≤ 1000000) (hl : ∀ x ∈ l, 1 ≤ x ∧ x ≤ 99999999) :
    Calls Tryz.prog 70 #[.slice p m k, .int .i64 first] w fun e w' => ∃ a c, e = .returned (.slice a (olderL l first).length c) ∧ Nms w' a (olderL l first).length c (olderL l first) ∧ Below w.heap.size w w' := by
  obtain ⟨i0, hi, hz0, hz1, hz2⟩ := info_parts info_strO
  have HI := Lib.hid (fun W (hW : Below w.heap.size w W) => hI.grow hW)
  have HNm := Lib.hid (fun N h1 h2 W => rsegname_yes N W h1 h2)
  have hls := Lib.hid hI.len
  have Hl := Lib.hid hl
  clear hI hl
  go_enter Tryz.func70, Tryz.ntmps70
  go_wp2_with fail
  go_loopw [5, 6] (fun v i wr => ∃ j : Nat, j ≤ m ∧ i = .int .i64 (j : Int) ∧ wr.ownsRow w.heap.size 9 1 v (olderL (l.take j) first).length ((olderL (l.take j) first).map encStr) ∧ Below w.heap.size w wr) (fun _ i _ => m - (intOf i).toNat)
  case atStart => exact ⟨0, Nat.zero_le _, rfl, World.ownsRow_nil _ _ _ _, Below.refl _ _⟩
  case round =>
    obtain ⟨j, hj, rfl, hS, hbr⟩ := hrel
    by_cases hlt : j < m
    · have hjl : j < l.length := by rw [hls.out]; exact hlt
      obtain ⟨b, o, rfl, hc⟩ := (HI.out wr hbr).cell (by omega)
      have hcj := hc j hlt
      have hgj : l.getD j 0 = l[j] := by rw [List.getD_eq_getElem?_getD, List.getElem?_eq_getElem hjl]; rfl
      rw [hgj] at hcj
      have hot := olderL_take (first := first) hjl
      obtain ⟨p1, p2⟩ := Hl.out l[j] (List.getElem_mem hjl)
      clear hgj
      generalize l[j] = y at *
      obtain ⟨N, rfl⟩ : ∃ N : Nat, y = (N : Int) := ⟨y.toNat, by omega⟩
      rw [Int.toNat_natCast] at hot
      have hol := olderL_len (l.take j) first
      have hli : (olderL (l.take j) first).length ≤ 1000000 := by rw [List.length_take] at hol; omega
      have Hol := Lib.hid hli
      have hji : (j : Int) < (m : Int) := by omega
      have Hlt := Lib.hid hlt
      have Hot := Lib.hid hot
      have HS := Lib.hid hS
      have Hbr := Lib.hid hbr
      have hsz := hbr.size
      clear hc hot hS hbr hlt hol hli
      by_cases hy : (N : Int) < first
      · have Hot2 := Lib.hid (Hot.out.trans (by rw [if_pos hy]))
        go_wp2_with fail
        refine (HNm.out N (by omega) (by omega) _).mono ?_
        rintro e w4 ⟨rfl, rfl⟩
        go_wp2_with (at_builtin; refine wpList_append_own_at _ rfl _ _ 78 rfl w.heap.size 9 i0 _ 1 16 Tryz.underlying78 hi hz0 hz1 hz2 rfl (by decide) _ _ _ rfl (own_below HS.out ((Below.refl _ _).alloc (Nat.le_refl _) _)) ⟨_, 0, none⟩ 1 1 [.string (str (nameL N))] rfl rfl (cell_one_new _ _ _) (by simp [Value.oneCell']) (by rw [maxLen_nat]; have := Hol.out; omega) (by have := Hol.out; omega) (by rw [World.size_alloc]; omega) ?_; intro v' w6 hown' hgrow _ hblk)
        refine ⟨⟨j + 1, Hlt.out, by go_num, ?_, (Hbr.out.alloc hsz _).grown hgrow (by rw [World.size_alloc]; omega) (fun k e => own_ge5 HS.out k e)⟩, by simp [intOf]; have := Hlt.out; omega⟩
        rw [Hot2.out, List.length_append, List.map_append]
        exact hown'
      · have Hot2 := Lib.hid (Hot.out.trans (by rw [if_neg hy, List.append_nil]))
        go_wp2
        go_roundw
        case rel => exact ⟨j + 1, Hlt.out, by go_num, by rw [Hot2.out]; exact HS.out, Hbr.out⟩
        case measure => simp [intOf]; have := Hlt.out; omega
    · obtain rfl : j = m := by omega
      have hji : ¬ (j : Int) < (j : Int) := by omega
      rw [List.take_of_length_le (Nat.le_of_eq hls.out)] at hS
      have hol := olderL_len l first
      have hq := hls.out
      obtain ⟨a, c, rfl, hN⟩ := nms_row hS (fun n hn => by
        unfold olderL at hn
        obtain ⟨x, _, rfl⟩ := List.mem_map.1 hn
        rw [nmB_length]; decide) (by omega)
      have HN := Lib.hid hN
      have Hb := Lib.hid hbr
      clear hS hbr hN hol hq
      go_wp2
      go_ret
      exact ⟨_, _, rfl, HN.out, Hb.out⟩
end Go.Proofs.YtjoolocdejnohaaGreat

/- The walk of the reference's Open. -/
namespace Go.Proofs.YtjoolocdejnohaaGreat
open Go.RowKit Go.Maps Go.Shelf

attribute [local go_sem ↓] Go.wp_at_zero Go.wp_at_succ

/-- What the reference's Open answers. -/
def ROEnd (X : Nat → Prop) (w : World) (most : Int) (r : OR) (e : Ending) (w' : World) : Prop :=
  ∃ a n c R, RowF (fun b => (X b ∨ w.heap.size ≤ b) ∧ b < w'.heap.size) w' a n c R ∧ R.map FR.f = r.M.fs ∧ Below w.heap.size w w' ∧
    ((r.z ≠ 0 ∧ ∃ mo N S, e = .returned (.tuple #[logV (r.M.room : Int) a n c (r.M.plan : Int) r.M.down mo N S 0, .slice none 0 0, .int .i64 r.z])) ∨
     (r.z = 0 ∧ ∃ va vc, e = .returned (.tuple #[logV (r.M.room : Int) a n c (r.M.plan : Int) r.M.down most (r.N : Int) (r.size : Int) 0, .slice va r.recs.length vc, .int .i64 0]) ∧ Parts w' va r.recs.length vc r.recs))

theorem results_ctt {fn : Func} {p u t : Tmp} {ty : TypeId} (h : fn.results = #[.cell p ty, .tmp u, .tmp t]) (tmps : Array Value) (P : Program) (w : World) :
    (results fn tmps).run P w = ((asAddr (tmps.getD p undef)).run P w).andThen fun a w₁ => ((loadVar ty a).run P w₁).andThen fun v w₂ => .ok (.tuple #[v, tmps.getD u undef, tmps.getD t undef]) w₂ := by
  simp only [results, h]
  simp [Sem.run_bind, Result.andThen]

/-- The result's box is filled. -/
theorem fill8 {n : Nat} {w0 w : World} {B : Nat} (h : Below n w0 w) (hn : n ≤ B) (v0 v1 v2 v3 v4 v5 v6 v7 : Value) : Below n w0 ((((((((w.setCell ⟨B, 0, none⟩ v0).setCell ⟨B, 1, none⟩ v1).setCell ⟨B, 2, none⟩ v2).setCell ⟨B, 3, none⟩ v3).setCell ⟨B, 4, none⟩ v4).setCell ⟨B, 5, none⟩ v5).setCell ⟨B, 6, none⟩ v6).setCell ⟨B, 7, none⟩ v7) :=
  (((((((h.setCell hn _).setCell hn _).setCell hn _).setCell hn _).setCell hn _).setCell hn _).setCell hn _).setCell hn _

theorem row_fill {Z Z' : Nat → Prop} {w : World} {B : Nat} {a : Option Addr} {n c : Nat} {R : List FR} (h : RowF Z w a n c R) (hne : ∀ b, Z b → b ≠ B) (hz : ∀ b, Z b → Z' b) (v0 v1 v2 v3 v4 v5 v6 v7 : Value) :
    RowF Z' ((((((((w.setCell ⟨B, 0, none⟩ v0).setCell ⟨B, 1, none⟩ v1).setCell ⟨B, 2, none⟩ v2).setCell ⟨B, 3, none⟩ v3).setCell ⟨B, 4, none⟩ v4).setCell ⟨B, 5, none⟩ v5).setCell ⟨B, 6, none⟩ v6).setCell ⟨B, 7, none⟩ v7) a n c R :=
  h.mono (fun b hb => by
    have := hne b hb
    repeat rw [Below.heap_setCell _ _ _ _ this]) hz

theorem rowF_end {X : Nat → Prop} {w W : World} {a : Option Addr} {n c : Nat} {R : List FR} (h : RowF X W a n c R) (hX : ∀ b, X b → b < w.heap.size) (hb : Below w.heap.size w W) : RowF (fun b => (X b ∨ w.heap.size ≤ b) ∧ b < W.heap.size) W a n c R :=
  h.mono (fun _ _ => rfl) (fun b hx => ⟨.inl hx, Nat.lt_of_lt_of_le (hX b hx) hb.size⟩)

/-- The disk's box and the result's, at the call's start. -/
def startO (w : World) (ro : Int) (a : Option Addr) (n c : Nat) (pl : Int) (dn : Bool) : World :=
  (w.alloc (.cells #[.int .i64 ro, .slice a n c, .int .i64 pl, .bool dn] 25)).alloc (.cells #[.int .i64 0, .slice none 0 0, .int .i64 0, .bool false, .int .i64 0, .int .i64 0, .int .i64 0, .int .i64 0] 47)

theorem startO_facts (w : World) (ro : Int) (a : Option Addr) (n c : Nat) (pl : Int) (dn : Bool) :
    Below w.heap.size w (startO w ro a n c pl dn) ∧ (startO w ro a n c pl dn).heap.size = w.heap.size + 2 ∧
    (startO w ro a n c pl dn).heap[w.heap.size]? = some (.cells #[.int .i64 ro, .slice a n c, .int .i64 pl, .bool dn] 25 (0, 0)) ∧
    (startO w ro a n c pl dn).heap[w.heap.size + 1]? = some (.cells #[.int .i64 0, .slice none 0 0, .int .i64 0, .bool false, .int .i64 0, .int .i64 0, .int .i64 0, .int .i64 0] 47 (0, 0)) := by
  unfold startO
  refine ⟨((Below.refl _ _).alloc (Nat.le_refl _) _).alloc (by simp) _, by simp, (Below.heap_alloc _ _ _ (by simp)).trans (heap_alloc_new _ _), ?_⟩
  have h := heap_alloc_new (w.alloc (.cells #[.int .i64 ro, .slice a n c, .int .i64 pl, .bool dn] 25)) (.cells #[.int .i64 0, .slice none 0 0, .int .i64 0, .bool false, .int .i64 0, .int .i64 0, .int .i64 0, .int .i64 0] 47)
  rw [World.size_alloc] at h
  exact h

set_option maxRecDepth 100000 in
set_option maxHeartbeats 6400000 in
theorem ropen_broken {X : Nat → Prop} {w : World} {M : DM} {a : Option Addr} {n c : Nat} {R : List FR} (hR : RowF X w a n c R) (hX : ∀ b, X b → b < w.heap.size) (hfs : R.map FR.f = M.fs) (most : Int)
    (hF : ∀ W, Below w.heap.size w W → Calls Tryz.prog 16 #[refV (M.room : Int) a n c (M.plan : Int) M.down] W fun e w' => e = .returned (logRV none 0 0 0 0 none 0 0 0 0 11) ∧ Below W.heap.size W w') :
    Calls Tryz.prog 22 #[refV (M.room : Int) a n c (M.plan : Int) M.down, .int .i64 most] w (ROEnd X w most ⟨11, M, 0, 0, []⟩) := by
  obtain ⟨hb1, hz1, hB0, hB1⟩ := startO_facts w (M.room : Int) a n c (M.plan : Int) M.down
  unfold startO at hb1 hz1 hB0 hB1
  unfold refV at *
  obtain ⟨w1, hw1⟩ : ∃ w1, w1 = (w.alloc (.cells #[.int .i64 (M.room : Int), .slice a n c, .int .i64 (M.plan : Int), .bool M.down] 25)).alloc (.cells #[.int .i64 0, .slice none 0 0, .int .i64 0, .bool false, .int .i64 0, .int .i64 0, .int .i64 0, .int .i64 0] 47) := ⟨_, rfl⟩
  rw [← hw1] at hb1 hz1 hB0 hB1
  have HF := Lib.hid (hF w1 hb1)
  have HR := Lib.hid (fun W (h : Below w.heap.size w W) => hR.below hX h)
  have HX := Lib.hid hX
  have Hfs := Lib.hid hfs
  have Hb1 := Lib.hid hb1
  have HB0 := Lib.hid hB0
  have HB1 := Lib.hid hB1
  clear hF hR hX hfs hb1 hB0 hB1
  go_enter Tryz.func22, Tryz.ntmps22
  go_wp2_with fail
  rw [← hw1]
  refine HF.out.mono ?_
  rintro e w2 ⟨rfl, hb2⟩
  have hB0 := (hb2.block _ (Array.getElem?_eq_some_iff.1 HB0.out).1).trans HB0.out
  have hB1 := (hb2.block _ (Array.getElem?_eq_some_iff.1 HB1.out).1).trans HB1.out
  have hb3 := (Below.refl w2.heap.size w2).alloc (Nat.le_refl _) (.cells #[.slice none 0 0, .int .i64 0, .int .i64 0, .slice none 0 0, .int .i64 0, .int .i64 0, .int .i64 11] 35)
  have hB0 := (hb3.block _ (Array.getElem?_eq_some_iff.1 hB0).1).trans hB0
  have hB1 := (hb3.block _ (Array.getElem?_eq_some_iff.1 hB1).1).trans hB1
  obtain ⟨c0, c1, c2, c3, cf⟩ := box4c hB0
  obtain ⟨q0, q1, q2, q3, q4, q5, q6, q7, qf⟩ := box8 hB1
  unfold logRV
  have k6 : (w2.alloc (.cells #[.slice none 0 0, .int .i64 0, .int .i64 0, .slice none 0 0, .int .i64 0, .int .i64 0, .int .i64 11] 35)).cell? ⟨w2.heap.size, 6, none⟩ = some (.int .i64 11) := by
    rw [cell_of_row _ _ _ _ _ (0, 0) (heap_alloc_new _ _)]; rfl
  have hne1 : ¬ w2.heap.size = w.heap.size + 1 := by have := hb2.size; omega
  have hne2 : ¬ w.heap.size + 1 = w2.heap.size := by have := hb2.size; omega
  go_wp2_with fail
  go_region
  go_wp2
  have hbF := fill8 (B := w.heap.size + 1) (Hb1.out.trans ((hb2.trans (hb3.mono hb2.size)).mono Hb1.out.size)) (Nat.le_succ _) (.int .i64 (M.room : Int)) (.slice a n c) (.int .i64 (M.plan : Int)) (.bool M.down) (.int .i64 0) (.int .i64 0) (.int .i64 0) (.int .i64 0)
  refine bodyPost_ret (v := .tuple #[logV (M.room : Int) a n c (M.plan : Int) M.down 0 0 0 0, .slice none 0 0, .int .i64 11]) ?_ rfl ⟨a, n, c, R, rowF_end (HR.out _ hbF.drew) HX.out hbF.drew, Hfs.out, hbF.drew, .inl ⟨(by show (11 : Int) ≠ 0; decide), 0, 0, 0, rfl⟩⟩
  rw [results_ctt rfl]
  go_simp
  rfl

theorem box_p0 {w5 w6 w7 : World} {o : Obj} {cs : Array Value} (hs6 : ((w5.alloc (.cells cs 25)).alloc o).drew.heap.size ≤ w6.heap.size) (hbx : ∀ k, w5.heap.size ≤ k → k < ((w5.alloc (.cells cs 25)).alloc o).drew.heap.size → w6.heap[k]? = ((w5.alloc (.cells cs 25)).alloc o).drew.heap[k]?) (hb7 : Below w6.heap.size w6 w7) :
    w7.heap[w5.heap.size]? = some (.cells cs 25 (0, 0)) := by
  have h1 : ((w5.alloc (.cells cs 25)).alloc o).heap.size ≤ w6.heap.size := hs6
  have h2 : ((w5.alloc (.cells cs 25)).alloc o).drew.heap.size = w5.heap.size + 2 := by show ((w5.alloc (.cells cs 25)).alloc o).heap.size = _; simp
  simp only [World.size_alloc] at h1
  refine (hb7.block _ (by omega)).trans ((hbx _ (Nat.le_refl _) (by omega)).trans ?_)
  exact (Below.heap_alloc (w5.alloc (.cells cs 25)) o w5.heap.size (by rw [World.size_alloc]; omega)).trans (heap_alloc_new w5 _)

theorem box_p1 {w5 w6 w7 : World} {o : Obj} {cs : Array Value} (hs6 : ((w5.alloc o).alloc (.cells cs 25)).drew.heap.size ≤ w6.heap.size) (hbx : ∀ k, w5.heap.size ≤ k → k < ((w5.alloc o).alloc (.cells cs 25)).drew.heap.size → w6.heap[k]? = ((w5.alloc o).alloc (.cells cs 25)).drew.heap[k]?) (hb7 : Below w6.heap.size w6 w7) :
    w7.heap[w5.heap.size + 1]? = some (.cells cs 25 (0, 0)) := by
  have h1 : ((w5.alloc o).alloc (.cells cs 25)).heap.size ≤ w6.heap.size := hs6
  have h2 : ((w5.alloc o).alloc (.cells cs 25)).drew.heap.size = w5.heap.size + 2 := by show ((w5.alloc o).alloc (.cells cs 25)).heap.size = _; simp
  simp only [World.size_alloc] at h1
  refine (hb7.block _ (by omega)).trans ((hbx _ (by omega) (by omega)).trans ?_)
  have h := heap_alloc_new (w5.alloc o) (.cells cs 25)
  rw [World.size_alloc] at h
  exact h

theorem p1_size {w5 w6 : World} {o o' : Obj} (hs6 : ((w5.alloc o).alloc o').drew.heap.size ≤ w6.heap.size) : w5.heap.size + 2 ≤ w6.heap.size := by
  have h1 : ((w5.alloc o).alloc o').heap.size ≤ w6.heap.size := hs6
  simp only [World.size_alloc] at h1
  omega

theorem names_two (w : World) : Nms (w.alloc (.cells #[.string ⟨#[99, 117, 116]⟩, .string ⟨#[110, 101, 119]⟩] 9)) (some ⟨w.heap.size, 0, none⟩) 2 2 [cutB, newB] := by
  refine ⟨rfl, by decide, by decide, fun _ => ⟨w.heap.size, 0, rfl, fun i hi => ?_⟩⟩
  rw [cell_of_row _ _ _ _ _ (0, 0) (heap_alloc_new _ _)]
  match i, hi with
  | 0, _ => rfl
  | 1, _ => rfl

set_option maxRecDepth 100000 in
set_option maxHeartbeats 6400000 in
theorem ropen_none {X : Nat → Prop} {w : World} {M : DM} {a : Option Addr} {n c : Nat} {R : List FR} (hR : RowF X w a n c R) (hX : ∀ b, X b → b < w.heap.size) (hfs : R.map FR.f = M.fs) (hn : n ≤ 1000000) {U : Nat} (hnt : Neat M 900 U) (hU : U ≤ 9000) (most : Int)
    (hF : ∀ W, Below w.heap.size w W → Calls Tryz.prog 16 #[refV (M.room : Int) a n c (M.plan : Int) M.down] W fun e w' => e = .returned (logRV none 0 0 0 0 none 0 0 0 0 0) ∧ Below W.heap.size W w') :
    Calls Tryz.prog 22 #[refV (M.room : Int) a n c (M.plan : Int) M.down, .int .i64 most] w (ROEnd X w most ⟨(stepsM (repNone M) M).2, (stepsM (repNone M) M).1, 1, 0, []⟩) := by
  obtain ⟨hb1, hz1, hB0, hB1⟩ := startO_facts w (M.room : Int) a n c (M.plan : Int) M.down
  unfold startO at hb1 hz1 hB0 hB1
  have HCl := Lib.hid (fun W (h : Below w.heap.size w W) p m k nms hN => rclean_any (hR.below hX h) (fun b hb => Nat.lt_of_lt_of_le (hX b hb) h.size) hfs p m k nms hN)
  have HSt := Lib.hid (fun W (h : Below w.heap.size w W) p n' c' l hl hN' hT hub => rsteps_any (X := X) (w := W) (v := refV (M.room : Int) a n c (M.plan : Int) M.down) (M := M) ⟨a, n, c, R, rfl, hR.below hX h, hfs, hn⟩ (fun b hb => Nat.lt_of_lt_of_le (hX b hb) h.size) p n' c' l hl hnt (T := 9000) hN' hT hub)
  obtain ⟨i0, hi, hz0, hz1', hz2⟩ := info_parts info_op
  unfold refV at *
  obtain ⟨w1, hw1⟩ : ∃ w1, w1 = (w.alloc (.cells #[.int .i64 (M.room : Int), .slice a n c, .int .i64 (M.plan : Int), .bool M.down] 25)).alloc (.cells #[.int .i64 0, .slice none 0 0, .int .i64 0, .bool false, .int .i64 0, .int .i64 0, .int .i64 0, .int .i64 0] 47) := ⟨_, rfl⟩
  rw [← hw1] at hb1 hz1 hB0 hB1
  have HF := Lib.hid (hF w1 hb1)
  have HX := Lib.hid hX
  have Hb1 := Lib.hid hb1
  have HB0 := Lib.hid hB0
  have HB1 := Lib.hid hB1
  clear hF hR hX hfs hb1 hB0 hB1 hn hnt
  go_enter Tryz.func22, Tryz.ntmps22
  go_wp2_with fail
  rw [← hw1]
  refine HF.out.mono ?_
  rintro e w2 ⟨rfl, hb2⟩
  unfold logRV
  have hb23 := (Below.refl w2.heap.size w2).alloc (Nat.le_refl _) (.cells #[.slice none 0 0, .int .i64 0, .int .i64 0, .slice none 0 0, .int .i64 0, .int .i64 0, .int .i64 0] 35)
  have hBL := heap_alloc_new w2 (.cells #[.slice none 0 0, .int .i64 0, .int .i64 0, .slice none 0 0, .int .i64 0, .int .i64 0, .int .i64 0] 35)
  have hb13 := hb2.trans (hb23.mono hb2.size)
  have hB0 := (hb13.block _ (Array.getElem?_eq_some_iff.1 HB0.out).1).trans HB0.out
  obtain ⟨g0, g1, g2, g3, g4, g5, g6, gf⟩ := box7 hBL
  obtain ⟨c0, c1, c2, c3, cf⟩ := box4c hB0
  go_wp2_with fail
  have hb4 := (hb13.mono (Nat.le_refl _)).alloc hb13.size (.cells #[.string ⟨#[99, 117, 116]⟩, .string ⟨#[110, 101, 119]⟩] 9)
  have hN2 := names_two (w2.alloc (.cells #[.slice none 0 0, .int .i64 0, .int .i64 0, .slice none 0 0, .int .i64 0, .int .i64 0, .int .i64 0] 35))
  rw [World.size_alloc] at hN2
  refine (HCl.out _ (Hb1.out.trans (hb4.mono Hb1.out.size)) _ 2 2 _ hN2).mono ?_
  rintro e w5 ⟨v5, rfl, hops, hb5⟩
  have hb15 := hb4.trans (hb5.mono hb4.size)
  have hB0 := (hb15.block _ (Array.getElem?_eq_some_iff.1 HB0.out).1).trans HB0.out
  have hB1 := (hb15.block _ (Array.getElem?_eq_some_iff.1 HB1.out).1).trans HB1.out
  have hqL := (Below.refl (w2.alloc (.cells #[.slice none 0 0, .int .i64 0, .int .i64 0, .slice none 0 0, .int .i64 0, .int .i64 0, .int .i64 0] 35)).heap.size (w2.alloc (.cells #[.slice none 0 0, .int .i64 0, .int .i64 0, .slice none 0 0, .int .i64 0, .int .i64 0, .int .i64 0] 35))).alloc (Nat.le_refl _) (.cells #[.string ⟨#[99, 117, 116]⟩, .string ⟨#[110, 101, 119]⟩] 9)
  have hBL5 := ((hqL.trans (hb5.mono hqL.size)).block w2.heap.size (by rw [World.size_alloc]; omega)).trans hBL
  obtain ⟨w4, hw4⟩ : ∃ w4, w4 = (w2.alloc (.cells #[.slice none 0 0, .int .i64 0, .int .i64 0, .slice none 0 0, .int .i64 0, .int .i64 0, .int .i64 0] 35)).alloc (.cells #[.string ⟨#[99, 117, 116]⟩, .string ⟨#[110, 101, 119]⟩] 9) := ⟨_, rfl⟩
  have hz4 : w4.heap.size = w2.heap.size + 2 := by rw [hw4]; simp
  rw [← hw4] at hops hb5 hb4
  have hs12 := hb2.size
  have HB05 := Lib.hid hB0
  have HB15 := Lib.hid hB1
  have Hb4 := Lib.hid hb4
  have Hb5 := Lib.hid hb5
  have hs5 := hb5.size
  obtain ⟨qs, hq1, hq2, hq3⟩ := hops
  have Hown := Lib.hid hq2
  have hcl := cleanM_len [cutB, newB] M
  simp only [List.length_cons, List.length_nil] at hcl
  have hs04 : w.heap.size ≤ w4.heap.size := by have := Hb1.out.size; omega
  have Hrl := Lib.hid (show (cleanM [cutB, newB] M).length + 1 = (repNone M).length from by unfold repNone; rw [List.length_append]; rfl)
  have Hrb := Lib.hid (show ∀ x ∈ repNone M, x.bs.length ≤ 9000 from fun x hx => by
    unfold repNone at hx
    rcases List.mem_append.1 hx with h | h
    · rw [cleanM_bs _ M x h]; exact Nat.zero_le _
    · rw [List.mem_singleton.1 h]; exact Nat.zero_le _)
  have HX4 := Lib.hid (fun b (hb : X b) => Nat.lt_of_lt_of_le (HX.out b hb) hs04)
  have HB14 := Lib.hid ((Hb4.out.block _ (Array.getElem?_eq_some_iff.1 HB1.out).1).trans HB1.out)
  have HA := Lib.hid (fun W (hW : Below w4.heap.size w5 W) (hcell : W.ownsRow w4.heap.size 101 4 v5 (cleanM [cutB, newB] M).length (flatO qs)) w' v' (ho : w'.ownsRow w4.heap.size 101 4 v' ((cleanM [cutB, newB] M).length + 1) (flatO qs ++ cellsO (⟨1, nmB 1, [], []⟩, (none, 0)))) (hg : W.grownBy w' v5.ownBlock) => (show ROps w4.heap.size w' v' (repNone M) ∧ Below w4.heap.size w5 w' from by
    have hbg : Below w4.heap.size W w' := (Below.refl _ _).grown hg (Nat.le_trans hs5 hW.size) (fun k e => own_ge5 hcell k e)
    refine ⟨ROps.app (w := w5) (rs := [(⟨1, nmB 1, [], []⟩, (none, 0))]) hq1 hq3 rfl (fun x hx => by rw [List.mem_singleton.1 hx]; exact sook_nil (by decide) (by rw [nmB_length]; decide) (by decide)) ?_ (hW.trans hbg), hW.trans hbg⟩
    have e : flatO [((⟨1, nmB 1, [], []⟩, (none, 0)) : OQ)] = cellsO (⟨1, nmB 1, [], []⟩, (none, 0)) := by unfold flatO; simp
    rw [e]
    exact ho))
  have hcs1 : (#[.int .i64 1, .string ⟨#[108, 111, 103, 45, 48, 48, 48, 48, 48, 48, 48, 49]⟩, .string ⟨#[]⟩, .slice none 0 0] : Array Value).toList = cellsO (⟨1, nmB 1, [], []⟩, (none, 0)) := by
    unfold cellsO
    simp only [nmB_one']
    rfl
  have HnA := Lib.hid (fun j u (h : (cellsO (⟨1, nmB 1, [], []⟩, (none, 0)))[j]? = some u) => cells_new w5 #[.int .i64 1, .string ⟨#[108, 111, 103, 45, 48, 48, 48, 48, 48, 48, 48, 49]⟩, .string ⟨#[]⟩, .slice none 0 0] 101 j u (by rw [hcs1]; exact h))
  have hnB := fun j u (h : (cellsO (⟨1, nmB 1, [], []⟩, (none, 0)))[j]? = some u) => cells_new (w5.alloc (.cells #[.int .i64 0, .slice none 0 0, .int .i64 0, .bool false] 25)) #[.int .i64 1, .string ⟨#[108, 111, 103, 45, 48, 48, 48, 48, 48, 48, 48, 49]⟩, .string ⟨#[]⟩, .slice none 0 0] 101 j u (by rw [hcs1]; exact h)
  rw [World.size_alloc] at hnB
  have HnB := Lib.hid hnB
  clear hcs1
  have HKd := Lib.hid (fun (W : World) (hW : Below w4.heap.size w5 W) => (show W.cell? ⟨w.heap.size, 0, none⟩ = some (.int .i64 (M.room : Int)) ∧ W.cell? ⟨w.heap.size, 1, none⟩ = some (.slice a n c) ∧ W.cell? ⟨w.heap.size, 2, none⟩ = some (.int .i64 (M.plan : Int)) ∧ W.cell? ⟨w.heap.size, 3, none⟩ = some (.bool M.down) from by
    obtain ⟨c0, c1, c2, c3, _⟩ := box4c ((hW.block w.heap.size (by omega)).trans hB0)
    exact ⟨c0, c1, c2, c3⟩))
  obtain ⟨g0, g1, g2, g3, g4, g5, g6, gf⟩ := box7 hBL5
  obtain ⟨c0, c1, c2, c3, cf⟩ := box4c hB0
  clear hb4 hb5 hq1 hq2 hq3 hw4 hnB
  go_upto_region 6 with fail
  generalize hrr : stepsM (repNone M) M = rr at *
  go_cut [9, 10] (fun t4 t5 wx => DoCut X w4 rr t4 t5 wx)
  case first =>
    go_region_held3 (fun w' => w'.cell? ⟨w.heap.size, 0, none⟩ = some (.int .i64 (M.room : Int)) ∧ w'.cell? ⟨w.heap.size, 1, none⟩ = some (.slice a n c) ∧ w'.cell? ⟨w.heap.size, 2, none⟩ = some (.int .i64 (M.plan : Int)) ∧ w'.cell? ⟨w.heap.size, 3, none⟩ = some (.bool M.down))
      (first | exact HKd.out _ (by (repeat (first | assumption | exact Below.refl _ _ | refine Below.drew ?_ | refine Below.alloc ?_ (by (first | exact Nat.le_refl _ | (simp; done) | (simp; omega) | omega)) _ | refine Below.setCell ?_ (by (first | exact Nat.le_refl _ | (show _ ≤ _; omega) | (simp; done) | (simp; omega))) _))))
      (first
        | (refine step_append_lies _ rfl (.tmp 33) (.tmp 35) 102 rfl w4.heap.size 101 i0 _ 4 64 Tryz.underlying102 hi hz0 hz1' hz2 rfl (by decide) v5 (cleanM [cutB, newB] M).length (flatO qs) (by first | rfl | (simp [Act.eval]; done)) (own_belowF Hown.out (by (repeat (first | assumption | exact Below.refl _ _ | refine Below.drew ?_ | refine Below.alloc ?_ (by (first | exact Nat.le_refl _ | (simp; done) | (simp; omega) | omega)) _ | refine Below.setCell ?_ (by (first | exact Nat.le_refl _ | (show _ ≤ _; omega) | (simp; done) | (simp; omega))) _)))) ⟨_, 0, none⟩ 1 1 (cellsO (⟨1, nmB 1, [], []⟩, (none, 0))) (by first | rfl | (simp [Act.eval]; done)) rfl (by first | exact HnA.out | exact HnB.out | exact fun j u h => cell_keep ((Below.refl _ _).alloc (Nat.le_refl _) _) (HnA.out j u h)) (cellsO_one _) (by decide) (by rw [maxLen_nat]; omega) (by omega) (by first | omega | (simp; omega)) _ rfl ?_; intro g cap w6 hown' hgrow hat hlt8; obtain ⟨hrw6, hb56⟩ := HA.out _ (by (repeat (first | assumption | exact Below.refl _ _ | refine Below.drew ?_ | refine Below.alloc ?_ (by (first | exact Nat.le_refl _ | (simp; done) | (simp; omega) | omega)) _ | refine Below.setCell ?_ (by (first | exact Nat.le_refl _ | (show _ ≤ _; omega) | (simp; done) | (simp; omega))) _))) (own_belowF Hown.out (by (repeat (first | assumption | exact Below.refl _ _ | refine Below.drew ?_ | refine Below.alloc ?_ (by (first | exact Nat.le_refl _ | (simp; done) | (simp; omega) | omega)) _ | refine Below.setCell ?_ (by (first | exact Nat.le_refl _ | (show _ ≤ _; omega) | (simp; done) | (simp; omega))) _)))) w6 _ hown' hgrow; have hbx := (fun k (hk : w5.heap.size ≤ k) hk2 => hgrow.block k hk2 (fun e => by have := own_lt5 Hown.out k e.symm; omega)); have hs6 := hgrow.size; clear hown' hgrow hat; have hb46 := Hb5.out.trans hb56; have hb06 := (Hb1.out.trans (Hb4.out.mono Hb1.out.size)).trans (hb46.mono hs04); have hs46 := hb46.size)
        | (go_at_call 54; (with_reducible refine (HSt.out _ (by (repeat (first | assumption | exact Below.refl _ _ | refine Below.drew ?_ | refine Below.alloc ?_ (by (first | exact Nat.le_refl _ | (simp; done) | (simp; omega) | omega)) _ | refine Below.setCell ?_ (by (first | exact Nat.le_refl _ | (show _ ≤ _; omega) | (simp; done) | (simp; omega))) _))) _ _ _ _ (ROps.sos (hrw6.grow hs46 (by (repeat (first | assumption | exact Below.refl _ _ | refine Below.drew ?_ | refine Below.alloc ?_ (by (first | exact Nat.le_refl _ | (simp; done) | (simp; omega) | omega)) _ | refine Below.setCell ?_ (by (first | exact Nat.le_refl _ | (show _ ≤ _; omega) | (simp; done) | (simp; omega))) _)))) (by omega) Hrl.out) (by omega) Hrb.out (by omega)).mono ?_); rintro e w7 ⟨a7, n7, c7, R7, rfl, hR7, hf7, hb7⟩; unfold refV; have hb47 : Below w4.heap.size w4 w7 := Below.trans (by (repeat (first | assumption | exact Below.refl _ _ | refine Below.drew ?_ | refine Below.alloc ?_ (by (first | exact Nat.le_refl _ | (simp; done) | (simp; omega) | omega)) _ | refine Below.setCell ?_ (by (first | exact Nat.le_refl _ | (show _ ≤ _; omega) | (simp; done) | (simp; omega))) _))) (hb7.mono (by (first | exact Nat.le_refl _ | (simp; done) | (simp; omega) | omega))); have hb57 : Below w4.heap.size w5 w7 := Below.trans (by (repeat (first | assumption | exact Below.refl _ _ | refine Below.drew ?_ | refine Below.alloc ?_ (by (first | exact Nat.le_refl _ | (simp; done) | (simp; omega) | omega)) _ | refine Below.setCell ?_ (by (first | exact Nat.le_refl _ | (show _ ≤ _; omega) | (simp; done) | (simp; omega))) _))) (hb7.mono (by (first | exact Nat.le_refl _ | (simp; done) | (simp; omega) | omega))); have hb7s := hb7.size; (first | (have hq7 := (hb7.block w6.heap.size (by simp)).trans (heap_alloc_new w6 (.cells #[.int .i64 0, .slice none 0 0, .int .i64 0, .bool false] 25))) | (have hq7 := box_p0 hs6 hbx hb7) | (have hq7 := box_p1 hs6 hbx hb7) | skip); (first | (have hq5 := box4c hq7; obtain ⟨q0, q1, q2, q3, qf⟩ := hq5) | skip)))
    all_goals go_wp2_with fail
    all_goals go_meet
    · exact doCut_new hb47 hs46 hR7 (hrr ▸ hf7)
    · exact doCut_set hb47 (Nat.le_trans hs46 (by rw [World.size_alloc]; omega)) HX4.out hR7 (hrr ▸ hf7) hs46 (by rw [World.size_alloc]; omega) hq7
    · exact doCut_set hb47 hs46 HX4.out hR7 (hrr ▸ hf7) (by omega) (by have h1 := p1_size hs6; omega) hq7
    · exact doCut_set hb47 hs46 HX4.out hR7 (hrr ▸ hf7) hs5 (by have h1 := p1_size hs6; omega) hq7
  case rest =>
    obtain ⟨B, a7, n7, c7, R7, rfl, rfl, hBx, hBle, hR7, hf7, hb7⟩ := hcut
    obtain ⟨x0, x1, x2, x3, xf⟩ := box4c hBx
    obtain ⟨z0, z1, z2, z3, z4, z5, z6, z7, zf⟩ := box8 ((hb7.block _ (by omega)).trans HB14.out)
    have hne1 : ¬ B = w.heap.size + 1 := by omega
    have hne2 : ¬ w.heap.size + 1 = B := by omega
    have HR7 := Lib.hid hR7
    have Hf7 := Lib.hid hf7
    have Hb7 := Lib.hid hb7
    clear hR7 hf7 hb7 hBx
    go_wp2
    have hb0c := (Hb1.out.trans (Hb4.out.mono Hb1.out.size)).trans (Hb7.out.mono hs04)
    have hbF := fill8 (B := w.heap.size + 1) hb0c (Nat.le_succ _) (.int .i64 (rr.1.room : Int)) (.slice a7 n7 c7) (.int .i64 (rr.1.plan : Int)) (.bool rr.1.down) (.int .i64 most) (.int .i64 1) (.int .i64 0) (.int .i64 0)
    have hrF := row_fill (B := w.heap.size + 1) (Z' := fun b => (X b ∨ w.heap.size ≤ b) ∧ b < wc.heap.size) HR7.out (fun b hb => by
      rcases hb.1 with h | h
      · have := HX.out b h; omega
      · omega) (fun b hb => ⟨hb.1.imp id (fun h => Nat.le_trans hs04 h), hb.2.2⟩) (.int .i64 (rr.1.room : Int)) (.slice a7 n7 c7) (.int .i64 (rr.1.plan : Int)) (.bool rr.1.down) (.int .i64 most) (.int .i64 1) (.int .i64 0) (.int .i64 0)
    refine bodyPost_ret (v := .tuple #[logV (rr.1.room : Int) a7 n7 c7 (rr.1.plan : Int) rr.1.down most 1 0 0, .slice none 0 0, .int .i64 rr.2]) ?_ rfl ⟨a7, n7, c7, R7, ?_, Hf7.out, hbF, ?_⟩
    · rw [results_ctt rfl]
      go_simp
      rfl
    · exact hrF.mono (fun _ _ => rfl) (fun b hb => ⟨hb.1, by simp only [World.size_setCell]; exact hb.2⟩)
    · by_cases hz : rr.2 = 0
      · refine .inr ⟨hz, none, 0, by rw [hz]; rfl, ?_⟩
        obtain ⟨a', c', e', hp⟩ := (OwnParts.nil ((((((((wc.setCell ⟨w.heap.size + 1, 0, none⟩ (.int .i64 (rr.1.room : Int))).setCell ⟨w.heap.size + 1, 1, none⟩ (.slice a7 n7 c7)).setCell ⟨w.heap.size + 1, 2, none⟩ (.int .i64 (rr.1.plan : Int))).setCell ⟨w.heap.size + 1, 3, none⟩ (.bool rr.1.down)).setCell ⟨w.heap.size + 1, 4, none⟩ (.int .i64 most)).setCell ⟨w.heap.size + 1, 5, none⟩ (.int .i64 1)).setCell ⟨w.heap.size + 1, 6, none⟩ (.int .i64 0)).setCell ⟨w.heap.size + 1, 7, none⟩ (.int .i64 0)) 0).parts
        cases e'
        exact hp
      · exact .inl ⟨hz, most, 1, 0, rfl⟩
end Go.Proofs.YtjoolocdejnohaaGreat

