import Derived.Test.YtmiepigieajpcaaGreatMB40
import Derived.Test.YtmiepigieajpcaaGreatMB23
import Derived.Deep.QuietTactic
import Derived.BigQuiet
import Derived.Deep.RegionHeld3
import Derived.Test.YtmiepigieajpcaaGreatHScanOpensJ1
import Derived.Test.YtmiepigieajpcaaGreatMB43
import Derived.Test.YtmiepigieajpcaaGreatHScanOpensJ2
import Derived.Test.YtmiepigieajpcaaGreatHScanOpensJ5
import Derived.Test.YtmiepigieajpcaaGreatHScanOpensJ6
import Derived.Test.YtmiepigieajpcaaGreatMB42
import Derived.Test.YtmiepigieajpcaaGreatMB9
import Derived.Test.YtmiepigieajpcaaGreatHScanOpensJ7
import Derived.Test.YtmiepigieajpcaaGreatMB1
import Derived.OpenShut
/- The walk of the statements' opened. -/
namespace Go.Proofs.YtmiepigieajpcaaGreat
open Go.RowKit Go.Maps Go.Shelf

attribute [local go_sem ↓] Go.wp_at_zero Go.wp_at_succ

set_option maxRecDepth 100000 in
theorem opened_no (z : Int) (hz : z ≠ 0) (room : Int) (a : Option Addr) (n c : Nat) (plan : Int) (down : Bool) (most N S W : Int) (w : World) :
    Calls Tryz.prog 23 #[.pointer none, .int .i64 z, logV room a n c plan down most N S W, .int .i64 z] w fun e w' => e = .returned (.bool true) ∧ Below w.heap.size w w' := by
  have h1 : (z != z) = false := by simp
  have h2 : (z != 0) = true := by simp [hz]
  have h3 : (z == 0) = false := by simp [hz]
  have Hb := Lib.hid ((Below.refl w.heap.size w).alloc (Nat.le_refl _) (logO room a n c plan down most N S W))
  clear hz
  unfold logV
  unfold logO at Hb
  go_enter Tryz.func23, Tryz.ntmps23
  go_wp2
  go_quiet (fail)
  go_wp2
  go_ret
  exact ⟨rfl, below_drewN Hb.out _⟩

set_option maxRecDepth 100000 in
theorem opened_yes (g : Nat) (room : Int) (a : Option Addr) (n c : Nat) (plan : Int) (down : Bool) (most N S W : Int) (w : World) (k0 : w.cell? ⟨g, 0, none⟩ = some (.int .i64 N)) (k1 : w.cell? ⟨g, 1, none⟩ = some (.int .i64 S)) (k2 : w.cell? ⟨g, 2, none⟩ = some (.int .i64 0)) :
    Calls Tryz.prog 23 #[.pointer (some ⟨g, 0, none⟩), .int .i64 0, logV room a n c plan down most N S W, .int .i64 0] w fun e w' => e = .returned (.bool true) ∧ Below w.heap.size w w' := by
  have hb := (Below.refl w.heap.size w).alloc (Nat.le_refl _) (logO room a n c plan down most N S W)
  have Hb := Lib.hid hb
  have H0 := Lib.hid (fun m => segment_any (w := (w.alloc (logO room a n c plan down most N S W)).drewN m) (show (w.alloc (logO room a n c plan down most N S W)).cell? _ = _ from cell_keep hb k0))
  have H1 := Lib.hid (fun m => wsize_any (w := (w.alloc (logO room a n c plan down most N S W)).drewN m) (show (w.alloc (logO room a n c plan down most N S W)).cell? _ = _ from cell_keep hb k1))
  have H2 := Lib.hid (fun m => waiting_any (w := (w.alloc (logO room a n c plan down most N S W)).drewN m) (show (w.alloc (logO room a n c plan down most N S W)).cell? _ = _ from cell_keep hb k2))
  have h1 : (N == N) = true := by simp
  have h2 : (S == S) = true := by simp
  clear hb k0 k1 k2
  unfold logV
  unfold logO at Hb H0 H1 H2
  go_enter Tryz.func23, Tryz.ntmps23
  go_wp2_with fail
  go_quiet (first
    | (go_at_call 25; exact Calls.quiet_of_same (H0.out _))
    | (go_at_call 26; exact Calls.quiet_of_same (H1.out _))
    | (go_at_call 45; exact Calls.quiet_of_same (H2.out _)))
  go_wp2
  go_ret
  exact ⟨rfl, below_drewN Hb.out _⟩
end Go.Proofs.YtmiepigieajpcaaGreat

/- The walk of layer 9's same: a disk that the call itself has made, beside the reference's. -/
namespace Go.Proofs.YtmiepigieajpcaaGreat
open Go.RowKit Go.Maps Go.Shelf

theorem read_at {M : DM} {R : List FR} (hRf : R.map FR.f = M.fs) (hs : Sorted M.fs) (hd : M.down = false) (j : Nat) (hj : j < R.length) : readM R[j].f.n M = (R[j].f.b, 0) := by
  have hne : ∀ i (hi : i < R.length), i < j → R[i].f.n ≠ R[j].f.n := by
    intro i hi hij
    rw [← hRf] at hs
    unfold Sorted at hs
    rw [List.pairwise_map] at hs
    exact lt_ne ((List.pairwise_iff_getElem.1 hs) i j hi hj hij)
  have hf := findN_at hj hne rfl
  unfold readM
  rw [if_neg (by rw [hd]; decide), ← hRf, findN_map FR.n F.n FR.f (fun _ => rfl), hf]
  rfl

set_option maxRecDepth 100000 in
set_option maxHeartbeats 12800000 in
theorem ssame_any {w0 w : World} {X Y : Nat → Prop} {d : Nat} {M : DM} (hO : Own w0 X w d M) {a : Option Addr} {n c : Nat} {R : List FR} (hR : RowF Y w a n c R) (hY : ∀ b, Y b → b < w.heap.size) (hRf : R.map FR.f = M.fs) (hs : Sorted M.fs) (hl : M.fs.length < 1000000) (hu : usedF M.fs ≤ 10000000) :
    Calls Tryz.prog 19 #[.pointer (some ⟨d, 0, none⟩), refV (M.room : Int) a n c (M.plan : Int) M.down] w fun e w' => e = .returned (.bool true) ∧ Below w.heap.size w w' := by
  have hb1 := (Below.refl w.heap.size w).alloc (Nat.le_refl _) (.cells #[.int .i64 (M.room : Int), .slice a n c, .int .i64 (M.plan : Int), .bool M.down] 25)
  obtain ⟨b0, b1, b2, b3⟩ := box4 w (M.room : Int) a n c (M.plan : Int) M.down
  have hnl : n = M.fs.length := by rw [← hR.len, ← List.length_map (f := FR.f), hRf]
  have hn1 : n ≤ 1000000 := by omega
  have HE : ∀ (w : World) (a a' : Option Addr) (n c n' c' : Nat) (l : List Nat), Bytes w a n c l → Bytes w a' n' c' l → Calls Tryz.prog 64 #[.slice a n c, .slice a' n' c'] w fun e w' => e = .returned (.bool true) ∧ Below w.heap.size w w' :=
    fun w a a' n c n' c' l h h' => (equal_any a a' n c n' c' l l w h h').mono fun e w' hq => ⟨by rw [hq.1, decide_eq_true rfl], hq.2⟩
  have HE := Lib.hid HE
  generalize hW1 : w.alloc (.cells #[.int .i64 (M.room : Int), .slice a n c, .int .i64 (M.plan : Int), .bool M.down] 25) = w1 at *
  have hO1 := hO.below hb1
  have hR1 := hR.below hY hb1
  have hY1 : ∀ b, Y b → b < w1.heap.size := fun b h => Nat.lt_of_lt_of_le (hY b h) hb1.size
  have HLi := Lib.hid (fun W (hW : Below w1.heap.size w1 W) => own_list (hO1.below hW) hl)
  have hRefAt : ∀ W, Below w1.heap.size w1 W → RefAt Y W (refV (M.room : Int) a n c (M.plan : Int) M.down) M := fun W hW => ⟨a, n, c, R, rfl, hR1.below hY1 hW, hRf, hn1⟩
  have HNm := Lib.hid (fun W (hW : Below w1.heap.size w1 W) => rnames_any (hRefAt W hW) (fun b hb => Nat.lt_of_lt_of_le (hY1 b hb) hW.size))
  have HDn := Lib.hid (fun W (hW : Below w1.heap.size w1 W) => own_down (hO1.below hW))
  have HRd := Lib.hid (fun W (hW : Below w1.heap.size w1 W) nm hn => own_read (hO1.below hW) nm hn (by omega))
  have HK := Lib.hid (fun W (hW : Below w1.heap.size w1 W) => (show W.cell? ⟨w.heap.size, 0, none⟩ = some (.int .i64 (M.room : Int)) ∧ W.cell? ⟨w.heap.size, 1, none⟩ = some (.slice a n c) ∧ W.cell? ⟨w.heap.size, 2, none⟩ = some (.int .i64 (M.plan : Int)) ∧ W.cell? ⟨w.heap.size, 3, none⟩ = some (.bool M.down) from
    ⟨cell_keep hW b0, cell_keep hW b1, cell_keep hW b2, cell_keep hW b3⟩))
  have HR := Lib.hid (fun W (hW : Below w1.heap.size w1 W) => hR1.below hY1 hW)
  have Hb1 := Lib.hid hb1
  have HRa := Lib.hid (fun (h : M.down = false) j hj => read_at hRf hs h j hj)
  have Hlen := Lib.hid hR.len
  have hqd : (M.down != M.down) = false := by cases M.down <;> rfl
  unfold refV at *
  clear hs hR hR1 hO hO1 hY hY1 hRf hRefAt hl hu hb1 hnl
  generalize M.fs.length = nn at *
  generalize M.fs.map F.n = ss at *
  generalize (M.plan : Int) = pl at *
  generalize (M.room : Int) = ro at *
  generalize M.down = dn at *
  have Hn1 := Lib.hid hn1
  clear hn1
  go_enter Tryz.func19, Tryz.ntmps19
  go_wp2_with fail
  (try rw [hW1])
  have HW1 := Lib.hid hW1
  clear hW1
  go_region_held (fun w' => w'.cell? ⟨w.heap.size, 0, none⟩ = some (.int .i64 ro) ∧ w'.cell? ⟨w.heap.size, 1, none⟩ = some (.slice a n c) ∧ w'.cell? ⟨w.heap.size, 2, none⟩ = some (.int .i64 pl) ∧ w'.cell? ⟨w.heap.size, 3, none⟩ = some (.bool dn))
    (first | exact HK.out _ hb4 | exact HK.out _ hb3 | exact HK.out _ hb2 | exact HK.out _ ((Below.refl _ _).drew))
    (first
      | (go_at_call 41; (with_reducible refine (HLi.out _ ((Below.refl _ _).drew)).mono ?_); rintro e w2 ⟨v2, rfl, hown2, hb0⟩; have hb2 : Below w1.heap.size w1 w2 := ((Below.refl _ _).drew).trans hb0; clear hb0; obtain ⟨p2, c2, rfl, hs2⟩ := strsQ_of_own hown2; have HS2 := Lib.hid hs2; clear hs2 hown2)
      | (go_at_call 42; (with_reducible refine (HNm.out _ hb2).mono ?_); rintro e w3 ⟨v3, rfl, hown3, hb0⟩; have hb3 : Below w1.heap.size w1 w3 := hb2.trans (hb0.mono hb2.size); obtain ⟨p3, c3, rfl, hs3⟩ := strsQ_of_own hown3; have HE3 := Lib.hid (sequal_any p2 p3 _ c2 c3 _ w3 (HS2.out.grow hb0) hs3); clear hb0 hown3 hs3)
      | (go_at_call 40; (with_reducible refine HE3.out.mono ?_); rintro e w4 ⟨rfl, hb0⟩; have hb4 : Below w1.heap.size w1 w4 := hb3.trans (hb0.mono hb3.size); clear hb0)
      | (go_at_call 63; (with_reducible refine (HDn.out _ hb4).mono ?_); rintro e w7 ⟨rfl, rfl⟩))
  obtain ⟨q0, q1, q2, q3⟩ := HK.out _ hb4
  have hnm : (n : Int) ≤ 9223372036854775807 := by have := Hn1.out; omega
  have Hb7 := Lib.hid hb4
  clear hb2 hb3 hb4
  go_wp2_with fail
  go_loopw [25] (fun i wr => ∃ j : Nat, j ≤ n ∧ i = .int .i64 (j : Int) ∧ Below w1.heap.size w1 wr) (fun i _ => n - (intOf i).toNat)
  case atStart => exact ⟨0, Nat.zero_le _, rfl, Hb7.out⟩
  case round =>
    obtain ⟨j, hj, rfl, hb⟩ := hrel
    by_cases hlt : j < n
    · have hRw := HR.out _ hb
      obtain ⟨b, o, rfl, _⟩ := hRw.cell (by omega)
      have hjl : j < R.length := by rw [Hlen.out]; exact hlt
      obtain ⟨k0, k1, k2⟩ := hRw.at j hjl
      have hfl := (hRw.files R[j] (List.getElem_mem hjl)).name
      have hfb := (hRw.files R[j] (List.getElem_mem hjl)).bytes
      have hra := fun h => HRa.out h j hjl
      generalize R[j] = y at *
      obtain ⟨⟨nm, bs, du⟩, pa, kk⟩ := y
      simp only at *
      have hal := (Below.refl wr.heap.size wr).alloc (Nat.le_refl _) (.cells #[.string ⟨nm.toArray⟩, .slice pa bs.length kk, .int .i64 (du : Int)] 97)
      have hbal := hb.trans (hal.mono hb.size)
      have hnew := heap_alloc_new wr (.cells #[.string ⟨nm.toArray⟩, .slice pa bs.length kk, .int .i64 (du : Int)] 97)
      have Hd := Lib.hid (HRd.out _ hbal nm hfl)
      have HfB := Lib.hid (hfb.grow hal)
      have Hra := Lib.hid hra
      have Hlt := Lib.hid hlt
      have Hbal := Lib.hid hbal
      have Hnew := Lib.hid hnew
      have k0 : wr.cell? ⟨b, o + j * 3, none⟩ = some (.string ⟨nm.toArray⟩) := k0
      generalize readM nm M = r at *
      clear hRw hjl hfl hal hbal hnew hlt hb hfb hra
      go_wp2_with fail
      refine Hd.out.mono ?_
      rintro e w8 ⟨p8, c8, rfl, hB8, _, hb8, _⟩
      have hb8w := Hbal.out.trans (hb8.mono Hbal.out.size)
      obtain ⟨m0, m1, m2, m3⟩ := HK.out _ hb8w
      have hn8 := (hb8.block _ (by simp)).trans Hnew.out
      have n0 : w8.cell? ⟨wr.heap.size, 0, none⟩ = some (.string ⟨nm.toArray⟩) := by rw [cell_of_row _ _ _ _ _ (0, 0) hn8]; rfl
      have n1 : w8.cell? ⟨wr.heap.size, 1, none⟩ = some (.slice pa bs.length kk) := by rw [cell_of_row _ _ _ _ _ (0, 0) hn8]; rfl
      have HB8 := Lib.hid hB8
      have Hf8 := Lib.hid (HfB.out.grow hb8)
      have Hb8 := Lib.hid hb8w
      clear hb8 hB8 hb8w hn8 Hd
      cases dn with
      | true =>
        go_wp2_with fail
        exact ⟨⟨j + 1, Hlt.out, by go_num, Hb8.out⟩, by simp [intOf]; have := Hlt.out; omega⟩
      | false =>
        obtain ⟨r1, r2⟩ := r
        obtain ⟨h1, h2⟩ := Prod.mk.inj (Hra.out rfl)
        subst h1
        subst h2
        have HEq := Lib.hid (HE.out w8 _ _ _ _ _ _ _ HB8.out Hf8.out)
        simp only at *
        go_wp2_with fail
        refine HEq.out.mono ?_
        rintro e w10 ⟨rfl, hb10⟩
        have Hb10 := Lib.hid (Hb8.out.trans (hb10.mono Hb8.out.size))
        clear hb10
        go_wp2
        go_roundw
        case rel => exact ⟨j + 1, Hlt.out, by go_num, Hb10.out⟩
        case measure => simp [intOf]; have := Hlt.out; omega
    · obtain rfl : j = n := by omega
      have Hb := Lib.hid (Hb1.out.trans (hb.mono Hb1.out.size))
      clear hb
      go_wp2
      go_ret
      exact ⟨rfl, Hb.out⟩
end Go.Proofs.YtmiepigieajpcaaGreat

/- The statement ScanOpens answers true. -/
namespace Go.Proofs.YtmiepigieajpcaaGreat
open Go.RowKit Go.Maps Go.Shelf

attribute [local go_sem ↓] Go.wp_at_zero Go.wp_at_succ

theorem rfind_ok {X : Nat → Prop} {w w' : World} {ps : List PS} {e : Ending} {k : Nat} (hk : FirstAt ps k) (hg : Good (ps.drop k)) (hp : 0 < ps.length) {N : Nat} (hN : (lastP ps hp).n = (N : Int)) (h : RFindEnd X w ps e w') :
    RFindOk X ps (ps[k]'hk.1).n N (joinL (lastP ps hp).ls).length (lastP ps hp).t.length (recsL (ps.drop k)) w e w' := by
  obtain ⟨h, hb⟩ := h
  rcases h with ⟨rfl, _⟩ | ⟨k', hk', ⟨hg', _⟩ | ⟨hg', aa, ac, va, vn, vc, hlt, rfl, hI, hP⟩⟩
  · exact absurd hp (by simp)
  · obtain rfl := firstAt_uniq hk hk'
    exact absurd hg hg'
  · obtain rfl := firstAt_uniq hk hk'
    obtain ⟨a, c, e⟩ := hP.form
    injection e with e1 e2 e3
    subst e2
    refine ⟨aa, ac, va, vc, ?_, hI, hP, hb⟩
    rw [joinL_len]
    unfold lastP at hN ⊢
    rw [hN]

theorem rsopen_any {X : Nat → Prop} {w : World} {M : DM} {a : Option Addr} {n c : Nat} {R : List FR} (hR : RowF X w a n c R) (hX : ∀ b, X b → b < w.heap.size) (hfs : R.map FR.f = M.fs) (hn : n ≤ 1000000) {U : Nat} (hnt : Neat M 900 U) (hU : U ≤ 9000) (hd : M.down = false) (hnm : Named M) (most : Int) (ps : List PS) (hA : AllOf M ps) :
    Calls Tryz.prog 22 #[refV (M.room : Int) a n c (M.plan : Int) M.down, .int .i64 most] w fun e w' => ∃ r, IsOpen M ps r ∧ ROEnd X w most r e w' := by
  have hus := hnt.small.used
  have hfl := hnt.small.files
  have hF := fun W (h : Below w.heap.size w W) => rfind9_any (X := X) (w := W) (v := refV (M.room : Int) a n c (M.plan : Int) M.down) (M := M) ⟨a, n, c, R, rfl, hR.below hX h, hfs, hn⟩ (fun b hb => Nat.lt_of_lt_of_le (hX b hb) h.size) hd (by omega) (by omega) hnm ps hA
  by_cases h0 : ps = []
  · subst h0
    refine (ropen_none hR hX hfs hn hnt hU most (fun W h => (hF W h).mono fun e w' hq => ?_)).mono fun e w' h => ⟨_, .inr ⟨_, _, _, _, .inl ⟨rfl, rfl, rfl, rfl, rfl⟩, rfl⟩, h⟩
    obtain ⟨⟨_, rfl⟩ | ⟨k, ⟨hk, _⟩, _⟩, hb⟩ := hq
    · exact ⟨rfl, hb⟩
    · exact absurd hk (by simp)
  · have hp : 0 < ps.length := List.length_pos_iff.2 h0
    obtain ⟨k, hk⟩ := first_ex ps hp
    by_cases hg : Good (ps.drop k)
    · obtain ⟨hN0, _⟩ := allOf_pos hA (lastP ps hp).n (List.mem_map.2 ⟨_, List.getElem_mem _, rfl⟩)
      obtain ⟨N, hN⟩ : ∃ N : Nat, (lastP ps hp).n = (N : Int) := ⟨(lastP ps hp).n.toNat, by omega⟩
      exact (ropen_good hR hX hfs hn hnt hU hd most ps hA k hp hk.1 N hN (recsL (ps.drop k)) (fun W h => (hF W h).mono fun e w' hq => rfind_ok hk hg hp hN hq)).mono fun e w' h => ⟨_, .inr ⟨_, _, _, _, .inr ⟨k, hp, hk, hg, hN, rfl, rfl, rfl⟩, rfl⟩, h⟩
    · refine (ropen_broken hR hX hfs most (fun W h => (hF W h).mono fun e w' hq => ?_)).mono fun e w' h => ⟨_, .inl ⟨⟨k, hk, hg⟩, rfl⟩, h⟩
      obtain ⟨⟨h1, _⟩ | ⟨k', hk', ⟨_, rfl⟩ | ⟨hg', _⟩⟩, hb⟩ := hq
      · exact absurd h1 h0
      · exact ⟨rfl, hb⟩
      · obtain rfl := firstAt_uniq hk hk'
        exact absurd hg' hg
set_option maxRecDepth 100000 in
set_option maxHeartbeats 12800000 in
theorem scanOpens_any (r0 m0 : Int) (hr1 : -9223372036854775808 ≤ r0) (hr2 : r0 < 9223372036854775808) (p : Option Addr) (n c : Nat) (l : List FI) (x : Nat) (w : World) (hl : FIs w p n c l) (hx : x < 256) :
    Calls Tryz.prog 4 #[.agg #[.int .i64 r0, .int .i64 m0], .slice p n c, .int .u8 (x : Int)] w fun e w' => e = .returned (.bool true) ∧ Below w.heap.size w w' := by
  obtain ⟨w1, hw1⟩ : ∃ w1, w1 = w.alloc (.cells #[.int .i64 r0, .int .i64 m0] 41) := ⟨_, rfl⟩
  have hb1 : Below w.heap.size w w1 := by rw [hw1]; exact (Below.refl _ _).alloc (Nat.le_refl _) _
  have hB1 : w1.heap[w.heap.size]? = some (.cells #[.int .i64 r0, .int .i64 m0] 41 (0, 0)) := by rw [hw1]; exact heap_alloc_new _ _
  have k0 : w1.cell? ⟨w.heap.size, 0, none⟩ = some (.int .i64 r0) := by rw [cell_of_row _ _ _ _ _ (0, 0) hB1]; rfl
  have k1 : w1.cell? ⟨w.heap.size, 1, none⟩ = some (.int .i64 m0) := by rw [cell_of_row _ _ _ _ _ (0, 0) hB1]; rfl
  have HF := Lib.hid (fun W (h : Below w1.heap.size w1 W) => files_any r0 p n c l W hr1 hr2 (hl.grow (hb1.trans (h.mono hb1.size))))
  have Hb1 := Lib.hid hb1
  have Hw1 := Lib.hid hw1
  clear hb1 hw1 hB1 hl hr1 hr2
  go_enter Tryz.func4, Tryz.ntmps4
  go_wp2_with fail
  rw [← Hw1.out]
  go_region
  go_wp2_with fail
  have hbd : Below w1.heap.size w1 w1.drew := (Below.refl _ _).drew
  have Hbw := Lib.hid (Hb1.out.trans (hbd.mono Hb1.out.size))
  have HF1 := Lib.hid (HF.out _ hbd)
  clear hbd HF k0 k1 Hw1
  obtain ⟨wb, hwb⟩ : ∃ wb, wb = w1.drew := ⟨_, rfl⟩
  rw [← hwb] at Hbw HF1
  rw [← hwb]
  clear hwb Hb1
  refine HF1.out.mono ?_
  rintro e w2 ⟨d, a1, n1, c1, R1, hb2, hE⟩
  have Hbs := Lib.hid hb2.size
  have Hb2 := Lib.hid (Hbw.out.trans (hb2.mono Hbw.out.size))
  clear hb2 HF1
  rcases hE with ⟨M, rfl⟩ | ⟨rfl, hY⟩
  · unfold refV
    go_wp2_with fail
    refine (salive_any _).mono ?_
    rintro e w3 ⟨rfl, hb3⟩
    have Hb3 := Lib.hid ((Hb2.out.alloc Hb2.out.size _).trans (hb3.mono (Hb2.out.alloc Hb2.out.size _).size))
    clear hb3
    go_wp2
    go_ret
    exact ⟨rfl, Hb3.out⟩
  · obtain ⟨_, _, hnt, X, hO, hR, hRf⟩ := hY
    have hup := up_files l r0 l.length (Nat.le_refl _)
    generalize filesF l (newM r0) l.length = M at *
    obtain ⟨out, hout⟩ := segs_ex M
    obtain ⟨ps, _, hA⟩ := allOf_ex hout
    have hfl : M.fs.length ≤ 90 := hnt.small.files
    have hus : usedF M.fs ≤ 1500 := hnt.small.used
    have hnm : ∀ f ∈ M.fs, f.n.length ≤ 9223372036854775807 := fun f hf => by
      rw [← hRf] at hf
      obtain ⟨y, hy, rfl⟩ := List.mem_map.1 hf
      exact (hR.files y hy).name
    have hXl : ∀ b, X b → b < w2.heap.size := by obtain ⟨_, _, _, h, _⟩ := hO; exact h
    have hn1 : n1 ≤ 1000000 := by rw [← hR.len, ← List.length_map (f := FR.f), hRf]; omega
    have hA' := (allOf_segs (M := armM (x : Int) M) hup.1).2 ((allOf_segs hup.1).1 hA)
    have hnt' := (neat_arm hnt (x : Int) (by omega)).mono (N' := 900) (U' := 1500) (by omega) (by omega)
    have HOR := Lib.hid (fun W (hR : RowF X W a1 n1 c1 R1) (hX : ∀ b, X b → b < W.heap.size) => (show Calls Tryz.prog 22 #[.agg #[.int .i64 (M.room : Int), .slice a1 n1 c1, .int .i64 (x : Int), .bool M.down], .int .i64 m0] W fun e w' => ∃ r, IsOpen (armM (x : Int) M) ps r ∧ ROEnd X W m0 r e w' from by
      have h := rsopen_any (w := W) (M := armM (x : Int) M) hR hX hRf hn1 hnt' (by omega) hup.1 hnm m0 ps hA'
      unfold refV at h
      rw [show ((armM (x : Int) M).plan : Int) = (x : Int) from by show (((x : Int).toNat : Nat) : Int) = _; omega] at h
      exact h))
    have HSO := Lib.hid (fun (X : Nat → Prop) (W : World) (hO : Own wb X W d (armM (x : Int) M)) => sopen_any hO hup.1 (by show M.fs.length ≤ 900; omega) hnt' (U := 1500) (by omega) hnm ps hA' m0)
    have HNe := Lib.hid (fun r hr => (open_neat (r := r) hnt' hA' hnm hr).1.mono (N' := 1000) (U' := 3000) (by show 900 + M.fs.length + 7 ≤ 1000; omega) (by show 1500 + usedF M.fs ≤ 3000; omega))
    unfold refV at *
    obtain ⟨w3, hw3⟩ : ∃ w3, w3 = w2.alloc (.cells #[.int .i64 (M.room : Int), .slice a1 n1 c1, .int .i64 (M.plan : Int), .bool M.down] 25) := ⟨_, rfl⟩
    have hb23 : Below w2.heap.size w2 w3 := by rw [hw3]; exact (Below.refl _ _).alloc (Nat.le_refl _) _
    have hB3 : w3.heap[w2.heap.size]? = some (.cells #[.int .i64 (M.room : Int), .slice a1 n1 c1, .int .i64 (M.plan : Int), .bool M.down] 25 (0, 0)) := by rw [hw3]; exact heap_alloc_new _ _
    have hlt3 : w2.heap.size < w3.heap.size := (Array.getElem?_eq_some_iff.1 hB3).1
    have hO3 : Own wb (fun b => X b ∨ b = w2.heap.size) w3 d M := hO.more hb23 (fun b hb => hb.elim .inl (fun e => .inr ⟨by omega, by omega⟩))
    have HArm := Lib.hid (own_arm hO3 (x : Int) (by omega) (by omega))
    have hR3 := hR.below hXl hb23
    have HR3 := Lib.hid hR3
    have HB3 := Lib.hid hB3
    have HXl := Lib.hid hXl
    have HRf := Lib.hid hRf
    clear hR3 hB3 hO3 hb23 hXl hRf hnt' hA' hnt hO hR hup hA hout hnm hfl hus hn1
    generalize M.down = dn at *
    generalize (M.room : Int) = ro at *
    generalize (M.plan : Int) = pl at *
    go_wp2_with fail
    rw [← hw3]
    clear hw3
    refine HArm.out.mono ?_
    rintro e w4 ⟨⟨v4, rfl⟩, hO4, hx4, _, hs4⟩
    have hB4 := (hx4 _ (.inr rfl)).trans HB3.out
    obtain ⟨q0, q1, q2, q3, qf⟩ := box4c hB4
    have hR4 := HR3.out.mono (fun b hb => hx4 b (.inl hb)) (fun _ h => h)
    have hO5 := hO4.cellset (B := w2.heap.size) (.inr rfl) Hbs.out 2 (.int .i64 (x : Int))
    have HOp := Lib.hid (HSO.out _ _ hO5)
    have hR5 : RowF X (w4.setCell ⟨w2.heap.size, 2, none⟩ (.int .i64 (x : Int))) a1 n1 c1 R1 := hR4.mono (fun b hb => by
      have := HXl.out b hb
      rw [Below.heap_setCell _ _ _ _ (by show b ≠ w2.heap.size; omega)]) (fun _ h => h)
    have HR5 := Lib.hid hR5
    have Hs5 := Lib.hid (show w2.heap.size < (w4.setCell ⟨w2.heap.size, 2, none⟩ (.int .i64 (x : Int))).heap.size from by rw [World.size_setCell]; omega)
    have hc5 : (w4.setCell ⟨w2.heap.size, 2, none⟩ (.int .i64 (x : Int))).cell? ⟨w2.heap.size, 0, none⟩ = some (.int .i64 ro) ∧ (w4.setCell ⟨w2.heap.size, 2, none⟩ (.int .i64 (x : Int))).cell? ⟨w2.heap.size, 1, none⟩ = some (.slice a1 n1 c1) ∧ (w4.setCell ⟨w2.heap.size, 2, none⟩ (.int .i64 (x : Int))).cell? ⟨w2.heap.size, 2, none⟩ = some (.int .i64 (x : Int)) ∧ (w4.setCell ⟨w2.heap.size, 2, none⟩ (.int .i64 (x : Int))).cell? ⟨w2.heap.size, 3, none⟩ = some (.bool dn) := by
      refine ⟨?_, ?_, ?_, ?_⟩ <;> go_simp
    have Hc5 := Lib.hid hc5
    clear hc5 hR5 hO5 hR4 hB4 hx4 hO4 hs4 HArm HB3 HR3
    go_wp2_with fail
    clear q0 q1 q2 q3 qf
    refine HOp.out.mono ?_
    rintro e w6 ⟨r, hr, hE6⟩
    have hnt6 := HNe.out r hr
    rcases hE6 with ⟨hz, rfl, hO6, hx6, _, hs6⟩ | ⟨hz, g, ra, rc, Z, rfl, hZ, hg, hnZ, hL6, hx6, hK6⟩
    · obtain ⟨y0, y1, y2, y3⟩ : w6.cell? ⟨w2.heap.size, 0, none⟩ = some (.int .i64 ro) ∧ w6.cell? ⟨w2.heap.size, 1, none⟩ = some (.slice a1 n1 c1) ∧ w6.cell? ⟨w2.heap.size, 2, none⟩ = some (.int .i64 (x : Int)) ∧ w6.cell? ⟨w2.heap.size, 3, none⟩ = some (.bool dn) :=
        ⟨(World.cell?_of_block (a := ⟨w2.heap.size, 0, none⟩) (hx6 _ (.inr rfl))).trans Hc5.out.1, (World.cell?_of_block (a := ⟨w2.heap.size, 1, none⟩) (hx6 _ (.inr rfl))).trans Hc5.out.2.1, (World.cell?_of_block (a := ⟨w2.heap.size, 2, none⟩) (hx6 _ (.inr rfl))).trans Hc5.out.2.2.1, (World.cell?_of_block (a := ⟨w2.heap.size, 3, none⟩) (hx6 _ (.inr rfl))).trans Hc5.out.2.2.2⟩
      have hR6 : RowF X w6 a1 n1 c1 R1 := HR5.out.mono (fun b hb => hx6 b (.inl hb)) (fun _ h => h)
      have HRO := Lib.hid (HOR.out w6 hR6 (fun b hb => by have := HXl.out b hb; have := Hs5.out; omega))
      have Hs6 := Lib.hid hs6
      have Hr := Lib.hid hr
      have Hnt6 := Lib.hid hnt6
      have HX6 := Lib.hid (fun b (hb : X b) => (show b < w6.heap.size from by have := HXl.out b hb; have := Hs5.out; omega))
      have HO6 := Lib.hid hO6
      have Hz := Lib.hid hz
      clear hR6 hs6 hr hnt6 hO6 hx6 HOp HR5 Hc5 Hs5 hz HNe HOR HSO
      go_wp2_with fail
      refine HRO.out.mono ?_
      rintro e w7 ⟨r', hr', a7, n7, c7, R7, hR7, hf7, hb7, hcase⟩
      obtain rfl := isOpen_uniq Hr.out hr'
      rcases hcase with ⟨_, mo, N, S, rfl⟩ | ⟨h, _⟩
      · unfold logV
        have HR7 := Lib.hid hR7
        have Hf7 := Lib.hid hf7
        have Hb7 := Lib.hid hb7
        clear hR7 hf7 hb7 hr' HRO
        obtain ⟨w8, hw8⟩ : ∃ w8, w8 = w7.alloc (.cells #[.int .i64 (r.M.room : Int), .slice a7 n7 c7, .int .i64 (r.M.plan : Int), .bool r.M.down, .int .i64 mo, .int .i64 N, .int .i64 S, .int .i64 0] 47) := ⟨_, rfl⟩
        have hb78 : Below w7.heap.size w7 w8 := by rw [hw8]; exact (Below.refl _ _).alloc (Nat.le_refl _) _
        have hB8 : w8.heap[w7.heap.size]? = some (.cells #[.int .i64 (r.M.room : Int), .slice a7 n7 c7, .int .i64 (r.M.plan : Int), .bool r.M.down, .int .i64 mo, .int .i64 N, .int .i64 S, .int .i64 0] 47 (0, 0)) := by rw [hw8]; exact heap_alloc_new _ _
        have hb68 := Hb7.out.trans (hb78.mono Hb7.out.size)
        have HK8 := Lib.hid (fun (W : World) (hW : Below w8.heap.size w8 W) => box8 ((hW.block w7.heap.size (Array.getElem?_eq_some_iff.1 hB8).1).trans hB8))
        have HSm := Lib.hid (fun (W : World) (hW : Below w8.heap.size w8 W) => by
          have h := ssame_any (w := W) (HO6.out.below (hb68.trans (hW.mono hb68.size))) (HR7.out.below (fun b hb => hb.2) (hb78.trans (hW.mono hb78.size))) (fun b hb => Nat.lt_of_lt_of_le hb.2 (Nat.le_trans hb78.size hW.size)) Hf7.out Hnt6.out.sorted (by have := Hnt6.out.small.files; omega) (by have := Hnt6.out.small.used; omega)
          unfold refV at h
          exact h)
        have Hb8 := Lib.hid (Hbw.out.trans ((HO6.out.base.trans (hb68.mono HO6.out.base.size)).mono Hbw.out.size))
        have HOpd := Lib.hid (fun (W : World) => by
          have h := opened_no r.z Hz.out (r.M.room : Int) a7 n7 c7 (r.M.plan : Int) r.M.down mo N S 0 W
          unfold logV at h
          exact h)
        have HPn := Lib.hid (fun (W : World) => (show Parts W none 0 0 [] from ⟨rfl, Nat.le_refl _, by omega, fun h => absurd h (Nat.lt_irrefl _)⟩))
        clear hb78 hB8 hb68 y0 y1 y2 y3
        go_wp2_with fail
        rw [← hw8]
        clear hw8
        refine (salive_any _).mono ?_
        rintro e w9 ⟨rfl, hb9⟩
        obtain ⟨g0, g1, g2, g3, g4, g5, g6, g7, gf⟩ := HK8.out w9 hb9
        go_wp2_with fail
        refine (HOpd.out _).mono ?_
        rintro e w10 ⟨rfl, hb0⟩
        have hb10 := hb9.trans (hb0.mono hb9.size)
        clear hb0 g0 g1 g2 g3 g4 g5 g6 g7 gf
        go_wp2_with fail
        refine (same_yes none none _ _ _ _ _ (HPn.out _) (HPn.out _)).mono ?_
        rintro e w11 ⟨rfl, q, rfl⟩
        have hb11 := below_drewN hb10 q
        obtain ⟨g0, g1, g2, g3, g4, g5, g6, g7, gf⟩ := HK8.out _ hb11
        go_wp2_with fail
        refine (HSm.out _ hb11).mono ?_
        rintro e w12 ⟨rfl, hb0⟩
        have Hend := Lib.hid (Hb8.out.trans ((hb11.trans (hb0.mono hb11.size)).mono Hb8.out.size))
        clear hb0 hb11 hb10 hb9
        go_wp2
        go_ret
        exact ⟨rfl, Hend.out⟩
      · exact absurd h Hz.out
    · have hcg := hL6.cells
      have hgs : g < w6.heap.size := (Array.getElem?_eq_some_iff.1 hcg).1
      have hs6 : (w4.setCell ⟨w2.heap.size, 2, none⟩ (.int .i64 (x : Int))).heap.size ≤ w6.heap.size := by omega
      obtain ⟨y0, y1, y2, y3⟩ : w6.cell? ⟨w2.heap.size, 0, none⟩ = some (.int .i64 ro) ∧ w6.cell? ⟨w2.heap.size, 1, none⟩ = some (.slice a1 n1 c1) ∧ w6.cell? ⟨w2.heap.size, 2, none⟩ = some (.int .i64 (x : Int)) ∧ w6.cell? ⟨w2.heap.size, 3, none⟩ = some (.bool dn) :=
        ⟨(World.cell?_of_block (a := ⟨w2.heap.size, 0, none⟩) (hx6 _ (.inr rfl))).trans Hc5.out.1, (World.cell?_of_block (a := ⟨w2.heap.size, 1, none⟩) (hx6 _ (.inr rfl))).trans Hc5.out.2.1, (World.cell?_of_block (a := ⟨w2.heap.size, 2, none⟩) (hx6 _ (.inr rfl))).trans Hc5.out.2.2.1, (World.cell?_of_block (a := ⟨w2.heap.size, 3, none⟩) (hx6 _ (.inr rfl))).trans Hc5.out.2.2.2⟩
      have hR6 : RowF X w6 a1 n1 c1 R1 := HR5.out.mono (fun b hb => hx6 b (.inl hb)) (fun _ h => h)
      have HRO := Lib.hid (HOR.out w6 hR6 (fun b hb => by have := HXl.out b hb; have := Hs5.out; omega))
      have Hs6 := Lib.hid hs6
      have Hr := Lib.hid hr
      have Hnt6 := Lib.hid hnt6
      have HX6 := Lib.hid (fun b (hb : X b) => (show b < w6.heap.size from by have := HXl.out b hb; have := Hs5.out; omega))
      have HL6 := Lib.hid hL6
      have HK6 := Lib.hid hK6
      have Hz := Lib.hid hz
      have Hcg := Lib.hid hcg
      have Hgs := Lib.hid hgs
      clear hR6 hs6 hr hnt6 hL6 hx6 hK6 HOp HR5 Hc5 Hs5 hZ hg hnZ HNe HOR HSO hcg hgs
      clear hz
      go_wp2_with fail
      refine HRO.out.mono ?_
      rintro e w7 ⟨r', hr', a7, n7, c7, R7, hR7, hf7, hb7, hcase⟩
      obtain rfl := isOpen_uniq Hr.out hr'
      rcases hcase with ⟨h, _⟩ | ⟨_, va, vc, rfl, hP7⟩
      · exact absurd Hz.out h
      · unfold logV
        have HR7 := Lib.hid hR7
        have Hf7 := Lib.hid hf7
        have Hb7 := Lib.hid hb7
        have HP7 := Lib.hid hP7
        clear hR7 hf7 hb7 hr' HRO hP7
        obtain ⟨w8, hw8⟩ : ∃ w8, w8 = w7.alloc (.cells #[.int .i64 (r.M.room : Int), .slice a7 n7 c7, .int .i64 (r.M.plan : Int), .bool r.M.down, .int .i64 m0, .int .i64 (r.N : Int), .int .i64 (r.size : Int), .int .i64 0] 47) := ⟨_, rfl⟩
        have hb78 : Below w7.heap.size w7 w8 := by rw [hw8]; exact (Below.refl _ _).alloc (Nat.le_refl _) _
        have hB8 : w8.heap[w7.heap.size]? = some (.cells #[.int .i64 (r.M.room : Int), .slice a7 n7 c7, .int .i64 (r.M.plan : Int), .bool r.M.down, .int .i64 m0, .int .i64 (r.N : Int), .int .i64 (r.size : Int), .int .i64 0] 47 (0, 0)) := by rw [hw8]; exact heap_alloc_new _ _
        have hb68 := Hb7.out.trans (hb78.mono Hb7.out.size)
        have HK8 := Lib.hid (fun (W : World) (hW : Below w8.heap.size w8 W) => box8 ((hW.block w7.heap.size (Array.getElem?_eq_some_iff.1 hB8).1).trans hB8))
        have HSm := Lib.hid (fun (W : World) (hW : Below w8.heap.size w8 W) => by
          have h := ssame_any (w := W) (M := r.M) (HL6.out.own.below (hb68.trans (hW.mono hb68.size))) (HR7.out.below (fun b hb => hb.2) (hb78.trans (hW.mono hb78.size))) (fun b hb => Nat.lt_of_lt_of_le hb.2 (Nat.le_trans hb78.size hW.size)) Hf7.out Hnt6.out.sorted (by have := Hnt6.out.small.files; omega) (by have := Hnt6.out.small.used; omega)
          unfold refV at h
          exact h)
        have Hb8 := Lib.hid (Hbw.out.trans ((HL6.out.own.base.trans (hb68.mono HL6.out.own.base.size)).mono Hbw.out.size))
        have HOpd := Lib.hid (fun (W : World) (hW : Below w8.heap.size w8 W) => by
          have hc := ((hb68.trans (hW.mono hb68.size)).block g Hgs.out).trans Hcg.out
          have h := opened_yes g (r.M.room : Int) a7 n7 c7 (r.M.plan : Int) r.M.down m0 (r.N : Int) (r.size : Int) 0 W (by rw [cell_of_row _ _ _ _ _ (0, 0) hc]; rfl) (by rw [cell_of_row _ _ _ _ _ (0, 0) hc]; rfl) (by rw [cell_of_row _ _ _ _ _ (0, 0) hc]; rfl)
          unfold logV at h
          exact h)
        have HPa := Lib.hid (fun (W : World) (hW : Below w8.heap.size w8 W) => HK6.out W (fun b hb => (hb68.trans (hW.mono hb68.size)).block b (HL6.out.own.blocks b (.inr (.inl hb)))))
        have HPb := Lib.hid (fun (W : World) (hW : Below w8.heap.size w8 W) => HP7.out.grow (hb78.trans (hW.mono hb78.size)))
        clear hb78 hB8 hb68 y0 y1 y2 y3
        go_wp2_with fail
        rw [← hw8]
        clear hw8
        refine (salive_any _).mono ?_
        rintro e w9 ⟨rfl, hb9⟩
        obtain ⟨g0, g1, g2, g3, g4, g5, g6, g7, gf⟩ := HK8.out w9 hb9
        go_wp2_with fail
        refine (HOpd.out _ hb9).mono ?_
        rintro e w10 ⟨rfl, hb0⟩
        have hb10 := hb9.trans (hb0.mono hb9.size)
        clear hb0 g0 g1 g2 g3 g4 g5 g6 g7 gf
        go_wp2_with fail
        refine (same_yes ra va _ _ _ _ _ (HPa.out _ hb10) (HPb.out _ hb10)).mono ?_
        rintro e w11 ⟨rfl, q, rfl⟩
        have hb11 := below_drewN hb10 q
        obtain ⟨g0, g1, g2, g3, g4, g5, g6, g7, gf⟩ := HK8.out _ hb11
        go_wp2_with fail
        refine (HSm.out _ hb11).mono ?_
        rintro e w12 ⟨rfl, hb0⟩
        have Hend := Lib.hid (Hb8.out.trans ((hb11.trans (hb0.mono hb11.size)).mono Hb8.out.size))
        clear hb0 hb11 hb10 hb9
        go_wp2
        go_ret
        exact ⟨rfl, Hend.out⟩
end Go.Proofs.YtmiepigieajpcaaGreat

/- Two numbers that came in as an array. -/
namespace Go.Proofs.YtmiepigieajpcaaGreat
open Go.ChangeShapes Go.WideShapes Go.ChangeAt Go.RowKit Go.Deep

section
variable {H : Type} {enc : TypeId × Value → H} {W : World}

theorem cells_i1 : Tryz.prog.cellsOf 3 = 1 := by kernel_rfl
theorem cells_ii2 : Tryz.prog.cellsOf 41 = 2 := by kernel_rfl

set_option maxRecDepth 100000 in
theorem open_pairi {v : Value} {d : DataW H} {p : List MemPlace} {base : Nat} (hv : Value.okWide Tryz.prog W .any base 41 v) (h : DataW.Trod enc Tryz.prog W 0 (fun _ => true) true 41 v d p) :
    ∃ a b : Int, v = .agg #[.int .i64 a, .int .i64 b] ∧ (Lit.int .i64 a).wf = true ∧ (Lit.int .i64 b).wf = true := by
  have hv' : ∃ cs, v = .agg cs ∧ cs.size = 2 := by
    simp only [Value.okWide, Tryz.underlying41] at hv
    obtain ⟨cs, h1, h2, _⟩ := hv
    rw [cells_ii2] at h2
    exact ⟨cs, h1, h2⟩
  obtain ⟨cs, rfl, hsz⟩ := hv'
  obtain ⟨fuel, hf⟩ := h
  obtain ⟨xs, m, rfl, _, _, hxl, hfs⟩ := DataW.trod_array Tryz.underlying41 hf
  match xs, hxl with
  | [y0, y1], _ =>
    have g0 := hfs 0 (by omega)
    have g1 := hfs 1 (by omega)
    rw [cells_i1] at g0 g1
    simp only [List.getElem?_cons_zero, List.getElem?_cons_succ] at g0 g1
    obtain ⟨a, e0, _, ha⟩ := DataW.trod_int Tryz.underlying3 g0
    obtain ⟨b, e1, _, hb⟩ := DataW.trod_int Tryz.underlying3 g1
    refine ⟨a, b, ?_, ha, hb⟩
    congr 1
    obtain ⟨l⟩ := cs
    simp at hsz
    match l, hsz with
    | [u0, u1], _ =>
      simp [Value.cells] at e0 e1
      rw [e0, e1]
end
end Go.Proofs.YtmiepigieajpcaaGreat

