/- Joined for a claim out of: Equal SEqual AcSame DiskMatches. -/
import Derived.Test.YtdnbjpfapfnpaaaAppend
import Derived.Test.YtdnbjpfapfnpaaaRfN
import Derived.Test.YtdnbjpfapfnpaaaAcOwn
import Derived.Test.YtdnbjpfapfnpaaaDkAlive
/- The walk of slices.Equal of bytes. -/
namespace Go.Proofs.Ytdnbjpfapfnpaaa
open Go.RowKit

theorem equal_len (a a' : Option Addr) (n cap n' cap' : Nat) (w : World) (hn : n ≠ n') :
    Calls Try.prog 10 #[.slice a n cap, .slice a' n' cap'] w fun e w' => e = .returned (.bool false) ∧ w = w' := by
  have hq : ((n : Int) != (n' : Int)) = true := by rw [bne_iff_ne]; omega
  go_enter Try.func10, Try.ntmps10
  go_wp2
  go_ret
  exact ⟨rfl, rfl⟩

theorem take_next {l l' : List Nat} {k : Nat} (h : k < l.length) (h' : k < l'.length) (ht : l.take k = l'.take k) (hx : l.getD k 0 = l'.getD k 0) : l.take (k + 1) = l'.take (k + 1) := by
  rw [List.take_succ_eq_append_getElem h, List.take_succ_eq_append_getElem h', ht]
  rw [List.getD_eq_getElem?_getD, List.getElem?_eq_getElem h, List.getD_eq_getElem?_getD, List.getElem?_eq_getElem h'] at hx
  have hx : l[k] = l'[k] := hx
  rw [hx]

def EqRel (w : World) (n : Nat) (l l' : List Nat) (i : Value) (wr : World) : Prop := ∃ k : Nat, k ≤ n ∧ i = .int .i64 k ∧ l.take k = l'.take k ∧ Below w.heap.size w wr

set_option maxHeartbeats 800000 in
theorem equal_same (a a' : Option Addr) (n cap cap' : Nat) (l l' : List Nat) (w : World) (hl : Bytes w a n cap l) (hl' : Bytes w a' n cap' l') :
    Calls Try.prog 10 #[.slice a n cap, .slice a' n cap'] w fun e w' => e = .returned (.bool (decide (l = l'))) ∧ Below w.heap.size w w' := by
  have hnm := hl.max
  have hB := Lib.hid hl
  have hB' := Lib.hid hl'
  clear hl hl'
  have hq : ((n : Int) != (n : Int)) = false := by simp
  go_enter Try.func10, Try.ntmps10
  go_wp2
  go_loopw [13] (fun i wr => EqRel w n l l' i wr) (fun i _ => n - (intOf i).toNat)
  case atStart => exact ⟨0, Nat.zero_le _, rfl, rfl, Below.refl _ _⟩
  case round =>
    obtain ⟨k, hk, rfl, ht, hbel⟩ := hrel
    have ht := Lib.hid ht
    rename_i ht0; clear ht0
    by_cases hlt : k < n
    · obtain ⟨b, o, rfl, hc0⟩ := (hB.out.grow hbel).cell (by omega)
      obtain ⟨b', o', rfl, hc0'⟩ := (hB'.out.grow hbel).cell (by omega)
      have hc := hc0 k hlt
      have hc' := hc0' k hlt
      clear hc0 hc0'
      have hx := Lib.hid (show l.getD k 0 = l.getD k 0 from rfl)
      generalize hy : l.getD k 0 = x at hc
      generalize hy' : l'.getD k 0 = x' at hc'
      have hy := Lib.hid hy
      have hy' := Lib.hid hy'
      rename_i hy0 hy0'; clear hy0 hy0' hx
      by_cases hxx : x = x'
      · have hq2 : ((x : Int) != (x' : Int)) = false := by rw [bne_eq_false_iff_eq]; omega
        have hxx := Lib.hid hxx
        rename_i hxx0; clear hxx0
        go_wp2
        go_quiet (fail)
        go_wp2
        go_roundw
        case rel => exact ⟨k + 1, by omega, by go_num, take_next (by rw [hB.out.len]; exact hlt) (by rw [hB'.out.len]; exact hlt) ht.out (by rw [hy.out, hy'.out, hxx.out]), below_drewN hbel _⟩
        case measure => simp [intOf]; omega
      · have hq2 : ((x : Int) != (x' : Int)) = true := by rw [bne_iff_ne]; omega
        go_wp2
        go_quiet (fail)
        go_wp2
        go_ret
        exact ⟨ret_bool (decide_eq_false (fun e => hxx (by rw [← hy.out, ← hy'.out, e]))).symm, below_drewN hbel _⟩
    · obtain rfl : k = n := by omega
      go_wp2
      go_ret
      exact ⟨ret_bool (decide_eq_true (by rw [← List.take_length (l := l), ← List.take_length (l := l'), hB.out.len, hB'.out.len]; exact ht.out)).symm, hbel⟩

theorem equal_any (a a' : Option Addr) (n cap n' cap' : Nat) (l l' : List Nat) (w : World) (hl : Bytes w a n cap l) (hl' : Bytes w a' n' cap' l') :
    Calls Try.prog 10 #[.slice a n cap, .slice a' n' cap'] w fun e w' => e = .returned (.bool (decide (l = l'))) ∧ Below w.heap.size w w' := by
  by_cases h : n = n'
  · subst h
    exact equal_same a a' n cap cap' l l' w hl hl'
  · refine (equal_len a a' n cap n' cap' w h).mono ?_
    rintro e w' ⟨rfl, rfl⟩
    exact ⟨ret_bool (decide_eq_false (fun e => h (by rw [← hl.len, ← hl'.len, e]))).symm, Below.refl _ _⟩
end Go.Proofs.Ytdnbjpfapfnpaaa
/- slices.Equal of two rows that hold the same strings. -/
namespace Go.Proofs.Ytdnbjpfapfnpaaa
open Go.RowKit Go.Maps Go.Shelf

/-- The strings ss lie at the start of a slice's value. -/
structure Strs (w : World) (p : Option Addr) (n c : Nat) (ss : List (List UInt8)) : Prop where
  len : ss.length = n
  le : n ≤ c
  max : c ≤ 9223372036854775807
  cell : 0 < n → ∃ b o, p = some ⟨b, o, none⟩ ∧ ∀ i (hi : i < ss.length), w.cell? ⟨b, o + i, none⟩ = some (.string ⟨ss[i].toArray⟩)

theorem Strs.grow {w w' : World} {p : Option Addr} {n c : Nat} {ss : List (List UInt8)} (h : Strs w p n c ss) (hb : Below w.heap.size w w') : Strs w' p n c ss :=
  ⟨h.len, h.le, h.max, fun hn => by
    obtain ⟨b, o, e, hc⟩ := h.cell hn
    exact ⟨b, o, e, fun i hi => cell_keep hb (hc i hi)⟩⟩

theorem strs_of_own {w : World} {base : Nat} {e : TypeId} {v : Value} {m : Nat} {ss : List (List UInt8)} (h : w.ownsRow base e 1 v m (ss.map encStr)) : ∃ p c, v = .slice p m c ∧ Strs w p m c ss := by
  have hlen : ss.length = m := by have := h.1; simpa using this
  rcases h.2 with ⟨rfl, rfl⟩ | ⟨g, cap', cur, rfl, _, hg, hle, hcm, hsz, htake⟩
  · exact ⟨none, 0, rfl, hlen, Nat.le_refl _, by omega, fun h => absurd h (Nat.lt_irrefl _)⟩
  · refine ⟨_, cap', rfl, hlen, hle, hcm, fun _ => ⟨g, 0, rfl, fun i hi => ?_⟩⟩
    rw [Nat.zero_add, cell_of_row w g i cur e (0, 0) hg]
    have e1 : (ss.map encStr)[i]? = some (.string ⟨ss[i].toArray⟩) := by
      rw [List.getElem?_map, List.getElem?_eq_getElem hi]; rfl
    rw [← htake, List.getElem?_take, if_pos (by omega)] at e1
    simpa using e1

set_option maxHeartbeats 800000 in
theorem sequal_any (a a' : Option Addr) (n cap cap' : Nat) (ss : List (List UInt8)) (w : World) (hl : Strs w a n cap ss) (hl' : Strs w a' n cap' ss) :
    Calls Try.prog 25 #[.slice a n cap, .slice a' n cap'] w fun e w' => e = .returned (.bool true) ∧ Below w.heap.size w w' := by
  have hnm : n ≤ 9223372036854775807 := Nat.le_trans hl.le hl.max
  have hB := Lib.hid hl
  have hB' := Lib.hid hl'
  clear hl hl'
  have hq : ((n : Int) != (n : Int)) = false := by simp
  go_enter Try.func25, Try.ntmps25
  go_wp2
  go_loopw [13] (fun i wr => ∃ k : Nat, k ≤ n ∧ i = .int .i64 k ∧ Below w.heap.size w wr) (fun i _ => n - (intOf i).toNat)
  case atStart => exact ⟨0, Nat.zero_le _, rfl, Below.refl _ _⟩
  case round =>
    obtain ⟨k, hk, rfl, hbel⟩ := hrel
    by_cases hlt : k < n
    · obtain ⟨b, o, rfl, hc0⟩ := (hB.out.grow hbel).cell (by omega)
      obtain ⟨b', o', rfl, hc0'⟩ := (hB'.out.grow hbel).cell (by omega)
      have hc := hc0 k (by rw [hB.out.len]; exact hlt)
      have hc' := hc0' k (by rw [hB.out.len]; exact hlt)
      clear hc0 hc0'
      have hks : k < ss.length := by rw [hB.out.len]; exact hlt
      obtain ⟨y, hy⟩ : ∃ y : ByteArray, y = ⟨ss[k].toArray⟩ := ⟨_, rfl⟩
      rw [← hy] at hc hc'
      clear hy
      go_wp2
      go_quiet (fail)
      go_wp2
      go_roundw
      case rel => exact ⟨k + 1, by omega, by go_num, below_drewN hbel _⟩
      case measure => simp [intOf]; omega
    · obtain rfl : k = n := by omega
      go_wp2
      go_ret
      exact ⟨rfl, hbel⟩
end Go.Proofs.Ytdnbjpfapfnpaaa
/- The walk of the statements' same: a disk that the call itself has made, beside the reference's. -/
namespace Go.Proofs.Ytdnbjpfapfnpaaa
open Go.RowKit Go.Maps Go.Shelf

set_option maxRecDepth 100000 in
set_option maxHeartbeats 12800000 in
theorem dsame_any {w0 w : World} {X Y : Nat → Prop} {d : Nat} {M : DM} (hO : Own w0 X w d M) {a : Option Addr} {n c : Nat} {R : List FR} (hR : RowF Y w a n c R) (hY : ∀ b, Y b → b < w.heap.size) (hRf : R.map FR.f = M.fs) (hl : M.fs.length < 1000000) (hu : usedF M.fs ≤ 10000000) :
    Calls Try.prog 11 #[.pointer (some ⟨d, 0, none⟩), refV (M.room : Int) a n c (M.plan : Int) M.down] w fun e w' => e = .returned (.bool true) ∧ Below w.heap.size w w' := by
  have hb1 := (Below.refl w.heap.size w).alloc (Nat.le_refl _) (.cells #[.int .i64 (M.room : Int), .slice a n c, .int .i64 (M.plan : Int), .bool M.down] 29)
  obtain ⟨b0, b1, b2, b3⟩ := box4 w (M.room : Int) a n c (M.plan : Int) M.down
  have hnl : n = M.fs.length := by rw [← hR.len, ← List.length_map (f := FR.f), hRf]
  have hn1 : n ≤ 1000000 := by omega
  have HE : ∀ (w : World) (a a' : Option Addr) (n c n' c' : Nat) (l : List Nat), Bytes w a n c l → Bytes w a' n' c' l → Calls Try.prog 10 #[.slice a n c, .slice a' n' c'] w fun e w' => e = .returned (.bool true) ∧ Below w.heap.size w w' :=
    fun w a a' n c n' c' l h h' => (equal_any a a' n c n' c' l l w h h').mono fun e w' hq => ⟨by rw [hq.1, decide_eq_true rfl], hq.2⟩
  have HE := Lib.hid HE
  generalize hW1 : w.alloc (.cells #[.int .i64 (M.room : Int), .slice a n c, .int .i64 (M.plan : Int), .bool M.down] 29) = w1 at *
  have hO1 := hO.below hb1
  have hR1 := hR.below hY hb1
  have hY1 : ∀ b, Y b → b < w1.heap.size := fun b h => Nat.lt_of_lt_of_le (hY b h) hb1.size
  have HLi := Lib.hid (fun W (hW : Below w1.heap.size w1 W) => own_list (hO1.below hW) hl)
  have hRefAt : ∀ W, Below w1.heap.size w1 W → RefAt Y W (refV (M.room : Int) a n c (M.plan : Int) M.down) M := fun W hW => ⟨a, n, c, R, rfl, hR1.below hY1 hW, hRf, hn1⟩
  have HNm := Lib.hid (fun W (hW : Below w1.heap.size w1 W) => rnames_any (hRefAt W hW) (fun b hb => Nat.lt_of_lt_of_le (hY1 b hb) hW.size))
  have HU := Lib.hid (fun W (hW : Below w1.heap.size w1 W) => own_used (hO1.below hW))
  have HV := Lib.hid (fun W (hW : Below w1.heap.size w1 W) => rused_any (hR1.below hY1 hW) (fun b hb => Nat.lt_of_lt_of_le (hY1 b hb) hW.size) (M.room : Int) (M.plan : Int) M.down (by rw [hRf]; omega))
  rw [hRf] at HV
  have HDn := Lib.hid (fun W (hW : Below w1.heap.size w1 W) => own_down (hO1.below hW))
  have HRd := Lib.hid (fun W (hW : Below w1.heap.size w1 W) nm hn => own_read (hO1.below hW) nm hn (by omega))
  have HRr := Lib.hid (fun W (hW : Below w1.heap.size w1 W) nm => rread_any (hRefAt W hW) (fun b hb => Nat.lt_of_lt_of_le (hY1 b hb) hW.size) nm)
  have HK := Lib.hid (fun W (hW : Below w1.heap.size w1 W) => (show W.cell? ⟨w.heap.size, 0, none⟩ = some (.int .i64 (M.room : Int)) ∧ W.cell? ⟨w.heap.size, 1, none⟩ = some (.slice a n c) ∧ W.cell? ⟨w.heap.size, 2, none⟩ = some (.int .i64 (M.plan : Int)) ∧ W.cell? ⟨w.heap.size, 3, none⟩ = some (.bool M.down) from
    ⟨cell_keep hW b0, cell_keep hW b1, cell_keep hW b2, cell_keep hW b3⟩))
  have HR := Lib.hid (fun W (hW : Below w1.heap.size w1 W) => hR1.below hY1 hW)
  have Hb1 := Lib.hid hb1
  have Hlen := Lib.hid hR.len
  have hqu : ((usedF M.fs : Int) != (usedF M.fs : Int)) = false := by simp
  have hqd : (M.down != M.down) = false := by cases M.down <;> rfl
  unfold refV at *
  clear hR hR1 hO hO1 hY hY1 hRf hRefAt hl hu hb1 hnl
  generalize M.fs.length = nn at *
  generalize M.fs.map F.n = ss at *
  generalize (usedF M.fs) = u at *
  generalize (M.plan : Int) = pl at *
  generalize (M.room : Int) = ro at *
  generalize M.down = dn at *
  have Hn1 := Lib.hid hn1
  clear hn1
  go_enter Try.func11, Try.ntmps11
  go_wp2_with fail
  (try rw [hW1])
  have HW1 := Lib.hid hW1
  clear hW1
  go_region_held (fun w' => w'.cell? ⟨w.heap.size, 0, none⟩ = some (.int .i64 ro) ∧ w'.cell? ⟨w.heap.size, 1, none⟩ = some (.slice a n c) ∧ w'.cell? ⟨w.heap.size, 2, none⟩ = some (.int .i64 pl) ∧ w'.cell? ⟨w.heap.size, 3, none⟩ = some (.bool dn))
    (first | exact HK.out _ hb6 | exact HK.out _ hb5 | exact HK.out _ hb4 | exact HK.out _ hb3 | exact HK.out _ hb2 | exact HK.out _ ((Below.refl _ _).drew))
    (first
      | (go_at_call 26; (with_reducible refine (HLi.out _ ((Below.refl _ _).drew)).mono ?_); rintro e w2 ⟨v2, rfl, hown2, hb0⟩; have hb2 : Below w1.heap.size w1 w2 := ((Below.refl _ _).drew).trans hb0; clear hb0; obtain ⟨p2, c2, rfl, hs2⟩ := strs_of_own hown2; have HS2 := Lib.hid hs2; clear hs2 hown2)
      | (go_at_call 27; (with_reducible refine (HNm.out _ hb2).mono ?_); rintro e w3 ⟨v3, rfl, hown3, hb0⟩; have hb3 : Below w1.heap.size w1 w3 := hb2.trans (hb0.mono hb2.size); obtain ⟨p3, c3, rfl, hs3⟩ := strs_of_own hown3; have HE3 := Lib.hid (sequal_any p2 p3 _ c2 c3 _ w3 (HS2.out.grow hb0) hs3); clear hb0 hown3 hs3)
      | (go_at_call 25; (with_reducible refine HE3.out.mono ?_); rintro e w4 ⟨rfl, hb0⟩; have hb4 : Below w1.heap.size w1 w4 := hb3.trans (hb0.mono hb3.size); clear hb0)
      | (go_at_call 12; (with_reducible refine (HU.out _ hb4).mono ?_); rintro e w5 ⟨rfl, hb0⟩; have hb5 : Below w1.heap.size w1 w5 := hb4.trans (hb0.mono hb4.size); clear hb0)
      | (go_at_call 13; (with_reducible refine (HV.out _ hb5).mono ?_); rintro e w6 ⟨rfl, hb0⟩; have hb6 : Below w1.heap.size w1 w6 := hb5.trans (hb0.mono hb5.size); clear hb0)
      | (go_at_call 28; (with_reducible refine (HDn.out _ hb6).mono ?_); rintro e w7 ⟨rfl, rfl⟩))
  obtain ⟨q0, q1, q2, q3⟩ := HK.out _ hb6
  have hnm : (n : Int) ≤ 9223372036854775807 := by have := Hn1.out; omega
  have Hb7 := Lib.hid hb6
  clear hb2 hb3 hb4 hb5 hb6
  go_wp2_with fail
  go_loopw [34] (fun i wr => ∃ j : Nat, j ≤ n ∧ i = .int .i64 (j : Int) ∧ Below w1.heap.size w1 wr) (fun i _ => n - (intOf i).toNat)
  case atStart => exact ⟨0, Nat.zero_le _, rfl, Hb7.out⟩
  case round =>
    obtain ⟨j, hj, rfl, hb⟩ := hrel
    by_cases hlt : j < n
    · have hRw := HR.out _ hb
      obtain ⟨b, o, rfl, _⟩ := hRw.cell (by omega)
      have hjl : j < R.length := by rw [Hlen.out]; exact hlt
      obtain ⟨k0, k1, k2⟩ := hRw.at j hjl
      have hfl := (hRw.files R[j] (List.getElem_mem hjl)).name
      generalize R[j] = y at *
      obtain ⟨⟨nm, bs, du⟩, pa, kk⟩ := y
      simp only at *
      have hal := (Below.refl wr.heap.size wr).alloc (Nat.le_refl _) (.cells #[.string ⟨nm.toArray⟩, .slice pa bs.length kk, .int .i64 (du : Int)] 67)
      have hbal := hb.trans (hal.mono hb.size)
      have hnew := heap_alloc_new wr (.cells #[.string ⟨nm.toArray⟩, .slice pa bs.length kk, .int .i64 (du : Int)] 67)
      have Hd := Lib.hid (HRd.out _ hbal nm hfl)
      have Hrr := Lib.hid (fun W (hW : Below w1.heap.size w1 W) => HRr.out W hW nm)
      have hq : ((readM nm M).2 != (readM nm M).2) = false := by simp
      have Hlt := Lib.hid hlt
      have Hbal := Lib.hid hbal
      have Hnew := Lib.hid hnew
      have k0 : wr.cell? ⟨b, o + j * 3, none⟩ = some (.string ⟨nm.toArray⟩) := k0
      generalize readM nm M = r at *
      clear hRw hjl hfl hal hbal hnew hlt hb
      go_wp2_with fail
      refine Hd.out.mono ?_
      rintro e w8 ⟨p8, c8, rfl, hB8, _, hb8, _⟩
      have hb8w := Hbal.out.trans (hb8.mono Hbal.out.size)
      obtain ⟨m0, m1, m2, m3⟩ := HK.out _ hb8w
      have hn8 := (hb8.block _ (by simp)).trans Hnew.out
      have n0 : w8.cell? ⟨wr.heap.size, 0, none⟩ = some (.string ⟨nm.toArray⟩) := by rw [cell_of_row _ _ _ _ _ (0, 0) hn8]; rfl
      have Hr8 := Lib.hid (Hrr.out _ hb8w)
      have HB8 := Lib.hid hB8
      have Hb8 := Lib.hid hb8w
      clear hb8 hB8 hb8w hn8
      go_wp2_with fail
      refine Hr8.out.mono ?_
      rintro e w9 ⟨p9, c9, rfl, hB9, _, hb9⟩
      have HEq := Lib.hid (HE.out w9 _ _ _ _ _ _ _ (HB8.out.grow hb9) hB9)
      have Hb9 := Lib.hid (Hb8.out.trans (hb9.mono Hb8.out.size))
      clear hb9 hB9 Hd
      generalize hrl : r.1.length = rl at *
      clear hrl
      go_wp2_with fail
      refine HEq.out.mono ?_
      rintro e w10 ⟨rfl, hb10⟩
      have Hb10 := Lib.hid (Hb9.out.trans (hb10.mono Hb9.out.size))
      clear hb10
      go_wp2
      go_roundw
      case rel => exact ⟨j + 1, Hlt.out, by go_num, Hb10.out⟩
      case measure => simp [intOf]; have := Hlt.out; omega
    · obtain rfl : j = n := by omega
      have Hb := Lib.hid (Hb1.out.trans (hb.mono Hb1.out.size))
      clear hb
      go_wp2
      go_ret
      exact ⟨rfl, Hb.out⟩
end Go.Proofs.Ytdnbjpfapfnpaaa
/- The statement DiskMatches answers true. -/
namespace Go.Proofs.Ytdnbjpfapfnpaaa
open Go.RowKit Go.Maps Go.Shelf

/-- A store into a block of X. -/
theorem Own.set {w0 : World} {X : Nat → Prop} {w : World} {d : Nat} {M : DM} (h : Own w0 X w d M) {B : Nat} (hB : X B) (h0 : w0.heap.size ≤ B) (i : Nat) (v : Value) : Own w0 X (w.setCell ⟨B, i, none⟩ v) d M := by
  obtain ⟨S, hD, hS, hX, hb⟩ := h
  exact ⟨S, hD.aside (Chg.set (fun b => b = B) w rfl v) (fun b hs e => (hS b hs).2 (by rw [e]; exact hB)), hS, fun b hx => by simp; exact hX b hx, hb.setCell h0 v⟩

/-- Bytes lie in no box of a disk. -/
theorem bytes_box {w w' : World} {p : Option Addr} {n c B : Nat} {l : List Nat} {ro pl : Int} {a' : Option Addr} {n' c' : Nat} {dn : Bool} {t : TypeId} (h : Bytes w p n c l) (hbx : w.heap[B]? = some (.cells #[.int .i64 ro, .slice a' n' c', .int .i64 pl, .bool dn] t (0, 0)))
    (hk : ∀ b, b < w.heap.size → b ≠ B → w'.heap[b]? = w.heap[b]?) : Bytes w' p n c l := by
  refine ⟨h.len, h.le, h.capmax, h.byte, h.nil, fun hn => ?_⟩
  obtain ⟨b, o, rfl, hc⟩ := h.cell hn
  refine ⟨b, o, rfl, fun i hi => ?_⟩
  have hne : b ≠ B := by
    rintro rfl
    have h6 := hc i hi
    rw [cell_of_row _ _ _ _ _ (0, 0) hbx] at h6
    generalize o + i = q at h6
    match q, h6 with
    | 0, h6 => cases h6
    | 1, h6 => cases h6
    | 2, h6 => cases h6
    | 3, h6 => cases h6
    | q + 4, h6 => simp at h6
  rw [← hc i hi]
  exact World.cell?_of_block (hk b (World.block_lt_of_cell? _ _ (hc i hi)) hne)

set_option maxRecDepth 100000 in
set_option maxHeartbeats 12800000 in
theorem dmatches_any (y : Int) (a : Option Addr) (n c : Nat) (l : List AM) (w : World) (hy1 : -9223372036854775808 ≤ y) (hy2 : y ≤ 9223372036854775807) (hl : Acts w a n c l) :
    Calls Try.prog 3 #[.int .i64 y, .slice a n c] w fun e w' => e = .returned (.bool true) ∧ Below w.heap.size w w' := by
  have HN := Lib.hid (own_new y w (by omega))
  have HA := Lib.hid (fun w1 => dalive_any w1)
  have HE : ∀ (w : World) (a a' : Option Addr) (n c n' c' : Nat) (l : List Nat), Bytes w a n c l → Bytes w a' n' c' l → Calls Try.prog 10 #[.slice a n c, .slice a' n' c'] w fun e w' => e = .returned (.bool true) ∧ Below w.heap.size w w' :=
    fun w a a' n c n' c' l h h' => (equal_any a a' n c n' c' l l w h h').mono fun e w' hq => ⟨by rw [hq.1, decide_eq_true rfl], hq.2⟩
  have HE := Lib.hid HE
  obtain ⟨ro, hro⟩ : ∃ ro, max y 0 = ro := ⟨_, rfl⟩
  have Hr0 := Lib.hid (show ((newM y).room : Int) = ro from by
    show ((y.toNat : Nat) : Int) = ro
    omega)
  have hls := Lib.hid hl.len
  have hnb : n ≤ 9223372036854775807 := Nat.le_trans hl.le hl.max
  have HL := Lib.hid hl
  clear hl
  go_enter Try.func3, Try.ntmps3
  go_wp2_with fail
  refine HN.out.mono ?_
  rintro e w1 ⟨d, rfl, ho1, hb1⟩
  have HF := Lib.hid (fewA_any a n c l w1 (HL.out.grow hb1))
  have Ho1 := Lib.hid ho1
  have Hb1 := Lib.hid hb1
  clear hb1 ho1
  go_wp2_with fail
  refine HF.out.mono ?_
  rintro e w2 ⟨hE, hb2⟩
  have Hb2 := Lib.hid (Hb1.out.trans (hb2.mono Hb1.out.size))
  have Ho2 := Lib.hid (Ho1.out.below hb2)
  clear hb2
  rcases hE with rfl | ⟨rfl, hfew⟩
  · go_wp2_with fail
    refine (HA.out _).mono ?_
    rintro e w3 ⟨rfl, hb3⟩
    have Hb3 := Lib.hid (Hb2.out.trans (hb3.mono Hb2.out.size))
    clear hb3
    go_wp2
    go_ret
    exact ⟨rfl, Hb3.out⟩
  · obtain ⟨hf1, hf2⟩ := hfew
    have Hf1 := Lib.hid hf1
    have Hf2 := Lib.hid (fun j => Nat.le_trans (sumB_le l j) hf2)
    have Hbs := Lib.hid (fun j (hj : j < l.length) => (show l[j].bs.length ≤ 1500 from by
      have h1 := sumB_next hj
      have h2 := sumB_le l (j + 1)
      omega))
    clear hf1 hf2 HF
    go_wp2
    go_loopw [33] (fun i wr => ∃ (j : Nat) (X : Nat → Prop) (a' : Option Addr) (n' c' : Nat) (R : List FR), j ≤ n ∧ i = .int .i64 (j : Int) ∧ ¬ X w2.heap.size ∧ Own w (fun b => X b ∨ b = w2.heap.size) wr d (runA l (newM y) j) ∧ Good l (newM y) j ∧
      wr.heap[w2.heap.size]? = some (.cells #[.int .i64 ro, .slice a' n' c', .int .i64 ((runA l (newM y) j).plan : Int), .bool (runA l (newM y) j).down] 29 (0, 0)) ∧ RowF X wr a' n' c' R ∧ R.map FR.f = (runA l (newM y) j).fs) (fun i _ => n - (intOf i).toNat)
    case atStart =>
      have hal := (Below.refl w2.heap.size w2).alloc (Nat.le_refl _) (.cells #[.int .i64 ro, .slice none 0 0, .int .i64 0, .bool false] 29)
      exact ⟨0, fun _ => False, none, 0, 0, [], Nat.zero_le _, rfl, fun h => h, Ho2.out.more hal (fun b hb => hb.imp id (fun e => by rw [e]; simp)), good_zero, heap_alloc_new _ _, rowF_nil _ _, rfl⟩
    case round =>
      obtain ⟨j, X, a', n', c', R, hj, rfl, hXB, ho, hg, hbx, hR, hRf⟩ := hrel
      have hXl : ∀ b, X b ∨ b = w2.heap.size → b < wr.heap.size := by obtain ⟨_, _, _, h, _⟩ := ho; exact h
      have hsz := (Array.getElem?_eq_some_iff.1 hbx).1
      have hroom : ((runA l (newM y) j).room : Int) = ro := by
        rw [runA_room l _ j (by rw [hls.out]; exact hj)]
        exact Hr0.out
      by_cases hlt : j < n
      · obtain ⟨b, o, rfl, hc⟩ := HL.out.cell (by omega)
        have hjl : j < l.length := by rw [hls.out]; exact hlt
        obtain ⟨pb, cb, pk, ck, hx0⟩ := hc j hjl
        have hxr := hx0.grow ho.base
        have k0 := hxr.k0
        have k1 := hxr.k1
        have k2 := hxr.k2
        have k3 := hxr.k3
        have k4 := hxr.k4
        have k5 := hxr.k5
        have hal := (Below.refl wr.heap.size wr).alloc (Nat.le_refl _) (.cells #[.int .i64 l[j].k, .string ⟨l[j].nm.toArray⟩, .string ⟨l[j].to.toArray⟩, .slice pb l[j].bs.length cb, .int .i64 l[j].n, .slice pk l[j].ks.length ck] 35)
        have hnew := heap_alloc_new wr (.cells #[.int .i64 l[j].k, .string ⟨l[j].nm.toArray⟩, .string ⟨l[j].to.toArray⟩, .slice pb l[j].bs.length cb, .int .i64 l[j].n, .slice pk l[j].ks.length ck] 35)
        have ho1 := ho.more (Y := fun b => (X b ∨ b = w2.heap.size) ∨ b = wr.heap.size) hal (fun b hb => hb.imp id (fun e => by rw [e]; simp))
        have HD := Lib.hid (ldo_any ho1 l[j] pb cb pk ck hx0.bytes hx0.nums hx0.wn hx0.w1 hx0.w2 (by have := hg.small.files; have := Hf1.out; omega) (by have := hg.small.used; have := Hf2.out j; have := Hbs.out j hjl; omega))
        have Hnx := Lib.hid (fun (X' : Nat → Prop) (w' : World) (h : Own w X' w' d (stepA l[j] (runA l (newM y) j)).1) => hg.next hjl h)
        have Hru := Lib.hid (runA_next (M := newM y) hjl)
        have Hrm := Lib.hid (show ((stepA l[j] (runA l (newM y) j)).1.room : Int) = ro from by rw [stepA_room]; exact hroom)
        have HM := Lib.hid (fun (w3 : World) (h3 : ∀ b, (X b ∨ b = w2.heap.size) ∨ b = wr.heap.size → w3.heap[b]? = (wr.alloc (.cells #[.int .i64 l[j].k, .string ⟨l[j].nm.toArray⟩, .string ⟨l[j].to.toArray⟩, .slice pb l[j].bs.length cb, .int .i64 l[j].n, .slice pk l[j].ks.length ck] 35)).heap[b]?) (hs3 : wr.heap.size + 1 ≤ w3.heap.size) (hb3 : Below w.heap.size w w3) =>
          lmodel_any (X := X) (w := w3) (M := runA l (newM y) j) (v := refV ro a' n' c' ((runA l (newM y) j).plan : Int) (runA l (newM y) j).down)
            ⟨a', n', c', R, by rw [hroom], (hR.below (fun b hb => hXl b (.inl hb)) hal).mono (fun b hb => h3 b (.inl (.inl hb))) (fun _ h => h), hRf, by rw [← hR.len, ← List.length_map (f := FR.f), hRf]; have := hg.small.files; have := Hf1.out; omega⟩
            (fun b hb => by have := hXl b (.inl hb); omega) hg.plan hg.sorted l[j] pb cb pk ck (hx0.bytes.grow hb3) (hx0.nums.grow hb3) hx0.wn hx0.w1 hx0.w2 (by have := hg.small.used; have := Hf2.out j; omega) (by have := Hbs.out j hjl; omega))
        have HX3 := Lib.hid (fun (w3 : World) (h3 : ∀ b, (X b ∨ b = w2.heap.size) ∨ b = wr.heap.size → w3.heap[b]? = (wr.alloc (.cells #[.int .i64 l[j].k, .string ⟨l[j].nm.toArray⟩, .string ⟨l[j].to.toArray⟩, .slice pb l[j].bs.length cb, .int .i64 l[j].n, .slice pk l[j].ks.length ck] 35)).heap[b]?) =>
          (show w3.heap[w2.heap.size]? = _ ∧ w3.heap[wr.heap.size]? = _ from ⟨(h3 _ (.inl (.inr rfl))).trans ((hal.block _ hsz).trans hbx), (h3 _ (.inr rfl)).trans hnew⟩))
        have Hbase := Lib.hid ho1.base
        have HXl := Lib.hid hXl
        have HXB := Lib.hid hXB
        unfold actV at HD HM
        unfold refV at HM
        generalize stepA l[j] (runA l (newM y) j) = r at *
        generalize (runA l (newM y) j).plan = pl at *
        generalize (runA l (newM y) j).down = dn at *
        generalize l[j] = z at *
        obtain ⟨k, nm, to, bs, nz, ks⟩ := z
        simp only at *
        have Hlt := Lib.hid hlt
        clear hx0 hxr hc ho hg hal hjl hlt hnew ho1 hR hRf hbx hXl hXB hroom
        go_wp2_with fail
        refine HD.out.mono ?_
        rintro e w3 ⟨p3, c3, rfl, hB3, ho3, hx3, _, hs3⟩
        have hs3' : wr.heap.size + 1 ≤ w3.heap.size := by simpa using hs3
        obtain ⟨hbx3, hact3⟩ := HX3.out w3 hx3
        have HM3 := Lib.hid (HM.out w3 hx3 hs3' ho3.base)
        have z0 : w3.cell? ⟨w2.heap.size, 0, none⟩ = some (.int .i64 ro) := by rw [cell_of_row _ _ _ _ _ (0, 0) hbx3]; rfl
        have z1 : w3.cell? ⟨w2.heap.size, 1, none⟩ = some (.slice a' n' c') := by rw [cell_of_row _ _ _ _ _ (0, 0) hbx3]; rfl
        have z2 : w3.cell? ⟨w2.heap.size, 2, none⟩ = some (.int .i64 (pl : Int)) := by rw [cell_of_row _ _ _ _ _ (0, 0) hbx3]; rfl
        have z3 : w3.cell? ⟨w2.heap.size, 3, none⟩ = some (.bool dn) := by rw [cell_of_row _ _ _ _ _ (0, 0) hbx3]; rfl
        have y0 : w3.cell? ⟨wr.heap.size, 0, none⟩ = some (.int .i64 k) := by rw [cell_of_row _ _ _ _ _ (0, 0) hact3]; rfl
        have y1 : w3.cell? ⟨wr.heap.size, 1, none⟩ = some (.string ⟨nm.toArray⟩) := by rw [cell_of_row _ _ _ _ _ (0, 0) hact3]; rfl
        have y2 : w3.cell? ⟨wr.heap.size, 2, none⟩ = some (.string ⟨to.toArray⟩) := by rw [cell_of_row _ _ _ _ _ (0, 0) hact3]; rfl
        have y3 : w3.cell? ⟨wr.heap.size, 3, none⟩ = some (.slice pb bs.length cb) := by rw [cell_of_row _ _ _ _ _ (0, 0) hact3]; rfl
        have y4 : w3.cell? ⟨wr.heap.size, 4, none⟩ = some (.int .i64 nz) := by rw [cell_of_row _ _ _ _ _ (0, 0) hact3]; rfl
        have y5 : w3.cell? ⟨wr.heap.size, 5, none⟩ = some (.slice pk ks.length ck) := by rw [cell_of_row _ _ _ _ _ (0, 0) hact3]; rfl
        have HB3 := Lib.hid hB3
        have Ho3 := Lib.hid ho3
        have Hs3 := Lib.hid hs3'
        have Hbx3 := Lib.hid hbx3
        have Hsz := Lib.hid hsz
        clear hB3 ho3 hx3 hs3 hs3' hbx3 hact3 HD HM HX3 k0 k1 k2 k3 k4 k5
        go_wp2_with fail
        refine HM3.out.mono ?_
        rintro e w4 ⟨a4, n4, c4, R4, p4, cp4, rfl, hR4, hRf4, hB4, hb4⟩
        have hBlt3 : w2.heap.size < w3.heap.size := by have := Hs3.out; have := Hsz.out; omega
        have hbx4 := (hb4.block _ hBlt3).trans Hbx3.out
        have hBlt4 : w2.heap.size < w4.heap.size := Nat.lt_of_lt_of_le hBlt3 hb4.size
        have h5 : ∀ o, (w4.alloc o).heap[w2.heap.size]? = some (.cells #[.int .i64 ro, .slice a' n' c', .int .i64 (pl : Int), .bool dn] 29 (0, 0)) := fun o => (Below.heap_alloc _ _ _ hBlt4).trans hbx4
        have C0 : ∀ o, (w4.alloc o).cell? ⟨w2.heap.size, 0, none⟩ = some (.int .i64 ro) := fun o => by rw [cell_of_row _ _ _ _ _ (0, 0) (h5 o)]; rfl
        have C1 : ∀ o, (w4.alloc o).cell? ⟨w2.heap.size, 1, none⟩ = some (.slice a' n' c') := fun o => by rw [cell_of_row _ _ _ _ _ (0, 0) (h5 o)]; rfl
        have C2 : ∀ o, (w4.alloc o).cell? ⟨w2.heap.size, 2, none⟩ = some (.int .i64 (pl : Int)) := fun o => by rw [cell_of_row _ _ _ _ _ (0, 0) (h5 o)]; rfl
        have C3 : ∀ o, (w4.alloc o).cell? ⟨w2.heap.size, 3, none⟩ = some (.bool dn) := fun o => by rw [cell_of_row _ _ _ _ _ (0, 0) (h5 o)]; rfl
        have FZ : ∀ o i, (w4.alloc o).frozen? ⟨w2.heap.size, i, none⟩ = false := fun o i => by simp [World.frozen?, h5 o]
        have ho4 : Own w (fun b => (X b ∨ (w3.heap.size ≤ b ∧ b < w4.heap.size)) ∨ b = w2.heap.size) w4 d r.1 := Ho3.out.more hb4 (fun b hb => by
          rcases hb with (h | h) | h
          · exact .inl (.inl (.inl h))
          · exact .inr h
          · exact .inl (.inl (.inr h)))
        have hw2 : w.heap.size ≤ w2.heap.size := Hb2.out.size
        have H6 : ∀ o v0 v1 v2 v3, ((((w4.alloc o).setCell ⟨w2.heap.size, 0, none⟩ v0).setCell ⟨w2.heap.size, 1, none⟩ v1).setCell ⟨w2.heap.size, 2, none⟩ v2).setCell ⟨w2.heap.size, 3, none⟩ v3 |>.heap[w2.heap.size]? = some (.cells #[v0, v1, v2, v3] 29 (0, 0)) := fun o v0 v1 v2 v3 => box_set (h5 o) v0 v1 v2 v3
        have K6 : ∀ o v0 v1 v2 v3, ∀ b, b < w4.heap.size → b ≠ w2.heap.size → (((((w4.alloc o).setCell ⟨w2.heap.size, 0, none⟩ v0).setCell ⟨w2.heap.size, 1, none⟩ v1).setCell ⟨w2.heap.size, 2, none⟩ v2).setCell ⟨w2.heap.size, 3, none⟩ v3).heap[b]? = w4.heap[b]? := fun o v0 v1 v2 v3 b hb hne => by
          repeat rw [Below.heap_setCell _ _ _ _ (by simpa using hne)]
          exact Below.heap_alloc _ _ _ hb
        have O6 : ∀ o v0 v1 v2 v3, Own w (fun b => (X b ∨ (w3.heap.size ≤ b ∧ b < w4.heap.size)) ∨ b = w2.heap.size) (((((w4.alloc o).setCell ⟨w2.heap.size, 0, none⟩ v0).setCell ⟨w2.heap.size, 1, none⟩ v1).setCell ⟨w2.heap.size, 2, none⟩ v2).setCell ⟨w2.heap.size, 3, none⟩ v3) d r.1 := fun o v0 v1 v2 v3 =>
          ((((ho4.below ((Below.refl _ _).alloc (Nat.le_refl _) o)).set (.inr rfl) hw2 _ _).set (.inr rfl) hw2 _ _).set (.inr rfl) hw2 _ _).set (.inr rfl) hw2 _ _
        have hYB : ¬ (X w2.heap.size ∨ (w3.heap.size ≤ w2.heap.size ∧ w2.heap.size < w4.heap.size)) := fun h => by
          rcases h with h | h
          · exact HXB.out h
          · omega
        have hR4' : ∀ o v0 v1 v2 v3, RowF (fun b => X b ∨ (w3.heap.size ≤ b ∧ b < w4.heap.size)) (((((w4.alloc o).setCell ⟨w2.heap.size, 0, none⟩ v0).setCell ⟨w2.heap.size, 1, none⟩ v1).setCell ⟨w2.heap.size, 2, none⟩ v2).setCell ⟨w2.heap.size, 3, none⟩ v3) a4 n4 c4 R4 := fun o v0 v1 v2 v3 =>
          hR4.mono (fun b hb => K6 o v0 v1 v2 v3 b hb.2 (fun e => hYB (by rw [e] at hb; exact hb.1.imp id (fun h => ⟨h, hb.2⟩)))) (fun b hb => hb.1.imp id (fun h => ⟨h, hb.2⟩))
        have HQ := Lib.hid (fun o v0 v1 v2 v3 => (HE.out (((((w4.alloc o).setCell ⟨w2.heap.size, 0, none⟩ v0).setCell ⟨w2.heap.size, 1, none⟩ v1).setCell ⟨w2.heap.size, 2, none⟩ v2).setCell ⟨w2.heap.size, 3, none⟩ v3) _ _ _ _ _ _ _
            (bytes_box HB3.out Hbx3.out (fun b hb hne => (K6 o v0 v1 v2 v3 b (Nat.lt_of_lt_of_le hb hb4.size) hne).trans (hb4.block b hb)))
            (bytes_box hB4 hbx4 (fun b hb hne => K6 o v0 v1 v2 v3 b hb hne))).mono
          (fun e w7 (hq : e = .returned (.bool true) ∧ Below _ _ w7) => (show e = .returned (.bool true) ∧ w7.heap[w2.heap.size]? = some (.cells #[v0, v1, v2, v3] 29 (0, 0)) ∧
              Own w (fun b => (X b ∨ (w3.heap.size ≤ b ∧ b < w4.heap.size)) ∨ b = w2.heap.size) w7 d r.1 ∧ RowF (fun b => X b ∨ (w3.heap.size ≤ b ∧ b < w4.heap.size)) w7 a4 n4 c4 R4 from
            ⟨hq.1, (hq.2.block _ (Array.getElem?_eq_some_iff.1 (H6 o v0 v1 v2 v3)).1).trans (H6 o v0 v1 v2 v3), (O6 o v0 v1 v2 v3).below hq.2,
              (hR4' o v0 v1 v2 v3).below (fun b hb => by obtain ⟨_, _, _, h, _⟩ := O6 o v0 v1 v2 v3; exact h b (.inl hb)) hq.2⟩)))
        have hq : (r.2.1 != r.2.1) = false := by simp
        have HYB := Lib.hid hYB
        have HRf4 := Lib.hid hRf4
        clear hYB hR4' hR4 hB4 hRf4 hb4 hbx4 h5 ho4 hw2 H6 K6 O6 z0 z1 z2 z3 y0 y1 y2 y3 y4 y5 hBlt3 hBlt4 hsz
        unfold refV
        rw [Hrm.out]
        generalize hp6 : (r.1.plan : Int) = pl6 at *
        generalize hd6 : r.1.down = dn6 at *
        generalize hc6 : r.2.1 = cd at *
        have Hp6 := Lib.hid hp6
        have Hd6 := Lib.hid hd6
        clear hp6 hd6 hc6
        go_wp2_with fail
        refine (HQ.out _ _ _ _ _).mono ?_
        rintro e w7 ⟨rfl, hbx7, ho7, hR7⟩
        have hgd := Hnx.out _ w7 ho7
        have hs1 := hgd.small
        rw [Hru.out] at hs1
        have hY7 : ∀ b, X b ∨ (w3.heap.size ≤ b ∧ b < w4.heap.size) → b < w7.heap.size := by
          obtain ⟨_, _, _, h, _⟩ := ho7
          exact fun b hb => h b (.inl hb)
        have HS := Lib.hid (dsame_any ho7 hR7 hY7 HRf4.out (by have := hs1.files; have := Hf1.out; have := Hlt.out; have := hls.out; omega) (by have := hs1.used; have := Hf2.out (j + 1); omega))
        rw [Hrm.out, Hp6.out, Hd6.out] at HS
        unfold refV at HS
        have f0 : w7.cell? ⟨w2.heap.size, 0, none⟩ = some (.int .i64 ro) := by rw [cell_of_row _ _ _ _ _ (0, 0) hbx7]; rfl
        have f1 : w7.cell? ⟨w2.heap.size, 1, none⟩ = some (.slice a4 n4 c4) := by rw [cell_of_row _ _ _ _ _ (0, 0) hbx7]; rfl
        have f2 : w7.cell? ⟨w2.heap.size, 2, none⟩ = some (.int .i64 pl6) := by rw [cell_of_row _ _ _ _ _ (0, 0) hbx7]; rfl
        have f3 : w7.cell? ⟨w2.heap.size, 3, none⟩ = some (.bool dn6) := by rw [cell_of_row _ _ _ _ _ (0, 0) hbx7]; rfl
        have Hgd := Lib.hid hgd
        have Ho7 := Lib.hid ho7
        have HR7 := Lib.hid hR7
        have HY7 := Lib.hid hY7
        have Hbx7 := Lib.hid hbx7
        clear hgd hs1 hY7 ho7 hR7 hbx7 HQ HM3 C0 C1 C2 C3 FZ
        go_wp2_with fail
        refine HS.out.mono ?_
        rintro e w8 ⟨rfl, hb8⟩
        have Hb8 := Lib.hid hb8
        clear hb8
        go_wp2
        go_roundw
        case rel => exact ⟨j + 1, _, a4, n4, c4, R4, Hlt.out, by go_num, HYB.out, by rw [Hru.out]; exact Ho7.out.below Hb8.out, Hgd.out, by
          rw [Hru.out, Hp6.out, Hd6.out]
          exact (Hb8.out.block _ (Array.getElem?_eq_some_iff.1 Hbx7.out).1).trans Hbx7.out, HR7.out.below HY7.out Hb8.out, by rw [Hru.out]; exact HRf4.out⟩
        case measure => simp [intOf]; have := Hlt.out; omega
      · obtain rfl : j = n := by omega
        have Hb := Lib.hid ho.base
        clear ho hg hbx hR hRf hXB hXl hsz hroom hlt
        go_wp2_with fail
        refine (HA.out _).mono ?_
        rintro e w9 ⟨rfl, hb9⟩
        have Hb9 := Lib.hid (Hb.out.trans (hb9.mono Hb.out.size))
        clear hb9
        go_wp2
        go_ret
        exact ⟨rfl, Hb9.out⟩
end Go.Proofs.Ytdnbjpfapfnpaaa
