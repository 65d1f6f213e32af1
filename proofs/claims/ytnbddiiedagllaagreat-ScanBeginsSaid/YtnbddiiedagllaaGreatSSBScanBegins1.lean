import Derived.Test.YtnbddiiedagllaaGreatSSB43
import Derived.Test.YtnbddiiedagllaaGreatSSB45
import Derived.Test.YtnbddiiedagllaaGreatSSB46
import Derived.Test.YtnbddiiedagllaaGreatSSB41
import Derived.Test.YtnbddiiedagllaaGreatSSB29
import Derived.Deep.RegionHeld3
/- The statement ScanBegins answers true. -/
namespace Go.Proofs.YtnbddiiedagllaaGreat
open Go.RowKit Go.Maps Go.Shelf

attribute [local go_sem ↓] Go.wp_at_zero Go.wp_at_succ

theorem beg_measure {j n : Nat} (h : j < n) (h6 : n ≤ 60) : n - (intOf (.int .i64 (wrap64 ((j : Int) + 1)))).toNat < n - (intOf (.int .i64 (j : Int))).toNat := by
 rw [wrap64_ok _ ⟨by omega, by omega⟩]
 simp [intOf]
 omega

def BegRel (w1 : World) (g d B : Nat) (most : Int) (s : Nat) (ls : List (List Nat)) (n : Nat) (v dr i : Value) (wr : World) : Prop :=
 ∃ j, j ≤ n ∧ i = .int .i64 (j : Int) ∧ dr = .int .i64 (duB most s ls j : Int) ∧ BothV w1 (fun b => v.ownBlock = some b) (fun b => v.ownBlock = some b) wr g d B (stB (startW 100000 most) s ls j) (stB (startW 100000 most) s ls j) wr ∧ PartsZ (fun b => b < w1.heap.size) wr w1.heap.size v (takeP most (ls.take j))

set_option maxRecDepth 100000 in
set_option maxHeartbeats 12800000 in
theorem scanBegins_any (x s : Nat) (hx : x < 256) (hs : s < 256) (p : Option Addr) (n cap : Nat) (ls : List (List Nat)) (ak : Option Addr) (nk ck : Nat) (ks : List Int) (w : World) (hl : Parts w p n cap ls) (hk : Nums w ak nk ck ks) :
  Calls Tryz.prog 6 #[.agg #[.int .u8 (x : Int), .int .u8 (s : Int)], .slice p n cap, .slice ak nk ck] w fun e w' => e = .returned (.bool true) ∧ Below w.heap.size w w' := by
 obtain ⟨wa, hw1⟩ : ∃ wa, wa = w.alloc (.cells #[.int .u8 (x : Int), .int .u8 (s : Int)] 55) := ⟨_, rfl⟩
 have hb1 : Below w.heap.size w wa := by rw [hw1]; exact (Below.refl _ _).alloc (Nat.le_refl _) _
 have hB1 : wa.heap[w.heap.size]? = some (.cells #[.int .u8 (x : Int), .int .u8 (s : Int)] 55 (0, 0)) := by rw [hw1]; exact heap_alloc_new _ _
 have k0 : wa.cell? ⟨w.heap.size, 0, none⟩ = some (.int .u8 (x : Int)) := by rw [cell_of_row _ _ _ _ _ (0, 0) hB1]; rfl
 have k1 : wa.cell? ⟨w.heap.size, 1, none⟩ = some (.int .u8 (s : Int)) := by rw [cell_of_row _ _ _ _ _ (0, 0) hB1]; rfl
 have hln := hl.len
 have Hw1 := Lib.hid hw1
 have HA := Lib.hid (And.intro hl (And.intro hk hb1))
 clear hl hk hb1 hw1 hB1
 go_enter Tryz.func6, Tryz.ntmps6
 go_wp2_with fail
 rw [← Hw1.out]
 go_region
 go_wp2_with fail
 obtain ⟨hl, hk, hb0⟩ := HA.out
 have hb1 : Below w.heap.size w wa.drew := hb0.trans ((Below.refl wa.heap.size wa).drew.mono hb0.size)
 obtain ⟨w1, hw1⟩ : ∃ w1, w1 = wa.drew := ⟨_, rfl⟩
 rw [← hw1] at hb1
 rw [← hw1]
 have HP := Lib.hid (fun W (hW : Below w1.heap.size w1 W) => hl.grow (hb1.trans (hW.mono hb1.size)))
 have HNu := Lib.hid (fun W (hW : Below w1.heap.size w1 W) => hk.grow (hb1.trans (hW.mono hb1.size)))
 have HFew := Lib.hid (fun W (hW : Below w1.heap.size w1 W) => fewF_any p n cap ls W (HP.out W hW))
 have Hkb := Lib.hid (show ∀ x, 0 < nk → ak = some x → x.block < w1.heap.size from fun x h0 e => by
  obtain ⟨b, o, rfl, hc⟩ := hk.cell h0
  cases e
  exact Nat.lt_of_lt_of_le (World.block_lt_of_cell? _ _ (hc 0 h0)) hb1.size)
 have Hb1 := Lib.hid hb1
 have Hln := Lib.hid hln
 clear hl hk hb0 hb1 hw1 HA Hw1 hln k0 k1
 refine (HFew.out _ (Below.refl _ _)).mono ?_
 rintro e w2 ⟨⟨b1, rfl, hf1⟩, rfl⟩
 cases b1 with
 | false =>
  clear hf1
  go_wp2_with fail
  refine (salive_any _).mono ?_
  rintro e w3 ⟨rfl, hb3⟩
  have Hb3 := Lib.hid (Hb1.out.trans (hb3.mono Hb1.out.size))
  clear hb3
  go_wp2
  go_ret
  exact ⟨rfl, Hb3.out⟩
 | true =>
  obtain ⟨hs1, hc1⟩ := few_size (hf1 rfl)
  by_cases hk30 : (30 : Int) < (nk : Int)
  ·clear hf1 hs1 hc1
   go_wp2_with fail
   refine (salive_any _).mono ?_
   rintro e w3 ⟨rfl, hb3⟩
   have Hb3 := Lib.hid (Hb1.out.trans (hb3.mono Hb1.out.size))
   clear hb3
   go_wp2
   go_ret
   exact ⟨rfl, Hb3.out⟩
  have HN := Lib.hid (own_new 100000 w1 (by omega))
  have HS := Lib.hid (And.intro hs1 hc1)
  clear hf1 hs1 hc1 HFew
  go_wp2_with fail
  refine HN.out.mono ?_
  rintro e w2 ⟨d, rfl, ho2, hb2⟩
  have HSO := Lib.hid (sopen_any ho2 rfl (by show 0 ≤ 900; omega) ((neat_new 100000).mono (N' := 900) (U' := 9000) (by omega) (by omega)) (by omega) (fun f hf => by cases hf) [] (allOf_new 100000) (x : Int))
  clear ho2 hb2 HN
  go_wp2_with fail
  refine HSO.out.mono ?_
  rintro e w3 ⟨r, hr', hE⟩
  obtain rfl := open_new hr'
  rcases hE with ⟨hz, _⟩ | ⟨_, g, ra, rc, Z, rfl, hZ, hg, hnZ, hL3, _, _⟩
  ·exact absurd rfl hz
  have HL3 := Lib.hid hL3
  clear hr' hZ hL3 hg hnZ HSO
  have hRO := fun W => rsopen_any (X := fun _ => False) (w := W) (M := newM 100000) (rowF_nil _ W) (fun _ h => h.elim) rfl (by omega) ((neat_new 100000).mono (N' := 900) (U' := 9000) (by omega) (by omega)) (by omega) rfl (fun f hf => by cases hf) (x : Int) [] (allOf_new 100000)
  have e0 : refV ((newM 100000).room : Int) none 0 0 ((newM 100000).plan : Int) (newM 100000).down = .agg #[.int .i64 100000, .slice none 0 0, .int .i64 0, .bool false] := by
   unfold refV newM
   rfl
  rw [e0] at hRO
  have HRO := Lib.hid hRO
  clear hRO e0
  go_wp2_with fail
  refine (HRO.out _).mono ?_
  rintro e w4 ⟨r, hr', a4, n4, c4, R4, hR4, hf4, hb4, hcase⟩
  obtain rfl := open_new hr'
  rcases hcase with ⟨h, _⟩ | ⟨_, va, vc, rfl, _⟩
  ·exact absurd rfl h
  unfold logV
  have hL3 : LogAt w1 (fun b => False ∨ Z b ∨ b = g) w3 g d (startW 100000 (x : Int)) := HL3.out
  have hg3 := HL3.out.lt
  have hLf : (startW 100000 (x : Int)).D.fs.length ≤ 1000000 := by have := (tidy_start 100000 (x : Int)).neat.small.files; omega
  have hbo := StartEnd.both (w := w1) (T := fun b => (Value.slice none 0 0).ownBlock = some b) (W := startW 100000 (x : Int)) (hL3.all hb4) hR4 hf4 (fun b hb => ⟨.inr ⟨hb.1.resolve_left (fun h => h), hb.2⟩, by have := hb.1.resolve_left (fun h => h); omega, fun h => by cases h⟩) hLf (fun b h => by cases h) (fun h => by cases h)
  have e5 : logO ((startW 100000 (x : Int)).D.room : Int) a4 n4 c4 ((startW 100000 (x : Int)).D.plan : Int) (startW 100000 (x : Int)).D.down (startW 100000 (x : Int)).most ((startW 100000 (x : Int)).n : Int) ((startW 100000 (x : Int)).size : Int) ((startW 100000 (x : Int)).wait : Int) = .cells #[.int .i64 ((startW 100000 0).D.room : Int), .slice a4 n4 c4, .int .i64 ((startW 100000 0).D.plan : Int), .bool (startW 100000 0).D.down, .int .i64 (x : Int), .int .i64 1, .int .i64 0, .int .i64 0] 47 := rfl
  rw [e5] at hbo
  obtain ⟨D0, hD0⟩ : ∃ D0, D0 = (startW 100000 0).D := ⟨_, rfl⟩
  rw [← hD0] at hbo
  simp only [← hD0]
  obtain ⟨w5, hw5⟩ : ∃ w5, w5 = w4.alloc (.cells #[.int .i64 (D0.room : Int), .slice a4 n4 c4, .int .i64 (D0.plan : Int), .bool D0.down, .int .i64 (x : Int), .int .i64 1, .int .i64 0, .int .i64 0] 47) := ⟨_, rfl⟩
  rw [← hw5] at hbo
  have Hbo := Lib.hid hbo
  have Hw5 := Lib.hid hw5
  have Hbeg := Lib.hid (beg_ok (x : Int) s ls (by have := HS.out.1; omega) HS.out.2)
  clear hbo hw5 e5 hLf hL3 hg3 hD0 HL3 hR4 hf4 hb4 hr' HRO
  obtain ⟨i0, hi, hz0, hz1, hz2⟩ := info_parts info_rows
  go_wp2_with fail
  rw [← Hw5.out]
  clear Hw5
  go_loopw [16, 17, 62] (fun v dr i wr => BegRel w1 g d w4.heap.size (x : Int) s ls n v dr i wr) (fun v dr i _ => n - (intOf i).toNat)
  case atStart => exact ⟨0, Nat.zero_le _, rfl, rfl, Hbo.out.anew, PartsZ.nil _ _ _⟩
  case round =>
   obtain ⟨j, hj, rfl, rfl, hbo, hW⟩ := hrel
   have hln := Hln.out
   obtain ⟨hok, hcode⟩ := Hbeg.out j (by omega)
   have htd0 := hok.tidy
   have hsj := sizeL_takes ls j
   have hS1 := HS.out
   have htd : Tidy (stB (startW 100000 (x : Int)) s ls j) 241 2000 61 2000 60 100000 (x : Int) := htd0.mono (by omega) (by omega) (by omega) (by omega) (by omega)
   by_cases hlt : j < n
   ·have hkl : j < ls.length := by omega
    have hcode := hcode hkl
    obtain ⟨b, o, a', n', c', rfl, hc, hB⟩ := bytes_get_all (HP.out w1 (Below.refl _ _)) hlt
    have hcw := hc
    have hc := cell_keep hbo.base hc
    have hgd : ls.getD j [] = ls[j] := by rw [List.getD_eq_getElem?_getD, List.getElem?_eq_getElem hkl]; rfl
    rw [hgd] at hB
    have hst := stB_next (startW 100000 (x : Int)) s ls hkl
    have hdu := duB_next (x : Int) s ls j
    have htd1 := tidy_put htd ls[j]
    have hlj : ls[j].length ≤ 2000 := by have := sizeL_memC (List.getElem_mem hkl); omega
    obtain ⟨W0, hW0⟩ : ∃ W0, W0 = stB (startW 100000 (x : Int)) s ls j := ⟨_, rfl⟩
    rw [← hW0] at hbo htd htd1 hst hcode
    have hlz : (duB (x : Int) s ls j : Int) = (duB (x : Int) s ls j : Int) := rfl
    obtain ⟨tj, htj⟩ : ∃ tj, tj = takeP (x : Int) (ls.take j) := ⟨_, rfl⟩
    obtain ⟨tk, htk⟩ : ∃ tk, tk = takeP (x : Int) (ls.take (j + 1)) := ⟨_, rfl⟩
    have htl : tj.length ≤ 60 := by rw [htj]; have := takeP_len (x : Int) ls j; omega
    rw [← htj] at hW hcode
    rw [← htk] at hcode hdu
    clear hgd hlz
    generalize ls[j] = l at *
    have HBy := Lib.hid (fun W (hW : Below w1.heap.size w1 W) => hB.grow hW)
    obtain ⟨X5, a2, n2, c2, hcells, hrl, _, hX5, hnx5⟩ := hbo.stepBox
    have hrp := rwput_any hrl hX5 htd.neat.plan htd.neat.sorted (by have := htd.neat.small.used; omega) htd.n1 (by have := htd.n2; omega) (by have := htd.size; omega) (by have := htd.wait; omega) (by have := htd.neat.small.files; omega) a' n' c' l (HBy.out _ hbo.base)
    unfold RLogEnd at hrp
    obtain ⟨W1, hW1⟩ : ∃ W1, W1 = (putW W0 l).1 := ⟨_, rfl⟩
    obtain ⟨z1, hz1⟩ : ∃ z1, z1 = (putW W0 l).2 := ⟨_, rfl⟩
    have hpz : putW W0 l = (W1, z1) := by rw [hW1, hz1]
    rw [← hW1] at hst htd1
    rw [← hz1] at hcode
    rw [hpz] at hrp
    have hbase := hbo.base
    have HRP := Lib.hid hrp
    unfold logO at hcells
    unfold logV at HRP
    obtain ⟨g0, g1, g2, g3, g4, g5, g6, g7, gf⟩ := box8 hcells
    have Hcells := Lib.hid hcells
    have Hnx := Lib.hid (hnx5 W1)
    have Htd := Lib.hid htd
    have Htd1 := Lib.hid htd1
    have Hst := Lib.hid hst
    have Hdu := Lib.hid hdu
    have Hcode := Lib.hid hcode
    have HW := Lib.hid hW
    have Hbase := Lib.hid hbase
    have Hpz := Lib.hid hpz
    have Hlt := Lib.hid hlt
    have Htl := Lib.hid htl
    have Htk := Lib.hid htk
    have HPB := Lib.hid (fun (h0 : 0 < n') x0 (e : a' = some x0) => (show x0.block < w1.heap.size from by
     obtain ⟨b, o, e2, hc⟩ := hB.cell h0
     rw [e] at e2
     cases e2
     exact World.block_lt_of_cell? _ _ (hc 0 h0)))
    have hji : (j : Int) < (n : Int) := by omega
    have hlj2 := Lib.hid hlj
    clear hB hcells hrl hX5 hnx5 hrp htd htd1 htd0 hst hdu hcode hW hbase hpz hok hsj hS1 hln hkl hlt htl htk htj hbo hW0 hW1 hz1 hlj
    go_wp2_with fail
    refine HRP.out.mono ?_
    rintro e w5b ⟨a5, n5, c5, R5, rfl, hR5, hf5, hb5⟩
    have hfl1 := Htd1.out.neat.small.files
    have hbo6 := Hnx.out w5b a5 n5 c5 R5 hb5 hR5 hf5 (by omega)
    unfold set8 at hbo6
    obtain ⟨w6, hw6⟩ : ∃ w6, w6 = ((((((((w5b.setCell ⟨w4.heap.size, 0, none⟩ (.int .i64 (W1.D.room : Int))).setCell ⟨w4.heap.size, 1, none⟩ (.slice a5 n5 c5)).setCell ⟨w4.heap.size, 2, none⟩ (.int .i64 (W1.D.plan : Int))).setCell ⟨w4.heap.size, 3, none⟩ (.bool W1.D.down)).setCell ⟨w4.heap.size, 4, none⟩ (.int .i64 W1.most)).setCell ⟨w4.heap.size, 5, none⟩ (.int .i64 (W1.n : Int))).setCell ⟨w4.heap.size, 6, none⟩ (.int .i64 (W1.size : Int))).setCell ⟨w4.heap.size, 7, none⟩ (.int .i64 (W1.wait : Int))) := ⟨_, rfl⟩
    rw [← hw6] at hbo6
    obtain ⟨f0, f1, f2, f3, f4, f5, f6, f7, ff⟩ := box8 ((hb5.block _ (Array.getElem?_eq_some_iff.1 Hcells.out).1).trans Hcells.out)
    obtain ⟨Y6, hL6, _, hn6, _⟩ := hbo6.stepLog (Below.refl _ _)
    have hpt := put_any hL6 a' n' c' l (HBy.out w6 hbo6.base) Htd.out.n1 (by have := Htd.out.n2; omega) (by have := Htd.out.size; omega) (by have := Htd.out.wait; omega) (by rw [Htd.out.most]; omega) (by rw [Htd.out.most]; omega) (by have := Htd.out.neat.small.files; omega) (by rw [Htd.out.rm]; decide)
    rw [Hpz.out] at hpt
    have HPt := Lib.hid hpt
    have Hn6 := Lib.hid (hn6 W1)
    have Hw6 := Lib.hid hw6
    clear hR5 hf5 hb5 hfl1 hbo6 hw6 hL6 hn6 hpt g0 g1 g2 g3 g4 g5 g6 g7 gf HRP Hnx Hcells
    clear hc hcw hji
    rcases Hcode.out with ⟨hz, ht⟩ | ⟨hz, ht⟩
    ·have hzb : (z1 == 0) = false := by rw [beq_eq_false_iff_ne]; exact hz
     subst ht
     clear hz Hcode
     go_wp2_with fail
     rw [← Hw6.out]
     clear Hw6 f0 f1 f2 f3 f4 f5 f6 f7 ff
     refine HPt.out.mono ?_
     rintro e w7 ⟨rfl, hE7⟩
     have hbo7 := Hn6.out w7 hE7
     have hW7 := hbo7.wantStays HW.out Hbase.out
     have hb7 := hbo7.base
     have hbo7 := hbo7.anew
     obtain ⟨q7, k7, rfl, _⟩ := hW7.own.parts
     have HW7 := Lib.hid hW7
     have Hb7 := Lib.hid hb7
     clear hE7 hW7 hb7 HPt Hn6 HW
     by_cases hjs : j = s
     ·have hjs2 : ((j : Int) == (s : Int)) = true := by simp [hjs]
      have hst := Hst.out
      have hdu := Hdu.out
      rw [if_pos hjs] at hst hdu
      obtain ⟨X8, a8, n8, c8, hcells, hrl, _, hX8, hnx8⟩ := hbo7.stepBox
      have hrs := rwsync_any hrl hX8 Htd1.out.neat.plan Htd1.out.neat.sorted (by have := Htd1.out.neat.small.used; have := hlj2.out; omega) Htd1.out.n1 (by have := Htd1.out.n2; omega)
      unfold RLogEnd at hrs
      have htd2 := tidy_sync Htd1.out
      obtain ⟨W2, hW2⟩ : ∃ W2, W2 = (syncW W1).1 := ⟨_, rfl⟩
      obtain ⟨z2, hz2⟩ : ∃ z2, z2 = (syncW W1).2 := ⟨_, rfl⟩
      have hsz : syncW W1 = (W2, z2) := by rw [hW2, hz2]
      rw [hsz] at hrs
      rw [← hW2] at hst htd2
      have HRS := Lib.hid hrs
      unfold logO at hcells
      unfold logV at HRS
      obtain ⟨g0, g1, g2, g3, g4, g5, g6, g7, gf⟩ := box8 hcells
      have Hcells := Lib.hid hcells
      have Hnx8 := Lib.hid (hnx8 W2)
      have Htd2 := Lib.hid htd2
      have Hst2 := Lib.hid hst
      have Hdu2 := Lib.hid hdu
      have Hsz := Lib.hid hsz
      have Hjs := Lib.hid hjs
      clear hcells hrl hX8 hnx8 hrs htd2 hst hdu hsz hW2 hz2 hbo7 hjs
      go_wp2_with fail
      refine HRS.out.mono ?_
      rintro e w8 ⟨a9, n9, c9, R9, rfl, hR9, hf9, hb9⟩
      have hfl2 := Htd2.out.neat.small.files
      have hbo9 := Hnx8.out w8 a9 n9 c9 R9 hb9 hR9 hf9 (by omega)
      unfold set8 at hbo9
      obtain ⟨w9, hw9⟩ : ∃ w9, w9 = ((((((((w8.setCell ⟨w4.heap.size, 0, none⟩ (.int .i64 (W2.D.room : Int))).setCell ⟨w4.heap.size, 1, none⟩ (.slice a9 n9 c9)).setCell ⟨w4.heap.size, 2, none⟩ (.int .i64 (W2.D.plan : Int))).setCell ⟨w4.heap.size, 3, none⟩ (.bool W2.D.down)).setCell ⟨w4.heap.size, 4, none⟩ (.int .i64 W2.most)).setCell ⟨w4.heap.size, 5, none⟩ (.int .i64 (W2.n : Int))).setCell ⟨w4.heap.size, 6, none⟩ (.int .i64 (W2.size : Int))).setCell ⟨w4.heap.size, 7, none⟩ (.int .i64 (W2.wait : Int))) := ⟨_, rfl⟩
      rw [← hw9] at hbo9
      obtain ⟨f0, f1, f2, f3, f4, f5, f6, f7, ff⟩ := box8 ((hb9.block _ (Array.getElem?_eq_some_iff.1 Hcells.out).1).trans Hcells.out)
      obtain ⟨Y9, hL9, _, hn9, _⟩ := hbo9.stepLog (Below.refl _ _)
      have hsy := wsync_any hL9 Htd1.out.n1 (by have := Htd1.out.n2; omega)
      rw [Hsz.out] at hsy
      have HSy := Lib.hid hsy
      have Hn9 := Lib.hid (hn9 W2)
      have Hw9 := Lib.hid hw9
      clear hR9 hf9 hb9 hfl2 hbo9 hw9 hL9 hn9 hsy g0 g1 g2 g3 g4 g5 g6 g7 gf HRS Hnx8 Hcells
      go_wp2_with fail
      rw [← Hw9.out]
      clear Hw9 f0 f1 f2 f3 f4 f5 f6 f7 ff
      refine HSy.out.mono ?_
      rintro e w10 ⟨rfl, hE10⟩
      have hbo10 := Hn9.out w10 hE10
      have Hbo10 := Lib.hid hbo10
      clear hE10 hbo10 HSy Hn9
      go_wp2
      have hjn := Hlt.out
      have hn6 : n ≤ 60 := by have h1 := HS.out.2; have h2 := Hln.out; omega
      have hwr := Lib.hid (show wrap64 ((j : Int) + 1) = (j : Int) + 1 from wrap64_ok _ ⟨by omega, by omega⟩)
      go_roundw
      case rel =>
       refine ⟨j + 1, Hlt.out, ?_, ?_, ?_, ?_⟩
       ·rw [hwr.out]; rfl
       ·rw [Hdu2.out]
       ·rw [Hst2.out]; exact Hbo10.out.anew
       ·rw [← Htk.out]; exact Hbo10.out.wantStays HW7.out Hb7.out
      case measure => exact beg_measure Hlt.out hn6
     ·have hjs2 : ((j : Int) == (s : Int)) = false := by rw [beq_eq_false_iff_ne]; omega
      have hst := Hst.out
      have hdu := Hdu.out
      rw [if_neg hjs] at hst hdu
      have Hst2 := Lib.hid hst
      have Hdu2 := Lib.hid hdu
      have Hbo7 := Lib.hid hbo7
      clear hst hdu hbo7 hjs
      go_wp2
      have hjn := Hlt.out
      have hn6 : n ≤ 60 := by have h1 := HS.out.2; have h2 := Hln.out; omega
      have hwr := Lib.hid (show wrap64 ((j : Int) + 1) = (j : Int) + 1 from wrap64_ok _ ⟨by omega, by omega⟩)
      go_roundw
      case rel =>
       refine ⟨j + 1, Hlt.out, ?_, ?_, ?_, ?_⟩
       ·rw [hwr.out]; rfl
       ·rw [Hdu2.out]
       ·rw [Hst2.out]; exact Hbo7.out.anew
       ·rw [← Htk.out]; exact HW7.out
      case measure => exact beg_measure Hlt.out hn6
    ·subst hz
     have Ht := Lib.hid ht
     clear ht
     clear Hcode
     go_wp2_with fail
     rw [← Hw6.out]
     clear Hw6 f0 f1 f2 f3 f4 f5 f6 f7 ff
     refine HPt.out.mono ?_
     rintro e w7 ⟨rfl, hE7⟩
     have hbo7 := Hn6.out w7 hE7
     have hW7 := hbo7.wantStays HW.out Hbase.out
     have hb3 : Below w7.heap.size w7 (w7.alloc (.cells #[.slice a' n' c'] 58)) := (Below.refl _ _).alloc (Nat.le_refl _) _
     have hbo7b := hbo7.grow hb3
     obtain ⟨vs, hlen, hown, hel⟩ := hW7.grow hb3
     have Hbo7b := Lib.hid hbo7b
     have Hown := Lib.hid hown
     have Hel := Lib.hid hel
     have Hlen := Lib.hid hlen
     have Hs7 := Lib.hid hbo7.base.size
     have HB2 := Lib.hid (HBy.out _ hbo7b.base)
     clear hE7 hbo7 hW7 hb3 hbo7b hown hel hlen HPt Hn6 HW
     by_cases hjs : j = s
     ·have hjs2 : ((j : Int) == (s : Int)) = true := by simp [hjs]
      have Hjs0 := Lib.hid hjs
      clear hjs
      go_wp2_with (
       at_builtin
       refine wpList_append_own_at _ rfl _ _ 29 rfl w1.heap.size 58 i0 (.slice none 0 0) 1 24 Tryz.underlying29 hi hz0 hz1 hz2 rfl (by decide) _ _ _ rfl Hown.out ⟨w7.heap.size, 0, none⟩ 1 1 [.slice a' n' c'] rfl rfl (cell_one_new _ _ _) (by simp [Value.oneCell']) (by rw [maxLen_nat]; have := Htl.out; omega) (by have := Htl.out; omega) (by rw [World.size_alloc]; have := Hs7.out; omega) ?_
       intro v' w7c hown' hgrow _ hblk
       have hW7 : PartsZ (fun b => b < w1.heap.size) w7c w1.heap.size v' (tj ++ [l]) := PartsZ.snoc Hlen.out Hel.out HB2.out (fun h0 x0 e => by
        have h1 := HPB.out h0 x0 e
        refine ⟨fun e2 => ?_, h1⟩
        have := (Hown.out.lt _ e2.symm).1
        omega) hown' hgrow hblk
       rw [← Ht.out] at hW7
       have hbo7 := Hbo7b.out.wantMore hgrow (fun k hk => (Hown.out.lt k hk).1) hblk (fun k hk => (hown'.lt k hk).2)
       have hb7 := hbo7.base
       obtain ⟨q7, k7, rfl, _⟩ := hW7.own.parts
       have HW7 := Lib.hid hW7
       have Hb7 := Lib.hid hb7
       clear hown' hgrow hblk hW7 hb7 Hbo7b Hown Hel Hlen Hs7 HB2
       have hst := Hst.out
       have hdu := Hdu.out
       rw [if_pos Hjs0.out] at hst hdu
       obtain ⟨X8, a8, n8, c8, hcells, hrl, _, hX8, hnx8⟩ := hbo7.stepBox
       have hrs := rwsync_any hrl hX8 Htd1.out.neat.plan Htd1.out.neat.sorted (by have := Htd1.out.neat.small.used; have := hlj2.out; omega) Htd1.out.n1 (by have := Htd1.out.n2; omega)
       unfold RLogEnd at hrs
       have htd2 := tidy_sync Htd1.out
       obtain ⟨W2, hW2⟩ : ∃ W2, W2 = (syncW W1).1 := ⟨_, rfl⟩
       obtain ⟨z2, hz2⟩ : ∃ z2, z2 = (syncW W1).2 := ⟨_, rfl⟩
       have hsz : syncW W1 = (W2, z2) := by rw [hW2, hz2]
       rw [hsz] at hrs
       rw [← hW2] at hst htd2
       have HRS := Lib.hid hrs
       unfold logO at hcells
       unfold logV at HRS
       obtain ⟨g0, g1, g2, g3, g4, g5, g6, g7, gf⟩ := box8 hcells
       have Hcells := Lib.hid hcells
       have Hnx8 := Lib.hid (hnx8 W2)
       have Htd2 := Lib.hid htd2
       have Hst2 := Lib.hid hst
       have Hdu2 := Lib.hid hdu
       have Hsz := Lib.hid hsz
       clear hcells hrl hX8 hnx8 hrs htd2 hst hdu hsz hW2 hz2 hbo7)
      refine HRS.out.mono ?_
      rintro e w8 ⟨a9, n9, c9, R9, rfl, hR9, hf9, hb9⟩
      have hfl2 := Htd2.out.neat.small.files
      have hbo9 := Hnx8.out w8 a9 n9 c9 R9 hb9 hR9 hf9 (by omega)
      unfold set8 at hbo9
      obtain ⟨w9, hw9⟩ : ∃ w9, w9 = ((((((((w8.setCell ⟨w4.heap.size, 0, none⟩ (.int .i64 (W2.D.room : Int))).setCell ⟨w4.heap.size, 1, none⟩ (.slice a9 n9 c9)).setCell ⟨w4.heap.size, 2, none⟩ (.int .i64 (W2.D.plan : Int))).setCell ⟨w4.heap.size, 3, none⟩ (.bool W2.D.down)).setCell ⟨w4.heap.size, 4, none⟩ (.int .i64 W2.most)).setCell ⟨w4.heap.size, 5, none⟩ (.int .i64 (W2.n : Int))).setCell ⟨w4.heap.size, 6, none⟩ (.int .i64 (W2.size : Int))).setCell ⟨w4.heap.size, 7, none⟩ (.int .i64 (W2.wait : Int))) := ⟨_, rfl⟩
      rw [← hw9] at hbo9
      obtain ⟨f0, f1, f2, f3, f4, f5, f6, f7, ff⟩ := box8 ((hb9.block _ (Array.getElem?_eq_some_iff.1 Hcells.out).1).trans Hcells.out)
      obtain ⟨Y9, hL9, _, hn9, _⟩ := hbo9.stepLog (Below.refl _ _)
      have hsy := wsync_any hL9 Htd1.out.n1 (by have := Htd1.out.n2; omega)
      rw [Hsz.out] at hsy
      have HSy := Lib.hid hsy
      have Hn9 := Lib.hid (hn9 W2)
      have Hw9 := Lib.hid hw9
      clear hR9 hf9 hb9 hfl2 hbo9 hw9 hL9 hn9 hsy g0 g1 g2 g3 g4 g5 g6 g7 gf HRS Hnx8 Hcells
      go_wp2_with fail
      rw [← Hw9.out]
      clear Hw9 f0 f1 f2 f3 f4 f5 f6 f7 ff
      refine HSy.out.mono ?_
      rintro e w10 ⟨rfl, hE10⟩
      have hbo10 := Hn9.out w10 hE10
      have Hbo10 := Lib.hid hbo10
      clear hE10 hbo10 HSy Hn9
      go_wp2
      have hjn := Hlt.out
      have hn6 : n ≤ 60 := by have h1 := HS.out.2; have h2 := Hln.out; omega
      have hwr := Lib.hid (show wrap64 ((j : Int) + 1) = (j : Int) + 1 from wrap64_ok _ ⟨by omega, by omega⟩)
      go_roundw
      case rel =>
       refine ⟨j + 1, Hlt.out, ?_, ?_, ?_, ?_⟩
       ·rw [hwr.out]; rfl
       ·rw [Hdu2.out]
       ·rw [Hst2.out]; exact Hbo10.out.anew
       ·rw [← Htk.out]; exact Hbo10.out.wantStays HW7.out Hb7.out
      case measure => exact beg_measure Hlt.out hn6
     ·have hjs2 : ((j : Int) == (s : Int)) = false := by rw [beq_eq_false_iff_ne]; omega
      have Hjs0 := Lib.hid hjs
      clear hjs
      go_wp2_with (
       at_builtin
       refine wpList_append_own_at _ rfl _ _ 29 rfl w1.heap.size 58 i0 (.slice none 0 0) 1 24 Tryz.underlying29 hi hz0 hz1 hz2 rfl (by decide) _ _ _ rfl Hown.out ⟨w7.heap.size, 0, none⟩ 1 1 [.slice a' n' c'] rfl rfl (cell_one_new _ _ _) (by simp [Value.oneCell']) (by rw [maxLen_nat]; have := Htl.out; omega) (by have := Htl.out; omega) (by rw [World.size_alloc]; have := Hs7.out; omega) ?_
       intro v' w7c hown' hgrow _ hblk
       have hW7 : PartsZ (fun b => b < w1.heap.size) w7c w1.heap.size v' (tj ++ [l]) := PartsZ.snoc Hlen.out Hel.out HB2.out (fun h0 x0 e => by
        have h1 := HPB.out h0 x0 e
        refine ⟨fun e2 => ?_, h1⟩
        have := (Hown.out.lt _ e2.symm).1
        omega) hown' hgrow hblk
       rw [← Ht.out] at hW7
       have hbo7 := Hbo7b.out.wantMore hgrow (fun k hk => (Hown.out.lt k hk).1) hblk (fun k hk => (hown'.lt k hk).2)
       have hb7 := hbo7.base
       obtain ⟨q7, k7, rfl, _⟩ := hW7.own.parts
       have HW7 := Lib.hid hW7
       have Hb7 := Lib.hid hb7
       clear hown' hgrow hblk hW7 hb7 Hbo7b Hown Hel Hlen Hs7 HB2
       have hst := Hst.out
       have hdu := Hdu.out
       rw [if_neg Hjs0.out] at hst hdu
       have Hst2 := Lib.hid hst
       have Hdu2 := Lib.hid hdu
       have Hbo7 := Lib.hid hbo7
       clear hst hdu hbo7)
      have hjn := Hlt.out
      have hn6 : n ≤ 60 := by have h1 := HS.out.2; have h2 := Hln.out; omega
      have hwr := Lib.hid (show wrap64 ((j : Int) + 1) = (j : Int) + 1 from wrap64_ok _ ⟨by omega, by omega⟩)
      go_roundw
      case rel =>
       refine ⟨j + 1, Hlt.out, ?_, ?_, ?_, ?_⟩
       ·rw [hwr.out]; rfl
       ·rw [Hdu2.out]
       ·rw [Hst2.out]; exact Hbo7.out.anew
       ·rw [← Htk.out]; exact HW7.out
      case measure => exact beg_measure Hlt.out hn6
   ·obtain rfl : j = n := by omega
    have hall : ls.take j = ls := List.take_of_length_le (by omega)
    obtain ⟨B, c, hinv, hBc⟩ := hok.inv
    have hdur := hok.dur
    rw [hall] at hBc hdur hW
    obtain ⟨W0, hW0⟩ : ∃ W0, W0 = stB (startW 100000 (x : Int)) s ls j := ⟨_, rfl⟩
    rw [← hW0] at hbo hinv hdur htd
    obtain ⟨want, hwant⟩ : ∃ want, want = takeP (x : Int) ls := ⟨_, rfl⟩
    rw [← hwant] at hBc hdur hW
    obtain ⟨dur, hdur0⟩ : ∃ dur, dur = duB (x : Int) s ls j := ⟨_, rfl⟩
    rw [← hdur0] at hdur ⊢
    obtain ⟨i, ps, hi1, hi2, hA, hop⟩ := open_crashed hinv ks (by rw [htd.rm]; have := htd.neat.small.used; omega)
    obtain ⟨hrc1, hrc2⟩ : dur ≤ (B.flatten ++ c.take i).length ∧ B.flatten ++ c.take i = want.take (B.flatten ++ c.take i).length := by
     have hwt := hinv.wait
     have h9 : (B.flatten ++ c.take i).length = B.flatten.length + i := by rw [List.length_append, List.length_take]; omega
     rw [← hBc, List.length_append] at hdur
     rw [h9, ← hBc]
     refine ⟨by omega, ?_⟩
     rw [List.take_append, List.take_of_length_le (l := B.flatten) (by omega), Nat.add_sub_cancel_left]
    have hrc3 : (B.flatten ++ c.take i).length ≤ want.length := by
     rw [← hBc, List.length_append, List.length_append, List.length_take]
     omega
    have hwl : want.length ≤ 60 := by
     have := takeP_len (x : Int) ls j
     rw [hall, ← hwant] at this
     omega
    obtain ⟨recs, hrecs⟩ : ∃ recs, recs = B.flatten ++ c.take i := ⟨_, rfl⟩
    rw [← hrecs] at hop hrc1 hrc2 hrc3
    obtain ⟨K, hK⟩ : ∃ K, K = recs.length := ⟨_, rfl⟩
    rw [← hK] at hrc1 hrc2 hrc3
    obtain ⟨q7, k7, rfl, hw7p⟩ := hW.own.parts
    have hk7 := hw7p.le
    obtain ⟨M, hM⟩ : ∃ M, M = want.length := ⟨_, rfl⟩
    rw [← hM] at hrc3 hwl hk7
    rw [← hM]
    rw [← hM] at hbo hW
    obtain ⟨Y8, hO8, _, hn8⟩ := hbo.stepDisk (Below.refl _ _)
    have HCr := Lib.hid (own_crash hO8 (by have := htd.neat.small.files; omega) ak nk ck ks (HNu.out wr hbo.base) (fun h0 a ha => .inr (Hkb.out a h0 ha)))
    have Hn8 := Lib.hid (hn8 (crashM ks W0.D))
    have Htd := Lib.hid htd
    have Hop := Lib.hid hop
    have HA := Lib.hid hA
    have HW := Lib.hid hW
    have Hbase := Lib.hid hbo.base
    have HK := Lib.hid hK
    have HM := Lib.hid hM
    have Hrc := Lib.hid (And.intro hrc1 (And.intro hrc2 (And.intro hrc3 (And.intro hwl hk7))))
    have hji : ¬ (j : Int) < (j : Int) := by omega
    have hk1 : ¬ (K : Int) < (dur : Int) := by omega
    have hk2 : ¬ (M : Int) < (K : Int) := by omega
    clear hok hcode htd0 hsj hS1 htd hlt hall hinv hBc hdur hW hbo hW0 hwant hdur0 hi1 hi2 hA hop hrc1 hrc2 hrc3 hwl hrecs hK hM hO8 hn8 hw7p hk7 hln hj Hbeg
    go_wp2_with fail
    refine HCr.out.mono ?_
    rintro e w8 ⟨⟨v8, rfl⟩, hE8⟩
    have hbo8 := Hn8.out w8 hE8
    obtain ⟨Y9, hL8, hYB, hTY, X8, hRB, hXY⟩ := hbo8.log
    have hkp8 := hbo8.keep
    obtain ⟨a9, n9, c9, hcells, _, hrf, hX8⟩ := logO_ref hRB
    have HCs := Lib.hid (rcrash_any hrf hX8 ak nk ck ks (HNu.out w8 hbo8.base))
    unfold logO at hcells
    unfold refV at HCs
    obtain ⟨g0, g1, g2, g3, g4, g5, g6, g7, gf⟩ := box8 hcells
    have HL8 := Lib.hid hL8
    have HTY := Lib.hid hTY
    have HXY := Lib.hid (fun b hb => (hXY b hb).1)
    have Hkp8 := Lib.hid hkp8
    clear hE8 hbo8 hL8 hYB hTY hRB hXY hkp8 hcells hrf hX8 HCr Hn8
    go_wp2_with fail
    refine HCs.out.mono ?_
    rintro e w9 ⟨ay, ny, cy, Ry, rfl, hRy, hfy, hb9⟩
    have hnC := (neat_crashB Htd.out.neat ks).mono (N' := 900) (U' := 9000) (by omega) (by omega)
    have hmC := named_crash Htd.out.named ks
    have hny : ny ≤ 1000000 := by
     have h1 := hRy.len
     have h2 := congrArg List.length hfy
     rw [List.length_map] at h2
     have h3 := hnC.small.files
     omega
    have HOp := Lib.hid (rsopen_any (M := crashM ks W0.D) hRy (fun b hb => hb.2) hfy hny hnC (by omega) rfl hmC (x : Int) ps HA.out)
    have HnC := Lib.hid hnC
    have HmC := Lib.hid hmC
    have Hb9 := Lib.hid hb9
    unfold refV
    clear hRy hfy hb9 hnC hmC hny g0 g1 g2 g3 g4 g5 g6 g7 gf HCs
    go_wp2_with fail
    refine HOp.out.mono ?_
    rintro e w10 ⟨r, hr, a10, n10, c10, R10, _, _, hb10, hcase⟩
    obtain ⟨hz, hrec, hN, hrm, ps', hopd⟩ := Hop.out r hr
    rcases hcase with ⟨h, _⟩ | ⟨_, va, vc, rfl, hkept⟩
    ·exact absurd hz h
    rw [hrec] at hkept hopd ⊢
    rw [← HK.out] at hkept ⊢
    have Hkept := Lib.hid hkept
    have Hopd := Lib.hid hopd
    have Hr := Lib.hid (And.intro hr (And.intro hz (And.intro hrec (And.intro hN hrm))))
    have Hb10 := Lib.hid (Hb9.out.trans (hb10.mono Hb9.out.size))
    unfold logV
    obtain ⟨w10b, hw10b⟩ : ∃ w10b, w10b = w10.alloc (.cells #[.int .i64 (r.M.room : Int), .slice a10 n10 c10, .int .i64 (r.M.plan : Int), .bool r.M.down, .int .i64 (x : Int), .int .i64 (r.N : Int), .int .i64 (r.size : Int), .int .i64 0] 47) := ⟨_, rfl⟩
    clear hr hz hrec hN hrm hopd hkept hb10 HOp
    go_wp2_with fail
    rw [← hw10b]
    have hbA : Below w10.heap.size w10 w10b := by rw [hw10b]; exact (Below.refl _ _).alloc (Nat.le_refl _) _
    have hb8b := Hb10.out.trans (hbA.mono Hb10.out.size)
    have hOx : Own w1 (fun b => Y9 b ∨ (w8.heap.size ≤ b ∧ b < w10b.heap.size)) w10b d (crashM ks W0.D) := HL8.out.own.more hb8b (fun b hb => hb)
    have HSO2 := Lib.hid (sopen_any hOx rfl HnC.out.small.files HnC.out (by omega) HmC.out ps HA.out (x : Int))
    have HbA := Lib.hid hbA
    have Hb8b := Lib.hid hb8b
    clear hw10b hbA hb8b hOx
    refine HSO2.out.mono ?_
    rintro e w11 ⟨r2, hr2, hE11⟩
    obtain ⟨hr, hz, hrec, hN, hrm⟩ := Hr.out
    obtain rfl := isOpen_uniq hr hr2
    rcases hE11 with ⟨h, _⟩ | ⟨_, g2, ra2, rc2, Z2, rfl, hZ2, hg2, hnZ2, hL11, hx11, hK11⟩
    ·exact absurd hz h
    rw [hrec] at hK11 ⊢
    rw [← HK.out] at hK11 ⊢
    have hP11 := hK11 w11 (fun _ _ => rfl)
    have hs11 : w10b.heap.size ≤ w11.heap.size := by have := hL11.lt; omega
    have hmod11 : Parts w11 va K vc recs := Hkept.out w11 (fun b hb => by
     have h1 : Y9 b ∨ (w8.heap.size ≤ b ∧ b < w10b.heap.size) := by
      have := HbA.out.size
      have := Hb9.out.size
      rcases hb.1 with ⟨h | h, _⟩ | h
      ·exact .inl (HXY.out b h)
      ·exact .inr ⟨h, by omega⟩
      ·exact .inr ⟨by omega, by omega⟩
     exact (hx11 b h1).trans (HbA.out.block b hb.2))
    have hwant11 : Parts w11 q7 M k7 want := by
     have h := HW.out.moved (W' := w11) (fun b hb _ => (hL11.own.base.block b hb).trans (Hbase.out.block b hb).symm) (fun k hk => by
      have h1 := HTY.out k hk
      exact (hx11 k (.inl h1)).trans ((Hb8b.out.block k (HL8.out.own.blocks k h1)).trans (Hkp8.out k hk)))
     obtain ⟨q', k', e', h'⟩ := h.own.parts
     injection e' with e1 e2 e3
     rw [e1, e3, HM.out]
     exact h'
    obtain ⟨qs, hsl, hpu⟩ := parts_upto (a := q7) (n := M) (c := k7) (k := K) Hrc.out.2.2.1 Hrc.out.2.2.2.2
    have hwK := hpu w11 want hwant11
    rw [← Hrc.out.2.1] at hwK
    have HS1 := Lib.hid (fun W (hW : Below w11.heap.size w11 W) => same_yes ra2 qs K rc2 k7 recs W (hP11.grow hW) (hwK.grow hW))
    have HS2 := Lib.hid (fun W (hW : Below w11.heap.size w11 W) => same_yes ra2 va K rc2 vc recs W (hP11.grow hW) (hmod11.grow hW))
    have HL11 := Lib.hid hL11
    have HK11 := Lib.hid hK11
    have HZ2 := Lib.hid (And.intro hZ2 hnZ2)
    have Hs11 := Lib.hid hs11
    clear hpu hwK hwant11 hmod11 hs11 hP11 hK11 hx11 hL11 hZ2 hnZ2 hg2 hr2 hr hz hrec hN hrm HSO2
    go_wp2_with fail
    refine (HS1.out _ (Below.refl _ _)).mono ?_
    rintro e w12 ⟨rfl, q12, hw12⟩
    have hb12 : Below w11.heap.size w11 w12 := by rw [hw12]; exact below_drewN (Below.refl _ _) q12
    have HS2b := Lib.hid (HS2.out _ hb12)
    have Hb12 := Lib.hid hb12
    clear hb12 hw12 HS1 HS2
    go_wp2_with fail
    refine HS2b.out.mono ?_
    rintro e w13 ⟨rfl, q13, hw13⟩
    have hb13 : Below w11.heap.size w11 w13 := by rw [hw13]; exact below_drewN Hb12.out q13
    have Hb13 := Lib.hid hb13
    have Hend13 := Lib.hid (Hb1.out.trans ((HL11.out.own.base.trans (hb13.mono HL11.out.own.base.size)).mono Hb1.out.size))
    clear hb13 hw13 HS2b Hb12 hsl hk1 hk2
    by_cases h0 : j = 0
    ·have hj0 : ((j : Int) == 0) = true := by simp [h0]
     clear h0
     go_wp2_with fail
     refine (salive_any _).mono ?_
     rintro e w14 ⟨rfl, hb14⟩
     have Hend := Lib.hid (Hend13.out.trans (hb14.mono Hend13.out.size))
     clear hb14
     go_wp2
     go_ret
     exact ⟨rfl, Hend.out⟩
    ·have hj0 : ((j : Int) == 0) = false := by rw [beq_eq_false_iff_ne]; omega
     have hj1 : (0 : Int) < (j : Int) := by omega
     obtain ⟨b, o, a', n', c', rfl, hc, hB⟩ := bytes_get_all (HP.out w1 (Below.refl _ _)) (show 0 < j by omega)
     have hl0 : (ls.getD 0 []).length ≤ 2000 := by
      have hln := Hln.out
      have hS1 := HS.out.1
      have h1 : 0 < ls.length := by omega
      rw [List.getD_eq_getElem?_getD, List.getElem?_eq_getElem h1]
      have := sizeL_memC (List.getElem_mem h1)
      show ls[0].length ≤ 2000
      omega
     generalize ls.getD 0 [] = l at *
     obtain ⟨W1, hW1⟩ : ∃ W1 : WM, W1 = ⟨r.M, (x : Int), r.N, r.size, 0⟩ := ⟨_, rfl⟩
     obtain ⟨hr, hz, hrec, hN, hrm⟩ := Hr.out
     have hn1 := Htd.out.n1
     have hn2 := Htd.out.n2
     have hno := open_neat (neat_crashB Htd.out.neat ks) HA.out HmC.out hr
     have hcs := crashM_small ks W0.D
     have hfz := Htd.out.neat.small.files
     have huz := Htd.out.neat.small.used
     have hne : Neat r.M 500 4000 := hno.1.mono (by omega) (by omega)
     have hsize : r.size ≤ 4000 := by
      obtain ⟨hp, h1, h2, h3⟩ := Hopd.out.fin.last
      obtain ⟨f, hf, _, _, g3⟩ := segsC_find Hopd.out.fin.segs (List.getElem_mem _) h1
      have hle := usedF_delN_mem (findN_some hf).1 (findN_some hf).2
      have h4 := g3.eq
      have h5 : (lastP ps' hp).t = [] := h2
      unfold lastP at h5 h3
      rw [h5, List.append_nil] at h4
      rw [h4, h3] at hle
      have := hne.small.used
      omega
     have htd1 : Tidy W1 500 4000 61 4000 0 100000 (x : Int) := by
      rw [hW1]
      exact ⟨hne, hno.2, by show 1 ≤ r.N; omega, by show r.N ≤ 61; omega, hsize, Nat.le_refl _, hrm.trans Htd.out.rm, rfl⟩
     have hfin : Final W1.n W1.size recs W1.D.fs ps' := by rw [hW1]; exact Hopd.out.fin
     have hup : Up W1.D := by rw [hW1]; exact Hopd.out.up
     have hL13 := HL11.out.all Hb13.out
     rw [← hW1] at hL13
     have hbw := HL11.out.own.base.trans (Hb13.out.mono HL11.out.own.base.size)
     have HBy := Lib.hid (fun W (hW : Below w1.heap.size w1 W) => hB.grow hW)
     have hpt := put_any hL13 a' n' c' l (HBy.out w13 hbw) htd1.n1 (by have := htd1.n2; omega) (by have := htd1.size; omega) (by have := htd1.wait; omega) (by rw [htd1.most]; omega) (by rw [htd1.most]; omega) (by have := htd1.neat.small.files; omega) (by rw [htd1.rm]; decide)
     have hpf := put_final hfin hup.1 hup.2 htd1.neat.sorted (by have := htd1.n2; omega) l (by rw [htd1.rm]; have := htd1.neat.small.used; omega)
     have htd2 := tidy_put htd1 l
     obtain ⟨W2, hW2⟩ : ∃ W2, W2 = (putW W1 l).1 := ⟨_, rfl⟩
     obtain ⟨z2, hz2⟩ : ∃ z2, z2 = (putW W1 l).2 := ⟨_, rfl⟩
     rw [← hW2] at hpt hpf htd2
     rw [← hz2] at hpt hpf
     have HC := Lib.hid (fun W (hW : Below w1.heap.size w1 W) => (show W.cell? ⟨b, o, none⟩ = some (.slice a' n' c') from cell_keep hW hc))
     have hc13 := HC.out w13 hbw
     have HPt := Lib.hid hpt
     have Hpf := Lib.hid hpf
     have Htd2 := Lib.hid htd2
     have HPB := Lib.hid (fun (h0 : 0 < n') x0 (e : a' = some x0) => (show x0.block < w1.heap.size from by
      obtain ⟨b, o, e2, hc⟩ := hB.cell h0
      rw [e] at e2
      cases e2
      exact World.block_lt_of_cell? _ _ (hc 0 h0)))
     have Hl0 := Lib.hid hl0
     clear hc hB hl0 hW1 hr hz hrec hN hrm hn1 hn2 hno hcs hfz huz hne hsize htd1 hfin hup hL13 hbw hpt hpf htd2 hW2 hz2 h0
     go_wp2_with fail
     refine HPt.out.mono ?_
     rintro e w14 ⟨rfl, hE14⟩
     have Hend14 := Lib.hid (Hb1.out.trans (hE14.1.own.base.mono Hb1.out.size))
     rcases Hpf.out with ⟨hz, _⟩ | ⟨hz, hdn, ps2, hs2, hl2⟩
     ·have hzb : (z2 != 0) = true := by simp [hz]
      clear hz hE14 hc13
      go_wp2_with fail
      refine (salive_any _).mono ?_
      rintro e w15 ⟨rfl, hb15⟩
      have Hend := Lib.hid (Hend14.out.trans (hb15.mono Hend14.out.size))
      clear hb15
      go_wp2
      go_ret
      exact ⟨rfl, Hend.out⟩
     ·have hzb : (z2 != 0) = false := by simp [hz]
      have hA2 : AllOf W2.D ps2 := (allOf_segs hdn).2 hs2
      have HLk := Lib.hid (tlook_any hE14.1.own hdn (by have := Htd2.out.neat.small.files; omega) (by have := Htd2.out.neat.small.used; have := Hl0.out; omega) Htd2.out.named ps2 hA2)
      have hx14 := HK11.out w14 (fun b hb => (hE14.2.1 b (.inl (.inr (.inl hb))) (fun e => HZ2.out.2 (e ▸ hb))).trans (Hb13.out.block b (HL11.out.own.blocks b (.inr (.inl hb)))))
      have Hx14 := Lib.hid hx14
      have Hl2 := Lib.hid hl2
      have Hbase14 := Lib.hid hE14.1.own.base
      clear hz hE14 hc13 hdn hs2 hl2 hA2 hx14
      go_wp2_with fail
      refine HLk.out.mono ?_
      rintro e w15 ⟨y15, a15, c15, hy15, rfl, hP15, hb15⟩
      have hyr : y15.recs = recs ++ [l] := by
       have h0 : 0 < ps2.length := Hl2.out.1.1
       rw [isLog_uniq hy15 (.inr ⟨0, h0, Hl2.out.1, .inr ⟨Hl2.out.2.1, rfl⟩⟩)]
       exact Hl2.out.2.2.symm
      obtain ⟨L15, hL15⟩ : ∃ L15, L15 = (recs ++ [l]).length := ⟨_, rfl⟩
      rw [hyr, ← hL15] at hP15
      rw [hyr, ← hL15]
      have HP15 := Lib.hid hP15
      have HL15 := Lib.hid hL15
      have Hx15 := Lib.hid (Hx14.out.grow hb15)
      have hb115 := Hbase14.out.trans (hb15.mono Hbase14.out.size)
      have hc15 := HC.out w15 hb115
      have Hb115 := Lib.hid hb115
      clear hy15 hyr hP15 hL15 hb15 hb115 HLk Hx14
      have hK60 : K ≤ 60 := Nat.le_trans Hrc.out.2.2.1 Hrc.out.2.2.2.1
      have HCl := Lib.hid (fun W (hW : Below w15.heap.size w15 W) => cloneRows_any (w1 := w15) ra2 K rc2 recs W Hx15.out hW (by omega))
      have hcd := HC.out _ (Hb115.out.drew)
      have HKr := Lib.hid (show recs.length ≤ 1000 by rw [← HK.out]; omega)
      have hpb : 0 < n' → ∀ x0, a' = some x0 → x0.block < w15.heap.size ∧ x0.block < w15.heap.size := fun h0 x0 e => by
       have h1 := HPB.out h0 x0 e
       have h2 := Hb115.out.size
       exact ⟨by omega, by omega⟩
      have HPb := Lib.hid hpb
      have hj2 : 0 < j := by omega
      clear hpb hK60
      go_wp2_with fail
      go_region_law
       (first
        | (go_simp; go_at_call 14; (with_reducible refine (salive_any _).mono ?_); rintro e w16 ⟨rfl, hb0⟩; have hb16 : Below w15.heap.size w15 w16 := ((Below.refl _ _).drew).trans hb0; have hc16 := HC.out w16 (Hb115.out.trans (hb16.mono Hb115.out.size)); clear hb0)
        | (go_simp; go_at_call 34; (with_reducible refine (HCl.out _ hb16).mono ?_); rintro e w17 ⟨v17, rfl, hv0, hb0⟩; have hv17 := hv0.base hb16.size; have hb17 : Below w15.heap.size w15 w17 := hb16.trans (hb0.mono hb16.size); have hc17 := HC.out w17 (Hb115.out.trans (hb17.mono Hb115.out.size)); clear hb0 hv0)
        | (go_simp; go_at_call 34; (with_reducible refine (HCl.out _ (hb16.alloc hb16.size _)).mono ?_); rintro e w17 ⟨v17, rfl, hv0, hb0⟩; have hv17 := hv0.base (hb16.alloc hb16.size _).size; have hb17 : Below w15.heap.size w15 w17 := (hb16.alloc hb16.size _).trans (hb0.mono (hb16.alloc hb16.size _).size); have hc17 := HC.out w17 (Hb115.out.trans (hb17.mono Hb115.out.size)); have hbx17 := cell_keep hb0 (box_cell1 w16 (.slice a' n' c') 58); clear hb0 hv0)
        | (refine step_append_parts (by kernel_rfl) (.tmp 168) (.tmp 172) rfl rfl hv17 rfl hbx17 (HBy.out w17 (Hb115.out.trans (hb17.mono Hb115.out.size))) HPb.out hb17.size HKr.out ?_; intro q18 k18 w18 hp18 hb0; rw [← HL15.out] at hp18 ⊢; have hb18 : Below w15.heap.size w15 w18 := hb17.trans hb0; clear hb0)
        | (refine step_append_parts (by kernel_rfl) (.tmp 168) (.tmp 172) rfl rfl (hv17.grow ((Below.refl _ _).alloc (Nat.le_refl _) _)) rfl (box_cell1 w17 (.slice a' n' c') 58) ((HBy.out w17 (Hb115.out.trans (hb17.mono Hb115.out.size))).grow ((Below.refl _ _).alloc (Nat.le_refl _) _)) HPb.out (hb17.alloc hb17.size _).size HKr.out ?_; intro q18 k18 w18 hp18 hb0; rw [← HL15.out] at hp18 ⊢; have hb18 : Below w15.heap.size w15 w18 := (hb17.alloc hb17.size _).trans hb0; clear hb0)
        | (go_simp; go_at_call 17; (with_reducible refine (same_yes a15 q18 L15 c15 k18 (recs ++ [l]) w18 (HP15.out.grow hb18) hp18).mono ?_); rintro e w19 ⟨rfl, q19, hw19⟩; have hb19 : Below w15.heap.size w15 w19 := (by rw [hw19]; exact below_drewN hb18 q19); clear hw19))
      all_goals have Hend := Lib.hid (Hb1.out.trans ((Hb115.out.trans (hb19.mono Hb115.out.size)).mono Hb1.out.size))
      all_goals clear hb16 hb17 hb18 hb19 hp18 hv17
      all_goals go_wp2_with fail
      all_goals go_ret
      all_goals exact ⟨rfl, Hend.out⟩
end Go.Proofs.YtnbddiiedagllaaGreat

