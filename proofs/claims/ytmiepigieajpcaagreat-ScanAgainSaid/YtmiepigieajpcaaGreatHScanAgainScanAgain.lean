/- The statement ScanAgain answers true. -/
import Derived.Test.YtmiepigieajpcaaGreatHScanAgainJ2
import Derived.Test.YtmiepigieajpcaaGreatHScanAgainJ5
import Derived.Test.YtmiepigieajpcaaGreatHScanAgainJ7
import Derived.Test.YtmiepigieajpcaaGreatMB42
import Derived.Test.YtmiepigieajpcaaGreatMB9
import Derived.Deep.RegionHeld3
namespace Go.Proofs.YtmiepigieajpcaaGreat
open Go.RowKit Go.Maps Go.Shelf

attribute [local go_sem ↓] Go.wp_at_zero Go.wp_at_succ

theorem mem_setN {x y : F} {fs : List F} (h : y ∈ setN F.n x fs) : y = x ∨ y ∈ fs := by
  unfold setN at h
  obtain ⟨z, hz, rfl⟩ := List.mem_map.1 h
  by_cases e : (F.n z == F.n x) = true
  · rw [if_pos e]; exact .inl rfl
  · rw [if_neg e]; exact .inr hz

theorem sync_file {room : Nat} {fs : List F} (nm : List UInt8) (b : List Nat) (h : ∀ f ∈ fs, f.d = f.b.length) : ∀ f ∈ (stepsM [⟨1, nm, [], []⟩, ⟨2, nm, [], b⟩, ⟨3, nm, [], []⟩] ⟨room, fs, false, 0⟩).1.fs, f.d = f.b.length := by
  have e : stepsM [⟨1, nm, [], []⟩, ⟨2, nm, [], b⟩, ⟨3, nm, [], []⟩] ⟨room, fs, false, 0⟩ = if (soM ⟨1, nm, [], []⟩ ⟨room, fs, false, 0⟩).2 = 0 then stepsM [⟨2, nm, [], b⟩, ⟨3, nm, [], []⟩] (soM ⟨1, nm, [], []⟩ ⟨room, fs, false, 0⟩).1 else soM ⟨1, nm, [], []⟩ ⟨room, fs, false, 0⟩ := rfl
  by_cases hn : named nm = true
  · cases hf : findN F.n nm fs with
    | some f0 =>
      have hc : soM ⟨1, nm, [], []⟩ ⟨room, fs, false, 0⟩ = (⟨room, fs, false, 0⟩, 7) := by
        show createM nm ⟨room, fs, false, 0⟩ = _
        unfold createM chgM
        rw [show failM ⟨room, fs, false, 0⟩ = ⟨room, fs, false, 0⟩ from rfl, if_neg Bool.false_ne_true, if_pos hn]
        simp only [hf]
      rw [e, hc, if_neg (by show ¬ (7 : Int) = 0; decide)]
      exact h
    | none =>
      rw [e, op_create hn hf, if_pos rfl]
      have h1 : ∀ f ∈ putN F.n ⟨nm, [], 0⟩ fs, f.d = f.b.length := by
        intro f hm
        unfold putN at hm
        rcases (mem_insN F.n _ _ _).1 hm with rfl | hm
        · rfl
        · unfold delN at hm
          exact h f (List.mem_filter.1 hm).1
      have hf1 : findN F.n nm (putN F.n ⟨nm, [], 0⟩ fs) = some ⟨nm, [], 0⟩ := by rw [fd_put, if_pos rfl]
      generalize putN F.n ⟨nm, [], 0⟩ fs = fs1 at *
      have e2 : stepsM [⟨2, nm, [], b⟩, ⟨3, nm, [], []⟩] ⟨room, fs1, false, 0⟩ = if (soM ⟨2, nm, [], b⟩ ⟨room, fs1, false, 0⟩).2 = 0 then stepsM [⟨3, nm, [], []⟩] (soM ⟨2, nm, [], b⟩ ⟨room, fs1, false, 0⟩).1 else soM ⟨2, nm, [], b⟩ ⟨room, fs1, false, 0⟩ := rfl
      by_cases hr : usedF fs1 + b.length ≤ room
      · rw [e2, op_append hn hf1 b hr, if_pos rfl]
        have hf2 : findN F.n nm (setN F.n ⟨nm, [] ++ b, 0⟩ fs1) = some ⟨nm, [] ++ b, 0⟩ := by rw [fd_set, if_pos rfl, hf1]; rfl
        have e3 : stepsM [⟨3, nm, [], []⟩] ⟨room, setN F.n ⟨nm, [] ++ b, 0⟩ fs1, false, 0⟩ = if (soM ⟨3, nm, [], []⟩ ⟨room, setN F.n ⟨nm, [] ++ b, 0⟩ fs1, false, 0⟩).2 = 0 then stepsM [] (soM ⟨3, nm, [], []⟩ ⟨room, setN F.n ⟨nm, [] ++ b, 0⟩ fs1, false, 0⟩).1 else soM ⟨3, nm, [], []⟩ ⟨room, setN F.n ⟨nm, [] ++ b, 0⟩ fs1, false, 0⟩ := rfl
        rw [e3, op_sync hn hf2, if_pos rfl]
        intro f hm
        unfold stepsM at hm
        unfold setN at hm
        obtain ⟨z, hz, rfl⟩ := List.mem_map.1 hm
        by_cases ez : (F.n z == F.n (⟨nm, ([] ++ b : List Nat), ([] ++ b : List Nat).length⟩ : F)) = true
        · rw [if_pos ez]
        · rw [if_neg ez]
          rcases mem_setN (x := ⟨nm, [] ++ b, 0⟩) hz with rfl | hz
          · exact absurd (by simp) ez
          · exact h1 z hz
      · have hc : soM ⟨2, nm, [], b⟩ ⟨room, fs1, false, 0⟩ = (⟨room, fs1, false, 0⟩, 5) := by
          show appendM nm b ⟨room, fs1, false, 0⟩ = _
          unfold appendM chgM onM
          rw [show failM ⟨room, fs1, false, 0⟩ = ⟨room, fs1, false, 0⟩ from rfl, if_neg Bool.false_ne_true, if_pos hn]
          simp only [hf1]
          rw [if_neg hr]
        rw [e2, hc, if_neg (by show ¬ (5 : Int) = 0; decide)]
        exact h1
  · have hc : soM ⟨1, nm, [], []⟩ ⟨room, fs, false, 0⟩ = (⟨room, fs, false, 0⟩, 6) := by
      show createM nm ⟨room, fs, false, 0⟩ = _
      unfold createM chgM
      rw [show failM ⟨room, fs, false, 0⟩ = ⟨room, fs, false, 0⟩ from rfl, if_neg Bool.false_ne_true, if_neg hn]
    rw [e, hc, if_neg (by show ¬ (6 : Int) = 0; decide)]
    exact h

theorem room_chg {M : DM} {nm : List UInt8} {act : DM → DM × Int} (ha : ∀ M', M'.room = M.room → (act M').1.room = M.room) : (chgM M nm act).1.room = M.room := by
  unfold chgM
  split
  · exact failM_room' M
  · split
    · exact ha _ (failM_room' M)
    · exact failM_room' M

theorem room_on {M : DM} {r : Nat} (h : M.room = r) {nm : List UInt8} {act : F → DM → DM × Int} (ha : ∀ f, (act f M).1.room = r) : (onM nm act M).1.room = r := by
  unfold onM
  split
  · exact h
  · exact ha _

theorem room_step (M : DM) (k : Int) (nm tt : List UInt8) (bs : List Nat) : (stepM k nm tt bs M).1.room = M.room := by
  unfold stepM
  split
  · exact room_chg fun M' h' => by
      split
      · exact h'
      · exact h'
  · split
    · exact room_chg fun M' h' => room_on h' fun f => by
        split
        · exact h'
        · exact h'
    · split
      · exact room_chg fun M' h' => room_on h' fun f => h'
      · split
        · exact room_chg fun M' h' => room_on h' fun f => by
            split
            · exact h'
            · exact h'
        · exact room_chg fun M' h' => room_on h' fun f => h'

theorem room_steps : ∀ (l : List SO) (M : DM), (stepsM l M).1.room = M.room
  | [], _ => rfl
  | x :: l, M => by
    have h1 := room_step M x.k x.nm x.tt x.bs
    unfold stepsM
    split
    · exact (room_steps l _).trans h1
    · exact h1

theorem files_plain (l : List FI) (room : Int) : ∀ j, j ≤ l.length → (filesF l (newM room) j).room = room.toNat ∧ ∀ f ∈ (filesF l (newM room) j).fs, f.d = f.b.length
  | 0, _ => ⟨rfl, fun f hf => by cases hf⟩
  | j + 1, h => by
    obtain ⟨h1, h2⟩ := files_plain l room j (by omega)
    obtain ⟨u1, u2⟩ := up_files l room j (by omega)
    rw [filesF_next (by omega)]
    refine ⟨(room_steps _ _).trans h1, ?_⟩
    have e : filesF l (newM room) j = ⟨(filesF l (newM room) j).room, (filesF l (newM room) j).fs, false, 0⟩ := by
      generalize filesF l (newM room) j = M at *
      obtain ⟨a, b, c, d⟩ := M
      simp only at u1 u2
      rw [u1, u2]
    unfold fileF opsF
    rw [e]
    exact sync_file _ _ h2

theorem SOEnd.own {w0 : World} {X : Nat → Prop} {w : World} {d : Nat} {most : Int} {r : OR} {e : Ending} {w' : World} (h : SOEnd w0 X w d most r e w') : (∃ v, e = .returned v) ∧ Own w0 X w' d r.M ∧ ∀ b, X b → w'.heap[b]? = w.heap[b]? := by
  rcases h with ⟨_, rfl, h1, h2, _⟩ | ⟨_, g, ra, rc, Z, rfl, _, _, _, hL, h2, _⟩
  · exact ⟨⟨_, rfl⟩, h1, h2⟩
  · exact ⟨⟨_, rfl⟩, hL.own.sub (fun b hb => .inl hb), h2⟩

theorem kept_any {Z Z' : Nat → Prop} {w w' : World} {B : Nat} {a : Option Addr} {n c : Nat} {ls : List (List Nat)} (h : PartsZ Z w B (.slice a n c) ls) (hk : ∀ b, (B ≤ b ∨ Z b) → b < w.heap.size → w'.heap[b]? = w.heap[b]?) (hZ' : ∀ b, (B ≤ b ∨ Z b) → b < w.heap.size → Z' b) : KeptParts Z' w' a n c ls := by
  intro W hW
  have key : ∀ b, (B ≤ b ∨ Z b) → b < w.heap.size → W.heap[b]? = w.heap[b]? := fun b h1 h2 => (hW b (hZ' b h1 h2)).trans (hk b h1 h2)
  obtain ⟨vs, h1, h2, h3⟩ := h
  have hO : OwnParts W B (.slice a n c) ls := ⟨vs, h1, own_same5 h2 (fun k e => key k (.inl (own_ge5 h2 k e)) (own_lt5 h2 k e)), fun i hi => by
    obtain ⟨a', n', c', g1, g2, g3⟩ := h3 i hi
    exact ⟨a', n', c', g1, g2.moved (fun h0 x hx => key _ (.inr (g3 h0 x hx).2) (bytes_lt g2 h0 x hx)), fun h0 x hx => (g3 h0 x hx).1⟩⟩
  obtain ⟨a6, c6, e6, hp⟩ := hO.parts
  injection e6 with e7 e8 e9
  rw [e7, e8, e9]
  exact hp

theorem neat_arm {M : DM} {N U : Nat} (h : Neat M N U) (p : Int) (hp : p < 9223372036854775808) : Neat (armM p M) N U := ⟨by show p.toNat ≤ _; omega, h.sorted, ⟨h.small.files, h.small.used⟩⟩

theorem neat_crash {M : DM} {N U : Nat} (h : Neat M N U) (ks : List Int) : Neat (crashM ks M) N U := by
  obtain ⟨h1, h2, h3, h4, h5⟩ := crashM_small ks M
  refine ⟨Nat.zero_le _, ?_, ⟨by rw [h1]; exact h.small.files, Nat.le_trans h3 h.small.used⟩⟩
  have hs := h.sorted
  unfold Sorted at hs ⊢
  have key : ∀ l : List F, l.Pairwise (fun a b => a.n < b.n) ↔ (l.map F.n).Pairwise (· < ·) := fun l => by rw [List.pairwise_map]
  first
    | (rw [key, h2, ← key]; exact hs)
    | (rw [← List.pairwise_map (f := F.n) (R := fun a b => bytesBefore a b = true)] at hs ⊢; rw [h2]; exact hs)

set_option maxRecDepth 100000 in
set_option maxHeartbeats 12800000 in
theorem scanAgain_any (p : Option Addr) (n c : Nat) (l : List FI) (x : Nat) (pk : Option Addr) (nk ck : Nat) (ks : List Int) (w : World) (hl : FIs w p n c l) (hx : x < 256) (hk : Nums w pk nk ck ks) :
    Calls Tryz.prog 5 #[.slice p n c, .int .u8 (x : Int), .slice pk nk ck] w fun e w' => e = .returned (.bool true) ∧ Below w.heap.size w w' := by
  have HF := Lib.hid (fun W (h : Below w.heap.size w W) => files_any 100000 p n c l W (by decide) (by decide) (hl.grow h))
  have HKs := Lib.hid (fun W (h : Below w.heap.size w W) => hk.grow h)
  have hnk : nk ≤ 9223372036854775807 := Nat.le_trans hk.le hk.capmax
  have Hkb := Lib.hid (fun (h0 : 0 < nk) a (ha : pk = some a) => (show a.block < w.heap.size from by
    obtain ⟨b, o, e, hc⟩ := hk.cell h0
    rw [ha] at e
    cases e
    exact World.block_lt_of_cell? _ _ (hc 0 h0)))
  clear hl hk
  go_enter Tryz.func5, Tryz.ntmps5
  go_wp2_with fail
  refine (HF.out w (Below.refl _ _)).mono ?_
  rintro e w1 ⟨d, a1, n1, c1, R1, hb1, hE⟩
  have Hb1 := Lib.hid hb1
  clear hb1
  rcases hE with ⟨M, rfl⟩ | ⟨rfl, hY⟩
  · unfold refV
    go_wp2_with fail
    refine (salive_any _).mono ?_
    rintro e w2 ⟨rfl, hb2⟩
    have Hb2 := Lib.hid ((Hb1.out.alloc Hb1.out.size _).trans (hb2.mono (Hb1.out.alloc Hb1.out.size _).size))
    clear hb2
    go_wp2
    go_ret
    exact ⟨rfl, Hb2.out⟩
  · by_cases hnk30 : (30 : Int) < (nk : Int)
    · unfold refV
      go_wp2_with fail
      refine (salive_any _).mono ?_
      rintro e w2 ⟨rfl, hb2⟩
      have Hb2 := Lib.hid ((Hb1.out.alloc Hb1.out.size _).trans (hb2.mono (Hb1.out.alloc Hb1.out.size _).size))
      clear hb2
      go_wp2
      go_ret
      exact ⟨rfl, Hb2.out⟩
    · obtain ⟨_, _, hnt, X, hO, hR, hRf⟩ := hY
      have hup := up_files l 100000 l.length (Nat.le_refl _)
      have hpl := files_plain l 100000 l.length (Nat.le_refl _)
      generalize filesF l (newM 100000) l.length = M at *
      obtain ⟨out, hout⟩ := segs_ex M
      obtain ⟨ps, _, hA⟩ := allOf_ex hout
      have hfl : M.fs.length ≤ 90 := hnt.small.files
      have hus : usedF M.fs ≤ 1500 := hnt.small.used
      have hnm : ∀ f ∈ M.fs, f.n.length ≤ 9223372036854775807 := fun f hf => by
        rw [← hRf] at hf
        obtain ⟨y, hy, rfl⟩ := List.mem_map.1 hf
        exact (hR.files y hy).name
      have hXl : ∀ b, X b → b < w1.heap.size := by obtain ⟨_, _, _, h, _⟩ := hO; exact h
      have hn1 : n1 ≤ 1000000 := by rw [← hR.len, ← List.length_map (f := FR.f), hRf]; omega
      have HRF := Lib.hid (fun W (h : Below w1.heap.size w1 W) => rfind9_any (X := X) (w := W) (v := refV (M.room : Int) a1 n1 c1 (M.plan : Int) M.down) (M := M) ⟨a1, n1, c1, R1, rfl, hR.below hXl h, hRf, hn1⟩ (fun b hb => Nat.lt_of_lt_of_le (hXl b hb) h.size) hup.1 (by omega) (by omega) hnm ps hA)
      unfold refV at *
      have hal := (Below.refl w1.heap.size w1).alloc (Nat.le_refl _) (.cells #[.int .i64 (M.room : Int), .slice a1 n1 c1, .int .i64 (M.plan : Int), .bool M.down] 25)
      have Hgood := Lib.hid hup
      have Hpl := Lib.hid hpl
      have Hnt := Lib.hid hnt
      have HA := Lib.hid hA
      have HO := Lib.hid hO
      have Hnm := Lib.hid hnm
      clear hup hpl hnt hA hO hnm hout hR hRf hfl hus
      obtain ⟨w2, hw2⟩ : ∃ w2, w2 = w1.alloc (.cells #[.int .i64 (M.room : Int), .slice a1 n1 c1, .int .i64 (M.plan : Int), .bool M.down] 25) := ⟨_, rfl⟩
      rw [← hw2] at hal
      have Hal := Lib.hid hal
      clear hal
      go_wp2_with fail
      rw [← hw2]
      clear hw2
      refine (HRF.out w2 Hal.out).mono ?_

      intro e w4 hr4
      obtain ⟨y, aa, an, ac, first, last, va, vc, size, hy, rfl, hP2, hPZ, hb4⟩ := rfind_log hr4
      unfold logRV
      obtain ⟨w5, hw5⟩ : ∃ w5, w5 = w4.alloc (.cells #[.slice aa an ac, .int .i64 first, .int .i64 last, .slice va y.recs.length vc, .int .i64 size, .int .i64 (y.torn : Int), .int .i64 y.z] 35) := ⟨_, rfl⟩
      have hb45 : Below w4.heap.size w4 w5 := by rw [hw5]; exact (Below.refl _ _).alloc (Nat.le_refl _) _
      have hB5 : w5.heap[w4.heap.size]? = some (.cells #[.slice aa an ac, .int .i64 first, .int .i64 last, .slice va y.recs.length vc, .int .i64 size, .int .i64 (y.torn : Int), .int .i64 y.z] 35 (0, 0)) := by rw [hw5]; exact heap_alloc_new _ _
      have hb15 := Hal.out.trans ((hb4.trans (hb45.mono hb4.size)).mono Hal.out.size)
      have hlt5 : w4.heap.size < w5.heap.size := (Array.getElem?_eq_some_iff.1 hB5).1
      have hs12 := Hal.out.size
      have hs24 := hb4.size
      obtain ⟨XA, hXA⟩ : ∃ XA : Nat → Prop, XA = fun b => X b ∨ (w1.heap.size ≤ b ∧ b < w5.heap.size) := ⟨_, rfl⟩
      have hO5 : Own w XA w5 d M := by rw [hXA]; exact HO.out.more hb15 (fun _ h => h)
      have HKX := Lib.hid (fun (W : World) (hW : ∀ b, XA b → W.heap[b]? = w5.heap[b]?) => (show W.cell? ⟨w4.heap.size, 3, none⟩ = some (.slice va y.recs.length vc) ∧ W.cell? ⟨w4.heap.size, 6, none⟩ = some (.int .i64 y.z) from by
        obtain ⟨g0, g1, g2, g3, g4, g5, g6, gf⟩ := box7 ((hW w4.heap.size (by rw [hXA]; exact .inr ⟨by omega, hlt5⟩)).trans hB5)
        exact ⟨g3, g6⟩))
      have HKP := Lib.hid (show KeptParts XA w5 va y.recs.length vc y.recs from kept_any hPZ (w' := w5) (fun b h hl => hb45.block b hl) (fun b h hl => by
        rw [hXA]
        rcases h with h | h | h
        · exact .inr ⟨by omega, by omega⟩
        · exact .inl h
        · exact .inr ⟨by omega, by omega⟩))
      have HArm := Lib.hid (own_arm hO5 (x : Int) (by omega) (by omega))
      have Hy := Lib.hid hy
      have Hb5 := Lib.hid (Hb1.out.trans (hb15.mono Hb1.out.size))
      clear hy hP2 hPZ hb4 hr4 hO5 hB5 hXA hb15
      go_wp2_with fail
      rw [← hw5]
      clear hw5 hb45
      refine HArm.out.mono ?_
      rintro e w6 ⟨⟨v6, rfl⟩, hO6, hx6, _, _⟩
      have HOp := Lib.hid (sopen_any hO6 Hgood.out.1 (by have := Hnt.out.small.files; show M.fs.length ≤ 900; omega) ((neat_arm Hnt.out (x : Int) (by omega)).mono (by omega) (by omega)) (U := 1500) (by omega) Hnm.out ps ((allOf_segs Hgood.out.1).2 ((allOf_segs Hgood.out.1).1 HA.out)) 1000)
      have Hx6 := Lib.hid hx6
      clear hO6 hx6
      go_wp2_with fail
      refine HOp.out.mono ?_
      rintro e w7 ⟨r, hr, hE7⟩
      obtain ⟨⟨v7, rfl⟩, hO7, hx7⟩ := hE7.own
      obtain ⟨hnt7, hnm7⟩ := open_neat (neat_arm Hnt.out (x : Int) (by omega)) ((allOf_segs Hgood.out.1).2 ((allOf_segs Hgood.out.1).1 HA.out)) Hnm.out hr
      obtain ⟨ps2, hA2, hroom2, hcase⟩ := open_crash Hgood.out.1 HA.out Hy.out (fun N f _ _ hf => Hpl.out.2 f (findN_some hf).1) Hnt.out.sorted (by rw [Hpl.out.1]; have := Hnt.out.small.used; show 2 * _ ≤ 100000; omega) (x : Int) ks hr
      have hfl7 : (armM (x : Int) M).fs.length ≤ 90 := Hnt.out.small.files
      have hus7 : usedF (armM (x : Int) M).fs ≤ 1500 := Hnt.out.small.used
      have HCr := Lib.hid (own_crash hO7 (by have := hnt7.small.files; omega) pk nk ck ks (HKs.out _ hO7.base) (fun h0 a ha => .inr (Hkb.out h0 a ha)))
      have Hx7 := Lib.hid (fun b h => (hx7 b h).trans (Hx6.out b h))
      have Hnt8 := Lib.hid ((neat_crash hnt7 ks).mono (N' := 190) (U' := 3000) (by omega) (by omega))
      have Hnm8 := Lib.hid (named_crash hnm7 ks)
      have HA2 := Lib.hid hA2
      have Hroom2 := Lib.hid (show (crashM ks r.M).room = 100000 from hroom2.trans Hpl.out.1)
      have Hcase := Lib.hid hcase
      have Hup8 := Lib.hid (show Up (crashM ks r.M) from ⟨rfl, rfl⟩)
      clear hE7 hO7 hx7 hr hnt7 hnm7 hA2 hroom2 hcase hfl7 hus7
      go_wp2_with fail
      refine HCr.out.mono ?_
      rintro e w8 ⟨⟨v8, rfl⟩, hO8, hx8, _, _⟩
      generalize crashM ks r.M = M2 at *
      have HOp2 := Lib.hid (sopen_any hO8 Hup8.out.1 (by have := Hnt8.out.small.files; omega) (Hnt8.out.mono (by omega) (Nat.le_refl _)) (U := 3000) (by omega) Hnm8.out ps2 HA2.out 1000)
      have Hx8 := Lib.hid (fun b h => (hx8 b h).trans (Hx7.out b h))
      clear hO8 hx8
      go_wp2_with fail
      refine HOp2.out.mono ?_
      rintro e w9 ⟨r2, hr2, hE9⟩
      rcases Hcase.out with ⟨hz, hbr⟩ | ⟨hz, hG⟩
      · rcases hr2 with ⟨_, rfl⟩ | ⟨_, _, _, _, hr2, _⟩
        · rcases hE9 with ⟨_, rfl, hO9, hx9, _⟩ | ⟨h, _⟩
          · have hk := HKX.out w9 (fun b h => (hx9 b h).trans (Hx8.out b h))
            rw [hz] at hk
            obtain ⟨k3, k6⟩ := hk
            have Hb9 := Lib.hid hO9.base
            clear hO9 hx9 hz
            go_wp2_with fail
            refine (salive_any _).mono ?_
            rintro e w10 ⟨rfl, hb10⟩
            have Hb10 := Lib.hid (Hb9.out.trans (hb10.mono Hb9.out.size))
            clear hb10
            go_wp2
            go_ret
            exact ⟨rfl, Hb10.out⟩
          · exact absurd (show (11 : Int) = 0 from h) (by decide)
        · exact (broken_rep hbr hr2).elim
      · obtain ⟨hz2, hrc2, hrm2, ps3, hOp3⟩ := open_up Hup8.out HA2.out hG Hnt8.out.sorted (by rw [Hroom2.out]; have := Hnt8.out.small.used; omega) hr2
        obtain ⟨hnt9, hnm9⟩ := open_neat Hnt8.out HA2.out Hnm8.out hr2
        have hfl8 := Hnt8.out.small.files
        have hus8 := Hnt8.out.small.used
        rcases hE9 with ⟨h, _⟩ | ⟨_, g2, ra2, rc2, Z2, rfl, hZ2, hg2, hnZ2, hL9, hx9, hK9⟩
        · exact absurd hz2 h
        obtain ⟨N2, size2, recs2, M3, hr2e⟩ : ∃ N2 size2 recs2 M3, r2.N = N2 ∧ r2.size = size2 ∧ r2.recs = recs2 ∧ r2.M = M3 := ⟨_, _, _, _, rfl, rfl, rfl, rfl⟩
        obtain ⟨e1, e2, e3, e4⟩ := hr2e
        rw [e1, e2, e4] at hL9
        rw [e1, e2, e4] at hOp3
        rw [e3] at hK9 hrc2
        rw [e4] at hrm2 hnt9 hnm9
        rw [e3]
        subst hrc2
        have hnt9 := hnt9.mono (N' := 387) (U' := 6000) (by omega) (by omega)
        have hk := HKX.out w9 (fun b h => (hx9 b h).trans (Hx8.out b h))
        rw [hz] at hk
        obtain ⟨k3, k6⟩ := hk
        have HOp3 := Lib.hid hOp3
        have Hnt9 := Lib.hid hnt9
        have Hnm9 := Lib.hid hnm9
        have Hx9 := Lib.hid (fun b h => (hx9 b h).trans (Hx8.out b h))
        have HL9 := Lib.hid hL9
        have HK9 := Lib.hid hK9
        have Hrm9 := Lib.hid (show M3.room = 100000 from hrm2.trans Hroom2.out)
        have HOp4 := Lib.hid (sopen_any hL9.own hOp3.up.1 (by have := hnt9.small.files; show M3.fs.length ≤ 900; omega) (hnt9.mono (by omega) (Nat.le_refl _)) (U := 6000) (by omega) hnm9 ps3 hOp3.all 1000)
        clear hx9 hOp3 hnt9 hnm9 hL9 hK9 hr2 hz2 hG hfl8 hus8 hrm2 hZ2 hnZ2 e1 e2 e3 e4
        go_wp2_with fail
        refine HOp4.out.mono ?_
        rintro e w10 ⟨r3, hr3, hE10⟩
        obtain ⟨hz3, hrc3, _, ps4, hOp5⟩ := open_up HOp3.out.up HOp3.out.all (opened_gl HOp3.out) Hnt9.out.sorted (by rw [Hrm9.out]; have := Hnt9.out.small.used; omega) hr3
        obtain ⟨hN3, hsz3, ops3, hM3, hl3, hs3⟩ := open_same HOp3.out hr3
        have hnt10 := stepsM_neat' ops3 Hnt9.out
        have hnm10 := (open_neat Hnt9.out HOp3.out.all Hnm9.out hr3).2
        have hsg := segs_many HOp3.out.all
        have hfl9 := Hnt9.out.small.files
        rw [← hM3, hs3] at hnt10
        have hnt10 := hnt10.mono (N' := 781) (U' := 6000) (by omega) (by omega)
        rcases hE10 with ⟨h, _⟩ | ⟨_, g3, ra3, rc3, Z3, rfl, _, _, _, hL10, hx10, hK10⟩
        · exact absurd hz3 h
        rw [hrc3] at hK10
        have HFd := Lib.hid (fun W (hW : Below w10.heap.size w10 W) => (torn_of (find_up (hL10.own.below hW) hOp5.up.1 (by have := hnt10.small.files; show r3.M.fs.length ≤ 1000; omega) (by have := hnt10.small.used; show usedF r3.M.fs ≤ 10000; omega) hnm10 ps4 hOp5.all)).mono (R' := fun e w' => e = .returned (.int .i64 0) ∧ Below W.heap.size W w') (by
          rintro e w' ⟨x, z, w1', rfl, hq, hb⟩
          obtain ⟨y', hy', _, ht', _⟩ := findQ_log hq
          obtain rfl := isLog_uniq (opened_log hOp5) hy'
          exact ⟨by rw [ht']; rfl, hb⟩))
        have hP1 := HKP.out w10 (fun b h => (hx10 b (.inl h)).trans (Hx9.out b h))
        have hP2 := HK9.out w10 (fun b h => hx10 b (.inr (.inl h)))
        have hP3 := hK10 w10 (fun _ _ => rfl)
        have hcg2 := (hx10 g2 (.inr (.inr rfl))).trans HL9.out.cells
        have hcg3 := hL10.cells
        unfold logC at hcg2 hcg3
        simp only [hN3, hsz3] at hcg3
        rw [hrc3]
        have HP1 := Lib.hid hP1
        have HP2 := Lib.hid hP2
        have HP3 := Lib.hid hP3
        have HKr := Lib.hid (fun W (hW : Below w10.heap.size w10 W) => cell_keep hW (HKX.out w10 (fun b h => (hx10 b (.inl h)).trans (Hx9.out b h))).1)
        have HG2 := Lib.hid (fun W (hW : Below w10.heap.size w10 W) => (hW.block g2 (Array.getElem?_eq_some_iff.1 hcg2).1).trans hcg2)
        have HG3 := Lib.hid (fun W (hW : Below w10.heap.size w10 W) => (hW.block g3 (Array.getElem?_eq_some_iff.1 hcg3).1).trans hcg3)
        have Hb10 := Lib.hid hL10.own.base
        clear hr3 hz3 hrc3 hOp5 hN3 hsz3 hM3 hl3 hs3 hnt10 hnm10 hsg hfl9 hL10 hx10 hK10 hP1 hP2 hP3 hcg2 hcg3
        have HS2 := Lib.hid (fun W (hW : Below w10.heap.size w10 W) => segment_any (g := g2) (z := (N2 : Int)) (w := W) (by rw [cell_of_row _ _ _ _ _ (0, 0) (HG2.out W hW)]; rfl))
        have HS3 := Lib.hid (fun W (hW : Below w10.heap.size w10 W) => segment_any (g := g3) (z := (N2 : Int)) (w := W) (by rw [cell_of_row _ _ _ _ _ (0, 0) (HG3.out W hW)]; rfl))
        have HZ2 := Lib.hid (fun W (hW : Below w10.heap.size w10 W) => wsize_any (g := g2) (z := (size2 : Int)) (w := W) (by rw [cell_of_row _ _ _ _ _ (0, 0) (HG2.out W hW)]; rfl))
        have HZ3 := Lib.hid (fun W (hW : Below w10.heap.size w10 W) => wsize_any (g := g3) (z := (size2 : Int)) (w := W) (by rw [cell_of_row _ _ _ _ _ (0, 0) (HG3.out W hW)]; rfl))
        have hqn : ((N2 : Int) == (N2 : Int)) = true := by simp
        have hqs : ((size2 : Int) == (size2 : Int)) = true := by simp
        go_wp2_with fail
        refine (salive_any _).mono ?_
        rintro e w11 ⟨rfl, hb11⟩
        have hk3 := HKr.out _ hb11
        go_wp2_with fail
        refine (same_yes ra2 va _ _ _ _ _ (HP2.out.grow hb11) (HP1.out.grow hb11)).mono ?_
        rintro e w12 ⟨rfl, q, rfl⟩
        have hb12 := below_drewN hb11 q
        go_wp2_with fail
        refine (same_yes ra3 ra2 _ _ _ _ _ (HP3.out.grow hb12) (HP2.out.grow hb12)).mono ?_
        rintro e w13 ⟨rfl, q2, rfl⟩
        have hb13 := below_drewN hb11 (q + q2)
        go_wp2_with fail
        refine (HFd.out _ hb13).mono ?_
        rintro e w14 ⟨rfl, hb0⟩
        have hb14 := hb13.trans (hb0.mono hb13.size)
        have Hb14 := Lib.hid hb14
        clear hb0 hk3 hb13 hb12 hb11 hb14
        go_wp2_with fail
        refine (HS2.out _ Hb14.out).mono ?_
        rintro e w15 ⟨rfl, rfl⟩
        go_wp2_with fail
        refine (HS3.out _ Hb14.out).mono ?_
        rintro e w16 ⟨rfl, rfl⟩
        go_wp2_with fail
        refine (HZ2.out _ Hb14.out).mono ?_
        rintro e w17 ⟨rfl, rfl⟩
        go_wp2_with fail
        refine (HZ3.out _ Hb14.out).mono ?_
        rintro e w18 ⟨rfl, rfl⟩
        have Hend := Lib.hid (Hb10.out.trans (Hb14.out.mono Hb10.out.size))
        go_wp2
        go_ret
        exact ⟨rfl, Hend.out⟩
end Go.Proofs.YtmiepigieajpcaaGreat
