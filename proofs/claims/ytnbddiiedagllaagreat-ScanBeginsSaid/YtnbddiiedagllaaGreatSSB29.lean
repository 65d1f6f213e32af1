import Derived.Test.YtnbddiiedagllaaGreatSSB22
import Derived.Test.YtnbddiiedagllaaGreatSSB7
import Derived.Test.YtnbddiiedagllaaGreatSSB24
import Derived.Test.YtnbddiiedagllaaGreatSSB9
import Derived.Test.YtnbddiiedagllaaGreatSSB5
import Derived.IntWalk
import Derived.Test.YtnbddiiedagllaaGreatSSB12
/- The walks of scan's take, whatever its steps do, and of the name of a segment's file. -/
namespace Go.Proofs.YtnbddiiedagllaaGreat
open Go.RowKit Go.Maps Go.Shelf

theorem sfile_any (N : Nat) (w : World) (h1 : 1 ≤ N) (hN : N ≤ 99999999) :
  Calls Tryz.prog 111 #[.int .i64 (N : Int)] w fun e w' => e = .returned (encStr (nmB N)) ∧ Below w.heap.size w w' := by
 have HI := Lib.hid (fun w1 => segname_yes N w1 h1 hN)
 clear h1 hN
 go_enter Tryz.func111, Tryz.ntmps111
 go_wp2_with fail
 refine (HI.out _).mono ?_
 rintro e w' ⟨rfl, hb⟩
 have Hb := Lib.hid hb
 clear hb
 go_wp2
 go_ret
 exact ⟨rfl, Hb.out⟩

structure SK where
 k : Nat
 caps : Array Value

def skV (x : SK) : Value := .func (.func x.k) #[] x.caps

def SkEnd (Q : Int → World → Prop) (J : World → Prop) (e : Ending) (w : World) : Prop :=
 ∃ z : Int, e = .returned (.int .i64 z) ∧ (z = 0 → J w) ∧ (z ≠ 0 → Q z w)

set_option maxRecDepth 100000 in
set_option maxHeartbeats 3200000 in
theorem stake_any (a : Option Addr) (n cap : Nat) (L : List SK) (hn : L.length = n) (hm : n ≤ 1000) (J : Nat → World → Prop) (Q : Int → World → Prop) (w : World)
  (hent : ∀ (j : Nat) (hj : j < L.length) args w, (callFunc L[j].k args).run Tryz.prog w = .ok (.enter L[j].k args) w) (h0 : J 0 w)
  (hrow : 0 < n → ∃ b o, a = some ⟨b, o, none⟩ ∧ ∀ (j : Nat) (hj : j < L.length) w', J j w' → w'.cell? ⟨b, o + j, none⟩ = some (skV L[j]))
  (hstep : ∀ (j : Nat) (hj : j < L.length) w', J j w' → Calls Tryz.prog L[j].k L[j].caps w' (SkEnd Q (J (j + 1)))) :
  Calls Tryz.prog 65 #[.slice a n cap] w (SkEnd Q (J n)) := by
 have HN := Lib.hid hn
 have HEnt := Lib.hid hent
 have H0 := Lib.hid h0
 have HRow := Lib.hid hrow
 have HStep := Lib.hid hstep
 clear hn hent h0 hrow hstep
 go_enter Tryz.func65, Tryz.ntmps65
 go_wp2
 go_loopw [8] (fun i wr => ∃ j : Nat, j ≤ n ∧ i = .int .i64 (j : Int) ∧ J j wr) (fun i _ => n - (intOf i).toNat)
 case atStart => exact ⟨0, Nat.zero_le _, rfl, H0.out⟩
 case round =>
  obtain ⟨j, hj, rfl, hJ⟩ := hrel
  by_cases hlt : j < n
  ·have hjl : j < L.length := by rw [HN.out]; exact hlt
   obtain ⟨b, o, rfl, hr⟩ := HRow.out (by omega)
   have r0 := hr j hjl wr hJ
   unfold skV at r0
   have he := HEnt.out j hjl
   have HS := Lib.hid (HStep.out j hjl wr hJ)
   have Hlt := Lib.hid hlt
   have hji : (j : Int) < (n : Int) := by omega
   clear hJ hr
   generalize hLj : L[j] = x at *
   obtain ⟨k, caps⟩ := x
   simp only at *
   clear hLj
   go_wp2_with fail
   refine HS.out.mono ?_
   rintro e w2 ⟨code, rfl, h1, h2⟩
   by_cases hc : code = 0
   ·subst hc
    have HJ2 := Lib.hid (h1 rfl)
    clear h1 h2
    go_wp2
    go_roundw
    case rel => exact ⟨j + 1, Hlt.out, by go_num, HJ2.out⟩
    case measure => simp [intOf]; omega
   ·have HQ := Lib.hid (h2 hc)
    have hc1 : (code == 0) = false := by simpa using hc
    have hc2 : (code != 0) = true := by simpa using hc
    have hc3 := Lib.hid hc
    clear h1 h2 hc
    go_wp2
    go_ret
    exact ⟨code, rfl, fun h => absurd h hc3.out, fun _ => HQ.out⟩
  ·obtain rfl : n = j := by omega
   have HJ := Lib.hid hJ
   have hji : ¬ (n : Int) < (n : Int) := by omega
   clear hJ
   go_wp2
   go_ret
   exact ⟨0, rfl, fun _ => HJ.out, fun h => absurd rfl h⟩
end Go.Proofs.YtnbddiiedagllaaGreat

/- The walks of the steps of scan's Open: what each closure does on a disk of the call's own. -/
namespace Go.Proofs.YtnbddiiedagllaaGreat
open Go.RowKit Go.Maps Go.Shelf

def cutB : List UInt8 := [99, 117, 116]
def newB : List UInt8 := [110, 101, 119]

section
variable {w0 : World} {X : Nat → Prop} {w : World} {d : Nat} {M : DM}

set_option maxRecDepth 100000 in
set_option maxHeartbeats 1600000 in
theorem do_removing (h : Own w0 X w d M) (b1 b2 : Nat) (nm : List UInt8) (hn : nm.length ≤ 9223372036854775807) (k2 : w.cell? ⟨b2, 0, none⟩ = some (encStr nm)) (k1 : w.cell? ⟨b1, 0, none⟩ = some (.pointer (some ⟨d, 0, none⟩))) :
  Calls Tryz.prog 151 #[.pointer (some ⟨b1, 0, none⟩), .pointer (some ⟨b2, 0, none⟩)] w (OwnAct w0 X w d (removeM nm M)) := by
 have HA := Lib.hid (own_remove h nm hn)
 clear h
 go_enter Tryz.func151, Tryz.ntmps151
 go_wp2_with fail
 refine HA.out.mono ?_
 rintro e w5 ⟨rfl, hq⟩
 have Hq := Lib.hid hq
 clear hq
 go_wp2
 go_ret
 exact ⟨rfl, Hq.out⟩

set_option maxRecDepth 100000 in
set_option maxHeartbeats 1600000 in
theorem do_creating (h : Own w0 X w d M) (b1 b2 : Nat) (nm : List UInt8) (hn : nm.length ≤ 9223372036854775807) (hL : M.fs.length < 1000000) (k2 : w.cell? ⟨b2, 0, none⟩ = some (encStr nm)) (k1 : w.cell? ⟨b1, 0, none⟩ = some (.pointer (some ⟨d, 0, none⟩))) :
  Calls Tryz.prog 112 #[.pointer (some ⟨b1, 0, none⟩), .pointer (some ⟨b2, 0, none⟩)] w (OwnAct w0 X w d (createM nm M)) := by
 have HA := Lib.hid (own_create h nm hn hL)
 clear h
 go_enter Tryz.func112, Tryz.ntmps112
 go_wp2_with fail
 refine HA.out.mono ?_
 rintro e w5 ⟨rfl, hq⟩
 have Hq := Lib.hid hq
 clear hq
 go_wp2
 go_ret
 exact ⟨rfl, Hq.out⟩

set_option maxRecDepth 100000 in
set_option maxHeartbeats 1600000 in
theorem do_syncing (h : Own w0 X w d M) (b1 b2 : Nat) (nm : List UInt8) (hn : nm.length ≤ 9223372036854775807) (k2 : w.cell? ⟨b2, 0, none⟩ = some (encStr nm)) (k1 : w.cell? ⟨b1, 0, none⟩ = some (.pointer (some ⟨d, 0, none⟩))) :
  Calls Tryz.prog 114 #[.pointer (some ⟨b1, 0, none⟩), .pointer (some ⟨b2, 0, none⟩)] w (OwnAct w0 X w d (syncM nm M)) := by
 have HA := Lib.hid (own_sync h nm hn)
 clear h
 go_enter Tryz.func114, Tryz.ntmps114
 go_wp2_with fail
 refine HA.out.mono ?_
 rintro e w5 ⟨rfl, hq⟩
 have Hq := Lib.hid hq
 clear hq
 go_wp2
 go_ret
 exact ⟨rfl, Hq.out⟩

set_option maxRecDepth 100000 in
set_option maxHeartbeats 1600000 in
theorem do_cut1 (h : Own w0 X w d M) (b1 : Nat) (hL : M.fs.length < 1000000) (k1 : w.cell? ⟨b1, 0, none⟩ = some (.pointer (some ⟨d, 0, none⟩))) :
  Calls Tryz.prog 153 #[.pointer (some ⟨b1, 0, none⟩)] w (OwnAct w0 X w d (createM cutB M)) := by
 have HA := Lib.hid (own_create h cutB (by decide) hL)
 clear h
 go_enter Tryz.func153, Tryz.ntmps153
 go_wp2_with fail
 refine HA.out.mono ?_
 rintro e w5 ⟨rfl, hq⟩
 have Hq := Lib.hid hq
 clear hq
 go_wp2
 go_ret
 exact ⟨rfl, Hq.out⟩

set_option maxRecDepth 100000 in
set_option maxHeartbeats 1600000 in
theorem do_cut2 (h : Own w0 X w d M) (b1 b2 : Nat) (p : Option Addr) (m c : Nat) (l : List Nat) (hB : Bytes w p m c l) (hap : 0 < m → ∀ a, p = some a → X a.block ∨ a.block < w0.heap.size) (hlim : usedF M.fs + l.length ≤ 140737488355328) (k2 : w.cell? ⟨b2, 0, none⟩ = some (.slice p m c)) (k1 : w.cell? ⟨b1, 0, none⟩ = some (.pointer (some ⟨d, 0, none⟩))) :
  Calls Tryz.prog 154 #[.pointer (some ⟨b1, 0, none⟩), .pointer (some ⟨b2, 0, none⟩)] w (OwnAct w0 X w d (appendM cutB l M)) := by
 have HA := Lib.hid (own_append h cutB (by decide) p m c l hB hap hlim)
 clear h
 go_enter Tryz.func154, Tryz.ntmps154
 go_wp2_with fail
 refine HA.out.mono ?_
 rintro e w5 ⟨rfl, hq⟩
 have Hq := Lib.hid hq
 clear hq
 go_wp2
 go_ret
 exact ⟨rfl, Hq.out⟩

set_option maxRecDepth 100000 in
set_option maxHeartbeats 1600000 in
theorem do_cut3 (h : Own w0 X w d M) (b1 : Nat) (k1 : w.cell? ⟨b1, 0, none⟩ = some (.pointer (some ⟨d, 0, none⟩))) :
  Calls Tryz.prog 155 #[.pointer (some ⟨b1, 0, none⟩)] w (OwnAct w0 X w d (syncM cutB M)) := by
 have HA := Lib.hid (own_sync h cutB (by decide))
 clear h
 go_enter Tryz.func155, Tryz.ntmps155
 go_wp2_with fail
 refine HA.out.mono ?_
 rintro e w5 ⟨rfl, hq⟩
 have Hq := Lib.hid hq
 clear hq
 go_wp2
 go_ret
 exact ⟨rfl, Hq.out⟩

set_option maxRecDepth 100000 in
set_option maxHeartbeats 1600000 in
theorem do_cut4 (h : Own w0 X w d M) (b1 b2 : Nat) (nm : List UInt8) (hn : nm.length ≤ 9223372036854775807) (hL : M.fs.length < 1000000) (k2 : w.cell? ⟨b2, 0, none⟩ = some (encStr nm)) (k1 : w.cell? ⟨b1, 0, none⟩ = some (.pointer (some ⟨d, 0, none⟩))) :
  Calls Tryz.prog 156 #[.pointer (some ⟨b1, 0, none⟩), .pointer (some ⟨b2, 0, none⟩)] w (OwnAct w0 X w d (renameM cutB nm M)) := by
 have HA := Lib.hid (own_rename h cutB nm (by decide) hn hL)
 clear h
 go_enter Tryz.func156, Tryz.ntmps156
 go_wp2_with fail
 refine HA.out.mono ?_
 rintro e w5 ⟨rfl, hq⟩
 have Hq := Lib.hid hq
 clear hq
 go_wp2
 go_ret
 exact ⟨rfl, Hq.out⟩
end
end Go.Proofs.YtnbddiiedagllaaGreat

/- The walk of the reference's Crash. -/
namespace Go.Proofs.YtnbddiiedagllaaGreat
open Go.RowKit Go.Maps Go.Shelf

def cutR (k : Int) (x : FR) : FR := ⟨cutF x.f k, x.pa, x.k⟩
def cutTo (ks : List Int) (R : List FR) (j : Nat) : List FR := (R.take j).mapIdx fun i x => cutR (ks.getD i 0) x

theorem cutTo_next {ks : List Int} {R : List FR} {j : Nat} (hj : j < R.length) : cutTo ks R (j + 1) = cutTo ks R j ++ [cutR (ks.getD j 0) R[j]] := by
 unfold cutTo
 rw [List.take_succ_eq_append_getElem hj, List.mapIdx_append]
 congr 1
 simp [List.length_take, Nat.min_eq_left (Nat.le_of_lt hj)]

theorem cutTo_all (ks : List Int) (R : List FR) : (cutTo ks R R.length).map FR.f = (R.map FR.f).mapIdx fun i f => cutF f (ks.getD i 0) := by
 unfold cutTo
 rw [List.take_length]
 apply List.ext_getElem (by simp)
 intro i h1 h2
 simp [cutR]

def leftN (f : F) (k : Int) : Nat := f.d + min (max k 0).toNat (f.b.length - f.d)
theorem leftN_le {f : F} (h : f.d ≤ f.b.length) (k : Int) : leftN f k ≤ f.b.length := by unfold leftN; omega
theorem cutR_cells (k : Int) (x : FR) (h : x.f.d ≤ x.f.b.length) : cells3 (cutR k x) = [encStr x.f.n, .slice x.pa (leftN x.f k) x.k, .int .i64 (leftN x.f k : Int)] := by
 have e : (x.f.b.take (leftN x.f k)).length = leftN x.f k := by rw [List.length_take]; have := leftN_le h k; omega
 unfold cells3 cutR cutF
 simp only
 show [encStr x.f.n, Value.slice x.pa (x.f.b.take (leftN x.f k)).length x.k, Value.int .i64 ((leftN x.f k : Nat) : Int)] = _
 rw [e]

theorem cutR_file {X : Nat → Prop} {w : World} {x : FR} (h : FileB X w x) (k : Int) : FileB X w (cutR k x) := by
 have hle := leftN_le h.dur k
 have e : (x.f.b.take (leftN x.f k)).length = leftN x.f k := by rw [List.length_take]; omega
 refine ⟨?_, h.form, fun hn a ha => h.blk ?_ a ha, ?_, h.name⟩
 ·show Bytes w x.pa (x.f.b.take (leftN x.f k)).length x.k (x.f.b.take (leftN x.f k))
  rw [e]
  exact h.bytes.takeTo hle (Nat.le_trans hle h.bytes.le) (Nat.le_refl _)
 ·have : 0 < (x.f.b.take (leftN x.f k)).length := hn
  rw [e] at this
  omega
 ·show leftN x.f k ≤ (x.f.b.take (leftN x.f k)).length
  rw [e]
  exact Nat.le_refl _

theorem slice_same {a : Option Addr} {n c k : Nat} (hk : k ≤ n) (hn : n ≤ c) (hf : Formed a c) (w : World) :
  (Instr.slice 58 (.slice a n c) none (some (.int .i64 (k : Int))) none).run Tryz.prog w = .ok (.slice a k c) w := by
 obtain ⟨i, hi, _, hsz, _⟩ := info_parts info_u8
 have hT' : Tryz.prog.underlying 58 = some (.slice (Tryz.prog.elem 58)) := by kernel_rfl
 have hE : Tryz.prog.elem 58 = 5 := by kernel_rfl
 have hsize : ∀ w : World, (sizeOf (Tryz.prog.elem 58)).run Tryz.prog w = .ok 1 w := fun w => by rw [hE]; simp [sizeOf, typeInfo, hi, hsz]
 have ha : (if c = 0 then a else a.map (·.add (0 * 1))) = a := by
  by_cases h : c = 0
  ·rw [if_pos h]
  ·rw [if_neg h]
   obtain ⟨b, o, rfl⟩ := hf (by omega)
   simp [addr_add]
 rw [run_slice_h w 58 a n c hT' .i64 (k : Int) (by omega) (by omega), hsize]
 show Result.ok (Value.slice (if c = 0 then a else a.map (·.add (0 * 1))) (k - 0) (c - 0)) w = _
 rw [ha]
 rfl

theorem own_belowF {w w' : World} {base n size : Nat} {e : TypeId} {v : Value} {xs : List Value} (h : w.ownsRow base e size v n xs) (hb : Below w.heap.size w w') : w'.ownsRow base e size v n xs := by
 refine ⟨h.1, ?_⟩
 rcases h.2 with hn | ⟨g, cap, cur, rfl, hbg, hg, rest⟩
 ·exact .inl hn
 ·exact .inr ⟨g, cap, cur, rfl, hbg, (hb.block g (Array.getElem?_eq_some_iff.1 hg).1).trans hg, rest⟩

theorem results_one {fn : Func} {p : Tmp} {ty : TypeId} (h : fn.results = #[.cell p ty]) (tmps : Array Value) (P : Program) (w : World) :
  (results fn tmps).run P w = ((asAddr (tmps.getD p undef)).run P w).andThen fun a w₁ => (loadVar ty a).run P w₁ := by
 simp only [results, h]
 simp [Result.andThen]

def RefEnd (X : Nat → Prop) (w : World) (M : DM) (e : Ending) (w' : World) : Prop :=
 ∃ a n c R, e = .returned (refV (M.room : Int) a n c (M.plan : Int) M.down) ∧ RowF (fun b => (X b ∨ w.heap.size ≤ b) ∧ b < w'.heap.size) w' a n c R ∧ R.map FR.f = M.fs ∧ Below w.heap.size w w'

set_option maxRecDepth 100000 in
set_option maxHeartbeats 6400000 in
theorem rcrash_any {X : Nat → Prop} {w : World} {v : Value} {M : DM} (h : RefAt X w v M) (hX : ∀ b, X b → b < w.heap.size) (pk : Option Addr) (m ck : Nat) (ks : List Int) (hN : Nums w pk m ck ks) :
  Calls Tryz.prog 33 #[v, .slice pk m ck] w (RefEnd X w (crashM ks M)) := by
 obtain ⟨a, n, c, R, rfl, hR, hfs, hn⟩ := h
 obtain ⟨i0, hi, hz0, hz1, hz2⟩ := info_parts info_file
 have hb := ((Below.refl w.heap.size w).alloc (Nat.le_refl _) (.cells #[.int .i64 (M.room : Int), .slice a n c, .int .i64 (M.plan : Int), .bool M.down] 25)).alloc (by simp) (.cells #[.int .i64 0, .slice none 0 0, .int .i64 0, .bool false] 25)
 have hlen := hR.len
 have hmax : n ≤ 9223372036854775807 := Nat.le_trans hR.le hR.max
 have Hb := Lib.hid hb
 have HR := Lib.hid (fun (w1 : World) (hb : Below w.heap.size w w1) => hR.below hX hb)
 have HN := Lib.hid (fun (w1 : World) (hb : Below w.heap.size w w1) => hN.grow hb)
 have Hlen := Lib.hid hlen
 have Hfs := Lib.hid hfs
 have hkm : m ≤ 9223372036854775807 := Nat.le_trans hN.le hN.capmax
 have HX := Lib.hid hX
 clear hR hb hX hlen hfs hN
 unfold refV
 go_enter Tryz.func33, Tryz.ntmps33
 go_wp2
 have hB1 : ((w.alloc (.cells #[.int .i64 (M.room : Int), .slice a n c, .int .i64 (M.plan : Int), .bool M.down] 25)).alloc (.cells #[.int .i64 0, .slice none 0 0, .int .i64 0, .bool false] 25)).heap[w.heap.size]? = some (.cells #[.int .i64 (M.room : Int), .slice a n c, .int .i64 (M.plan : Int), .bool M.down] 25 (0, 0)) :=
  (Below.heap_alloc _ _ _ (by simp)).trans (heap_alloc_new _ _)
 have hB2 : ((w.alloc (.cells #[.int .i64 (M.room : Int), .slice a n c, .int .i64 (M.plan : Int), .bool M.down] 25)).alloc (.cells #[.int .i64 0, .slice none 0 0, .int .i64 0, .bool false] 25)).heap[w.heap.size + 1]? = some (.cells #[.int .i64 0, .slice none 0 0, .int .i64 0, .bool false] 25 (0, 0)) := by
  have := heap_alloc_new (w.alloc (.cells #[.int .i64 (M.room : Int), .slice a n c, .int .i64 (M.plan : Int), .bool M.down] 25)) (.cells #[.int .i64 0, .slice none 0 0, .int .i64 0, .bool false] 25)
  rwa [World.size_alloc] at this
 have hsz : ((w.alloc (.cells #[.int .i64 (M.room : Int), .slice a n c, .int .i64 (M.plan : Int), .bool M.down] 25)).alloc (.cells #[.int .i64 0, .slice none 0 0, .int .i64 0, .bool false] 25)).heap.size = w.heap.size + 2 := by simp
 generalize hW : (w.alloc (.cells #[.int .i64 (M.room : Int), .slice a n c, .int .i64 (M.plan : Int), .bool M.down] 25)).alloc (.cells #[.int .i64 0, .slice none 0 0, .int .i64 0, .bool false] 25) = w2 at *
 clear hW
 have HB1 := Lib.hid hB1
 have HB2 := Lib.hid hB2
 have Hsz := Lib.hid hsz
 clear hB1 hB2 hsz
 generalize hro : (M.room : Int) = ro at *
 have Hro := Lib.hid hro
 generalize (M.plan : Int) = pl at *
 generalize M.down = dn at *
 clear hro
 go_loopw [5, 6] (fun s i wr => ∃ j : Nat, j ≤ n ∧ i = .int .i64 (j : Int) ∧ wr.ownsRow w2.heap.size 97 3 s j (flatF (cutTo ks R j)) ∧ Below w2.heap.size w2 wr) (fun _ i _ => n - (intOf i).toNat)
 case atStart => exact ⟨0, Nat.zero_le _, rfl, World.ownsRow_nil w2 w2.heap.size 97 3, Below.refl _ _⟩
 case round =>
  obtain ⟨j, hj, rfl, hown, hb⟩ := hrel
  have Hown := Lib.hid hown
  have Hb2 := Lib.hid hb
  have Hbw := Lib.hid (Hb.out.trans (hb.mono Hb.out.size))
  have b1 : wr.cell? ⟨w.heap.size, 1, none⟩ = some (.slice a n c) := by rw [hb.cell (p := ⟨w.heap.size, 1, none⟩) (by have := Hsz.out; show w.heap.size < _; omega), cell_of_row _ _ _ _ _ (0, 0) HB1.out]; rfl
  by_cases hlt : j < n
  ·have hR := HR.out wr Hbw.out
   have hNs := HN.out wr Hbw.out
   obtain ⟨b, o, rfl, _, _⟩ := hR.cell (by omega)
   have hjR : j < R.length := by rw [Hlen.out]; exact hlt
   obtain ⟨k0, k1, k2⟩ := hR.at j hjR
   have hf := hR.files R[j] (List.getElem_mem _)
   change wr.cell? ⟨b, o + j * 3, none⟩ = some (.string ⟨(R[j].f.n).toArray⟩) at k0
   have hji : (j : Int) < (n : Int) := by omega
   have Hs := Lib.hid (cutTo_next (ks := ks) hjR)
   have Hcl := Lib.hid (fun k => cutR_cells k R[j] hf.dur)
   have hdur := hf.dur
   have hLk := hf.bytes.le
   have hLm := hf.bytes.capmax
   have Hsl := Lib.hid (fun q (hq : q ≤ R[j].f.b.length) w => slice_same (a := R[j].pa) hq hLk hf.form w)
   have hwf : ∀ i, -9223372036854775808 ≤ ks.getD i 0 ∧ ks.getD i 0 ≤ 9223372036854775807 := by
    intro i
    by_cases hi : i < m
    ·exact hNs.get hi
    ·rw [List.getD_eq_getElem?_getD, List.getElem?_eq_none (by rw [hNs.len]; omega)]
     decide
   have hwfj := hwf j
   generalize hkk : ks.getD j 0 = kj at *
   generalize R[j] = x at *
   have HNs := Lib.hid hNs
   clear hown hb hR hf hjR hwf hNs
   obtain ⟨rr, hrr⟩ : ∃ rr, x.f.b.length = x.f.d + rr := ⟨x.f.b.length - x.f.d, by omega⟩
   rw [hrr] at k1 hLk Hsl
   have Hrr := Lib.hid hrr
   clear hrr hdur
   by_cases hjm : j < m
   ·have hjm2 : (j : Int) < (m : Int) := by omega
    obtain ⟨b', o', rfl, hcN⟩ := HNs.out.cell (by omega)
    have hcj : wr.cell? ⟨b', o' + j, none⟩ = some (.int .i64 kj) := by rw [hcN j hjm, hkk]
    clear hcN
    go_wp2
    have hal : Below wr.heap.size wr (wr.alloc (.cells #[.string ⟨x.f.n.toArray⟩, .slice x.pa (x.f.d + rr) x.k, .int .i64 (x.f.d : Int)] 97)) := (Below.refl _ _).alloc (Nat.le_refl _) _
    have h3 := heap_alloc_new wr (.cells #[.string ⟨x.f.n.toArray⟩, .slice x.pa (x.f.d + rr) x.k, .int .i64 (x.f.d : Int)] 97)
    generalize wr.alloc (.cells #[.string ⟨x.f.n.toArray⟩, .slice x.pa (x.f.d + rr) x.k, .int .i64 (x.f.d : Int)] 97) = w3 at *
    have hcj3 : w3.cell? ⟨b', o' + j, none⟩ = some (.int .i64 kj) := cell_keep hal hcj
    have f0 : w3.cell? ⟨wr.heap.size, 0, none⟩ = some (.string ⟨x.f.n.toArray⟩) := by rw [cell_of_row _ _ _ _ _ (0, 0) h3]; rfl
    have f1 : w3.cell? ⟨wr.heap.size, 1, none⟩ = some (.slice x.pa (x.f.d + rr) x.k) := by rw [cell_of_row _ _ _ _ _ (0, 0) h3]; rfl
    have f2 : w3.cell? ⟨wr.heap.size, 2, none⟩ = some (.int .i64 (x.f.d : Int)) := by rw [cell_of_row _ _ _ _ _ (0, 0) h3]; rfl
    have g1 : w3.frozen? ⟨wr.heap.size, 1, none⟩ = false := by simp [World.frozen?, h3]
    have g2 : w3.frozen? ⟨wr.heap.size, 2, none⟩ = false := by simp [World.frozen?, h3]
    obtain ⟨q, hq⟩ : ∃ q, q = min (max kj 0).toNat rr := ⟨_, rfl⟩
    have hqv : min (max kj 0) ((x.f.d : Int) + (rr : Int) - (x.f.d : Int)) = (q : Int) := by rw [hq]; omega
    have Hqv := Lib.hid hqv
    have Hq := Lib.hid hq
    have hqr : q ≤ rr := by omega
    have hsl := Hsl.out (x.f.d + q) (by omega)
    rw [show ((x.f.d + q : Nat) : Int) = (x.f.d : Int) + (q : Int) by simp] at hsl
    clear hqv hq
    go_quiet (fail)
    rw [Hqv.out]
    have h4 : Below wr.heap.size wr (((w3.drewN nq).setCell ⟨wr.heap.size, 1, none⟩ (.slice x.pa (x.f.d + q) x.k)).setCell ⟨wr.heap.size, 2, none⟩ (.int .i64 ((x.f.d : Int) + (q : Int)))) :=
     ((below_drewN hal nq).setCell (p := ⟨wr.heap.size, 1, none⟩) (Nat.le_refl _) _).setCell (p := ⟨wr.heap.size, 2, none⟩) (Nat.le_refl _) _
    have hsz4 : (((w3.drewN nq).setCell ⟨wr.heap.size, 1, none⟩ (.slice x.pa (x.f.d + q) x.k)).setCell ⟨wr.heap.size, 2, none⟩ (.int .i64 ((x.f.d : Int) + (q : Int)))).heap.size = w3.heap.size := by simp
    have ha5 := (Below.refl (((w3.drewN nq).setCell ⟨wr.heap.size, 1, none⟩ (.slice x.pa (x.f.d + q) x.k)).setCell ⟨wr.heap.size, 2, none⟩ (.int .i64 ((x.f.d : Int) + (q : Int)))).heap.size _).alloc (Nat.le_refl _) (.cells #[.string ⟨x.f.n.toArray⟩, .slice x.pa (x.f.d + q) x.k, .int .i64 ((x.f.d : Int) + (q : Int))] 97)
    have Hown2 := Lib.hid (own_belowF (own_belowF Hown.out h4) ha5)
    have hnews := World.news_of_block (heap_alloc_new (((w3.drewN nq).setCell ⟨wr.heap.size, 1, none⟩ (.slice x.pa (x.f.d + q) x.k)).setCell ⟨wr.heap.size, 2, none⟩ (.int .i64 ((x.f.d : Int) + (q : Int)))) (.cells #[.string ⟨x.f.n.toArray⟩, .slice x.pa (x.f.d + q) x.k, .int .i64 ((x.f.d : Int) + (q : Int))] 97))
    rw [hsz4] at hnews
    have Hnews := Lib.hid hnews
    have Hb5 := Lib.hid ((Hb2.out.trans (h4.mono Hb2.out.size)).trans (ha5.mono (Nat.le_trans Hb2.out.size h4.size)))
    have Hcut := Lib.hid (show cells3 (cutR kj x) = [.string ⟨x.f.n.toArray⟩, .slice x.pa (x.f.d + q) x.k, .int .i64 ((x.f.d : Int) + (q : Int))] by
     rw [Hcl.out]
     have e : leftN x.f kj = x.f.d + q := by unfold leftN; rw [Hq.out, Hrr.out]; omega
     rw [e]
     simp [encStr])
    clear h4 hsz4 ha5 hnews hal
    go_wp2_with (first
     | (at_builtin; refine wpList_append_own _ rfl _ _ 22 rfl w2.heap.size 97 i0 _ 3 48 Tryz.underlying22 hi hz0 hz1 hz2 rfl (by decide) _ _ _ rfl Hown2.out ⟨w3.heap.size, 0, none⟩ 1 1 [.string ⟨x.f.n.toArray⟩, .slice x.pa (x.f.d + q) x.k, .int .i64 ((x.f.d : Int) + (q : Int))] rfl rfl Hnews.out (by rw [← Hcut.out]; exact cells3_one _) (by rw [maxLen_nat]; omega) (by omega) Hb5.out.size ?_; intro v' w' g1 g2 _)
     | go_in)
    have Hg1 := Lib.hid (show w'.ownsRow w2.heap.size 97 3 v' (j + 1) (flatF (cutTo ks R (j + 1))) by
     rw [Hs.out, flatF_append]
     have e : flatF [cutR kj x] = cells3 (cutR kj x) := by rw [flatF_cons]; exact List.append_nil _
     rw [e, Hcut.out]
     exact g1)
    have Hg2 := Lib.hid (Hb5.out.grown g2 Hb5.out.size (fun k hk => (Hown2.out.lt k hk).1))
    clear g1 g2
    go_wp2
    go_roundw
    case rel => exact ⟨j + 1, hlt, by go_num, Hg1.out, Hg2.out⟩
    case measure => simp [intOf]; omega
   ·have hjm2 : ¬ (j : Int) < (m : Int) := by omega
    have hk0 : kj = 0 := by rw [← hkk, List.getD_eq_getElem?_getD, List.getElem?_eq_none (by rw [HNs.out.len]; omega)]; rfl
    subst hk0
    have hsl := Hsl.out x.f.d (by omega)
    have h4 : Below wr.heap.size wr (wr.alloc (.cells #[.string ⟨x.f.n.toArray⟩, .slice x.pa x.f.d x.k, .int .i64 (x.f.d : Int)] 97)) := (Below.refl _ _).alloc (Nat.le_refl _) _
    have hsz4 : (wr.alloc (.cells #[.string ⟨x.f.n.toArray⟩, .slice x.pa x.f.d x.k, .int .i64 (x.f.d : Int)] 97)).heap.size = wr.heap.size + 1 := by simp
    have ha5 := (Below.refl (wr.alloc (.cells #[.string ⟨x.f.n.toArray⟩, .slice x.pa x.f.d x.k, .int .i64 (x.f.d : Int)] 97)).heap.size _).alloc (Nat.le_refl _) (.cells #[.string ⟨x.f.n.toArray⟩, .slice x.pa x.f.d x.k, .int .i64 (x.f.d : Int)] 97)
    have Hown2 := Lib.hid (own_belowF (own_belowF Hown.out h4) ha5)
    have hnews := World.news_of_block (heap_alloc_new (wr.alloc (.cells #[.string ⟨x.f.n.toArray⟩, .slice x.pa x.f.d x.k, .int .i64 (x.f.d : Int)] 97)) (.cells #[.string ⟨x.f.n.toArray⟩, .slice x.pa x.f.d x.k, .int .i64 (x.f.d : Int)] 97))
    rw [hsz4] at hnews
    have Hnews := Lib.hid hnews
    have Hb5 := Lib.hid ((Hb2.out.trans (h4.mono Hb2.out.size)).trans (ha5.mono (Nat.le_trans Hb2.out.size h4.size)))
    have Hcut := Lib.hid (show cells3 (cutR 0 x) = [.string ⟨x.f.n.toArray⟩, .slice x.pa x.f.d x.k, .int .i64 (x.f.d : Int)] by
     rw [Hcl.out]
     have e : leftN x.f 0 = x.f.d := by unfold leftN; simp
     rw [e])
    clear h4 hsz4 ha5 hnews
    go_wp2_with (first
     | (at_builtin; refine wpList_append_own _ rfl _ _ 22 rfl w2.heap.size 97 i0 _ 3 48 Tryz.underlying22 hi hz0 hz1 hz2 rfl (by decide) _ _ _ rfl Hown2.out ⟨wr.heap.size + 1, 0, none⟩ 1 1 [.string ⟨x.f.n.toArray⟩, .slice x.pa x.f.d x.k, .int .i64 (x.f.d : Int)] rfl rfl Hnews.out (by rw [← Hcut.out]; exact cells3_one _) (by rw [maxLen_nat]; omega) (by omega) Hb5.out.size ?_; intro v' w' g1 g2 _)
     | go_in)
    have Hg1 := Lib.hid (show w'.ownsRow w2.heap.size 97 3 v' (j + 1) (flatF (cutTo ks R (j + 1))) by
     rw [Hs.out, flatF_append]
     have e : flatF [cutR 0 x] = cells3 (cutR 0 x) := by rw [flatF_cons]; exact List.append_nil _
     rw [e, Hcut.out]
     exact g1)
    have Hg2 := Lib.hid (Hb5.out.grown g2 Hb5.out.size (fun k hk => (Hown2.out.lt k hk).1))
    clear g1 g2
    go_wp2
    go_roundw
    case rel => exact ⟨j + 1, hlt, by go_num, Hg1.out, Hg2.out⟩
    case measure => simp [intOf]; omega
  ·have hji : ¬ (j : Int) < (n : Int) := by omega
   obtain rfl : j = n := by omega
   have hRw := HR.out wr Hbw.out
   have hfiles : ∀ y ∈ cutTo ks R j, FileB X wr y := by
    intro y hy
    unfold cutTo at hy
    obtain ⟨i, hi, rfl⟩ := List.mem_mapIdx.1 hy
    exact cutR_file (hRw.files _ (List.mem_of_mem_take (List.getElem_mem _))) _
   have hsz2 := hb.size
   obtain ⟨a4, c4, rfl, hR4⟩ := rowF_own (X := X) (Y := fun b => (X b ∨ w.heap.size + 1 < b) ∧ b < wr.heap.size) hown hfiles (fun b h => ⟨.inl h, by have := HX.out b h; have := Hbw.out.size; omega⟩) (fun b h1 h2 => ⟨.inr (by have := Hsz.out; omega), h2⟩)
   have HR4 := Lib.hid hR4
   have hB := (hb.block w.heap.size (by have := Hsz.out; omega)).trans HB1.out
   have hZ := (hb.block (w.heap.size + 1) (by have := Hsz.out; omega)).trans HB2.out
   have b0 : wr.cell? ⟨w.heap.size, 0, none⟩ = some (.int .i64 ro) := by rw [cell_of_row _ _ _ _ _ (0, 0) hB]; rfl
   have z0 : wr.cell? ⟨w.heap.size + 1, 0, none⟩ = some (.int .i64 0) := by rw [cell_of_row _ _ _ _ _ (0, 0) hZ]; rfl
   have z1 : wr.cell? ⟨w.heap.size + 1, 1, none⟩ = some (.slice none 0 0) := by rw [cell_of_row _ _ _ _ _ (0, 0) hZ]; rfl
   have z2 : wr.cell? ⟨w.heap.size + 1, 2, none⟩ = some (.int .i64 0) := by rw [cell_of_row _ _ _ _ _ (0, 0) hZ]; rfl
   have z3 : wr.cell? ⟨w.heap.size + 1, 3, none⟩ = some (.bool false) := by rw [cell_of_row _ _ _ _ _ (0, 0) hZ]; rfl
   have fz : ∀ i, wr.frozen? ⟨w.heap.size + 1, i, none⟩ = false := fun i => by simp [World.frozen?, hZ]
   have Hfin := Lib.hid (show (cutTo ks R j).map FR.f = (crashM ks M).fs by
    have e := cutTo_all ks R
    rw [Hlen.out, Hfs.out] at e
    exact e)
   clear hown hfiles hRw hR4 hB hZ hb hsz2
   go_wp2_with fail
   refine bodyPost_ret (v := refV ro a4 j c4 0 false) ?_ rfl ⟨a4, j, c4, cutTo ks R j, ?_, HR4.out.mono ?_ ?_, Hfin.out, ?_⟩
   ·rw [results_one rfl]
    go_simp
    rfl
   ·rw [← Hro.out]; rfl
   ·rintro b ⟨hb, _⟩
    have hb := hb.imp (HX.out b) id
    repeat rw [Below.heap_setCell _ _ _ _ (by simp; omega)]
   ·rintro b ⟨h1, hb⟩
    simp only [World.size_setCell]
    exact ⟨h1.imp id (fun h => by omega), hb⟩
   ·repeat (first | exact Hbw.out | refine Below.setCell ?_ (by simp) _)
end Go.Proofs.YtnbddiiedagllaaGreat

/- The statements' operations as plain data: what each does to a plain disk; bounds on what a few of them can do. -/
namespace Go.Proofs.YtnbddiiedagllaaGreat
open Go.RowKit Go.Maps Go.Shelf

theorem usedF_insN (x : F) : ∀ l : List F, usedF (insN F.n x l) = x.b.length + usedF l
 | [] => by simp [insN, usedF]
 | y :: r => by
  unfold insN
  split
  ·rw [usedF_cons, usedF_cons]
  ·rw [usedF_cons, usedF_insN x r, usedF_cons]
   omega
theorem usedF_delN (n : List UInt8) : ∀ l : List F, usedF (delN F.n n l) ≤ usedF l
 | [] => Nat.le_refl _
 | y :: r => by
  have ih := usedF_delN n r
  unfold delN at ih ⊢
  rw [List.filter_cons, usedF_cons]
  split
  ·rw [usedF_cons]
   omega
  ·omega
theorem usedF_delN_mem {n : List UInt8} : ∀ {l : List F} {f : F}, f ∈ l → f.n = n → usedF (delN F.n n l) + f.b.length ≤ usedF l
 | y :: r, f, h, hn => by
  have ih := usedF_delN n r
  unfold delN at ih ⊢
  rw [List.filter_cons, usedF_cons]
  rcases List.mem_cons.1 h with rfl | h
  ·rw [if_neg (by simp [hn])]
   omega
  ·have ih2 := usedF_delN_mem h hn
   unfold delN at ih2
   split
   ·rw [usedF_cons]
    omega
   ·omega
theorem length_insN (x : F) (l : List F) : (insN F.n x l).length = l.length + 1 := by rw [(perm_insN F.n x l).length_eq, List.length_cons]
theorem length_delN (n : List UInt8) (l : List F) : (delN F.n n l).length ≤ l.length := List.length_filter_le _ _
structure Small (M : DM) (N U : Nat) : Prop where
 files : M.fs.length ≤ N
 used : usedF M.fs ≤ U

theorem failM_small {M : DM} {N U : Nat} (h : Small M N U) : Small (failM M) N U := by
 refine ⟨?_, ?_⟩ <;> rw [failM_fs' M]
 ·exact h.files
 ·exact h.used

theorem chgM_small {M : DM} {N U N' U' : Nat} (h : Small M N U) (hN : N ≤ N') (hU : U ≤ U') {nm : List UInt8} {act : DM → DM × Int} (ha : ∀ M', M'.fs = M.fs → Small (act M').1 N' U') : Small (chgM M nm act).1 N' U' := by
 unfold chgM
 have h2 := failM_small h
 split
 ·exact ⟨Nat.le_trans h2.files hN, Nat.le_trans h2.used hU⟩
 ·split
  ·exact ha _ (failM_fs' M)
  ·exact ⟨Nat.le_trans h2.files hN, Nat.le_trans h2.used hU⟩

theorem onM_small {M' : DM} {N' U' : Nat} (h : Small M' N' U') {nm : List UInt8} {act : F → DM → DM × Int} (ha : ∀ f, f ∈ M'.fs → f.n = nm → Small (act f M').1 N' U') : Small (onM nm act M').1 N' U' := by
 unfold onM
 cases hf : findN F.n nm M'.fs with
 | none => exact h
 | some f => exact ha f (findN_some hf).1 (findN_some hf).2

theorem put_small {fs : List F} {N U : Nat} {f : F} {x : F} (hf : f ∈ fs) (hn : f.n = x.n) (h1 : fs.length ≤ N) (h2 : usedF fs ≤ U) : (putN F.n x fs).length ≤ N + 1 ∧ usedF (putN F.n x fs) + f.b.length ≤ U + x.b.length := by
 unfold putN
 rw [length_insN, usedF_insN]
 have h3 := length_delN x.n fs
 have h4 := usedF_delN_mem hf hn
 exact ⟨by omega, by omega⟩

theorem stepM_small {M : DM} {N U : Nat} (h : Small M N U) (hs : Sorted M.fs) (k : Int) (nm «to» : List UInt8) (bs : List Nat) : Small (stepM k nm «to» bs M).1 (N + 1) (U + bs.length) := by
 unfold stepM
 have same : ∀ M', M'.fs = M.fs → Small M' (N + 1) (U + bs.length) := fun M' e => ⟨by rw [e]; have := h.files; omega, by rw [e]; have := h.used; omega⟩
 have hset : ∀ (M' : DM) (f x : F), M'.fs = M.fs → f ∈ M'.fs → f.n = x.n → x.b.length ≤ f.b.length + bs.length → Small { M' with fs := setN F.n x M'.fs } (N + 1) (U + bs.length) := by
  intro M' f x e hf hn hx
  have h1 : setN F.n x M'.fs = putN F.n x M'.fs := setN_putN x _ (by rw [e]; exact hs) (fun hnone => findN_none hnone f hf hn)
  rw [h1]
  have h2 := put_small (x := x) hf hn (N := N) (U := U) (by rw [e]; exact h.files) (by rw [e]; exact h.used)
  exact ⟨h2.1, by have := h2.2; show usedF (putN F.n x M'.fs) ≤ _; omega⟩
 split
 ·refine chgM_small h (by omega) (by omega) fun M' e => ?_
  cases findN F.n nm M'.fs with
  | some f => exact same M' e
  | none =>
   refine ⟨?_, ?_⟩
   ·show (putN F.n _ M'.fs).length ≤ _
    unfold putN
    rw [length_insN]
    have := length_delN nm M'.fs
    have h1 := h.files
    rw [← e] at h1
    simp only
    omega
   ·show usedF (putN F.n _ M'.fs) ≤ _
    unfold putN
    rw [usedF_insN]
    have := usedF_delN nm M'.fs
    have h1 := h.used
    rw [← e] at h1
    simp only [List.length_nil]
    omega
 ·split
  ·refine chgM_small h (by omega) (by omega) fun M' e => onM_small (same M' e) fun f hf hn => ?_
   split
   ·exact hset M' f _ e hf (by simpa using hn) (by simp)
   ·exact same M' e
  ·split
   ·exact chgM_small h (by omega) (by omega) fun M' e => onM_small (same M' e) fun f hf hn => hset M' f _ e hf (by simpa using hn) (by simp)
   ·split
    ·refine chgM_small h (by omega) (by omega) fun M' e => onM_small (same M' e) fun f hf hn => ?_
     split
     ·refine ⟨?_, ?_⟩
      ·show (putN F.n _ (delN F.n nm M'.fs)).length ≤ _
       unfold putN
       rw [length_insN]
       have h1 := length_delN «to» (delN F.n nm M'.fs)
       have h2 := length_delN nm M'.fs
       have h3 := h.files
       rw [← e] at h3
       simp only
       omega
      ·show usedF (putN F.n _ (delN F.n nm M'.fs)) ≤ _
       unfold putN
       rw [usedF_insN]
       have h1 := usedF_delN «to» (delN F.n nm M'.fs)
       have h2 := usedF_delN_mem hf hn
       have h3 := h.used
       rw [← e] at h3
       simp only
       omega
     ·exact same M' e
    ·refine chgM_small h (by omega) (by omega) fun M' e => onM_small (same M' e) fun f hf hn => ⟨?_, ?_⟩
     ·have h2 := length_delN nm M'.fs
      have h3 := h.files
      rw [← e] at h3
      show (delN F.n nm M'.fs).length ≤ _
      omega
     ·have h2 := usedF_delN nm M'.fs
      have h3 := h.used
      rw [← e] at h3
      show usedF (delN F.n nm M'.fs) ≤ _
      omega

end Go.Proofs.YtnbddiiedagllaaGreat

