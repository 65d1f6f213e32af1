import Derived.Test.YtmiepigieajpcaaGreatMB35
import Derived.Test.YtmiepigieajpcaaGreatMB24
import Derived.Maps.AppendAt
import Derived.Lib.AppendZeros
import Derived.Test.YtmiepigieajpcaaGreatMB13
import Derived.Test.YtmiepigieajpcaaGreatMB10
import Derived.Test.YtmiepigieajpcaaGreatMB7
import Derived.IntWalk
import Derived.Test.YtmiepigieajpcaaGreatMB17
/- The walks of slices.Grow of no slice and of slices.Concat of two slices, of byte slices. -/
namespace Go.Proofs.YtmiepigieajpcaaGreat
open Go.RowKit

section
variable {P : Program}

/-- 'append(out, p...)': out a slice of byte slices of the call's own, p one that lay there when the call began. -/
theorem wpList_append_rows {w : World} {ops : Array Oper} {rest : List Oper} {o : Oper} {a : Act} {Q : Exit → Act → World → Prop} (hgd : o.guard = none) (s x : Operand) (t : TypeId)
    (ho : o.op = .call { callee := .builtin .append, args := #[s, x], argTypes := #[t, t] })
    (ht : P.underlying t = some (.slice 58)) (hinfo : (P.info? 58).map (fun i => (i.zero, i.size, i.bytes)) = some (some (.slice none 0 0), 1, 24))
    {w0 : World} {v : Value} {ls ms : List (List Nat)} (hs : a.eval s = v) (hown : OwnParts w w0.heap.size v ls)
    {p : Option Addr} {m c : Nat} (hx : a.eval x = .slice p m c) (hP : Parts w0 p m c ms) (hb : Below w0.heap.size w0 w) (hn : ls.length + m ≤ 1000000000)
    (h : ∀ v' w', OwnParts w' w0.heap.size v' (ls ++ ms) → Below w0.heap.size w0 w' → wpList P ops Q rest (a.put o.dst v') w') : wpList P ops Q (o :: rest) a w := by
  obtain ⟨i, hi, hz, hsz, hby⟩ := info_parts hinfo
  rcases Nat.eq_zero_or_pos m with rfl | hm
  · have hm0 : ms = [] := List.length_eq_zero_iff.1 hP.len
    obtain ⟨q, k, rfl, hq⟩ := hown.parts
    have hr : (Builtin.append_ #[t, t] o.type #[.slice q ls.length k, .slice p 0 c]).run P w = .ok (.slice q ls.length k) w := by
      refine run_append_nothing w t t o.type 58 i ht hi q ls.length k hq.le (.slice p 0 c) ?_
      cases p with
      | none => exact Src.ofNil w ht c
      | some ad => exact Src.ofSlice w ht ad 0 c [] (by simp) (fun j u h => by simp at h) (fun u h => by simp at h)
    refine wpList_plain hgd fun K hK => ?_
    unfold Oper.wp execOp
    simp only [ho, resolve, invoke, builtin, Sem.run_bind, Sem.run_pure, Result.andThen_ok, List.map_toArray, List.map_cons, List.map_nil, hs, hx, hr]
    refine hK _ _ (h _ w ?_ hb)
    rw [hm0, List.append_nil]
    exact hown
  · obtain ⟨b, off, rfl, hblt, hc⟩ := hP.cell hm
    obtain ⟨vs, hlen, hrow, hel⟩ := hown
    have hadd : ∀ (x y j : Nat), (⟨x, y, none⟩ : Addr).add j = ⟨x, y + j, none⟩ := fun x y j => by unfold Addr.add; split <;> simp_all
    obtain ⟨us, hus⟩ : ∃ us : List Value, us = (List.range m).map fun i => (w0.cell? ⟨b, off + i, none⟩).getD undef := ⟨_, rfl⟩
    have hul : us.length = m := by rw [hus]; simp
    have hu : ∀ i, i < m → ∃ a' n' c', us[i]? = some (.slice a' n' c') ∧ w.cell? ⟨b, off + i, none⟩ = some (.slice a' n' c') ∧ Bytes w0 a' n' c' (ms.getD i []) := by
      intro i hi
      obtain ⟨a', n', c', h1, h2⟩ := hc i hi
      refine ⟨a', n', c', ?_, by rw [hb.cell (p := ⟨b, off + i, none⟩) hblt]; exact h1, h2⟩
      rw [hus, List.getElem?_map, List.getElem?_range hi]
      simp [h1]
    refine wpList_append_own_at w hgd s x t ho w0.heap.size 58 i (.slice none 0 0) 1 24 ht hi hz hsz hby rfl (by decide) v ls.length vs hs hrow ⟨b, off, none⟩ m c us hx (by rw [hul]; omega) ?_ ?_ (by rw [maxLen_nat]; omega) (by omega) hb.size ?_
    · intro j u hj
      have hjm : j < m := by rw [← hul]; exact (List.getElem?_eq_some_iff.1 hj).1
      obtain ⟨a', n', c', h1, h2, _⟩ := hu j hjm
      rw [hadd, h2, ← h1, hj]
    · intro u huu
      obtain ⟨j, hj, rfl⟩ := List.getElem_of_mem huu
      obtain ⟨a', n', c', h1, _, _⟩ := hu j (by rw [← hul]; exact hj)
      rw [List.getElem?_eq_getElem hj] at h1
      rw [Option.some.inj h1]
      rfl
    · intro v' w' g1 g2 _ g4
      refine h v' w' (OwnParts.app hlen hel (by rw [hul]; exact hP.len.symm) (fun i hi => ?_) (by rw [hP.len]; exact g1) g2 g4) (hb.grown g2 hb.size (fun k hk => (hrow.lt k hk).1))
      obtain ⟨a', n', c', h1, _, h3⟩ := hu i (by rw [← hP.len]; exact hi)
      refine ⟨a', n', c', h1, h3.grow hb, fun hn' y hy e => ?_⟩
      have h4 := (hrow.lt y.block e.symm).1
      obtain ⟨b', o', e2, hc'⟩ := h3.cell hn'
      have h5 := World.block_lt_of_cell? _ _ (hc' 0 hn')
      rw [hy] at e2
      cases e2
      simp only at h4 h5
      omega
end

def upTwo (n y : Nat) : Nat → Nat
  | 0 => 0
  | 1 => n
  | _ => n + y

def twoOf (ls ms : List (List Nat)) : Nat → List (List Nat)
  | 0 => []
  | 1 => ls
  | _ => ls ++ ms

end Go.Proofs.YtmiepigieajpcaaGreat

/- The walk of the reference's Crash. -/
namespace Go.Proofs.YtmiepigieajpcaaGreat
open Go.RowKit Go.Maps Go.Shelf

/-- A file that a crash has cut. -/
def cutR (k : Int) (x : FR) : FR := ⟨cutF x.f k, x.pa, x.k⟩
def cutTo (ks : List Int) (R : List FR) (j : Nat) : List FR := (R.take j).mapIdx fun i x => cutR (ks.getD i 0) x

theorem cutTo_next {ks : List Int} {R : List FR} {j : Nat} (hj : j < R.length) : cutTo ks R (j + 1) = cutTo ks R j ++ [cutR (ks.getD j 0) R[j]] := by
  unfold cutTo
  rw [List.take_succ_eq_append_getElem hj, List.mapIdx_append]
  congr 1
  simp [List.length_take, Nat.min_eq_left (Nat.le_of_lt hj)]

theorem cutTo_length {ks : List Int} {R : List FR} {j : Nat} (hj : j ≤ R.length) : (cutTo ks R j).length = j := by
  unfold cutTo
  rw [List.length_mapIdx, List.length_take]
  omega

theorem cutTo_all (ks : List Int) (R : List FR) : (cutTo ks R R.length).map FR.f = (R.map FR.f).mapIdx fun i f => cutF f (ks.getD i 0) := by
  unfold cutTo
  rw [List.take_length]
  apply List.ext_getElem (by simp)
  intro i h1 h2
  simp [cutR]

/-- How many bytes a crash leaves. -/
def leftN (f : F) (k : Int) : Nat := f.d + min (max k 0).toNat (f.b.length - f.d)
theorem leftN_le {f : F} (h : f.d ≤ f.b.length) (k : Int) : leftN f k ≤ f.b.length := by unfold leftN; omega
theorem cutR_cells (k : Int) (x : FR) (h : x.f.d ≤ x.f.b.length) : cells3 (cutR k x) = [encStr x.f.n, .slice x.pa (leftN x.f k) x.k, .int .i64 (leftN x.f k : Int)] := by
  have e : (x.f.b.take (leftN x.f k)).length = leftN x.f k := by rw [List.length_take]; have := leftN_le h k; omega
  unfold cells3 cutR cutF
  simp only
  show [encStr x.f.n, Value.slice x.pa (x.f.b.take (leftN x.f k)).length x.k, Value.int .i64 ((leftN x.f k : Nat) : Int)] = _
  rw [e]

theorem cutR_file {X : Nat → Prop} {w : World} {x : FR} (h : FileB X w x) (k : Int) : FileB X w (cutR k x) := by
  have hle := leftN_le h.dur k
  have e : (x.f.b.take (leftN x.f k)).length = leftN x.f k := by rw [List.length_take]; omega
  refine ⟨?_, h.form, fun hn a ha => h.blk ?_ a ha, ?_, h.name⟩
  · show Bytes w x.pa (x.f.b.take (leftN x.f k)).length x.k (x.f.b.take (leftN x.f k))
    rw [e]
    exact h.bytes.takeTo hle (Nat.le_trans hle h.bytes.le) (Nat.le_refl _)
  · have : 0 < (x.f.b.take (leftN x.f k)).length := hn
    rw [e] at this
    omega
  · show leftN x.f k ≤ (x.f.b.take (leftN x.f k)).length
    rw [e]
    exact Nat.le_refl _

/-- 's[:k]' of bytes: the same address. -/
theorem slice_same {a : Option Addr} {n c k : Nat} (hk : k ≤ n) (hn : n ≤ c) (hf : Formed a c) (w : World) :
    (Instr.slice 58 (.slice a n c) none (some (.int .i64 (k : Int))) none).run Tryz.prog w = .ok (.slice a k c) w := by
  obtain ⟨i, hi, _, hsz, _⟩ := info_parts info_u8
  have hT' : Tryz.prog.underlying 58 = some (.slice (Tryz.prog.elem 58)) := by kernel_rfl
  have hE : Tryz.prog.elem 58 = 5 := by kernel_rfl
  have hsize : ∀ w : World, (sizeOf (Tryz.prog.elem 58)).run Tryz.prog w = .ok 1 w := fun w => by rw [hE]; simp [sizeOf, typeInfo, hi, hsz]
  have ha : (if c = 0 then a else a.map (·.add (0 * 1))) = a := by
    by_cases h : c = 0
    · rw [if_pos h]
    · rw [if_neg h]
      obtain ⟨b, o, rfl⟩ := hf (by omega)
      simp [addr_add]
  rw [run_slice_h w 58 a n c hT' .i64 (k : Int) (by omega) (by omega), hsize]
  show Result.ok (Value.slice (if c = 0 then a else a.map (·.add (0 * 1))) (k - 0) (c - 0)) w = _
  rw [ha]
  rfl

theorem own_belowF {w w' : World} {base n size : Nat} {e : TypeId} {v : Value} {xs : List Value} (h : w.ownsRow base e size v n xs) (hb : Below w.heap.size w w') : w'.ownsRow base e size v n xs := by
  refine ⟨h.1, ?_⟩
  rcases h.2 with hn | ⟨g, cap, cur, rfl, hbg, hg, rest⟩
  · exact .inl hn
  · exact .inr ⟨g, cap, cur, rfl, hbg, (hb.block g (Array.getElem?_eq_some_iff.1 hg).1).trans hg, rest⟩

theorem results_one {fn : Func} {p : Tmp} {ty : TypeId} (h : fn.results = #[.cell p ty]) (tmps : Array Value) (P : Program) (w : World) :
    (results fn tmps).run P w = ((asAddr (tmps.getD p undef)).run P w).andThen fun a w₁ => (loadVar ty a).run P w₁ := by
  simp only [results, h]
  simp [Result.andThen]

/-- A disk of the reference, as a call answers it. -/
def RefEnd (X : Nat → Prop) (w : World) (M : DM) (e : Ending) (w' : World) : Prop :=
  ∃ a n c R, e = .returned (refV (M.room : Int) a n c (M.plan : Int) M.down) ∧ RowF (fun b => (X b ∨ w.heap.size ≤ b) ∧ b < w'.heap.size) w' a n c R ∧ R.map FR.f = M.fs ∧ Below w.heap.size w w'

set_option maxRecDepth 100000 in
set_option maxHeartbeats 6400000 in
theorem rcrash_any {X : Nat → Prop} {w : World} {v : Value} {M : DM} (h : RefAt X w v M) (hX : ∀ b, X b → b < w.heap.size) (pk : Option Addr) (m ck : Nat) (ks : List Int) (hN : Nums w pk m ck ks) :
    Calls Tryz.prog 33 #[v, .slice pk m ck] w (RefEnd X w (crashM ks M)) := by
  obtain ⟨a, n, c, R, rfl, hR, hfs, hn⟩ := h
  obtain ⟨i0, hi, hz0, hz1, hz2⟩ := info_parts info_file
  have hb := ((Below.refl w.heap.size w).alloc (Nat.le_refl _) (.cells #[.int .i64 (M.room : Int), .slice a n c, .int .i64 (M.plan : Int), .bool M.down] 25)).alloc (by simp) (.cells #[.int .i64 0, .slice none 0 0, .int .i64 0, .bool false] 25)
  have hlen := hR.len
  have hmax : n ≤ 9223372036854775807 := Nat.le_trans hR.le hR.max
  have Hb := Lib.hid hb
  have HR := Lib.hid (fun (w1 : World) (hb : Below w.heap.size w w1) => hR.below hX hb)
  have HN := Lib.hid (fun (w1 : World) (hb : Below w.heap.size w w1) => hN.grow hb)
  have Hlen := Lib.hid hlen
  have Hfs := Lib.hid hfs
  have hkm : m ≤ 9223372036854775807 := Nat.le_trans hN.le hN.capmax
  have HX := Lib.hid hX
  clear hR hb hX hlen hfs hN
  unfold refV
  go_enter Tryz.func33, Tryz.ntmps33
  go_wp2
  have hB1 : ((w.alloc (.cells #[.int .i64 (M.room : Int), .slice a n c, .int .i64 (M.plan : Int), .bool M.down] 25)).alloc (.cells #[.int .i64 0, .slice none 0 0, .int .i64 0, .bool false] 25)).heap[w.heap.size]? = some (.cells #[.int .i64 (M.room : Int), .slice a n c, .int .i64 (M.plan : Int), .bool M.down] 25 (0, 0)) :=
    (Below.heap_alloc _ _ _ (by simp)).trans (heap_alloc_new _ _)
  have hB2 : ((w.alloc (.cells #[.int .i64 (M.room : Int), .slice a n c, .int .i64 (M.plan : Int), .bool M.down] 25)).alloc (.cells #[.int .i64 0, .slice none 0 0, .int .i64 0, .bool false] 25)).heap[w.heap.size + 1]? = some (.cells #[.int .i64 0, .slice none 0 0, .int .i64 0, .bool false] 25 (0, 0)) := by
    have := heap_alloc_new (w.alloc (.cells #[.int .i64 (M.room : Int), .slice a n c, .int .i64 (M.plan : Int), .bool M.down] 25)) (.cells #[.int .i64 0, .slice none 0 0, .int .i64 0, .bool false] 25)
    rwa [World.size_alloc] at this
  have hsz : ((w.alloc (.cells #[.int .i64 (M.room : Int), .slice a n c, .int .i64 (M.plan : Int), .bool M.down] 25)).alloc (.cells #[.int .i64 0, .slice none 0 0, .int .i64 0, .bool false] 25)).heap.size = w.heap.size + 2 := by simp
  generalize hW : (w.alloc (.cells #[.int .i64 (M.room : Int), .slice a n c, .int .i64 (M.plan : Int), .bool M.down] 25)).alloc (.cells #[.int .i64 0, .slice none 0 0, .int .i64 0, .bool false] 25) = w2 at *
  clear hW
  have HB1 := Lib.hid hB1
  have HB2 := Lib.hid hB2
  have Hsz := Lib.hid hsz
  clear hB1 hB2 hsz
  generalize hro : (M.room : Int) = ro at *
  have Hro := Lib.hid hro
  generalize (M.plan : Int) = pl at *
  generalize M.down = dn at *
  clear hro
  go_loopw [5, 6] (fun s i wr => ∃ j : Nat, j ≤ n ∧ i = .int .i64 (j : Int) ∧ wr.ownsRow w2.heap.size 97 3 s j (flatF (cutTo ks R j)) ∧ Below w2.heap.size w2 wr) (fun _ i _ => n - (intOf i).toNat)
  case atStart => exact ⟨0, Nat.zero_le _, rfl, World.ownsRow_nil w2 w2.heap.size 97 3, Below.refl _ _⟩
  case round =>
    obtain ⟨j, hj, rfl, hown, hb⟩ := hrel
    have Hown := Lib.hid hown
    have Hb2 := Lib.hid hb
    have Hbw := Lib.hid (Hb.out.trans (hb.mono Hb.out.size))
    have b1 : wr.cell? ⟨w.heap.size, 1, none⟩ = some (.slice a n c) := by rw [hb.cell (p := ⟨w.heap.size, 1, none⟩) (by have := Hsz.out; show w.heap.size < _; omega), cell_of_row _ _ _ _ _ (0, 0) HB1.out]; rfl
    by_cases hlt : j < n
    · have hR := HR.out wr Hbw.out
      have hNs := HN.out wr Hbw.out
      obtain ⟨b, o, rfl, _, _⟩ := hR.cell (by omega)
      have hjR : j < R.length := by rw [Hlen.out]; exact hlt
      obtain ⟨k0, k1, k2⟩ := hR.at j hjR
      have hf := hR.files R[j] (List.getElem_mem _)
      change wr.cell? ⟨b, o + j * 3, none⟩ = some (.string ⟨(R[j].f.n).toArray⟩) at k0
      have hji : (j : Int) < (n : Int) := by omega
      have Hs := Lib.hid (cutTo_next (ks := ks) hjR)
      have Hcl := Lib.hid (fun k => cutR_cells k R[j] hf.dur)
      have hdur := hf.dur
      have hLk := hf.bytes.le
      have hLm := hf.bytes.capmax
      have Hsl := Lib.hid (fun q (hq : q ≤ R[j].f.b.length) w => slice_same (a := R[j].pa) hq hLk hf.form w)
      have hwf : ∀ i, -9223372036854775808 ≤ ks.getD i 0 ∧ ks.getD i 0 ≤ 9223372036854775807 := by
        intro i
        by_cases hi : i < m
        · exact hNs.get hi
        · rw [List.getD_eq_getElem?_getD, List.getElem?_eq_none (by rw [hNs.len]; omega)]
          decide
      have hwfj := hwf j
      generalize hkk : ks.getD j 0 = kj at *
      generalize R[j] = x at *
      have HNs := Lib.hid hNs
      clear hown hb hR hf hjR hwf hNs
      obtain ⟨rr, hrr⟩ : ∃ rr, x.f.b.length = x.f.d + rr := ⟨x.f.b.length - x.f.d, by omega⟩
      rw [hrr] at k1 hLk Hsl
      have Hrr := Lib.hid hrr
      clear hrr hdur
      by_cases hjm : j < m
      · have hjm2 : (j : Int) < (m : Int) := by omega
        obtain ⟨b', o', rfl, hcN⟩ := HNs.out.cell (by omega)
        have hcj : wr.cell? ⟨b', o' + j, none⟩ = some (.int .i64 kj) := by rw [hcN j hjm, hkk]
        clear hcN
        go_wp2
        have hal : Below wr.heap.size wr (wr.alloc (.cells #[.string ⟨x.f.n.toArray⟩, .slice x.pa (x.f.d + rr) x.k, .int .i64 (x.f.d : Int)] 97)) := (Below.refl _ _).alloc (Nat.le_refl _) _
        have h3 := heap_alloc_new wr (.cells #[.string ⟨x.f.n.toArray⟩, .slice x.pa (x.f.d + rr) x.k, .int .i64 (x.f.d : Int)] 97)
        generalize wr.alloc (.cells #[.string ⟨x.f.n.toArray⟩, .slice x.pa (x.f.d + rr) x.k, .int .i64 (x.f.d : Int)] 97) = w3 at *
        have hcj3 : w3.cell? ⟨b', o' + j, none⟩ = some (.int .i64 kj) := cell_keep hal hcj
        have f0 : w3.cell? ⟨wr.heap.size, 0, none⟩ = some (.string ⟨x.f.n.toArray⟩) := by rw [cell_of_row _ _ _ _ _ (0, 0) h3]; rfl
        have f1 : w3.cell? ⟨wr.heap.size, 1, none⟩ = some (.slice x.pa (x.f.d + rr) x.k) := by rw [cell_of_row _ _ _ _ _ (0, 0) h3]; rfl
        have f2 : w3.cell? ⟨wr.heap.size, 2, none⟩ = some (.int .i64 (x.f.d : Int)) := by rw [cell_of_row _ _ _ _ _ (0, 0) h3]; rfl
        have g1 : w3.frozen? ⟨wr.heap.size, 1, none⟩ = false := by simp [World.frozen?, h3]
        have g2 : w3.frozen? ⟨wr.heap.size, 2, none⟩ = false := by simp [World.frozen?, h3]
        obtain ⟨q, hq⟩ : ∃ q, q = min (max kj 0).toNat rr := ⟨_, rfl⟩
        have hqv : min (max kj 0) ((x.f.d : Int) + (rr : Int) - (x.f.d : Int)) = (q : Int) := by rw [hq]; omega
        have Hqv := Lib.hid hqv
        have Hq := Lib.hid hq
        have hqr : q ≤ rr := by omega
        have hsl := Hsl.out (x.f.d + q) (by omega)
        rw [show ((x.f.d + q : Nat) : Int) = (x.f.d : Int) + (q : Int) by simp] at hsl
        clear hqv hq
        go_quiet (fail)
        rw [Hqv.out]
        have h4 : Below wr.heap.size wr (((w3.drewN nq).setCell ⟨wr.heap.size, 1, none⟩ (.slice x.pa (x.f.d + q) x.k)).setCell ⟨wr.heap.size, 2, none⟩ (.int .i64 ((x.f.d : Int) + (q : Int)))) :=
          ((below_drewN hal nq).setCell (p := ⟨wr.heap.size, 1, none⟩) (Nat.le_refl _) _).setCell (p := ⟨wr.heap.size, 2, none⟩) (Nat.le_refl _) _
        have hsz4 : (((w3.drewN nq).setCell ⟨wr.heap.size, 1, none⟩ (.slice x.pa (x.f.d + q) x.k)).setCell ⟨wr.heap.size, 2, none⟩ (.int .i64 ((x.f.d : Int) + (q : Int)))).heap.size = w3.heap.size := by simp
        have ha5 := (Below.refl (((w3.drewN nq).setCell ⟨wr.heap.size, 1, none⟩ (.slice x.pa (x.f.d + q) x.k)).setCell ⟨wr.heap.size, 2, none⟩ (.int .i64 ((x.f.d : Int) + (q : Int)))).heap.size _).alloc (Nat.le_refl _) (.cells #[.string ⟨x.f.n.toArray⟩, .slice x.pa (x.f.d + q) x.k, .int .i64 ((x.f.d : Int) + (q : Int))] 97)
        have Hown2 := Lib.hid (own_belowF (own_belowF Hown.out h4) ha5)
        have hnews := World.news_of_block (heap_alloc_new (((w3.drewN nq).setCell ⟨wr.heap.size, 1, none⟩ (.slice x.pa (x.f.d + q) x.k)).setCell ⟨wr.heap.size, 2, none⟩ (.int .i64 ((x.f.d : Int) + (q : Int)))) (.cells #[.string ⟨x.f.n.toArray⟩, .slice x.pa (x.f.d + q) x.k, .int .i64 ((x.f.d : Int) + (q : Int))] 97))
        rw [hsz4] at hnews
        have Hnews := Lib.hid hnews
        have Hb5 := Lib.hid ((Hb2.out.trans (h4.mono Hb2.out.size)).trans (ha5.mono (Nat.le_trans Hb2.out.size h4.size)))
        have Hcut := Lib.hid (show cells3 (cutR kj x) = [.string ⟨x.f.n.toArray⟩, .slice x.pa (x.f.d + q) x.k, .int .i64 ((x.f.d : Int) + (q : Int))] by
          rw [Hcl.out]
          have e : leftN x.f kj = x.f.d + q := by unfold leftN; rw [Hq.out, Hrr.out]; omega
          rw [e]
          simp [encStr])
        clear h4 hsz4 ha5 hnews hal
        go_wp2_with (first
          | (at_builtin; refine wpList_append_own _ rfl _ _ 22 rfl w2.heap.size 97 i0 _ 3 48 Tryz.underlying22 hi hz0 hz1 hz2 rfl (by decide) _ _ _ rfl Hown2.out ⟨w3.heap.size, 0, none⟩ 1 1 [.string ⟨x.f.n.toArray⟩, .slice x.pa (x.f.d + q) x.k, .int .i64 ((x.f.d : Int) + (q : Int))] rfl rfl Hnews.out (by rw [← Hcut.out]; exact cells3_one _) (by rw [maxLen_nat]; omega) (by omega) Hb5.out.size ?_; intro v' w' g1 g2 _)
          | go_in)
        have Hg1 := Lib.hid (show w'.ownsRow w2.heap.size 97 3 v' (j + 1) (flatF (cutTo ks R (j + 1))) by
          rw [Hs.out, flatF_append]
          have e : flatF [cutR kj x] = cells3 (cutR kj x) := by rw [flatF_cons]; exact List.append_nil _
          rw [e, Hcut.out]
          exact g1)
        have Hg2 := Lib.hid (Hb5.out.grown g2 Hb5.out.size (fun k hk => (Hown2.out.lt k hk).1))
        clear g1 g2
        go_wp2
        go_roundw
        case rel => exact ⟨j + 1, hlt, by go_num, Hg1.out, Hg2.out⟩
        case measure => simp [intOf]; omega
      · have hjm2 : ¬ (j : Int) < (m : Int) := by omega
        have hk0 : kj = 0 := by rw [← hkk, List.getD_eq_getElem?_getD, List.getElem?_eq_none (by rw [HNs.out.len]; omega)]; rfl
        subst hk0
        have hsl := Hsl.out x.f.d (by omega)
        have h4 : Below wr.heap.size wr (wr.alloc (.cells #[.string ⟨x.f.n.toArray⟩, .slice x.pa x.f.d x.k, .int .i64 (x.f.d : Int)] 97)) := (Below.refl _ _).alloc (Nat.le_refl _) _
        have hsz4 : (wr.alloc (.cells #[.string ⟨x.f.n.toArray⟩, .slice x.pa x.f.d x.k, .int .i64 (x.f.d : Int)] 97)).heap.size = wr.heap.size + 1 := by simp
        have ha5 := (Below.refl (wr.alloc (.cells #[.string ⟨x.f.n.toArray⟩, .slice x.pa x.f.d x.k, .int .i64 (x.f.d : Int)] 97)).heap.size _).alloc (Nat.le_refl _) (.cells #[.string ⟨x.f.n.toArray⟩, .slice x.pa x.f.d x.k, .int .i64 (x.f.d : Int)] 97)
        have Hown2 := Lib.hid (own_belowF (own_belowF Hown.out h4) ha5)
        have hnews := World.news_of_block (heap_alloc_new (wr.alloc (.cells #[.string ⟨x.f.n.toArray⟩, .slice x.pa x.f.d x.k, .int .i64 (x.f.d : Int)] 97)) (.cells #[.string ⟨x.f.n.toArray⟩, .slice x.pa x.f.d x.k, .int .i64 (x.f.d : Int)] 97))
        rw [hsz4] at hnews
        have Hnews := Lib.hid hnews
        have Hb5 := Lib.hid ((Hb2.out.trans (h4.mono Hb2.out.size)).trans (ha5.mono (Nat.le_trans Hb2.out.size h4.size)))
        have Hcut := Lib.hid (show cells3 (cutR 0 x) = [.string ⟨x.f.n.toArray⟩, .slice x.pa x.f.d x.k, .int .i64 (x.f.d : Int)] by
          rw [Hcl.out]
          have e : leftN x.f 0 = x.f.d := by unfold leftN; simp
          rw [e])
        clear h4 hsz4 ha5 hnews
        go_wp2_with (first
          | (at_builtin; refine wpList_append_own _ rfl _ _ 22 rfl w2.heap.size 97 i0 _ 3 48 Tryz.underlying22 hi hz0 hz1 hz2 rfl (by decide) _ _ _ rfl Hown2.out ⟨wr.heap.size + 1, 0, none⟩ 1 1 [.string ⟨x.f.n.toArray⟩, .slice x.pa x.f.d x.k, .int .i64 (x.f.d : Int)] rfl rfl Hnews.out (by rw [← Hcut.out]; exact cells3_one _) (by rw [maxLen_nat]; omega) (by omega) Hb5.out.size ?_; intro v' w' g1 g2 _)
          | go_in)
        have Hg1 := Lib.hid (show w'.ownsRow w2.heap.size 97 3 v' (j + 1) (flatF (cutTo ks R (j + 1))) by
          rw [Hs.out, flatF_append]
          have e : flatF [cutR 0 x] = cells3 (cutR 0 x) := by rw [flatF_cons]; exact List.append_nil _
          rw [e, Hcut.out]
          exact g1)
        have Hg2 := Lib.hid (Hb5.out.grown g2 Hb5.out.size (fun k hk => (Hown2.out.lt k hk).1))
        clear g1 g2
        go_wp2
        go_roundw
        case rel => exact ⟨j + 1, hlt, by go_num, Hg1.out, Hg2.out⟩
        case measure => simp [intOf]; omega
    · have hji : ¬ (j : Int) < (n : Int) := by omega
      obtain rfl : j = n := by omega
      have hRw := HR.out wr Hbw.out
      have hfiles : ∀ y ∈ cutTo ks R j, FileB X wr y := by
        intro y hy
        unfold cutTo at hy
        obtain ⟨i, hi, rfl⟩ := List.mem_mapIdx.1 hy
        exact cutR_file (hRw.files _ (List.mem_of_mem_take (List.getElem_mem _))) _
      have hsz2 := hb.size
      obtain ⟨a4, c4, rfl, hR4⟩ := rowF_own (X := X) (Y := fun b => (X b ∨ w.heap.size + 1 < b) ∧ b < wr.heap.size) hown hfiles (fun b h => ⟨.inl h, by have := HX.out b h; have := Hbw.out.size; omega⟩) (fun b h1 h2 => ⟨.inr (by have := Hsz.out; omega), h2⟩)
      have HR4 := Lib.hid hR4
      have hB := (hb.block w.heap.size (by have := Hsz.out; omega)).trans HB1.out
      have hZ := (hb.block (w.heap.size + 1) (by have := Hsz.out; omega)).trans HB2.out
      have b0 : wr.cell? ⟨w.heap.size, 0, none⟩ = some (.int .i64 ro) := by rw [cell_of_row _ _ _ _ _ (0, 0) hB]; rfl
      have z0 : wr.cell? ⟨w.heap.size + 1, 0, none⟩ = some (.int .i64 0) := by rw [cell_of_row _ _ _ _ _ (0, 0) hZ]; rfl
      have z1 : wr.cell? ⟨w.heap.size + 1, 1, none⟩ = some (.slice none 0 0) := by rw [cell_of_row _ _ _ _ _ (0, 0) hZ]; rfl
      have z2 : wr.cell? ⟨w.heap.size + 1, 2, none⟩ = some (.int .i64 0) := by rw [cell_of_row _ _ _ _ _ (0, 0) hZ]; rfl
      have z3 : wr.cell? ⟨w.heap.size + 1, 3, none⟩ = some (.bool false) := by rw [cell_of_row _ _ _ _ _ (0, 0) hZ]; rfl
      have fz : ∀ i, wr.frozen? ⟨w.heap.size + 1, i, none⟩ = false := fun i => by simp [World.frozen?, hZ]
      have Hfin := Lib.hid (show (cutTo ks R j).map FR.f = (crashM ks M).fs by
        have e := cutTo_all ks R
        rw [Hlen.out, Hfs.out] at e
        exact e)
      clear hown hfiles hRw hR4 hB hZ hb hsz2
      go_wp2_with fail
      refine bodyPost_ret (v := refV ro a4 j c4 0 false) ?_ rfl ⟨a4, j, c4, cutTo ks R j, ?_, HR4.out.mono ?_ ?_, Hfin.out, ?_⟩
      · rw [results_one rfl]
        go_simp
        rfl
      · rw [← Hro.out]; rfl
      · rintro b ⟨hb, _⟩
        have hb := hb.imp (HX.out b) id
        repeat rw [Below.heap_setCell _ _ _ _ (by simp; omega)]
      · rintro b ⟨h1, hb⟩
        simp only [World.size_setCell]
        exact ⟨h1.imp id (fun h => by omega), hb⟩
      · repeat (first | exact Hbw.out | refine Below.setCell ?_ (by simp) _)
end Go.Proofs.YtmiepigieajpcaaGreat

/- slices.Equal of two rows that hold the same strings. -/
namespace Go.Proofs.YtmiepigieajpcaaGreat
open Go.RowKit Go.Maps Go.Shelf

/-- The strings ss lie at the start of a slice's value. -/
structure StrsQ (w : World) (p : Option Addr) (n c : Nat) (ss : List (List UInt8)) : Prop where
  len : ss.length = n
  le : n ≤ c
  max : c ≤ 9223372036854775807
  cell : 0 < n → ∃ b o, p = some ⟨b, o, none⟩ ∧ ∀ i (hi : i < ss.length), w.cell? ⟨b, o + i, none⟩ = some (.string ⟨ss[i].toArray⟩)

theorem StrsQ.grow {w w' : World} {p : Option Addr} {n c : Nat} {ss : List (List UInt8)} (h : StrsQ w p n c ss) (hb : Below w.heap.size w w') : StrsQ w' p n c ss :=
  ⟨h.len, h.le, h.max, fun hn => by
    obtain ⟨b, o, e, hc⟩ := h.cell hn
    exact ⟨b, o, e, fun i hi => cell_keep hb (hc i hi)⟩⟩

theorem strsQ_of_own {w : World} {base : Nat} {e : TypeId} {v : Value} {m : Nat} {ss : List (List UInt8)} (h : w.ownsRow base e 1 v m (ss.map encStr)) : ∃ p c, v = .slice p m c ∧ StrsQ w p m c ss := by
  have hlen : ss.length = m := by have := h.1; simpa using this
  rcases h.2 with ⟨rfl, rfl⟩ | ⟨g, cap', cur, rfl, _, hg, hle, hcm, hsz, htake⟩
  · exact ⟨none, 0, rfl, hlen, Nat.le_refl _, by omega, fun h => absurd h (Nat.lt_irrefl _)⟩
  · refine ⟨_, cap', rfl, hlen, hle, hcm, fun _ => ⟨g, 0, rfl, fun i hi => ?_⟩⟩
    rw [Nat.zero_add, cell_of_row w g i cur e (0, 0) hg]
    have e1 : (ss.map encStr)[i]? = some (.string ⟨ss[i].toArray⟩) := by
      rw [List.getElem?_map, List.getElem?_eq_getElem hi]; rfl
    rw [← htake, List.getElem?_take, if_pos (by omega)] at e1
    simpa using e1

set_option maxHeartbeats 800000 in
theorem sequal_any (a a' : Option Addr) (n cap cap' : Nat) (ss : List (List UInt8)) (w : World) (hl : StrsQ w a n cap ss) (hl' : StrsQ w a' n cap' ss) :
    Calls Tryz.prog 40 #[.slice a n cap, .slice a' n cap'] w fun e w' => e = .returned (.bool true) ∧ Below w.heap.size w w' := by
  have hnm : n ≤ 9223372036854775807 := Nat.le_trans hl.le hl.max
  have hB := Lib.hid hl
  have hB' := Lib.hid hl'
  clear hl hl'
  have hq : ((n : Int) != (n : Int)) = false := by simp
  go_enter Tryz.func40, Tryz.ntmps40
  go_wp2
  go_loopw [13] (fun i wr => ∃ k : Nat, k ≤ n ∧ i = .int .i64 k ∧ Below w.heap.size w wr) (fun i _ => n - (intOf i).toNat)
  case atStart => exact ⟨0, Nat.zero_le _, rfl, Below.refl _ _⟩
  case round =>
    obtain ⟨k, hk, rfl, hbel⟩ := hrel
    by_cases hlt : k < n
    · obtain ⟨b, o, rfl, hc0⟩ := (hB.out.grow hbel).cell (by omega)
      obtain ⟨b', o', rfl, hc0'⟩ := (hB'.out.grow hbel).cell (by omega)
      have hc := hc0 k (by rw [hB.out.len]; exact hlt)
      have hc' := hc0' k (by rw [hB.out.len]; exact hlt)
      clear hc0 hc0'
      have hks : k < ss.length := by rw [hB.out.len]; exact hlt
      obtain ⟨y, hy⟩ : ∃ y : ByteArray, y = ⟨ss[k].toArray⟩ := ⟨_, rfl⟩
      rw [← hy] at hc hc'
      clear hy
      go_wp2
      go_quiet (fail)
      go_wp2
      go_roundw
      case rel => exact ⟨k + 1, by omega, by go_num, below_drewN hbel _⟩
      case measure => simp [intOf]; omega
    · obtain rfl : k = n := by omega
      go_wp2
      go_ret
      exact ⟨rfl, hbel⟩
end Go.Proofs.YtmiepigieajpcaaGreat

