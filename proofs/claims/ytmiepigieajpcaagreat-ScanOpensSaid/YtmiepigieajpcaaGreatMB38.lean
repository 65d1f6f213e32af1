import Derived.Test.YtmiepigieajpcaaGreatMB36
import Derived.Test.YtmiepigieajpcaaGreatMB28
import Derived.Test.YtmiepigieajpcaaGreatMB37
import Derived.Test.YtmiepigieajpcaaGreatMB10
import Derived.Maps.AppendAt
import Derived.Test.YtmiepigieajpcaaGreatMB7
import Derived.Deep.RegionLaw
/- The walk of the statements' records: the records of the segments of a disk. -/
namespace Go.Proofs.YtmiepigieajpcaaGreat
open Go.RowKit Go.Maps Go.Shelf

section
variable {P : Program}

/-- 'append(out, p...)': out a slice of byte slices of the call's own, p one whose bytes lie where out's row does not. -/
theorem wpList_append_rowsY {w : World} {ops : Array Oper} {rest : List Oper} {o : Oper} {a : Act} {Q : Exit → Act → World → Prop} (hgd : o.guard = none) (s x : Operand) (t : TypeId)
    (ho : o.op = .call { callee := .builtin .append, args := #[s, x], argTypes := #[t, t] })
    (ht : P.underlying t = some (.slice 58)) (hinfo : (P.info? 58).map (fun i => (i.zero, i.size, i.bytes)) = some (some (.slice none 0 0), 1, 24))
    {base base' : Nat} {Y Z : Nat → Prop} {v vx : Value} {ls ms : List (List Nat)} (hs : a.eval s = v) (hown : PartsZ Y w base v ls) (hx : a.eval x = vx) (hP : PartsZ Z w base' vx ms) (hZ : ∀ k, v.ownBlock = some k → ¬ Z k) (hZY : ∀ k, Z k → Y k) (hbase : base ≤ w.heap.size) (hn : ls.length + ms.length ≤ 1000000000)
    (h : ∀ v' w', PartsZ Y w' base v' (ls ++ ms) → w.grownBy w' v.ownBlock → (v'.ownBlock = v.ownBlock ∨ v'.ownBlock = some w.heap.size) → wpList P ops Q rest (a.put o.dst v') w') : wpList P ops Q (o :: rest) a w := by
  obtain ⟨i, hi, hz, hsz, hby⟩ := info_parts hinfo
  obtain ⟨us, hul, hrowx, helx⟩ := hP
  rcases Nat.eq_zero_or_pos ms.length with hm | hm
  · have hm0 : ms = [] := List.length_eq_zero_iff.1 hm
    obtain ⟨q, k, rfl, hq⟩ := hown.own.parts
    have hr : (Builtin.append_ #[t, t] o.type #[.slice q ls.length k, vx]).run P w = .ok (.slice q ls.length k) w := by
      refine run_append_nothing w t t o.type 58 i ht hi q ls.length k hq.le vx ?_
      rcases hrowx.2 with ⟨rfl, _⟩ | ⟨g, cap, cur, rfl, _⟩
      · exact Src.ofNil w ht 0
      · rw [hm]
        exact Src.ofSlice w ht _ 0 cap [] (by simp) (fun j u h => by simp at h) (fun u h => by simp at h)
    refine wpList_plain hgd fun K hK => ?_
    unfold Oper.wp execOp
    simp only [ho, resolve, invoke, builtin, Sem.run_bind, Sem.run_pure, Result.andThen_ok, List.map_toArray, List.map_cons, List.map_nil, hs, hx, hr]
    refine hK _ _ (h _ w ?_ ⟨rfl, rfl, rfl, Nat.le_refl _, fun _ _ _ => rfl⟩ (.inl rfl))
    rw [hm0, List.append_nil]
    exact hown
  · obtain ⟨vs, hlen, hrow, hel⟩ := hown
    rcases hrowx.2 with ⟨_, h0⟩ | ⟨g, cap, cur, rfl, hbg, hg, hle, hcm, hszc, htake⟩
    · omega
    · have hcell : ∀ j u, us[j]? = some u → w.cell? ⟨g, 0 + j, none⟩ = some u := fun j u hj => by
        have hjm : j < us.length := (List.getElem?_eq_some_iff.1 hj).1
        rw [cell_of_row w g (0 + j) cur _ (0, 0) hg, Nat.zero_add, ← hj, ← htake, List.getElem?_take, if_pos (by omega), Array.getElem?_toList]
      have hadd : ∀ (x y j : Nat), (⟨x, y, none⟩ : Addr).add j = ⟨x, y + j, none⟩ := fun x y j => by unfold Addr.add; split <;> simp_all
      refine wpList_append_own_at w hgd s x t ho base 58 i (.slice none 0 0) 1 24 ht hi hz hsz hby rfl (by decide) v ls.length vs hs hrow ⟨g, 0, none⟩ ms.length cap us hx (by rw [hul]; omega) ?_ ?_ (by rw [maxLen_nat]; omega) (by omega) hbase ?_
      · intro j u hj
        rw [hadd]
        exact hcell j u hj
      · intro u huu
        obtain ⟨j, hj, rfl⟩ := List.getElem_of_mem huu
        obtain ⟨a', n', c', h1, _, _⟩ := helx j (by omega)
        rw [List.getElem?_eq_getElem hj] at h1
        rw [Option.some.inj h1]
        rfl
      · intro v' w' g1 g2 _ g4
        refine h v' w' (PartsZ.app hlen hel hul (fun i hi => ?_) g1 g2 g4) g2 g4
        obtain ⟨a', n', c', h1, h2, h3⟩ := helx i hi
        exact ⟨a', n', c', h1, h2, fun hn' y hy => ⟨fun e => hZ _ e.symm (h3 hn' y hy).2, hZY _ (h3 hn' y hy).2⟩⟩
end

theorem PartsZ.trivial {w : World} {base : Nat} {v : Value} {ls : List (List Nat)} (h : OwnParts w base v ls) : PartsZ (fun _ => True) w base v ls := by
  obtain ⟨vs, h1, h2, h3⟩ := h
  refine ⟨vs, h1, h2, fun i hi => ?_⟩
  obtain ⟨a, n, c, h4, h5, h6⟩ := h3 i hi
  exact ⟨a, n, c, h4, h5, fun hn x hx => ⟨h6 hn x hx, True.intro⟩⟩

/-- Where neither the row nor the bytes have been turned. -/
theorem PartsZ.moved {Z : Nat → Prop} {W W' : World} {base : Nat} {v : Value} {ls : List (List Nat)} (h : PartsZ Z W base v ls) (hZ : ∀ b, Z b → b < W.heap.size → W'.heap[b]? = W.heap[b]?) (hr : ∀ k, v.ownBlock = some k → W'.heap[k]? = W.heap[k]?) : PartsZ Z W' base v ls := by
  obtain ⟨vs, h1, h2, h3⟩ := h
  refine ⟨vs, h1, ⟨h2.1, ?_⟩, fun i hi => ?_⟩
  · rcases h2.2 with ⟨rfl, h0⟩ | ⟨g, cap, cur, rfl, hb, hg, hq⟩
    · exact .inl ⟨rfl, h0⟩
    · exact .inr ⟨g, cap, cur, rfl, hb, (hr g rfl).trans hg, hq⟩
  · obtain ⟨a, n, c, h4, h5, h6⟩ := h3 i hi
    exact ⟨a, n, c, h4, h5.off (fun hn x hx hlt => hZ _ (h6 hn x hx).2 hlt), h6⟩

/-- 'l[:k]' of a slice of byte slices. -/
theorem parts_upto {a : Option Addr} {n c k : Nat} (hk : k ≤ n) (hn : n ≤ c) :
    ∃ a', (∀ (w : World) (kl : IntKind), (Instr.slice 29 (.slice a n c) none (some (.int kl (k : Int))) none).run Tryz.prog w = .ok (.slice a' k c) w) ∧ ∀ (w : World) (ls : List (List Nat)), Parts w a n c ls → Parts w a' k c (ls.take k) := by
  obtain ⟨i, hi, _, hsz, _⟩ := info_parts info_rows
  have hT' : Tryz.prog.underlying 29 = some (.slice (Tryz.prog.elem 29)) := by kernel_rfl
  have hE : Tryz.prog.elem 29 = 58 := by kernel_rfl
  have hsize : ∀ w : World, (sizeOf (Tryz.prog.elem 29)).run Tryz.prog w = .ok 1 w := fun w => by rw [hE]; simp [sizeOf, typeInfo, hi, hsz]
  refine ⟨if c = 0 then a else a.map (·.add (0 * 1)), fun w kl => ?_, fun w ls hl => ?_⟩
  · rw [run_slice_h w 29 a n c hT' kl (k : Int) (by omega) (by omega), hsize]
    rfl
  · refine ⟨by rw [List.length_take, hl.len]; omega, Nat.le_trans hk hn, hl.capmax, fun hk0 => ?_⟩
    obtain ⟨b, o, rfl, hb, hc⟩ := hl.cell (by omega)
    refine ⟨b, o, ?_, hb, fun j hj => ?_⟩
    · rw [if_neg (by omega)]
      simp [addr_add]
    · obtain ⟨a', n', c', h1, h2⟩ := hc j (by omega)
      refine ⟨a', n', c', h1, ?_⟩
      rw [List.getD_eq_getElem?_getD, List.getElem?_take, if_pos hj, ← List.getD_eq_getElem?_getD]
      exact h2

theorem used_mem {l : List F} {f : F} (h : f ∈ l) : f.b.length ≤ usedF l := by
  induction l with
  | nil => cases h
  | cons x r ih =>
    unfold usedF at ih ⊢
    rw [List.map_cons, List.sum_cons]
    rcases List.mem_cons.1 h with rfl | h1
    · omega
    · have := ih h1
      omega

theorem readM_len (n : List UInt8) (M : DM) : (readM n M).1.length ≤ usedF M.fs := by
  unfold readM
  split
  · exact Nat.zero_le _
  · split
    · exact Nat.zero_le _
    · rename_i f hf
      exact used_mem (findN_some hf).1

theorem splits_many {L : List Nat} {ls : List (List Nat)} {t : List Nat} (h : Splits L ls t) : ls.length ≤ L.length := by
  have h1 := joinL_many ls
  have h2 := congrArg List.length h.eq
  rw [List.length_append] at h2
  omega

theorem str_nmL (n : List UInt8) : str (nmL n) = ⟨n.toArray⟩ := by
  unfold str nmL
  rw [List.map_map]
  congr 2
  conv => rhs; rw [← List.map_id n]
  refine List.map_congr_left fun x _ => ?_
  simp

/-- A row of names, as strings. -/
theorem strs_row {w : World} {base : Nat} {e : TypeId} {v : Value} {m : Nat} {ns : List (List UInt8)} (h : w.ownsRow base e 1 v m (ns.map encStr)) (hm : ∀ n ∈ ns, n.length ≤ 9223372036854775807) : ∃ p c, v = .slice p m c ∧ Strs w p m c (ns.map nmL) := by
  have hlen : ns.length = m := by have := h.1; simpa using this
  have hby : ∀ l ∈ ns.map nmL, (∀ x ∈ l, x < 256) ∧ l.length ≤ 9223372036854775807 := by
    intro l hl
    obtain ⟨n, hn, rfl⟩ := List.mem_map.1 hl
    refine ⟨fun x hx => ?_, by unfold nmL; rw [List.length_map]; exact hm n hn⟩
    obtain ⟨c, _, rfl⟩ := List.mem_map.1 hx
    exact c.toNat_lt
  rcases h.2 with ⟨rfl, rfl⟩ | ⟨g, cap, cur, rfl, hbg, hg, hle, hcm, hsz, htake⟩
  · exact ⟨none, 0, rfl, by rw [List.length_map]; exact hlen, Nat.le_refl _, by omega, hby, fun h => absurd h (Nat.lt_irrefl _)⟩
  · rw [maxLen_nat] at hcm
    refine ⟨_, cap, rfl, by rw [List.length_map]; exact hlen, hle, hcm, hby, fun _ => ⟨g, 0, rfl, fun i hi => ?_⟩⟩
    have hi2 : i < ns.length := by omega
    rw [cell_of_row w g (0 + i) cur _ (0, 0) hg, Nat.zero_add]
    have h1 : cur[i]? = (ns.map encStr)[i]? := by
      rw [← htake, List.getElem?_take, if_pos (by omega), Array.getElem?_toList]
    rw [h1, List.getElem?_map, List.getElem?_eq_getElem hi2, List.getD_eq_getElem?_getD, List.getElem?_map, List.getElem?_eq_getElem hi2]
    simp [str_nmL, encStr]
end Go.Proofs.YtmiepigieajpcaaGreat

/- The walk of the statements' records: the records of the segments of a disk, one after the other. -/
namespace Go.Proofs.YtmiepigieajpcaaGreat
open Go.RowKit Go.Maps Go.Shelf

def RecsEnd (w : World) (M : DM) (e : Ending) (w' : World) : Prop :=
  ∃ v ls, e = .returned v ∧ PartsZ (fun b => w.heap.size ≤ b) w' w.heap.size v ls ∧ RecsOf M ls ∧ Below w.heap.size w w'

/-- Behind j segments. -/
def RecRel (w : World) (M : DM) (out : List Int) (v i : Value) (wr : World) : Prop :=
  ∃ (j : Nat) (parts : List (List (List Nat))), j ≤ out.length ∧ i = .int .i64 (j : Int) ∧ parts.length = j ∧ (∀ (i : Nat) (x : Int) (p : List (List Nat)), out[i]? = some x → parts[i]? = some p → ∃ t, Splits (readM (nmB x.toNat) M).1 p t) ∧
    parts.flatten.length ≤ j * 200000 ∧ PartsZ (fun b => w.heap.size ≤ b) wr w.heap.size v parts.flatten ∧ Below w.heap.size w wr

end Go.Proofs.YtmiepigieajpcaaGreat

/- Parts of slices of ints, and appending in a statement that draws its order. -/
namespace Go.Proofs.YtmiepigieajpcaaGreat
open Go.RowKit

theorem Ints.takeTo {w : World} {a : Option Addr} {n cap m c : Nat} {l : List Int} (h : Ints w a n cap l) (hm : m ≤ n) (hc : m ≤ c) (hc2 : c ≤ cap) : Ints w a m c (l.take m) := by
  refine ⟨by rw [List.length_take, h.len]; omega, hc, Nat.le_trans hc2 h.capmax, fun ha => ?_, fun h0 => ?_⟩
  · have := h.nil ha; omega
  · obtain ⟨b, o, e, hcell⟩ := h.cell (by omega)
    refine ⟨b, o, e, fun i hi => ?_⟩
    rw [hcell i (by omega), List.getD_eq_getElem?_getD, List.getD_eq_getElem?_getD, List.getElem?_take, if_pos hi]

theorem Ints.dropTo {w : World} {b o n cap m : Nat} {l : List Int} (h : Ints w (some ⟨b, o, none⟩) n cap l) (hm : m < n) : Ints w (some ⟨b, o + m, none⟩) (n - m) (cap - m) (l.drop m) := by
  have hle := h.le
  have hcm := h.capmax
  refine ⟨by rw [List.length_drop, h.len], by omega, by omega, fun ha => (by cases ha), fun h0 => ?_⟩
  obtain ⟨b', o', e, hcell⟩ := h.cell (by omega)
  cases e
  refine ⟨b, o + m, rfl, fun i hi => ?_⟩
  have := hcell (m + i) (by omega)
  rw [← Nat.add_assoc] at this
  rw [this, List.getD_eq_getElem?_getD, List.getD_eq_getElem?_getD, List.getElem?_drop]

theorem own_formed_i {w : World} {base : Nat} {e : TypeId} {p : Option Addr} {n c m : Nat} {l : List Int} (h : w.ownsRow base e 1 (.slice p n c) m (intsE l)) : Formed p c := by
  rcases h.2 with ⟨hv, _⟩ | ⟨g, cap', cur, hv, _⟩
  · cases hv; exact formed_none 0 rfl
  · cases hv; exact formed_at _ _ _

theorem ints_none {w : World} {a : Option Addr} {c : Nat} (hm : c ≤ 9223372036854775807) (h : a = none → c = 0) : Ints w a 0 c [] :=
  ⟨rfl, Nat.zero_le _, hm, h, fun h => absurd h (Nat.lt_irrefl _)⟩

section
variable {P : Program}

/-- 's[k:]'. -/
theorem ints_from {T E : TypeId} (hT : P.underlying T = some (.slice E)) (hin : (P.info? E).map (fun i => (i.zero, i.size, i.bytes)) = some (some (.int .i64 0), 1, 8)) {a : Option Addr} {n c k : Nat} (hk : k ≤ n) (hn : n ≤ c) (hf : Formed a c) :
    ∃ a', (∀ (w : World) (kl : IntKind), (Instr.slice T (.slice a n c) (some (.int kl (k : Int))) none none).run P w = .ok (.slice a' (n - k) (c - k)) w) ∧ ∀ (w : World) (l : List Int), Ints w a n c l → Ints w a' (n - k) (c - k) (l.drop k) := by
  obtain ⟨i, hi, _, hsz, _⟩ := info_parts hin
  have hT' : P.underlying T = some (.slice (P.elem T)) := by rw [hT]; simp [Program.elem, hT]
  have hE : P.elem T = E := by simp [Program.elem, hT]
  have hsize : ∀ w : World, (sizeOf (P.elem T)).run P w = .ok 1 w := fun w => by rw [hE]; simp [sizeOf, typeInfo, hi, hsz]
  refine ⟨if c = k then a else a.map (·.add (k * 1)), fun w kl => ?_, fun w l hl => ?_⟩
  · rw [run_slice_l w T a n c hT' kl (k : Int) (by omega) (by omega), hsize]
    rfl
  · have hcm := hl.capmax
    by_cases e : k = n
    · subst e
      rw [Nat.sub_self, List.drop_eq_nil_of_le (by rw [hl.len]; exact Nat.le_refl _)]
      refine ints_none (by omega) (fun h => ?_)
      by_cases hck : c = k
      · omega
      · rw [if_neg hck] at h
        obtain ⟨b, o, rfl⟩ := hf (by omega)
        cases h
    · obtain ⟨b, o, rfl⟩ := hf (by omega)
      rw [if_neg (by omega), Nat.mul_one]
      simp only [Option.map_some, addr_add]
      exact hl.dropTo (by omega)

/-- 's[:k]'. -/
theorem ints_to {T E : TypeId} (hT : P.underlying T = some (.slice E)) (hin : (P.info? E).map (fun i => (i.zero, i.size, i.bytes)) = some (some (.int .i64 0), 1, 8)) {a : Option Addr} {n c k : Nat} (hk : k ≤ n) (hn : n ≤ c) (hf : Formed a c) :
    ∃ a', (∀ (w : World) (kl : IntKind), (Instr.slice T (.slice a n c) none (some (.int kl (k : Int))) none).run P w = .ok (.slice a' k c) w) ∧ ∀ (w : World) (l : List Int), Ints w a n c l → Ints w a' k c (l.take k) := by
  obtain ⟨i, hi, _, hsz, _⟩ := info_parts hin
  have hT' : P.underlying T = some (.slice (P.elem T)) := by rw [hT]; simp [Program.elem, hT]
  have hE : P.elem T = E := by simp [Program.elem, hT]
  have hsize : ∀ w : World, (sizeOf (P.elem T)).run P w = .ok 1 w := fun w => by rw [hE]; simp [sizeOf, typeInfo, hi, hsz]
  have ha : (if c = 0 then a else a.map (·.add (0 * 1))) = a := by
    by_cases h : c = 0
    · rw [if_pos h]
    · rw [if_neg h]
      obtain ⟨b, o, rfl⟩ := hf (by omega)
      simp [addr_add]
  refine ⟨a, fun w kl => ?_, fun w l hl => ?_⟩
  · rw [run_slice_h w T a n c hT' kl (k : Int) (by omega) (by omega), hsize]
    show Result.ok (Value.slice (if c = 0 then a else a.map (·.add (0 * 1))) (k - 0) (c - 0)) w = _
    rw [ha]; rfl
  · exact hl.takeTo hk (by omega) (Nat.le_refl _)
end

/-- An append to the call's own ints, at a step of a statement that draws its order. -/
theorem step_append_ints {ops : Array Oper} {o : Oper} {a : Act} {w : World} {K : Act → World → Prop} {Q : Exit → Act → World → Prop} {E : Prop} (hgd : o.guard = none) (s x : Operand)
    (ho : o.op = .call { callee := .builtin .append, args := #[s, x], argTypes := #[33, 33] })
    (base : Nat) (v : Value) (n : Nat) (l : List Int) (hs : a.eval s = v) (hown : w.ownsRow base 3 1 v n (intsE l))
    (p : Option Addr) (m c : Nat) (l' : List Int) (hx : a.eval x = .slice p m c) (hB : Ints w p m c l')
    (hbytes : (n + m) * 8 ≤ 140737488355328) (hbase : base ≤ w.heap.size)
    (h : ∀ v' w', w'.ownsRow base 3 1 v' (n + m) (intsE (l ++ l')) → w.grownBy w' v.ownBlock → K (a.put o.dst v') w') :
    if Region.wanted o (yielded ops a.tmps) = true then Oper.wp Tryz.prog o a w K Q else E := by
  obtain ⟨i, hi, hz, hsz, hby⟩ := info_parts info_int
  have hw : Region.wanted o (yielded ops a.tmps) = true := by simp [Region.wanted, hgd]
  rw [if_pos hw]
  cases p with
  | none =>
    obtain rfl : c = 0 := hB.nil rfl
    obtain rfl : m = 0 := by have := hB.le; omega
    obtain rfl : l' = [] := List.length_eq_zero_iff.1 hB.len
    have hrun := run_append_owned_none (P := Tryz.prog) (w := w) base 33 o.type 3 i 1 Tryz.underlying33 hi v n (intsE l) hown
    unfold Oper.wp
    have hh := h v w (by simpa using hown) ⟨rfl, rfl, rfl, Nat.le_refl _, fun _ _ _ => rfl⟩
    simp [execOp, ho, resolve, invoke, builtin, hs, hx, hrun, Result.andThen]
    rw [Oper.upon_value]
    simpa using hh
  | some ad =>
    refine wp_append_own w s x 33 ho base 3 i (.int .i64 0) 1 8 Tryz.underlying33 hi hz hsz hby rfl (by omega) v n (intsE l) hs hown ad m c (intsE l') hx (by simp [intsE, hB.len]) (fun j u hu => ?_) (intsE_one l') (by rw [maxLen_nat]; omega) (by omega) hbase (fun v' w' g1 g2 _ => ?_)
    · obtain ⟨hj, rfl⟩ := intsE_get hu
      have hj' : j < m := by rw [← hB.len]; exact hj
      obtain ⟨b, o', e1, hc⟩ := hB.cell (by omega)
      cases e1
      rw [addr_add]
      exact hc j hj'
    · rw [← intsE_append] at g1
      exact h v' w' g1 g2

theorem heap_at (w : World) (o : Obj) (k : Nat) : (w.alloc o).heap[k]? = if k = w.heap.size then some o else w.heap[k]? := by
  show (w.heap.push o)[k]? = _
  rw [Array.getElem?_push]
theorem heap_dr (w : World) : w.drew.heap = w.heap := rfl

theorem row_ints {W : World} {g : Nat} {x : Int} {e : TypeId} (h : W.heap[g]? = some (.cells #[.int .i64 x] e (0, 0))) : Ints W (some ⟨g, 0, none⟩) 1 1 [x] :=
  ⟨rfl, Nat.le_refl _, by omega, fun h => (by cases h), fun _ => ⟨g, 0, rfl, fun i hi => by
    obtain rfl : i = 0 := by omega
    rw [Nat.zero_add, cell_of_row _ _ _ _ _ (0, 0) h]; rfl⟩⟩

theorem own_emp {W : World} {g base : Nat} (h : W.heap[g]? = some (.cells #[] 3 (0, 0))) (hb : base ≤ g) : W.ownsRow base 3 1 (.slice (some ⟨g, 0, none⟩) 0 0) 0 (intsE []) :=
  ⟨rfl, .inr ⟨g, 0, #[], rfl, hb, h, Nat.le_refl _, Nat.zero_le _, rfl, rfl⟩⟩
end Go.Proofs.YtmiepigieajpcaaGreat

