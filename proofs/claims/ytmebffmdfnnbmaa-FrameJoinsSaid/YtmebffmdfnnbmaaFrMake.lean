/- The walks of Make, of the code and of the reference. -/
import Derived.Test.YtmebffmdfnnbmaaFrHead
import Derived.Deep.Upon
namespace Go.Proofs.Ytmebffmdfnnbmaa
open Go.RowKit Crc

section
variable {P : Program} (w : World)

/-- 'append(b[:n:n], p...)', whatever is appended. -/
theorem wpList_append_full {ops : Array Oper} {rest : List Oper} {o : Oper} {a : Act} {Q : Exit → Act → World → Prop} (hgd : o.guard = none) (s x : Operand) (t : TypeId)
    (ho : o.op = .call { callee := .builtin .append, args := #[s, x], argTypes := #[t, t] })
    (ht : P.underlying t = some (.slice 5)) (hinfo : (P.info? 5).map (fun i => (i.zero, i.size, i.bytes)) = some (some (.int .u8 0), 1, 1))
    (b : Option Addr) (n : Nat) (l : List Nat) (hs : a.eval s = .slice b n n) (hS : Bytes w b n n l)
    (p : Option Addr) (m c : Nat) (l' : List Nat) (hx : a.eval x = .slice p m c) (hB : Bytes w p m c l')
    (hbytes : n + m ≤ 140737488355328)
    (h : ∀ q k w', Bytes w' q (n + m) k (l ++ l') → Below w.heap.size w w' → wpList P ops Q rest (a.put o.dst (.slice q (n + m) k)) w') : wpList P ops Q (o :: rest) a w := by
  rcases Nat.eq_zero_or_pos m with rfl | hm
  · obtain ⟨i, hi, _, hsz, _⟩ := info_parts hinfo
    have hl' : l' = [] := List.length_eq_zero_iff.1 hB.len
    have hr : (Builtin.append_ #[t, t] o.type #[.slice b n n, .slice p 0 c]).run P w = .ok (.slice b n n) w := by
      refine run_append_nothing w t t o.type 5 i ht hi b n n (Nat.le_refl _) (.slice p 0 c) ?_
      cases p with
      | none => exact Src.ofNil w ht c
      | some ad => exact Src.ofSlice w ht ad 0 c [] (by simp) (fun j u h => by simp at h) (fun u h => by simp at h)
    refine wpList_plain hgd fun K hK => ?_
    unfold Oper.wp execOp
    simp only [ho, resolve, invoke, builtin, Sem.run_bind, Sem.run_pure, Result.andThen_ok, List.map_toArray, List.map_cons, List.map_nil, hs, hx, hr]
    refine hK _ _ (h b n w ?_ (Below.refl _ _))
    rw [hl', List.append_nil]
    exact hS
  · refine wpList_append_capped w hgd s x t ho 5 ht hinfo b n l hs hS p m c l' hx hB hm hbytes fun v' w' g1 g2 => ?_
    obtain ⟨q, k, rfl, hq⟩ := own_slice (l := l ++ l') g1 (fun y hy => by
      rcases List.mem_append.1 hy with hy | hy
      · exact hS.byte y hy
      · exact hB.byte y hy)
    exact h q k w' hq g2
end

theorem slice_head (B : Nat) (w : World) : (Instr.sliceAt 49 (.pointer (some ⟨B, 0, none⟩)) none none none).run Try.prog w = .ok (.slice (some ⟨B, 0, none⟩) 4 4) w := by
  have e := run_sliceAt_array_all (P := Try.prog) w 49 ⟨B, 0, none⟩ (by kernel_rfl)
  have es : (sizeOf (Try.prog.elem 49)).run Try.prog w = .ok 1 w := by kernel_rfl
  rw [e, es, show Try.prog.arrayLen 49 = 4 by kernel_rfl]
  show Result.ok (slicedAt ⟨B, 0, none⟩ 0 4 4 1) w = _
  unfold slicedAt
  rw [if_neg (by decide)]
  simp [Addr.add]

theorem head_bytes {w : World} {B n : Nat} {t : TypeId} (hn : n < 4294967296) (h : w.heap[B]? = some (.cells (headV n) t (0, 0))) : Bytes w (some ⟨B, 0, none⟩) 4 4 (little n) := by
  refine ⟨rfl, Nat.le_refl _, by omega, little_lt hn, (fun h => by cases h), fun _ => ⟨B, 0, rfl, fun i hi => ?_⟩⟩
  rw [Nat.zero_add, cell_of_row w B i (headV n) t (0, 0) h]
  rcases i with _ | _ | _ | _ | i
  all_goals first | rfl | omega

/-- What Make answers. -/
def MakeEnd (w : World) (l : List Nat) (e : Ending) (w' : World) : Prop :=
  ∃ v, e = .returned (.tuple #[v, .bool true]) ∧ OwnBytes w w' v (frameL l)

theorem make_no (a : Option Addr) (n cap : Nat) (w : World) (hn : 1048576 < n) :
    Calls Try.prog 21 #[.slice a n cap] w fun e w' => e = .returned (.tuple #[.slice none 0 0, .bool false]) ∧ w = w' := by
  go_enter Try.func21, Try.ntmps21
  go_wp2
  go_ret2
  exact ⟨rfl, rfl⟩

theorem make_yes (a : Option Addr) (n cap : Nat) (l : List Nat) (w : World) (hl : Bytes w a n cap l) (hn : n ≤ 1048576) :
    Calls Try.prog 21 #[.slice a n cap] w (MakeEnd w l) := by
  have HB := Lib.hid hl
  clear hl
  have hsl := slice_head
  go_enter Try.func21, Try.ntmps21
  go_wp2_with fail
  refine (newHead_any n w (by omega)).mono ?_
  rintro e w1 ⟨rfl, hb1⟩
  have Hn := Lib.hid (head_infoV n)
  have H1 := Lib.hid (headV_one n)
  have Hs := Lib.hid (headV_size n)
  have hba : Below w1.heap.size w1 (w1.alloc (.cells (headV n) 49)) := (Below.refl _ _).alloc (Nat.le_refl _) _
  have Hb2 := Lib.hid (hb1.trans (hba.mono hb1.size))
  have HH := Lib.hid (head_bytes (n := n) (by omega) (heap_alloc_new w1 (.cells (headV n) 49)))
  have HL := Lib.hid (HB.out.grow Hb2.out)
  have hlen : (little n ++ l).length = 4 + n := by rw [List.length_append, little_len, HB.out.len]
  have Hlen := Lib.hid hlen
  clear hba hlen
  go_wp2_with (first
    | (refine wpList_store_row rfl 49 _ _ rfl _ (headV n) rfl rfl 49 _ (heap_alloc_new _ _) Hn.out (by rw [Hs.out]; rfl) H1.out ?_; rw [World.setRow_alloc_new])
    | (at_builtin; refine wpList_append_full _ rfl _ _ 25 rfl Try.underlying25 info_u8 _ 4 (little n) rfl HH.out a n cap l rfl HL.out (by omega) ?_; intro q k w2 g1 g2))
  have Hb3 := Lib.hid (Hb2.out.trans (g2.mono Hb2.out.size))
  have HS := Lib.hid (seal_any q (4 + n) k (little n ++ l) w2 g1 (by omega))
  clear g1 g2
  go_wp2_with fail
  refine HS.out.mono ?_
  rintro e w3 ⟨v, rfl, hown, hb4⟩
  have hown : w3.ownsRow w2.heap.size 5 1 v (sealL (little n ++ l)).length (u8s (sealL (little n ++ l))) := hown
  have Hown := Lib.hid hown
  clear hown
  go_wp2
  go_ret2
  refine ⟨v, rfl, ?_, Hb3.out.trans (hb4.mono Hb3.out.size)⟩
  have e : frameL l = sealL (little n ++ l) := by unfold frameL; rw [HB.out.len]
  rw [e]
  exact own_base Hown.out Hb3.out.size

theorem rmake_no (a : Option Addr) (n cap : Nat) (w : World) (hn : 1048576 < n) :
    Calls Try.prog 23 #[.slice a n cap] w fun e w' => e = .returned (.tuple #[.slice none 0 0, .bool false]) ∧ w = w' := by
  go_enter Try.func23, Try.ntmps23
  go_wp2
  go_ret2
  exact ⟨rfl, rfl⟩

theorem rmake_yes (a : Option Addr) (n cap : Nat) (l : List Nat) (w : World) (hl : Bytes w a n cap l) (hn : n ≤ 1048576) :
    Calls Try.prog 23 #[.slice a n cap] w (MakeEnd w l) := by
  have HB := Lib.hid hl
  clear hl
  go_enter Try.func23, Try.ntmps23
  go_wp2_with fail
  refine (little_any n w (by omega)).mono ?_
  rintro e w1 ⟨v, rfl, hown, hb1⟩
  have Hown := Lib.hid hown
  have HL := Lib.hid (HB.out.grow hb1)
  clear hown
  go_wp2_with (at_builtin; refine wpList_append_bytes _ rfl _ _ 25 rfl w.heap.size 5 Try.underlying25 info_u8 _ _ _ rfl Hown.out a n cap l rfl HL.out (by rw [little_len]; omega) hb1.size ?_; intro v' w2 g1 g2)
  have Hb2 := Lib.hid (hb1.grown g2 hb1.size (fun k hk => (Hown.out.lt k hk).1))
  obtain ⟨p, cp, rfl, hC⟩ := own_slice g1 (fun y hy => by
      rcases List.mem_append.1 hy with hy | hy
      · exact little_lt (by omega) y hy
      · exact HB.out.byte y hy)
  have HS := Lib.hid (rseal_any p _ cp (little n ++ l) w2 hC (by rw [little_len]; omega))
  clear g1 g2 hC
  go_wp2_with fail
  refine HS.out.mono ?_
  rintro e w3 ⟨v, rfl, hown, hb4⟩
  have Hown := Lib.hid hown
  clear hown
  go_wp2
  go_ret2
  refine ⟨v, rfl, ?_, Hb2.out.trans (hb4.mono Hb2.out.size)⟩
  have e : frameL l = sealL (little n ++ l) := by unfold frameL; rw [HB.out.len]
  rw [e]
  exact own_base Hown.out Hb2.out.size
end Go.Proofs.Ytmebffmdfnnbmaa
