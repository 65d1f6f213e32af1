/- The statement QueueOrders, over what the code's queue is asked to give. -/
import Derived.Test.YtmmiommfbkcebaaQuKit
namespace Go.Proofs.Ytmmiommfbkcebaa
open Go.RowKit

theorem newQ_nodup (l : List Int) : (newQ l).Nodup := by
  have h : ∀ (l a : List Int), a.Nodup → (l.foldl pushQ a).Nodup := by
    intro l
    induction l with
    | nil => intro a h; exact h
    | cons x l ih =>
      intro a h
      refine ih _ ?_
      unfold pushQ
      split
      · exact h
      · rename_i hx
        rw [List.nodup_append]
        exact ⟨h, by simp, fun y hy z hz e => by rw [List.mem_singleton] at hz; exact hx (hz ▸ e ▸ hy)⟩
  exact h l [] List.nodup_nil

/-- What the loop holds after j rounds. -/
def OrJ (K : QKit) (w0 : World) (n : Nat) (v : Value) (L : List Int) (j : Nat) (u : Value) (wr : World) : Prop :=
  ∃ X, K.S w0 X wr (n + j) v (L.drop j) ∧ OwnQ wr w0.heap.size u (L.take j) ∧ ∀ b, u.ownBlock = some b → X b

theorem OrJ.none {K : QKit} {w0 : World} {n : Nat} {v : Value} {L : List Int} {j : Nat} {u : Value} {wr w' : World} (h : OrJ K w0 n v L j u wr) (hj : L.length ≤ j)
    (hS : ∀ X, K.S w0 X wr (n + j) v (L.drop j) → K.S w0 X w' (n + j + 1) v (L.drop j).tail ∧ ∀ b, X b → w'.heap[b]? = wr.heap[b]?) : OrJ K w0 n v L (j + 1) u w' := by
  obtain ⟨X, h1, h2, h3⟩ := h
  obtain ⟨h4, h5⟩ := hS X h1
  rw [List.drop_eq_nil_of_le hj] at h4
  refine ⟨X, ?_, ?_, h3⟩
  · rw [List.drop_eq_nil_of_le (by omega)]; exact h4
  · have h6 := h2.kept (fun b e => h5 b (h3 b e))
    rw [List.take_of_length_le hj] at h6
    rw [List.take_of_length_le (by omega)]
    exact h6

theorem QKit.pushed (K : QKit) {w0 w2 w5 : World} {X : Nat → Prop} {m : Nat} {v u u5 : Value} {l' a a5 : List Int} {o : Obj} (h4 : K.S w0 X w2 m v l') (hu : OwnQ w2 w0.heap.size u a) (h3 : ∀ b, u.ownBlock = some b → X b) (g5 : OwnQ w5 w0.heap.size u5 a5)
    (gb : (w2.alloc o).grownBy w5 u.ownBlock) (ob : u5.ownBlock = u.ownBlock ∨ u5.ownBlock = some (w2.alloc o).heap.size) : ∃ X', K.S w0 X' w5 m v l' ∧ ∀ b, u5.ownBlock = some b → X' b := by
  have hb : Below w2.heap.size w2 (w2.alloc o) := (Below.refl _ _).alloc (Nat.le_refl _) _
  have hsz : (w2.alloc o).heap.size ≤ w5.heap.size := gb.size
  have s3 : K.S w0 X (w2.alloc o) m v l' := K.grown (r := none) h4 ⟨hb.os, hb.tape, hb.output, hb.size, fun k hk _ => hb.block k hk⟩ (fun b e => by cases e) (fun b hx => ⟨.inl hx, Nat.lt_of_lt_of_le (K.xb h4 b hx) hb.size⟩)
  refine ⟨fun b => X b ∨ ((w2.alloc o).heap.size ≤ b ∧ b < w5.heap.size), K.grown s3 gb (fun b e => ⟨h3 b e, (World.ownsRow.lt hu b e).1⟩) (fun b hx => ?_), fun b e => ?_⟩
  · rcases hx with hx | hx
    · exact ⟨.inl hx, Nat.lt_of_lt_of_le (K.xb s3 b hx) hsz⟩
    · exact ⟨.inr hx.1, hx.2⟩
  · rcases ob with e' | e'
    · exact .inl (h3 b (e' ▸ e))
    · have h7 := (World.ownsRow.lt g5 b e).2
      rw [e'] at e
      cases e
      exact .inr ⟨Nat.le_refl _, h7⟩

set_option maxRecDepth 100000 in
set_option maxHeartbeats 3200000 in
theorem queueOrders_any (K : QKit) (p : Option Addr) (n c : Nat) (l : List Int) (w : World) (h : Qs w p n c l) (hn : n ≤ 1048576) (hr : ∀ x ∈ l, InI x) :
    Calls Try.prog 4 #[.slice p n c] w fun r w' => r = .returned (.bool true) ∧ Below w.heap.size w w' := by
  have hle := h.le
  have hmx := h.max
  have HA := Lib.hid (fun w => alive17_any K w)
  have HN := Lib.hid (K.new p n c l w h hn hr)
  have HI := Lib.hid h
  by_cases hbig : 200 < n
  · have hb : (200 : Int) < (n : Int) := by omega
    clear h hn hbig
    go_enter Try.func4, Try.ntmps4
    go_wp2_with fail
    refine HN.out.mono ?_
    rintro r w1 ⟨v, rfl, hS⟩
    obtain ⟨b, rfl⟩ := K.ptr hS
    have HS := Lib.hid (K.base hS)
    clear hS
    go_wp2_with fail
    refine (HA.out _).mono ?_
    rintro r w2 ⟨rfl, hb2⟩
    have HE := Lib.hid (HS.out.trans (hb2.mono HS.out.size))
    clear hb2
    go_wp2
    go_ret
    exact ⟨rfl, HE.out⟩
  · have hb : ¬ (200 : Int) < (n : Int) := by omega
    have hn2 : n ≤ 200 := by omega
    have HR := Lib.hid (fun W (hW : Below w.heap.size w W) => rnew17_any p n c l W (h.below hW) (by omega))
    obtain ⟨L, hL⟩ : ∃ L, L = newQ l := ⟨_, rfl⟩
    have hLn : L.length ≤ n := by rw [hL, ← h.len]; exact newQ_len l
    rw [← hL] at HN HR
    clear h hn hbig hL
    go_enter Try.func4, Try.ntmps4
    go_wp2_with fail
    refine HN.out.mono ?_
    rintro r w1 ⟨v, rfl, hS⟩
    obtain ⟨b, rfl⟩ := K.ptr hS
    have HJ0 := Lib.hid (show OrJ K w n (.pointer (some ⟨b, 0, none⟩)) L 0 (.slice none 0 0) w1 from ⟨_, hS, ownQ_nil _ _, fun b e => by cases e⟩)
    have hwr : IntKind.i64.wrap ((n : Int) + 1) = (n : Int) + 1 := wrap_succQ n (by omega)
    clear hS
    go_wp2_with fail
    go_loopw [4, 24] (fun u i wr => ∃ j : Nat, j ≤ n + 1 ∧ i = .int .i64 (j : Int) ∧ RowKit.Hid (OrJ K w n (.pointer (some ⟨b, 0, none⟩)) L j u wr)) (fun _ i _ => n + 1 - (intOf i).toNat)
    case atStart => exact ⟨0, Nat.zero_le _, rfl, HJ0⟩
    case round =>
      clear HJ0
      obtain ⟨j, hj, rfl, HJ⟩ := hrel
      by_cases hlt : j < n + 1
      · have hji : (j : Int) < (n : Int) + 1 := by omega
        by_cases hjL : j < L.length
        · obtain ⟨X, h1, h2, h3⟩ := HJ.out
          obtain ⟨x, hx⟩ : ∃ x, x = L[j] := ⟨_, rfl⟩
          have e1 : L.drop j = x :: L.drop (j + 1) := by rw [hx]; exact List.drop_eq_getElem_cons hjL
          have e2 : L.take (j + 1) = L.take j ++ [x] := by rw [List.take_add_one, List.getElem?_eq_getElem hjL, hx]; rfl
          rw [e1] at h1
          have HP := Lib.hid (show Calls Try.prog 13 #[.pointer (some ⟨b, 0, none⟩)] wr fun r w' => r = .returned (.tuple #[.int .i64 x, .bool true]) ∧ K.S w X w' (n + j + 1) (.pointer (some ⟨b, 0, none⟩)) (L.drop (j + 1)) ∧ (∀ b, X b → w'.heap[b]? = wr.heap[b]?) ∧ Below w.heap.size wr w' from K.pop h1 (by omega))
          have Hbw := Lib.hid (K.base h1)
          have Hu := Lib.hid (And.intro h2 h3)
          have He2 := Lib.hid e2
          clear h1 h2 h3 e1 e2 hx HJ
          go_wp2_with fail
          refine HP.out.mono ?_
          rintro r w2 ⟨rfl, hS2, hk2, hb2⟩
          have HS2 := Lib.hid hS2
          have Hu2 := Lib.hid (Hu.out.1.kept (fun b e => hk2 b (Hu.out.2 b e)))
          have Hu3 := Lib.hid (Hu2.out.below ((Below.refl _ _).alloc (Nat.le_refl _) (.cells #[.int .i64 x] 3)))
          have Hsz := Lib.hid (Nat.le_trans Hbw.out.size hb2.size)
          have Hl := Lib.hid (show (L.take j).length + 1 ≤ 4000000 from by rw [List.length_take]; omega)
          clear hS2 hk2 hb2
          go_wp2_with (at_builtin; refine wpl_appq rfl _ _ rfl (base := w.heap.size) (l := L.take j) rfl Hu3.out (p := some ⟨w2.heap.size, 0, none⟩) (m := 1) (c := 1) (ms := [x]) rfl (qs_box w2 x) (by have h5 := Hsz.out; simp; omega) Hl.out ?_; intro u5 w5 g5 _ gb5 ob5; have HG := Lib.hid (And.intro g5 (And.intro gb5 ob5)); clear g5 gb5 ob5)
          go_roundw
          case rel =>
            refine ⟨j + 1, by omega, by go_num, Lib.hid ?_⟩
            obtain ⟨X', s5, m5⟩ := K.pushed HS2.out Hu2.out Hu.out.2 HG.out.1 HG.out.2.1 HG.out.2.2
            exact ⟨X', s5, by rw [He2.out]; exact HG.out.1, m5⟩
          case measure => simp [intOf]; omega
        · obtain ⟨X, h1, h2, h3⟩ := HJ.out
          have e1 : L.drop j = [] := List.drop_eq_nil_of_le (by omega)
          have e2 : L.drop (j + 1) = [] := List.drop_eq_nil_of_le (by omega)
          have e3 : L.take (j + 1) = L.take j := by rw [List.take_of_length_le (by omega), List.take_of_length_le (by omega)]
          rw [e1] at h1
          have HP := Lib.hid (show Calls Try.prog 13 #[.pointer (some ⟨b, 0, none⟩)] wr fun r w' => r = .returned (.tuple #[.int .i64 0, .bool false]) ∧ K.S w X w' (n + j + 1) (.pointer (some ⟨b, 0, none⟩)) [] ∧ (∀ b, X b → w'.heap[b]? = wr.heap[b]?) ∧ Below w.heap.size wr w' from K.pop h1 (by omega))
          have Hu := Lib.hid (And.intro h2 h3)
          have He := Lib.hid (And.intro e2 e3)
          clear h1 h2 h3 e1 e2 e3 HJ
          go_wp2_with fail
          refine HP.out.mono ?_
          rintro r w2 ⟨rfl, hS2, hk2, hb2⟩
          have HJ2 := Lib.hid (show OrJ K w n (.pointer (some ⟨b, 0, none⟩)) L (j + 1) _ w2 from ⟨X, by rw [He.out.1]; exact hS2, by rw [He.out.2]; exact Hu.out.1.kept (fun b e => hk2 b (Hu.out.2 b e)), Hu.out.2⟩)
          clear hS2 hk2 hb2
          go_wp2
          go_roundw
          case rel => exact ⟨j + 1, by omega, by go_num, HJ2⟩
          case measure => simp [intOf]; omega
      · have hji : ¬ (j : Int) < (n : Int) + 1 := by omega
        obtain ⟨X, h1, h2, h3⟩ := HJ.out
        have e1 : L.drop j = [] := List.drop_eq_nil_of_le (by omega)
        have e2 : L.take j = L := List.take_of_length_le (by omega)
        rw [e1] at h1
        rw [e2] at h2
        obtain ⟨q, k, rfl, hrow⟩ := rowQ_own h2 rfl
        have HS := Lib.hid h1
        have Hq := Lib.hid hrow.items
        have Hb := Lib.hid (K.base h1)
        clear h1 h2 h3 e1 e2 hrow HJ
        go_wp2_with fail
        refine (HA.out _).mono ?_
        rintro r w2 ⟨rfl, hb2⟩
        have HB2 := Lib.hid (Hb.out.trans (hb2.mono Hb.out.size))
        have Hb2 := Lib.hid hb2
        clear hb2
        go_wp2_with fail
        refine (HR.out _ HB2.out).mono ?_
        rintro r w3 ⟨q3, k3, rfl, hrow3, hb3⟩
        have HE := Lib.hid (show Calls Try.prog 18 #[.slice q L.length k, .slice q3 L.length k3] w3 fun r w' => r = .returned (.bool true) ∧ Below w3.heap.size w3 w' from (qequal_any q q3 _ _ k k3 L L w3 ((Hq.out.below Hb2.out).below hb3) hrow3.items).mono (fun r w' h => ⟨h.1.trans (by simp), h.2⟩))
        have Hb3 := Lib.hid (Hb2.out.trans (hb3.mono Hb2.out.size))
        clear hrow3 hb3
        go_wp2_with fail
        refine HE.out.mono ?_
        rintro r w4 ⟨rfl, hb4⟩
        have hb5 := Hb3.out.trans (hb4.mono Hb3.out.size)
        have HL := Lib.hid (show Calls Try.prog 20 #[.pointer (some ⟨b, 0, none⟩)] w4 fun r w' => r = .returned (.int .i64 0) ∧ K.S _ _ w' _ _ _ ∧ _ from K.length (K.grown (Y := X) (r := none) HS.out ⟨hb5.os, hb5.tape, hb5.output, hb5.size, fun k hk _ => hb5.block k hk⟩ (fun b e => by cases e) (fun b hx => ⟨.inl hx, Nat.lt_of_lt_of_le (K.xb HS.out b hx) hb5.size⟩)) (by omega))
        clear hb4 hb5
        go_wp2_with fail
        refine HL.out.mono ?_
        rintro r w6 ⟨rfl, hS6, _⟩
        have HE6 := Lib.hid (K.base hS6)
        clear hS6
        go_wp2
        go_ret
        exact ⟨rfl, HE6.out⟩
end Go.Proofs.Ytmmiommfbkcebaa
