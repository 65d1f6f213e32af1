/- The walk of the statements' Few. -/
import Derived.Test.YtdnbjpfapfnpaaaOpenA
namespace Go.Proofs.Ytdnbjpfapfnpaaa
open Go.RowKit Go.Maps Go.Shelf

/-- The bytes of the first j operations. -/
def sumB (l : List AM) (j : Nat) : Nat := ((l.take j).map fun x => x.bs.length).sum
theorem sumB_next {l : List AM} {j : Nat} (hj : j < l.length) : sumB l (j + 1) = sumB l j + l[j].bs.length := by
  unfold sumB
  rw [List.take_succ_eq_append_getElem hj, List.map_append, List.sum_append]
  simp
theorem sumB_le (l : List AM) (j : Nat) : sumB l j ≤ sumB l l.length := by
  unfold sumB
  rw [List.take_length]
  conv => rhs; rw [← List.take_append_drop j l, List.map_append, List.sum_append]
  omega
/-- The sum that Few makes. -/
def sumM (l : List AM) (j : Nat) : Nat := ((l.take j).map fun x => min x.bs.length 2000).sum
theorem sumM_next {l : List AM} {j : Nat} (hj : j < l.length) : sumM l (j + 1) = sumM l j + min l[j].bs.length 2000 := by
  unfold sumM
  rw [List.take_succ_eq_append_getElem hj, List.map_append, List.sum_append]
  simp
theorem sumM_all (l : List AM) (h : sumM l l.length ≤ 1500) : sumB l l.length ≤ 1500 := by
  unfold sumM at h
  unfold sumB
  rw [List.take_length] at h ⊢
  induction l with
  | nil => exact Nat.zero_le _
  | cons x r ih =>
    rw [List.map_cons, List.sum_cons] at h ⊢
    have h2 : ∀ r : List AM, (r.map fun x => min x.bs.length 2000).sum ≤ 1500 → (r.map fun x => x.bs.length).sum = (r.map fun x => min x.bs.length 2000).sum := by
      intro r
      induction r with
      | nil => intro _; rfl
      | cons y s ihs =>
        intro hs
        rw [List.map_cons, List.sum_cons] at hs ⊢
        rw [List.map_cons, List.sum_cons, ihs (by omega)]
        omega
    rw [h2 r (by omega)]
    omega

def FewA (l : List AM) : Prop := l.length ≤ 100 ∧ sumB l l.length ≤ 1500

def FewEndA (l : List AM) (e : Ending) : Prop := e = .returned (.int .i64 0) ∨ (e = .returned (.int .i64 1) ∧ FewA l)

set_option maxRecDepth 100000 in
set_option maxHeartbeats 6400000 in
theorem fewA_any (a : Option Addr) (n c : Nat) (l : List AM) (w : World) (hl : Acts w a n c l) :
    Calls Try.prog 6 #[.slice a n c] w fun e w' => FewEndA l e ∧ Below w.heap.size w w' := by
  have hls := Lib.hid hl.len
  have hnb : n ≤ 9223372036854775807 := Nat.le_trans hl.le hl.max
  have HA := Lib.hid hl
  clear hl
  go_enter Try.func6, Try.ntmps6
  go_wp2
  go_loopw [3, 8] (fun t i wr => ∃ j : Nat, j ≤ n ∧ i = .int .i64 j ∧ t = .int .i64 (sumM l j : Nat) ∧ sumM l j ≤ 1500 ∧ Below w.heap.size w wr) (fun _ i _ => n - (intOf i).toNat)
  case atStart => exact ⟨0, Nat.zero_le _, rfl, rfl, by simp [sumM], Below.refl _ _⟩
  case round =>
    obtain ⟨j, hj, rfl, rfl, hs, hb⟩ := hrel
    have Hb := Lib.hid hb
    by_cases hlt : j < n
    · obtain ⟨b, o, rfl, hc⟩ := (HA.out.grow hb).cell (by omega)
      obtain ⟨pb, cb, pk, ck, hx⟩ := hc j (by rw [hls.out]; exact hlt)
      have hjl : j < l.length := by rw [hls.out]; exact hlt
      have hsn := sumM_next hjl
      have k0 := hx.k0
      have k1 := hx.k1
      have k2 := hx.k2
      have k3 := hx.k3
      have k4 := hx.k4
      have k5 := hx.k5
      have x1 := hx.w1
      have x2 := hx.w2
      have x3 := hx.bytes.max
      have x4 : l[j].ks.length ≤ 9223372036854775807 := Nat.le_trans hx.nums.le hx.nums.capmax
      have hal := (Below.refl wr.heap.size wr).alloc (Nat.le_refl _) (.cells #[.int .i64 l[j].k, .string ⟨l[j].nm.toArray⟩, .string ⟨l[j].to.toArray⟩, .slice pb l[j].bs.length cb, .int .i64 l[j].n, .slice pk l[j].ks.length ck] 35)
      have Hb2 := Lib.hid (hb.trans (hal.mono hb.size))
      generalize sumM l j = m at *
      generalize l[j] = x at *
      obtain ⟨k, nm, to, bs, y, ks⟩ := x
      simp only at *
      have Hsn := Lib.hid hsn
      clear hx hc hb hal hsn hjl
      generalize bs.length = bl at *
      generalize ks.length = kl at *
      obtain ⟨q, hq⟩ : ∃ q, q = min bl 2000 := ⟨_, rfl⟩
      have hmin : min (bl : Int) 2000 = (q : Int) := by omega
      have hq2 : q ≤ 2000 := by omega
      have Hq := Lib.hid hq
      clear hq
      go_wp2
      all_goals first
        | (go_ret; exact ⟨.inl rfl, Hb2.out⟩)
        | (go_roundw
           case rel =>
             have hs2 := Hsn.out
             rw [← Hq.out] at hs2
             refine ⟨j + 1, by omega, by go_num, by rw [hs2]; go_num, by omega, Hb2.out⟩
           case measure => simp [intOf]; omega)
    · obtain rfl : j = n := by omega
      by_cases h100 : j ≤ 100
      · have h1 : (j : Int) ≤ 100 := by omega
        go_wp2
        go_ret
        exact ⟨.inr ⟨rfl, by rw [hls.out]; exact h100, sumM_all l (by rw [hls.out]; exact hs)⟩, Hb.out⟩
      · have h1 : (100 : Int) < j := by omega
        go_wp2
        go_ret
        exact ⟨.inl rfl, Hb.out⟩
end Go.Proofs.Ytdnbjpfapfnpaaa
