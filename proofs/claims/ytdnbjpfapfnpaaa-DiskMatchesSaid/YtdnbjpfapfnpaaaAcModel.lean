/- The walk of the statements' Model: an operation on the reference's disk. -/
import Derived.Test.YtdnbjpfapfnpaaaAcDo
namespace Go.Proofs.Ytdnbjpfapfnpaaa
open Go.RowKit Go.Maps Go.Shelf

/-- What Model answers. -/
def LModelEnd (X : Nat → Prop) (w : World) (r : DM × Int × List Nat) (e : Ending) (w' : World) : Prop :=
  ∃ a n c R p cp, e = .returned (.tuple #[refV (r.1.room : Int) a n c (r.1.plan : Int) r.1.down, .int .i64 r.2.1, .slice p r.2.2.length cp]) ∧ RowF (fun b => (X b ∨ w.heap.size ≤ b) ∧ b < w'.heap.size) w' a n c R ∧ R.map FR.f = r.1.fs ∧ Bytes w' p r.2.2.length cp r.2.2 ∧ Below w.heap.size w w'

theorem results_c2 {fn : Func} {p u t : Tmp} {ty : TypeId} (h : fn.results = #[.cell p ty, .tmp u, .tmp t]) (tmps : Array Value) (P : Program) (w : World) :
    (results fn tmps).run P w = ((asAddr (tmps.getD p undef)).run P w).andThen fun a w₁ => ((loadVar ty a).run P w₁).andThen fun v w₂ => .ok (.tuple #[v, tmps.getD u undef, tmps.getD t undef]) w₂ := by
  simp only [results, h]
  simp [Sem.run_bind, Result.andThen]

set_option maxRecDepth 100000 in
set_option maxHeartbeats 6400000 in
theorem lmodel_any {X : Nat → Prop} {w : World} {v : Value} {M : DM} (h : RefAt X w v M) (hX : ∀ b, X b → b < w.heap.size) (hle : M.plan ≤ 9223372036854775807) (hs : Sorted M.fs) (x : AM) (pb : Option Addr) (cb : Nat) (pk : Option Addr) (ck : Nat)
    (hB : Bytes w pb x.bs.length cb x.bs) (hN : Nums w pk x.ks.length ck x.ks) (wn : -9223372036854775808 ≤ x.n ∧ x.n ≤ 9223372036854775807) (w1 : x.nm.length ≤ 9223372036854775807) (w2 : x.to.length ≤ 9223372036854775807)
    (hU : usedF M.fs ≤ 10000000) (hb : x.bs.length ≤ 10000000) :
    Calls Try.prog 9 #[v, actV x pb cb pk ck] w (LModelEnd X w (stepA x M)) := by
  obtain ⟨a, n, c, R, rfl, hR, hfs, hn⟩ := h
  obtain ⟨w3, hw3⟩ : ∃ w3, w3 = ((w.alloc (.cells #[.int .i64 (M.room : Int), .slice a n c, .int .i64 (M.plan : Int), .bool M.down] 29)).alloc (.cells #[.int .i64 x.k, .string ⟨x.nm.toArray⟩, .string ⟨x.to.toArray⟩, .slice pb x.bs.length cb, .int .i64 x.n, .slice pk x.ks.length ck] 35)).alloc (.cells #[.int .i64 0, .slice none 0 0, .int .i64 0, .bool false] 29) := ⟨_, rfl⟩
  have hb3 : Below w.heap.size w w3 := by rw [hw3]; exact (((Below.refl w.heap.size w).alloc (Nat.le_refl _) _).alloc (by simp) _).alloc (by simp; omega) _
  have hz3 : w3.heap.size = w.heap.size + 3 := by rw [hw3]; simp
  have hD3 : w3.heap[w.heap.size]? = some (.cells #[.int .i64 (M.room : Int), .slice a n c, .int .i64 (M.plan : Int), .bool M.down] 29 (0, 0)) := by
    rw [hw3]; exact (Below.heap_alloc _ _ _ (by simp; omega)).trans ((Below.heap_alloc _ _ _ (by simp)).trans (heap_alloc_new _ _))
  have hZ3 : w3.heap[w.heap.size + 2]? = some (.cells #[.int .i64 0, .slice none 0 0, .int .i64 0, .bool false] 29 (0, 0)) := by
    have := heap_alloc_new ((w.alloc (.cells #[.int .i64 (M.room : Int), .slice a n c, .int .i64 (M.plan : Int), .bool M.down] 29)).alloc (.cells #[.int .i64 x.k, .string ⟨x.nm.toArray⟩, .string ⟨x.to.toArray⟩, .slice pb x.bs.length cb, .int .i64 x.n, .slice pk x.ks.length ck] 35)) (.cells #[.int .i64 0, .slice none 0 0, .int .i64 0, .bool false] 29)
    rw [hw3]
    simpa using this
  have hR3 : RefAt X w3 (refV (M.room : Int) a n c (M.plan : Int) M.down) M := ⟨a, n, c, R, rfl, hR.below hX hb3, hfs, hn⟩
  have hX3 : ∀ b, X b → b < w3.heap.size := fun b h => Nat.lt_of_lt_of_le (hX b h) hb3.size
  have Hb3 := Lib.hid hb3
  have HD3 := Lib.hid hD3
  have HZ3 := Lib.hid hZ3
  have HR0 := Lib.hid (hR.below hX hb3)
  have Hfs := Lib.hid hfs
  have HX := Lib.hid hX
  have hsz3 : w.heap.size + 2 < w3.heap.size := by omega
  have hz : ∀ w4, Below w3.heap.size w3 w4 → (∀ o, (w4.alloc o).cell? ⟨w.heap.size + 1 + 1, 0, none⟩ = some (.int .i64 0)) ∧ (∀ o, (w4.alloc o).cell? ⟨w.heap.size + 1 + 1, 1, none⟩ = some (.slice none 0 0)) ∧ (∀ o, (w4.alloc o).cell? ⟨w.heap.size + 1 + 1, 2, none⟩ = some (.int .i64 0)) ∧ (∀ o, (w4.alloc o).cell? ⟨w.heap.size + 1 + 1, 3, none⟩ = some (.bool false)) ∧ (∀ o i, (w4.alloc o).frozen? ⟨w.heap.size + 1 + 1, i, none⟩ = false) := by
    intro w4 h4
    have h5 : ∀ o, (w4.alloc o).heap[w.heap.size + 1 + 1]? = some (.cells #[.int .i64 0, .slice none 0 0, .int .i64 0, .bool false] 29 (0, 0)) := fun o =>
      (Below.heap_alloc _ _ _ (by have := h4.size; omega)).trans ((h4.block _ (by omega)).trans hZ3)
    refine ⟨fun o => ?_, fun o => ?_, fun o => ?_, fun o => ?_, fun o i => by simp [World.frozen?, h5 o]⟩ <;> (rw [cell_of_row _ _ _ _ _ (0, 0) (h5 o)]; rfl)
  have hzp : ∀ w4, Below w3.heap.size w3 w4 → (w4.cell? ⟨w.heap.size + 1 + 1, 0, none⟩ = some (.int .i64 0)) ∧ (w4.cell? ⟨w.heap.size + 1 + 1, 1, none⟩ = some (.slice none 0 0)) ∧ (w4.cell? ⟨w.heap.size + 1 + 1, 2, none⟩ = some (.int .i64 0)) ∧ (w4.cell? ⟨w.heap.size + 1 + 1, 3, none⟩ = some (.bool false)) ∧ (∀ i, w4.frozen? ⟨w.heap.size + 1 + 1, i, none⟩ = false) := by
    intro w4 h4
    have h5 : w4.heap[w.heap.size + 1 + 1]? = some (.cells #[.int .i64 0, .slice none 0 0, .int .i64 0, .bool false] 29 (0, 0)) := (h4.block _ (by omega)).trans hZ3
    refine ⟨?_, ?_, ?_, ?_, fun i => by simp [World.frozen?, h5]⟩ <;> (rw [cell_of_row _ _ _ _ _ (0, 0) h5]; rfl)
  have hdp : ∀ w4, Below w3.heap.size w3 w4 → (w4.cell? ⟨w.heap.size, 0, none⟩ = some (.int .i64 (M.room : Int))) ∧ (w4.cell? ⟨w.heap.size, 1, none⟩ = some (.slice a n c)) ∧ (w4.cell? ⟨w.heap.size, 2, none⟩ = some (.int .i64 (M.plan : Int))) ∧ (w4.cell? ⟨w.heap.size, 3, none⟩ = some (.bool M.down)) := by
    intro w4 h4
    have h5 : w4.heap[w.heap.size]? = some (.cells #[.int .i64 (M.room : Int), .slice a n c, .int .i64 (M.plan : Int), .bool M.down] 29 (0, 0)) := (h4.block _ (by omega)).trans hD3
    refine ⟨?_, ?_, ?_, ?_⟩ <;> (rw [cell_of_row _ _ _ _ _ (0, 0) h5]; rfl)
  have Hz := Lib.hid hz
  have Hzp := Lib.hid hzp
  by_cases hk : 1 ≤ x.k ∧ x.k ≤ 5
  · have hst : stepA x M = ((stepM x.k x.nm x.to x.bs M).1, (stepM x.k x.nm x.to x.bs M).2, []) := by unfold stepA; rw [if_pos hk]
    have HC := Lib.hid (rdo_all hR3 hX3 hle hs x.k hk x.nm x.to w1 w2 pb x.bs.length cb x.bs (fun W hW => hB.grow (hb3.trans (hW.mono hb3.size))) (by omega) (by omega))
    rw [hst]
    generalize stepM x.k x.nm x.to x.bs M = r at *
    have hend : ∀ (w4 w5 : World) (a4 : Option Addr) (n4 c4 : Nat) (R4 : List FR), RowF (fun b => (X b ∨ w3.heap.size ≤ b) ∧ b < w4.heap.size) w4 a4 n4 c4 R4 → R4.map FR.f = r.1.fs → Below w3.heap.size w3 w4 → ∀ v, v = .tuple #[refV (r.1.room : Int) a4 n4 c4 (r.1.plan : Int) r.1.down, .int .i64 r.2, .slice none 0 0] →
        (∀ b, (X b ∨ w3.heap.size ≤ b) ∧ b < w4.heap.size → w5.heap[b]? = w4.heap[b]?) → w4.heap.size ≤ w5.heap.size → Below w.heap.size w w5 → LModelEnd X w (r.1, r.2, []) (.returned v) w5 := by
      intro w4 w5 a4 n4 c4 R4 h1 h2 h3 v hv h4 h5 h6
      exact ⟨a4, n4, c4, R4, none, 0, by rw [hv]; rfl, h1.mono h4 (fun b h => ⟨h.1.imp id (fun h => by omega), Nat.lt_of_lt_of_le h.2 h5⟩), h2, bytes_nil _, h6⟩
    have Hend := Lib.hid (fun w4 w5 a4 n4 c4 R4 h1 h2 h3 v hv h4 h5 h6 => hend w4 w5 a4 n4 c4 R4 h1 h2 h3 v hv h4 h5 h6)
    clear hB hN hR hR3 hX3 hst hD3 hZ3 hb3 hX hfs hz hzp hdp hend
    unfold refV opV at HC
    unfold actV refV
    generalize (M.plan : Int) = pl at *
    generalize (M.room : Int) = ro at *
    generalize M.down = dn at *
    obtain ⟨k, nm, to, bs, y, ks⟩ := x
    simp only at *
    rcases (show k = 1 ∨ k = 2 ∨ k = 3 ∨ k = 4 ∨ k = 5 by omega) with rfl | rfl | rfl | rfl | rfl
    all_goals
      clear hk
      go_enter Try.func9, Try.ntmps9
      go_wp2_with fail
      rw [← hw3]
      refine HC.out.mono ?_
      rintro e w4 ⟨a4, n4, c4, R4, rfl, hR4, hfs4, hb4⟩
      unfold refV
      obtain ⟨z0, z1, z2, z3, fz⟩ := Hz.out w4 hb4
      have HR4 := Lib.hid hR4
      have HF4 := Lib.hid hfs4
      have Hb4 := Lib.hid hb4
      have Hb4w := Lib.hid (Hb3.out.trans (hb4.mono Hb3.out.size))
      generalize hr1 : ((r.1.room : Nat) : Int) = ro4 at *
      generalize hr2 : ((r.1.plan : Nat) : Int) = pl4 at *
      generalize hr3 : r.1.down = dn4 at *
      have Hr1 := Lib.hid hr1
      have Hr2 := Lib.hid hr2
      have Hr3 := Lib.hid hr3
      clear hR4 hfs4 hb4 HC hr1 hr2 hr3
      go_wp2_with fail
      (try simp only [Exit.inBlock, Exit.then])
      refine bodyPost_ret (v := .tuple #[refV ro4 a4 n4 c4 pl4 dn4, .int .i64 r.2, .slice none 0 0]) ?_ rfl (Hend.out _ _ _ _ _ _ HR4.out HF4.out Hb4.out _ (by rw [← Hr1.out, ← Hr2.out, ← Hr3.out]) ?_ ?_ ?_)
      · rw [results_c2 rfl]
        go_simp
        rfl
      · rintro b ⟨hb, _⟩
        have hb := hb.imp (HX.out b) id
        repeat rw [Below.heap_setCell _ _ _ _ (by simp; omega)]
        exact Below.heap_alloc _ _ _ (by assumption)
      · simp
      · repeat (first | exact Hb4w.out.alloc Hb4w.out.size _ | refine Below.setCell ?_ (by simp; omega) _)
  · have hold : ∀ (M' : DM) (cd : Int) (w5 : World), M'.room = M.room → M'.fs = M.fs → Below w.heap.size w w5 → ∀ v, v = .tuple #[refV (M.room : Int) a n c (M'.plan : Int) M'.down, .int .i64 cd, .slice none 0 0] → LModelEnd X w (M', cd, []) (.returned v) w5 := fun M' cd w5 h1 h2 h6 v hv =>
      ⟨a, n, c, R, none, 0, by rw [hv, ← h1]; rfl, (hR.below hX h6).mono (fun _ _ => rfl) (fun b h => ⟨.inl h, Nat.lt_of_lt_of_le (hX b h) h6.size⟩), by rw [h2]; exact hfs, bytes_nil _, h6⟩
    have Hold := Lib.hid hold
    by_cases h6 : x.k = 6
    · have hst : stepA x M = (armM x.n M, 0, []) := by unfold stepA; rw [if_neg hk, if_pos h6]
      rw [hst]
      have Hend := Lib.hid (fun w5 hb v hv => hold (armM x.n M) 0 w5 rfl rfl hb v hv)
      have hpl : ((armM x.n M).plan : Int) = max x.n 0 := by show ((x.n.toNat : Nat) : Int) = _; omega
      have hdn : (armM x.n M).down = M.down := rfl
      rw [hpl, hdn] at Hend
      obtain ⟨z0, z1, z2, z3, fz⟩ := Hzp.out w3 (Below.refl _ _)
      obtain ⟨d0, d1, d2, d3⟩ := hdp w3 (Below.refl _ _)
      generalize armM x.n M = M' at *
      clear hB hN hR hR3 hX3 hst hD3 hZ3 hb3 hX hfs hz hzp hdp hold hpl hdn hk
      unfold actV refV
      generalize (M.plan : Int) = pl at *
      generalize (M.room : Int) = ro at *
      generalize M.down = dn at *
      obtain ⟨k, nm, to, bs, y, ks⟩ := x
      simp only at *
      subst h6
      go_enter Try.func9, Try.ntmps9
      go_wp2_with fail
      refine bodyPost_ret (v := .tuple #[refV ro a n c (max y 0) dn, .int .i64 0, .slice none 0 0]) ?_ rfl (Hend.out _ ?_ _ rfl)
      · rw [results_c2 rfl]
        go_simp
        rfl
      · exact (((Below.refl w.heap.size w).alloc (Nat.le_refl _) _).alloc (by simp) _).alloc (by simp; omega) _
    · by_cases h7 : x.k = 7
      · have hst : stepA x M = (crashM x.ks M, 0, []) := by unfold stepA; rw [if_neg hk, if_neg h6, if_pos h7]
        rw [hst]
        have HC := Lib.hid (rcrash_any hR3 hX3 pk x.ks.length ck x.ks (hN.grow hb3))
        have hend : ∀ (w4 w5 : World) (a4 : Option Addr) (n4 c4 : Nat) (R4 : List FR), RowF (fun b => (X b ∨ w3.heap.size ≤ b) ∧ b < w4.heap.size) w4 a4 n4 c4 R4 → R4.map FR.f = (crashM x.ks M).fs → ∀ v, v = .tuple #[refV (M.room : Int) a4 n4 c4 0 false, .int .i64 0, .slice none 0 0] →
            (∀ b, (X b ∨ w3.heap.size ≤ b) ∧ b < w4.heap.size → w5.heap[b]? = w4.heap[b]?) → w4.heap.size ≤ w5.heap.size → Below w.heap.size w w5 → LModelEnd X w (crashM x.ks M, 0, []) (.returned v) w5 := by
          intro w4 w5 a4 n4 c4 R4 h1 h2 v hv h4 h5 h6
          exact ⟨a4, n4, c4, R4, none, 0, by rw [hv]; rfl, h1.mono h4 (fun b h => ⟨h.1.imp id (fun h => by omega), Nat.lt_of_lt_of_le h.2 h5⟩), h2, bytes_nil _, h6⟩
        have Hend := Lib.hid hend
        have hroom : (crashM x.ks M).room = M.room := rfl
        have hcp : (crashM x.ks M).plan = 0 := rfl
        have hcd : (crashM x.ks M).down = false := rfl
        unfold RefEnd refV at HC
        rw [hroom, hcp, hcd] at HC
        generalize crashM x.ks M = M' at *
        clear hB hN hR hR3 hX3 hst hD3 hZ3 hb3 hX hfs hz hzp hdp hend hold hroom hcp hcd hk h6
        unfold actV refV
        generalize (M.plan : Int) = pl at *
        generalize (M.room : Int) = ro at *
        generalize M.down = dn at *
        obtain ⟨k, nm, to, bs, y, ks⟩ := x
        simp only at *
        subst h7
        go_enter Try.func9, Try.ntmps9
        go_wp2_with fail
        rw [← hw3]
        refine HC.out.mono ?_
        rintro e w4 ⟨a4, n4, c4, R4, rfl, hR4, hfs4, hb4⟩
        obtain ⟨z0, z1, z2, z3, fz⟩ := Hzp.out w4 hb4
        have HR4 := Lib.hid hR4
        have HF4 := Lib.hid hfs4
        have Hb4 := Lib.hid (Hb3.out.trans (hb4.mono Hb3.out.size))
        clear hR4 hfs4 hb4 HC
        go_wp2_with fail
        (try simp only [Exit.inBlock, Exit.then])
        refine bodyPost_ret (v := .tuple #[refV ro a4 n4 c4 0 false, .int .i64 0, .slice none 0 0]) ?_ rfl (Hend.out _ _ _ _ _ _ HR4.out HF4.out _ rfl ?_ ?_ ?_)
        · rw [results_c2 rfl]
          go_simp
          rfl
        · rintro b ⟨hb, _⟩
          have hb := hb.imp (HX.out b) id
          repeat rw [Below.heap_setCell _ _ _ _ (by simp; omega)]
        · simp
        · repeat (first | exact Hb4.out | refine Below.setCell ?_ (by simp; omega) _)
      · have hst : stepA x M = (M, (readM x.nm M).2, (readM x.nm M).1) := by unfold stepA; rw [if_neg hk, if_neg h6, if_neg h7]
        rw [hst]
        have HC := Lib.hid (rread_any hR3 hX3 x.nm)
        have hend : ∀ (w4 w5 : World) (p : Option Addr) (cp : Nat), Bytes w4 p (readM x.nm M).1.length cp (readM x.nm M).1 → (∀ b, b < w4.heap.size → b ≠ w.heap.size + 1 + 1 → w5.heap[b]? = w4.heap[b]?) → w4.heap.size ≤ w5.heap.size → Below w.heap.size w w5 → ∀ v, v = .tuple #[refV (M.room : Int) a n c (M.plan : Int) M.down, .int .i64 (readM x.nm M).2, .slice p (readM x.nm M).1.length cp] → (0 < (readM x.nm M).1.length → ∀ q, p = some q → q.block ≠ w.heap.size + 1 + 1) →
            LModelEnd X w (M, (readM x.nm M).2, (readM x.nm M).1) (.returned v) w5 := by
          intro w4 w5 p cp h1 h2 h3 h4 v hv h5
          refine ⟨a, n, c, R, p, cp, by rw [hv], (hR.below hX h4).mono (fun _ _ => rfl) (fun b h => ⟨.inl h, Nat.lt_of_lt_of_le (hX b h) h4.size⟩), hfs, ?_, h4⟩
          refine ⟨h1.len, h1.le, h1.capmax, h1.byte, h1.nil, fun hn => ?_⟩
          obtain ⟨b, o, rfl, hc⟩ := h1.cell hn
          refine ⟨b, o, rfl, fun i hi => ?_⟩
          rw [← hc i hi]
          exact World.cell?_of_block (h2 b (World.block_lt_of_cell? _ _ (hc i hi)) (h5 hn _ rfl))
        have Hend := Lib.hid hend
        have Hty := Lib.hid (fun (w4 : World) (h4 : Below w3.heap.size w3 w4) (p : Option Addr) (l : List Nat) (cp : Nat) (hp : Bytes w4 p l.length cp l) (hn : 0 < l.length) (q : Addr) (hq : p = some q) => (show q.block ≠ w.heap.size + 1 + 1 from by
          intro hq2
          obtain ⟨b, o, e, hc⟩ := hp.cell hn
          rw [e] at hq
          cases hq
          simp only at hq2
          subst hq2
          have h5 : w4.heap[w.heap.size + 1 + 1]? = some (.cells #[.int .i64 0, .slice none 0 0, .int .i64 0, .bool false] 29 (0, 0)) := (h4.block _ (by omega)).trans hZ3
          have h6 := hc 0 hn
          match o, h6 with
          | 0, h6 => rw [cell_of_row _ _ _ _ _ (0, 0) h5] at h6; cases h6
          | 1, h6 => rw [cell_of_row _ _ _ _ _ (0, 0) h5] at h6; cases h6
          | 2, h6 => rw [cell_of_row _ _ _ _ _ (0, 0) h5] at h6; cases h6
          | 3, h6 => rw [cell_of_row _ _ _ _ _ (0, 0) h5] at h6; cases h6
          | o + 4, h6 => rw [cell_of_row _ _ _ _ _ (0, 0) h5] at h6; simp at h6))
        generalize readM x.nm M = r at *
        have Hdp := Lib.hid hdp
        clear hB hN hR hR3 hX3 hst hD3 hZ3 hb3 hX hfs hz hzp hend hold hdp
        unfold actV refV
        unfold refV at HC
        generalize (M.plan : Int) = pl at *
        generalize (M.room : Int) = ro at *
        generalize M.down = dn at *
        obtain ⟨k, nm, to, bs, y, ks⟩ := x
        simp only at *
        go_enter Try.func9, Try.ntmps9
        go_wp2_with fail
        rw [← hw3]
        refine HC.out.mono ?_
        rintro e w4 ⟨p, cp, rfl, hp, _, hb4⟩
        obtain ⟨z0, z1, z2, z3, fz⟩ := Hzp.out w4 hb4
        obtain ⟨d0, d1, d2, d3⟩ := Hdp.out w4 hb4
        have Hp := Lib.hid hp
        have Hn := Lib.hid (fun hn q hq => Hty.out w4 hb4 p _ cp hp hn q hq)
        have Hb4 := Lib.hid (Hb3.out.trans (hb4.mono Hb3.out.size))
        have hlt4 := hb4.size
        clear hp hb4 HC
        generalize hrl : r.1.length = rl at *
        have Hrl := Lib.hid hrl
        clear hrl
        go_wp2_with fail
        (try simp only [Exit.inBlock, Exit.then])
        refine bodyPost_ret (v := .tuple #[refV ro a n c pl dn, .int .i64 r.2, .slice p rl cp]) ?_ rfl (Hend.out w4 _ p cp Hp.out ?_ ?_ ?_ _ rfl Hn.out)
        · rw [results_c2 rfl]
          go_simp
          rfl
        · intro b hb hne
          repeat rw [Below.heap_setCell _ _ _ _ (by simp; omega)]
        · simp
        · repeat (first | exact Hb4.out | refine Below.setCell ?_ (by simp; omega) _)
end Go.Proofs.Ytdnbjpfapfnpaaa
