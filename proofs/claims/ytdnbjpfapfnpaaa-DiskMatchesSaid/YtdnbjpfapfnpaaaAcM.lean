/- The statements' operations as plain data: what each does to a plain disk; bounds on what a few of them can do. -/
import Derived.Test.YtdnbjpfapfnpaaaRfG
import Derived.Test.YtdnbjpfapfnpaaaRfCr
import Derived.Test.YtdnbjpfapfnpaaaNums
namespace Go.Proofs.Ytdnbjpfapfnpaaa
open Go.RowKit Go.Maps Go.Shelf

/-- An operation. -/
structure AM where
  k : Int
  nm : List UInt8
  to : List UInt8
  bs : List Nat
  n : Int
  ks : List Int

/-- What an operation does: the disk, the code, the bytes that were read. -/
def stepA (x : AM) (M : DM) : DM × Int × List Nat :=
  if 1 ≤ x.k ∧ x.k ≤ 5 then ((stepM x.k x.nm x.to x.bs M).1, (stepM x.k x.nm x.to x.bs M).2, []) else if x.k = 6 then (armM x.n M, 0, []) else if x.k = 7 then (crashM x.ks M, 0, []) else (M, (readM x.nm M).2, (readM x.nm M).1)

/-- A disk after j operations. -/
def runA (l : List AM) (M : DM) (j : Nat) : DM := (l.take j).foldl (fun M x => (stepA x M).1) M
theorem runA_next {l : List AM} {M : DM} {j : Nat} (hj : j < l.length) : runA l M (j + 1) = (stepA l[j] (runA l M j)).1 := by
  unfold runA
  rw [List.take_succ_eq_append_getElem hj, List.foldl_append]
  rfl

theorem usedF_insN (x : F) : ∀ l : List F, usedF (insN F.n x l) = x.b.length + usedF l
  | [] => by simp [insN, usedF]
  | y :: r => by
    unfold insN
    split
    · rw [usedF_cons, usedF_cons]
    · rw [usedF_cons, usedF_insN x r, usedF_cons]
      omega
theorem usedF_delN (n : List UInt8) : ∀ l : List F, usedF (delN F.n n l) ≤ usedF l
  | [] => Nat.le_refl _
  | y :: r => by
    have ih := usedF_delN n r
    unfold delN at ih ⊢
    rw [List.filter_cons, usedF_cons]
    split
    · rw [usedF_cons]
      omega
    · omega
theorem usedF_delN_mem {n : List UInt8} : ∀ {l : List F} {f : F}, f ∈ l → f.n = n → usedF (delN F.n n l) + f.b.length ≤ usedF l
  | y :: r, f, h, hn => by
    have ih := usedF_delN n r
    unfold delN at ih ⊢
    rw [List.filter_cons, usedF_cons]
    rcases List.mem_cons.1 h with rfl | h
    · rw [if_neg (by simp [hn])]
      omega
    · have ih2 := usedF_delN_mem h hn
      unfold delN at ih2
      split
      · rw [usedF_cons]
        omega
      · omega
theorem length_insN (x : F) (l : List F) : (insN F.n x l).length = l.length + 1 := by rw [(perm_insN F.n x l).length_eq, List.length_cons]
theorem length_delN (n : List UInt8) (l : List F) : (delN F.n n l).length ≤ l.length := List.length_filter_le _ _
/-- What a disk is after a change: no more than one file more, no more bytes than were appended. -/
structure Small (M : DM) (N U : Nat) : Prop where
  files : M.fs.length ≤ N
  used : usedF M.fs ≤ U

theorem failM_small {M : DM} {N U : Nat} (h : Small M N U) : Small (failM M) N U := by
  refine ⟨?_, ?_⟩ <;> rw [failM_fs' M]
  · exact h.files
  · exact h.used

theorem chgM_small {M : DM} {N U N' U' : Nat} (h : Small M N U) (hN : N ≤ N') (hU : U ≤ U') {nm : List UInt8} {act : DM → DM × Int} (ha : ∀ M', M'.fs = M.fs → Small (act M').1 N' U') : Small (chgM M nm act).1 N' U' := by
  unfold chgM
  have h2 := failM_small h
  split
  · exact ⟨Nat.le_trans h2.files hN, Nat.le_trans h2.used hU⟩
  · split
    · exact ha _ (failM_fs' M)
    · exact ⟨Nat.le_trans h2.files hN, Nat.le_trans h2.used hU⟩

theorem onM_small {M' : DM} {N' U' : Nat} (h : Small M' N' U') {nm : List UInt8} {act : F → DM → DM × Int} (ha : ∀ f, f ∈ M'.fs → f.n = nm → Small (act f M').1 N' U') : Small (onM nm act M').1 N' U' := by
  unfold onM
  cases hf : findN F.n nm M'.fs with
  | none => exact h
  | some f => exact ha f (findN_some hf).1 (findN_some hf).2

theorem put_small {fs : List F} {N U : Nat} {f : F} {x : F} (hf : f ∈ fs) (hn : f.n = x.n) (h1 : fs.length ≤ N) (h2 : usedF fs ≤ U) : (putN F.n x fs).length ≤ N + 1 ∧ usedF (putN F.n x fs) + f.b.length ≤ U + x.b.length := by
  unfold putN
  rw [length_insN, usedF_insN]
  have h3 := length_delN x.n fs
  have h4 := usedF_delN_mem hf hn
  exact ⟨by omega, by omega⟩

theorem stepM_small {M : DM} {N U : Nat} (h : Small M N U) (hs : Sorted M.fs) (k : Int) (nm to : List UInt8) (bs : List Nat) : Small (stepM k nm to bs M).1 (N + 1) (U + bs.length) := by
  unfold stepM
  have same : ∀ M', M'.fs = M.fs → Small M' (N + 1) (U + bs.length) := fun M' e => ⟨by rw [e]; have := h.files; omega, by rw [e]; have := h.used; omega⟩
  have hset : ∀ (M' : DM) (f x : F), M'.fs = M.fs → f ∈ M'.fs → f.n = x.n → x.b.length ≤ f.b.length + bs.length → Small { M' with fs := setN F.n x M'.fs } (N + 1) (U + bs.length) := by
    intro M' f x e hf hn hx
    have h1 : setN F.n x M'.fs = putN F.n x M'.fs := setN_putN x _ (by rw [e]; exact hs) (fun hnone => findN_none hnone f hf hn)
    rw [h1]
    have h2 := put_small (x := x) hf hn (N := N) (U := U) (by rw [e]; exact h.files) (by rw [e]; exact h.used)
    exact ⟨h2.1, by have := h2.2; show usedF (putN F.n x M'.fs) ≤ _; omega⟩
  split
  · refine chgM_small h (by omega) (by omega) fun M' e => ?_
    cases findN F.n nm M'.fs with
    | some f => exact same M' e
    | none =>
      refine ⟨?_, ?_⟩
      · show (putN F.n _ M'.fs).length ≤ _
        unfold putN
        rw [length_insN]
        have := length_delN nm M'.fs
        have h1 := h.files
        rw [← e] at h1
        simp only
        omega
      · show usedF (putN F.n _ M'.fs) ≤ _
        unfold putN
        rw [usedF_insN]
        have := usedF_delN nm M'.fs
        have h1 := h.used
        rw [← e] at h1
        simp only [List.length_nil]
        omega
  · split
    · refine chgM_small h (by omega) (by omega) fun M' e => onM_small (same M' e) fun f hf hn => ?_
      split
      · exact hset M' f _ e hf (by simpa using hn) (by simp)
      · exact same M' e
    · split
      · exact chgM_small h (by omega) (by omega) fun M' e => onM_small (same M' e) fun f hf hn => hset M' f _ e hf (by simpa using hn) (by simp)
      · split
        · refine chgM_small h (by omega) (by omega) fun M' e => onM_small (same M' e) fun f hf hn => ?_
          split
          · refine ⟨?_, ?_⟩
            · show (putN F.n _ (delN F.n nm M'.fs)).length ≤ _
              unfold putN
              rw [length_insN]
              have h1 := length_delN to (delN F.n nm M'.fs)
              have h2 := length_delN nm M'.fs
              have h3 := h.files
              rw [← e] at h3
              simp only
              omega
            · show usedF (putN F.n _ (delN F.n nm M'.fs)) ≤ _
              unfold putN
              rw [usedF_insN]
              have h1 := usedF_delN to (delN F.n nm M'.fs)
              have h2 := usedF_delN_mem hf hn
              have h3 := h.used
              rw [← e] at h3
              simp only
              omega
          · exact same M' e
        · refine chgM_small h (by omega) (by omega) fun M' e => onM_small (same M' e) fun f hf hn => ⟨?_, ?_⟩
          · have h2 := length_delN nm M'.fs
            have h3 := h.files
            rw [← e] at h3
            show (delN F.n nm M'.fs).length ≤ _
            omega
          · have h2 := usedF_delN nm M'.fs
            have h3 := h.used
            rw [← e] at h3
            show usedF (delN F.n nm M'.fs) ≤ _
            omega

theorem crash_used (ks : List Int) : ∀ (fs : List F) (o : Nat), usedF (fs.mapIdx fun i f => cutF f (ks.getD (o + i) 0)) ≤ usedF fs
  | [], _ => by simp [usedF]
  | f :: r, o => by
    rw [List.mapIdx_cons, usedF_cons, usedF_cons]
    have ih := crash_used ks r (o + 1)
    have e : (r.mapIdx fun i f => cutF f (ks.getD (o + (i + 1)) 0)) = r.mapIdx fun i f => cutF f (ks.getD (o + 1 + i) 0) := by
      congr 1
      funext i f
      rw [show o + (i + 1) = o + 1 + i by omega]
    rw [e]
    have h1 : (cutF f (ks.getD (o + 0) 0)).b.length ≤ f.b.length := by
      unfold cutF
      simp only
      rw [List.length_take]
      omega
    omega

theorem stepA_small {M : DM} {N U : Nat} (h : Small M N U) (hs : Sorted M.fs) (x : AM) : Small (stepA x M).1 (N + 1) (U + x.bs.length) := by
  have h1 := h.files
  have h2 := h.used
  unfold stepA
  split
  · exact stepM_small h hs _ _ _ _
  · split
    · exact ⟨by show M.fs.length ≤ _; omega, by show usedF M.fs ≤ _; omega⟩
    · split
      · refine ⟨?_, ?_⟩
        · show (M.fs.mapIdx _).length ≤ _
          rw [List.length_mapIdx]
          omega
        · have := crash_used x.ks M.fs 0
          simp only [Nat.zero_add] at this
          show usedF (M.fs.mapIdx fun i f => cutF f (x.ks.getD i 0)) ≤ _
          omega
      · exact ⟨by show M.fs.length ≤ _; omega, by show usedF M.fs ≤ _; omega⟩
end Go.Proofs.Ytdnbjpfapfnpaaa
