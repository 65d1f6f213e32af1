/- A file of a disk has another content. -/
import Derived.Test.YtdnbjpfapfnpaaaDkP
import Derived.Test.YtdnbjpfapfnpaaaDkU
namespace Go.Proofs.Ytdnbjpfapfnpaaa
open Go.RowKit Go.Maps

theorem fpOf_mid (A B : List FW) (x : FW) : (fpOf (A ++ x :: B)).Perm (fpOne x ++ fpOf (A ++ B)) := by
  have h1 : (A ++ x :: B).Perm (x :: (A ++ B)) := List.perm_middle
  have := fpOf_perm h1
  rwa [show fpOf (x :: (A ++ B)) = fpOne x ++ fpOf (A ++ B) from List.flatMap_cons ..] at this

theorem apart_mid (d mb : Nat) (A B : List FW) (x : FW) : (d :: mb :: fpOf (A ++ x :: B)).Perm (fpOne x ++ (d :: mb :: fpOf (A ++ B))) := by
  refine (((fpOf_mid A B x).cons mb).cons d).trans ?_
  exact List.Perm.trans (List.Perm.cons d (List.perm_middle.symm)) List.perm_middle.symm

theorem setN_mid {A B : List FW} {x x' : FW} (hn : x.n = x'.n) (h : ∀ y ∈ A ++ B, y.n ≠ x'.n) : setN FW.n x' (A ++ x :: B) = A ++ x' :: B := by
  have hs : ∀ l : List FW, (∀ y ∈ l, y.n ≠ x'.n) → setN FW.n x' l = l := by
    intro l hl
    unfold setN
    rw [List.map_congr_left (g := id) (fun y hy => by rw [if_neg (by rw [beq_iff_eq]; exact hl y hy)]; rfl), List.map_id]
  have hA := hs A (fun y hy => h y (by simp [hy]))
  have hB := hs B (fun y hy => h y (by simp [hy]))
  unfold setN at *
  rw [List.map_append, List.map_cons, hA, hB, if_pos (by rw [beq_iff_eq]; exact hn)]

theorem used_mid (A B : List FW) (x : FW) : usedF ((A ++ x :: B).map FW.f) = x.f.b.length + usedF ((A ++ B).map FW.f) := by
  have h1 : (A ++ x :: B).Perm (x :: (A ++ B)) := List.perm_middle
  rw [usedF_perm (h1.map FW.f), List.map_cons, usedF_cons]

/-- The content of the file x is now f', in the slice v'. -/
theorem DiskAt.file_set {S S' : Nat → Prop} {w w' : World} {d mb : Nat} {p : Int} {L : List FW} {M : DM} (h : DiskAt S w d mb p L M) {x : FW} (hx : x ∈ L) (f' : F) (v' : Value) (hn : f'.n = x.f.n)
    (hok : FileOk w' ⟨f', x.blk, v'⟩) (hc : Chg (fun b => b ∈ fpOne x) w w') (hv : v'.ownBlock = none ∨ v'.ownBlock = x.v.ownBlock ∨ ∃ g, v'.ownBlock = some g ∧ w.heap.size ≤ g ∧ S' g)
    (hs : ∀ b, S b → S' b) (hb : ∀ b, S' b → b < w'.heap.size) (hu : usedF M.fs + f'.b.length ≤ M.room + x.f.b.length) :
    DiskAt S' w' d mb p (setN FW.n ⟨f', x.blk, v'⟩ L) { M with fs := setN F.n f' M.fs } := by
  obtain ⟨A, B, rfl⟩ := List.append_of_mem hx
  have hnm := h.names
  have hne : ∀ y ∈ A ++ B, y.n ≠ x.n := by
    intro y hy
    rw [List.pairwise_append] at hnm
    obtain ⟨_, h2, h3⟩ := hnm
    rcases List.mem_append.1 hy with hy | hy
    · exact h3 y hy x (by simp)
    · exact fun e => (List.pairwise_cons.1 h2).1 y hy e.symm
  have hset := setN_mid (A := A) (B := B) (x := x) (x' := ⟨f', x.blk, v'⟩) hn.symm (fun y hy => by show y.n ≠ f'.n; rw [hn]; exact hne y hy)
  rw [hset]
  have hap := (apart_mid d mb A B x).nodup_iff.1 h.apart
  obtain ⟨n1, n2, n3⟩ := List.nodup_append.1 hap
  have hrest : ∀ b ∈ d :: mb :: fpOf (A ++ B), S b := fun b hb => h.sub b ((apart_mid d mb A B x).mem_iff.2 (List.mem_append_right _ hb))
  have hfpx : ∀ b ∈ fpOne x, S b := fun b hb => h.sub b ((apart_mid d mb A B x).mem_iff.2 (List.mem_append_left _ hb))
  have hkeep : ∀ b ∈ d :: mb :: fpOf (A ++ B), w'.heap[b]? = w.heap[b]? := fun b hb => hc.block b (h.bound b (hrest b hb)) (fun hbx => n3 b hbx b hb rfl)
  have hfp' : ∀ b ∈ fpOne ⟨f', x.blk, v'⟩, b ∈ fpOne x ∨ (w.heap.size ≤ b ∧ S' b) := by
    intro b hb
    rcases List.mem_cons.1 hb with e | hb
    · exact .inl (by rw [e]; exact List.mem_cons_self ..)
    · rcases hv with hv | hv | ⟨g, hv, hg, hgS⟩
      · rw [show (⟨f', x.blk, v'⟩ : FW).v.ownBlock = none from hv] at hb; cases hb
      · rw [show (⟨f', x.blk, v'⟩ : FW).v.ownBlock = x.v.ownBlock from hv] at hb
        exact .inl (List.mem_cons_of_mem _ hb)
      · rw [show (⟨f', x.blk, v'⟩ : FW).v.ownBlock = some g from hv] at hb
        have e : b = g := by simpa using hb
        rw [e]; exact .inr ⟨hg, hgS⟩
  have hnd' : (fpOne ⟨f', x.blk, v'⟩).Nodup := by
    refine List.nodup_cons.2 ⟨fun hb => ?_, by cases (⟨f', x.blk, v'⟩ : FW).v.ownBlock <;> simp⟩
    rcases hv with hv | hv | ⟨g, hv, hg, _⟩
    · rw [show (⟨f', x.blk, v'⟩ : FW).v.ownBlock = none from hv] at hb; cases hb
    · rw [show (⟨f', x.blk, v'⟩ : FW).v.ownBlock = x.v.ownBlock from hv] at hb
      exact (List.nodup_cons.1 n1).1 hb
    · rw [show (⟨f', x.blk, v'⟩ : FW).v.ownBlock = some g from hv] at hb
      have e : x.blk = g := by simpa using hb
      have := h.bound x.blk (hfpx x.blk (List.mem_cons_self ..))
      omega
  have hmemAB : ∀ y ∈ A ++ x :: B, y ∈ A ++ B ∨ y = x := by
    intro y hy
    simp only [List.mem_append, List.mem_cons] at hy ⊢
    rcases hy with hy | hy | hy
    · exact .inl (.inl hy)
    · exact .inr hy
    · exact .inl (.inr hy)
  have hent : dirD (A ++ ⟨f', x.blk, v'⟩ :: B) = dirD (A ++ x :: B) := by
    unfold dirD
    rw [List.map_append, List.map_append, List.map_cons, List.map_cons]
    have e : ent ⟨f', x.blk, v'⟩ = ent x := by show (Lit.string f'.n, _) = (Lit.string x.f.n, _); rw [hn]
    rw [e]
  have hfs : setN F.n f' M.fs = (A ++ ⟨f', x.blk, v'⟩ :: B).map FW.f := by
    rw [h.files, ← hset, setN_map FW.n F.n FW.f (fun _ => rfl)]
  refine ⟨hfs, (hkeep d (by simp)).trans h.head, h.plan, h.lo, h.hi, ?_, ?_, ?_, ?_, hb, ?_, h.room⟩
  · rw [hent]
    have := map_of_heap h.dir (hkeep mb (by simp))
    have e : (A ++ x :: B).length = (A ++ ⟨f', x.blk, v'⟩ :: B).length := by simp
    rw [← e]
    exact this
  · intro y hy
    simp only [List.mem_append, List.mem_cons] at hy
    have hyAB : y = ⟨f', x.blk, v'⟩ ∨ y ∈ A ++ B := by
      rcases hy with hy | hy | hy
      · exact .inr (by simp [hy])
      · exact .inl hy
      · exact .inr (by simp [hy])
    rcases hyAB with e | hy2
    · rw [e]; exact hok
    · have hyL : y ∈ A ++ x :: B := by simp only [List.mem_append, List.mem_cons] at hy2 ⊢; rcases hy2 with h1 | h1 <;> simp [h1]
      exact (h.ok y hyL).keep (fun b hb' => hkeep b (by simp [mem_fpOf hy2 hb']))
  · refine (apart_mid d mb A B ⟨f', x.blk, v'⟩).nodup_iff.2 (List.nodup_append.2 ⟨hnd', n2, fun a ha b hb' e => ?_⟩)
    rcases hfp' a ha with h1 | ⟨h1, _⟩
    · exact n3 a h1 b hb' e
    · have := h.bound b (hrest b hb')
      omega
  · intro b hb'
    rcases List.mem_append.1 ((apart_mid d mb A B ⟨f', x.blk, v'⟩).mem_iff.1 hb') with h1 | h1
    · rcases hfp' b h1 with h2 | h2
      · exact hs b (hfpx b h2)
      · exact h2.2
    · exact hs b (hrest b h1)
  · show usedF (setN F.n f' M.fs) ≤ M.room
    rw [hfs, used_mid]
    have h1 := hu
    rw [h.files, used_mid] at h1
    show f'.b.length + _ ≤ M.room
    omega
end Go.Proofs.Ytdnbjpfapfnpaaa
