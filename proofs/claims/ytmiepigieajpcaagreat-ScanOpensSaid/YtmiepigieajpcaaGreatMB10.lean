import Derived.Test.YtmiepigieajpcaaGreatMB9
/- The walk of a disk's Crash. -/
namespace Go.Proofs.YtmiepigieajpcaaGreat
open Go.RowKit Go.Maps Go.Shelf

/-- The files of which the first i ones are cut. -/
def uptoF (ks : List Int) (i : Nat) (fs : List F) : List F := fs.mapIdx fun j f => if j < i then cutF f (ks.getD j 0) else f

theorem uptoF_at (ks : List Int) (i : Nat) (fs : List F) (j : Nat) (h : j < (uptoF ks i fs).length) (hj : j < fs.length) : (uptoF ks i fs)[j] = if j < i then cutF fs[j] (ks.getD j 0) else fs[j] := by
  simp only [uptoF, List.getElem_mapIdx]

theorem uptoF_zero (ks : List Int) (fs : List F) : uptoF ks 0 fs = fs := by
  unfold uptoF
  apply List.ext_getElem (by simp)
  intro j h1 h2
  simp

theorem uptoF_all (ks : List Int) (fs : List F) : uptoF ks fs.length fs = fs.mapIdx fun i f => cutF f (ks.getD i 0) := by
  unfold uptoF
  apply List.ext_getElem (by simp)
  intro j h1 h2
  have : j < fs.length := by simpa using h1
  simp [this]

theorem uptoF_length (ks : List Int) (i : Nat) (fs : List F) : (uptoF ks i fs).length = fs.length := by unfold uptoF; simp

theorem uptoF_get (ks : List Int) (i : Nat) (fs : List F) (hi : i < fs.length) : (uptoF ks i fs)[i]'(by rw [uptoF_length]; exact hi) = fs[i] := by
  unfold uptoF
  simp

theorem uptoF_name (ks : List Int) (i j : Nat) (fs : List F) (hj : j < fs.length) : ((uptoF ks i fs)[j]'(by rw [uptoF_length]; exact hj)).n = (fs[j]).n := by
  unfold uptoF
  rw [List.getElem_mapIdx]
  split <;> rfl

theorem setN_get {α : Type} (f : α → List UInt8) (x : α) (l : List α) (j : Nat) (hj : j < l.length) : (setN f x l)[j]'(by unfold setN; simpa using hj) = if f l[j] == f x then x else l[j] := by
  simp only [setN, List.getElem_map]

theorem uptoF_step (ks : List Int) (i : Nat) (fs : List F) (hi : i < fs.length) (hp : fs.Pairwise fun x y => x.n ≠ y.n) : setN F.n (cutF fs[i] (ks.getD i 0)) (uptoF ks i fs) = uptoF ks (i + 1) fs := by
  have hne : ∀ j (hj : j < fs.length), j ≠ i → (fs[j]).n ≠ (fs[i]).n := by
    intro j hj hji
    rcases Nat.lt_or_gt_of_ne hji with h | h
    · exact List.pairwise_iff_getElem.1 hp j i hj hi h
    · exact fun e => List.pairwise_iff_getElem.1 hp i j hi hj h e.symm
  apply List.ext_getElem (by unfold setN uptoF; simp)
  intro j h1 h2
  have hj : j < fs.length := by rw [uptoF_length] at h2; exact h2
  rw [setN_get F.n _ _ j (by rw [uptoF_length]; exact hj)]
  have hn : ((uptoF ks i fs)[j]'(by rw [uptoF_length]; exact hj)).n = (fs[j]).n := uptoF_name ks i j fs hj
  rw [uptoF_at ks (i + 1) fs j h2 hj]
  by_cases e : j = i
  · subst e
    rw [if_pos (by rw [beq_iff_eq, hn]; rfl), if_pos (Nat.lt_succ_self _)]
  · rw [if_neg (by rw [beq_iff_eq, hn]; exact hne j hj e), uptoF_at ks i fs j _ hj]
    by_cases h : j < i
    · rw [if_pos h, if_pos (by omega)]
    · rw [if_neg h, if_neg (by omega)]

theorem find_mem : ∀ {L : List FW} {y : FW}, (L.Pairwise fun x y => x.n ≠ y.n) → y ∈ L → findN FW.n y.n L = some y
  | [], _, _, h => by cases h
  | x :: L, y, hp, h => by
    obtain ⟨h1, h2⟩ := List.pairwise_cons.1 hp
    unfold findN
    rw [List.find?_cons]
    rcases List.mem_cons.1 h with e | h
    · rw [e]; simp
    · have : (x.n == y.n) = false := beq_eq_false_iff_ne.2 (h1 y h)
      rw [this]
      exact find_mem h2 h

theorem Nums.chg {S : Nat → Prop} {w w' : World} {a : Option Addr} {n c : Nat} {l : List Int} (h : Nums w a n c l) (hc : Chg S w w') (ha : 0 < n → ∀ x, a = some x → ¬ S x.block) : Nums w' a n c l := by
  obtain ⟨h1, h2, h3, h4, h6⟩ := h
  refine ⟨h1, h2, h3, h4, fun hn => ?_⟩
  obtain ⟨b, o, rfl, hcl⟩ := h6 hn
  exact ⟨b, o, rfl, fun i hi => hc.cell (hcl i hi) (show ¬ S b from ha hn ⟨b, o, none⟩ rfl)⟩

set_option maxRecDepth 100000 in
set_option maxHeartbeats 12800000 in
theorem crash_any {S : Nat → Prop} {w : World} {d : Nat} {M : DM} (h : DiskIn S w d M) (hlen : M.fs.length < 1000000) (pa : Option Addr) (n c : Nat) (ks : List Int) (hN : Nums w pa n c ks) (hap : 0 < n → ∀ a, pa = some a → ¬ S a.block) :
    Calls Tryz.prog 24 #[.pointer (some ⟨d, 0, none⟩), .slice pa n c] w fun e w' => (∃ v, e = .returned v) ∧ Step S w d (crashM ks M) w' := by
  have HLi := Lib.hid (list_any h hlen)
  obtain ⟨mb, p, L, h⟩ := h
  have H := Lib.hid h
  have HNu := Lib.hid hN
  have Hap := Lib.hid hap
  have hnk := hN.len
  have hpw : M.fs.Pairwise fun x y => x.n ≠ y.n := by rw [h.files, List.pairwise_map]; exact h.names
  have Hpw := Lib.hid hpw
  have hnmax : n ≤ 9223372036854775807 := Nat.le_trans hN.le hN.capmax
  clear h hN hap hpw
  obtain ⟨N, hNl⟩ : ∃ N, N = M.fs.length := ⟨_, rfl⟩
  have HNl := Lib.hid hNl
  rw [← hNl] at HLi hlen
  clear hNl
  go_enter Tryz.func24, Tryz.ntmps24
  go_wp2_with fail
  refine HLi.out.mono ?_
  rintro e w1 ⟨v, rfl, hrow, hb⟩
  have HR := Lib.hid hrow
  have Hb := Lib.hid hb
  obtain ⟨va, vc, hv, _, _⟩ := own_len hrow
  have HV := Lib.hid hv
  subst hv
  clear hrow hb
  go_wp2
  go_loopw [12] (fun i wr => ∃ (j : Nat) (L' : List FW), j ≤ N ∧ i = .int .i64 (j : Int) ∧ DiskAt S wr d mb p L' { M with fs := uptoF ks j M.fs } ∧ Chg S w1 wr) (fun i _ => N - (intOf i).toNat)
  case atStart => exact ⟨0, L, Nat.zero_le _, rfl, by rw [uptoF_zero]; exact H.out.below Hb.out, Chg.refl _ _⟩
  case round =>
    obtain ⟨j, L', hj, rfl, hD, hc⟩ := hrel
    have HD := Lib.hid hD
    have Hc := Lib.hid hc
    by_cases hlt : j < N
    · have hjl : j < (uptoF ks j M.fs).length := by rw [uptoF_length]; have := HNl.out; omega
      have hjL : j < L'.length := by
        have h1 : (uptoF ks j M.fs).length = (L'.map FW.f).length := congrArg List.length hD.files
        rw [List.length_map] at h1
        have := HNl.out
        omega
      obtain ⟨x, hx⟩ : ∃ x, x = L'[j]'hjL := ⟨_, rfl⟩
      have hxL : x ∈ L' := by rw [hx]; exact List.getElem_mem _
      have hjM : j < M.fs.length := by have := HNl.out; omega
      have hxf : x.f = M.fs[j]'hjM := by
        have h1 : (uptoF ks j M.fs)[j]'hjl = x.f := by
          rw [hx]
          have h2 := hD.files
          have h3 : (L'.map FW.f)[j]'(by rw [List.length_map]; exact hjL) = (L'[j]'hjL).f := by simp
          rw [← h3]
          congr 1
        rw [← h1, uptoF_get]
      have hfind := find_mem hD.names hxL
      have hname : x.n.length ≤ 9223372036854775807 := by
        have h1 := strKeys_le hD.dir Tryz.underlying9 x.n (by rw [dirD_keys]; exact List.mem_map.2 ⟨x, hxL, rfl⟩)
        rwa [maxLen_nat] at h1
      have hlk := hD.look x.n hname
      rw [hfind] at hlk
      unfold fileV at hlk
      obtain ⟨_, d1, _, _, _⟩ := hD.cells
      obtain ⟨g, cap, hform, hg1, _⟩ := HR.out.form (by omega)
      injection hform with e1 _ e3
      subst e1
      subst e3
      have hSg : ¬ S g := fun hs => absurd (H.out.bound g hs) (by omega)
      have hcell : wr.cell? ⟨g, j, none⟩ = some (encStr x.n) := by
        have h1 := HR.out.cells (g := g) rfl j (encStr x.n) (by
          rw [List.getElem?_map, List.getElem?_map, List.getElem?_eq_getElem hjM, ← hxf]
          rfl)
        rw [addr_add, Nat.zero_add] at h1
        exact hc.cell h1 hSg
      have hji : (j : Int) < (N : Int) := by omega
      have hstep := uptoF_step ks j M.fs hjM Hpw.out
      rw [← hxf] at hstep
      have Hstep := Lib.hid hstep
      have Hlt := Lib.hid hlt
      by_cases hjn : j < n
      · obtain ⟨b, o, rfl, hkc⟩ := (HNu.out.grow Hb.out |>.chg hc Hap.out).cell (by omega)
        have hkc2 := hkc j hjn
        have hget := HNu.out.get hjn
        have HC := Lib.hid (fun w2 (hD2 : DiskAt S w2 d mb p L' { M with fs := uptoF ks j M.fs }) => cut_any hD2 hxL (ks.getD j 0) hget.1 (by have := hget.2; omega))
        have hjn' : (j : Int) < (n : Int) := by omega
        clear hjl hjL hjM hx hxL hxf hfind hname hSg hstep hD hc hlt hkc hget hjn hg1
        generalize ks.getD j 0 = kk at *
        go_wp2_with fail
        refine (HC.out _ HD.out).mono ?_
        rintro e w2 ⟨⟨v, rfl⟩, ⟨v', hD2⟩, hc2⟩
        rw [Hstep.out] at hD2
        have HD2 := Lib.hid hD2
        have Hc2 := Lib.hid (Hc.out.same hc2)
        clear hD2 hc2
        go_wp2
        go_roundw
        case rel => exact ⟨j + 1, _, Hlt.out, by go_num, HD2.out, Hc2.out⟩
        case measure => simp [intOf]; have := Hlt.out; omega
      · have hk0 : ks.getD j 0 = 0 := by rw [List.getD_eq_getElem?_getD, List.getElem?_eq_none (by omega)]; rfl
        have HC := Lib.hid (fun w2 (hD2 : DiskAt S w2 d mb p L' { M with fs := uptoF ks j M.fs }) => cut_any hD2 hxL 0 (by decide) (by decide))
        have hjn' : ¬ (j : Int) < (n : Int) := by omega
        rw [hk0] at Hstep
        clear hjl hjL hjM hx hxL hxf hfind hname hSg hstep hD hc hlt hjn hg1 hk0
        go_wp2_with fail
        refine (HC.out _ HD.out).mono ?_
        rintro e w2 ⟨⟨v, rfl⟩, ⟨v', hD2⟩, hc2⟩
        rw [Hstep.out] at hD2
        have HD2 := Lib.hid hD2
        have Hc2 := Lib.hid (Hc.out.same hc2)
        clear hD2 hc2
        go_wp2
        go_roundw
        case rel => exact ⟨j + 1, _, Hlt.out, by go_num, HD2.out, Hc2.out⟩
        case measure => simp [intOf]; have := Hlt.out; omega
    · have hji : ¬ (j : Int) < (N : Int) := by omega
      obtain rfl : j = N := by omega
      obtain ⟨_, _, _, _, fr⟩ := hD.cells
      have fr2 := fr 2
      have fr3 := fr 3
      have hfin : Step S w d (crashM ks M) ((wr.setCell ⟨d, 2, none⟩ (.bool false)).setCell ⟨d, 3, none⟩ (.int .i64 0)) := by
        have e : crashM ks M = { M with fs := uptoF ks j M.fs, down := false, plan := 0 } := by unfold crashM; rw [HNl.out, uptoF_all]
        rw [e]
        have hE := hD.head_set (M' := { M with fs := uptoF ks j M.fs, down := false, plan := 0 }) (p' := 0) (w' := (wr.setCell ⟨d, 2, none⟩ (.bool false)).setCell ⟨d, 3, none⟩ (.int .i64 0)) ((chg_d wr d 2 _).same (chg_d _ d 3 _)) rfl rfl
          (by have := set_head (i := 3) (set_head (i := 2) hD.head (.bool false)) (.int .i64 0); simpa using this) rfl (by decide) (by decide)
        have hSd : S d := hD.sub d (by simp)
        exact Step.behind Hb.out (Step.same ⟨mb, 0, L', hE⟩ (hc.same ((Chg.set S wr hSd _).same (Chg.set S _ hSd _))))
      have Hfin := Lib.hid hfin
      obtain ⟨_, _, d2, d3, _⟩ := hD.cells
      clear hfin hD hc fr hlt
      go_wp2
      go_end0
      exact ⟨⟨_, rfl⟩, Hfin.out⟩
end Go.Proofs.YtmiepigieajpcaaGreat

/- A disk that the call itself has made: what each method leaves of it. -/
namespace Go.Proofs.YtmiepigieajpcaaGreat
open Go.RowKit Go.Maps Go.Shelf

/-- The disk d has been made since w0, lies in no block of X, and is M. -/
def Own (w0 : World) (X : Nat → Prop) (w : World) (d : Nat) (M : DM) : Prop := ∃ S, DiskIn S w d M ∧ (∀ b, S b → w0.heap.size ≤ b ∧ ¬ X b) ∧ (∀ b, X b → b < w.heap.size) ∧ Below w0.heap.size w0 w

theorem Own.below {w0 : World} {X : Nat → Prop} {w : World} {d : Nat} {M : DM} (h : Own w0 X w d M) {w' : World} (hb : Below w.heap.size w w') : Own w0 X w' d M := by
  obtain ⟨S, hD, hS, hX, h0⟩ := h
  exact ⟨S, hD.below hb, hS, fun b hx => Nat.lt_of_lt_of_le (hX b hx) hb.size, h0.trans (hb.mono h0.size)⟩

theorem Own.base {w0 : World} {X : Nat → Prop} {w : World} {d : Nat} {M : DM} (h : Own w0 X w d M) : Below w0.heap.size w0 w := by obtain ⟨_, _, _, _, h⟩ := h; exact h

/-- New blocks are not the disk's. -/
theorem Own.more {w0 : World} {X Y : Nat → Prop} {w w' : World} {d : Nat} {M : DM} (h : Own w0 X w d M) (hb : Below w.heap.size w w') (hY : ∀ b, Y b → X b ∨ (w.heap.size ≤ b ∧ b < w'.heap.size)) : Own w0 Y w' d M := by
  obtain ⟨S, hD, hS, hX, h0⟩ := h
  refine ⟨S, hD.below hb, fun b hs => ⟨(hS b hs).1, fun hy => ?_⟩, fun b hy => ?_, h0.trans (hb.mono h0.size)⟩
  · rcases hY b hy with h1 | ⟨h1, _⟩
    · exact (hS b hs).2 h1
    · obtain ⟨_, _, _, hD⟩ := hD
      have := hD.bound b hs
      omega
  · rcases hY b hy with h1 | ⟨_, h1⟩
    · exact Nat.lt_of_lt_of_le (hX b h1) hb.size
    · exact h1

/-- What a call leaves: the disk, and the blocks of X as they were. -/
def OwnEnd (w0 : World) (X : Nat → Prop) (w : World) (d : Nat) (M : DM) (w' : World) : Prop := Own w0 X w' d M ∧ (∀ b, X b → w'.heap[b]? = w.heap[b]?) ∧ Below w0.heap.size w w' ∧ w.heap.size ≤ w'.heap.size

theorem Own.step {w0 : World} {X S : Nat → Prop} {w w' : World} {d : Nat} {M' : DM} (hS : ∀ b, S b → w0.heap.size ≤ b ∧ ¬ X b) (hX : ∀ b, X b → b < w.heap.size) (h0 : Below w0.heap.size w0 w) (h : Step S w d M' w') : OwnEnd w0 X w d M' w' := by
  obtain ⟨S', hD, hs, hc⟩ := h
  have hb := hc.below (fun b hb => (hS b hb).1) h0.size
  refine ⟨⟨S', hD, fun b hb => ?_, fun b hx => Nat.lt_of_lt_of_le (hX b hx) hc.size, h0.trans hb⟩, fun b hx => hc.block b (hX b hx) (fun h => (hS b h).2 hx), hb, hc.size⟩
  rcases hs b hb with h1 | h1
  · exact hS b h1
  · exact ⟨Nat.le_trans h0.size h1, fun hx => absurd (hX b hx) (by omega)⟩

/-- What a change answers and leaves. -/
def OwnAct (w0 : World) (X : Nat → Prop) (w : World) (d : Nat) (r : DM × Int) (e : Ending) (w' : World) : Prop := e = .returned (.int .i64 r.2) ∧ OwnEnd w0 X w d r.1 w'

theorem own_new (room : Int) (w : World) (hhi : room < 9223372036854775808) : Calls Tryz.prog 28 #[.int .i64 room] w fun e w' => ∃ d, e = .returned (.pointer (some ⟨d, 0, none⟩)) ∧ Own w (fun _ => False) w' d (newM room) ∧ Below w.heap.size w w' :=
  (new_any room w hhi).mono fun _ _ ⟨d, he, hD, hb⟩ => ⟨d, he, ⟨_, hD, fun _ hb => ⟨hb.1, fun h => h⟩, fun _ h => h.elim, hb⟩, hb⟩

theorem own_create {w0 : World} {X : Nat → Prop} {w : World} {d : Nat} {M : DM} (h : Own w0 X w d M) (n : List UInt8) (hn : n.length ≤ 9223372036854775807) (hL : M.fs.length < 1000000) :
    Calls Tryz.prog 35 #[.pointer (some ⟨d, 0, none⟩), .string ⟨n.toArray⟩] w (OwnAct w0 X w d (createM n M)) := by
  obtain ⟨S, hD, hS, hX, h0⟩ := h
  exact (create_any hD n hn hL).mono fun e w' hq => ⟨hq.1, Own.step hS hX h0 hq.2⟩

theorem own_append {w0 : World} {X : Nat → Prop} {w : World} {d : Nat} {M : DM} (h : Own w0 X w d M) (n : List UInt8) (hn : n.length ≤ 9223372036854775807) (pa : Option Addr) (m c : Nat) (l : List Nat) (hB : Bytes w pa m c l) (hap : 0 < m → ∀ a, pa = some a → X a.block ∨ a.block < w0.heap.size)
    (hlim : usedF M.fs + l.length ≤ 140737488355328) : Calls Tryz.prog 55 #[.pointer (some ⟨d, 0, none⟩), .string ⟨n.toArray⟩, .slice pa m c] w (OwnAct w0 X w d (appendM n l M)) := by
  obtain ⟨S, hD, hS, hX, h0⟩ := h
  refine (append_any hD n hn pa m c l hB (fun h0' a ha hs => ?_) hlim).mono fun e w' hq => ⟨hq.1, Own.step hS hX h0 hq.2⟩
  rcases hap h0' a ha with h1 | h1
  · exact (hS _ hs).2 h1
  · have := (hS _ hs).1; omega

theorem own_sync {w0 : World} {X : Nat → Prop} {w : World} {d : Nat} {M : DM} (h : Own w0 X w d M) (n : List UInt8) (hn : n.length ≤ 9223372036854775807) :
    Calls Tryz.prog 56 #[.pointer (some ⟨d, 0, none⟩), .string ⟨n.toArray⟩] w (OwnAct w0 X w d (syncM n M)) := by
  obtain ⟨S, hD, hS, hX, h0⟩ := h
  exact (sync_any hD n hn).mono fun e w' hq => ⟨hq.1, Own.step hS hX h0 hq.2⟩

theorem own_arm {w0 : World} {X : Nat → Prop} {w : World} {d : Nat} {M : DM} (h : Own w0 X w d M) (k : Int) (hlo : -9223372036854775808 ≤ k) (hhi : k < 9223372036854775808) :
    Calls Tryz.prog 20 #[.pointer (some ⟨d, 0, none⟩), .int .i64 k] w fun e w' => (∃ v, e = .returned v) ∧ OwnEnd w0 X w d (armM k M) w' := by
  obtain ⟨S, hD, hS, hX, h0⟩ := h
  exact (arm_any hD k hlo hhi).mono fun e w' hq => ⟨hq.1, Own.step hS hX h0 hq.2⟩

theorem own_crash {w0 : World} {X : Nat → Prop} {w : World} {d : Nat} {M : DM} (h : Own w0 X w d M) (hlen : M.fs.length < 1000000) (pa : Option Addr) (n c : Nat) (ks : List Int) (hN : Nums w pa n c ks) (hap : 0 < n → ∀ a, pa = some a → X a.block ∨ a.block < w0.heap.size) :
    Calls Tryz.prog 24 #[.pointer (some ⟨d, 0, none⟩), .slice pa n c] w fun e w' => (∃ v, e = .returned v) ∧ OwnEnd w0 X w d (crashM ks M) w' := by
  obtain ⟨S, hD, hS, hX, h0⟩ := h
  refine (crash_any hD hlen pa n c ks hN (fun h0' a ha hs => ?_)).mono fun e w' hq => ⟨hq.1, Own.step hS hX h0 hq.2⟩
  rcases hap h0' a ha with h1 | h1
  · exact (hS _ hs).2 h1
  · have := (hS _ hs).1; omega

theorem own_read {w0 : World} {X : Nat → Prop} {w : World} {d : Nat} {M : DM} (h : Own w0 X w d M) (n : List UInt8) (hn : n.length ≤ 9223372036854775807) (hlim : usedF M.fs ≤ 140737488355328) :
    Calls Tryz.prog 49 #[.pointer (some ⟨d, 0, none⟩), .string ⟨n.toArray⟩] w (ReadEnd w (readM n M)) := by
  obtain ⟨S, hD, _⟩ := h
  exact read_any hD n hn hlim

theorem own_used {w0 : World} {X : Nat → Prop} {w : World} {d : Nat} {M : DM} (h : Own w0 X w d M) :
    Calls Tryz.prog 43 #[.pointer (some ⟨d, 0, none⟩)] w fun e w' => e = .returned (.int .i64 (usedF M.fs : Int)) ∧ Below w.heap.size w w' := by
  obtain ⟨S, hD, _⟩ := h
  exact used_any hD

theorem own_down {w0 : World} {X : Nat → Prop} {w : World} {d : Nat} {M : DM} (h : Own w0 X w d M) :
    Calls Tryz.prog 63 #[.pointer (some ⟨d, 0, none⟩)] w fun e w' => e = .returned (.bool M.down) ∧ w' = w := by
  obtain ⟨S, hD, _⟩ := h
  exact down_any hD

theorem own_list {w0 : World} {X : Nat → Prop} {w : World} {d : Nat} {M : DM} (h : Own w0 X w d M) (hlen : M.fs.length < 1000000) :
    Calls Tryz.prog 41 #[.pointer (some ⟨d, 0, none⟩)] w fun e w' => ∃ v, e = .returned v ∧ w'.ownsRow w.heap.size 9 1 v M.fs.length ((M.fs.map F.n).map encStr) ∧ Below w.heap.size w w' := by
  obtain ⟨S, hD, _⟩ := h
  exact list_any hD hlen

/-- The blocks of a slice's value. -/
def blkOf (p : Option Addr) (b : Nat) : Prop := ∃ a, p = some a ∧ b = a.block

/-- What has been read is kept aside. -/
theorem Own.read {w0 : World} {X : Nat → Prop} {w w' : World} {d : Nat} {M : DM} (h : Own w0 X w d M) (hb : Below w.heap.size w w') {p : Option Addr} (hp : ∀ a, p = some a → w.heap.size ≤ a.block ∧ a.block < w'.heap.size) : Own w0 (fun b => X b ∨ blkOf p b) w' d M :=
  h.more hb fun b hy => hy.imp id fun ⟨a, ha, e⟩ => by rw [e]; exact hp a ha

theorem Bytes.aside {w w' : World} {a : Option Addr} {n c : Nat} {l : List Nat} (h : Bytes w a n c l) (hk : ∀ b, blkOf a b → w'.heap[b]? = w.heap[b]?) : Bytes w' a n c l := by
  rcases Nat.eq_zero_or_pos n with rfl | hn
  · obtain rfl : l = [] := List.length_eq_zero_iff.1 h.len
    exact ⟨rfl, h.le, h.capmax, h.byte, h.nil, fun h => absurd h (Nat.lt_irrefl _)⟩
  · refine h.keep fun p _ hpa => ?_
    obtain ⟨b, o, rfl, _⟩ := h.cell hn
    have e := hpa _ rfl
    exact World.cell?_of_block (hk p.block ⟨_, rfl, e⟩)

theorem nums_nil (w : World) : Nums w none 0 0 [] := ⟨rfl, Nat.le_refl _, by omega, fun _ h => (by cases h), fun h => absurd h (Nat.lt_irrefl _)⟩
theorem nums_one (w : World) (k : Int) (hlo : -9223372036854775808 ≤ k) (hhi : k ≤ 9223372036854775807) : Nums (w.alloc (.cells #[.int .i64 k] 3)) (some ⟨w.heap.size, 0, none⟩) 1 1 [k] := by
  refine ⟨rfl, Nat.le_refl _, by omega, fun x hx => by rw [List.mem_singleton.1 hx]; exact ⟨hlo, hhi⟩, fun _ => ⟨w.heap.size, 0, rfl, fun i hi => ?_⟩⟩
  obtain rfl : i = 0 := by omega
  rw [Nat.zero_add, cell_of_row _ _ _ _ _ (0, 0) (heap_alloc_new _ _)]
  rfl

theorem bytes_new (w : World) (l : List Nat) (hb : ∀ x ∈ l, x < 256) (hm : l.length ≤ 9223372036854775807) : Bytes (w.alloc (.cells (u8s l).toArray 5)) (some ⟨w.heap.size, 0, none⟩) l.length l.length l := by
  refine ⟨rfl, Nat.le_refl _, hm, hb, fun h => (by cases h), fun _ => ⟨w.heap.size, 0, rfl, fun i hi => ?_⟩⟩
  rw [Nat.zero_add, cell_of_row _ _ _ _ _ (0, 0) (heap_alloc_new _ _)]
  simp [u8s, List.getElem?_map, List.getElem?_eq_getElem hi, List.getD_eq_getElem?_getD]
end Go.Proofs.YtmiepigieajpcaaGreat

/- The reference's files in memory: a slice of structs of three cells. -/
namespace Go.Proofs.YtmiepigieajpcaaGreat
open Go.RowKit Go.Maps Go.Shelf

/-- A file of the reference: what it is, and where its bytes lie. -/
structure FR where
  f : F
  pa : Option Addr
  k : Nat

def cells3 (x : FR) : List Value := [encStr x.f.n, .slice x.pa x.f.b.length x.k, .int .i64 (x.f.d : Int)]
def flatF (R : List FR) : List Value := R.flatMap cells3
def FR.n (x : FR) : List UInt8 := x.f.n

theorem flatF_append (A B : List FR) : flatF (A ++ B) = flatF A ++ flatF B := List.flatMap_append ..
theorem flatF_cons (x : FR) (R : List FR) : flatF (x :: R) = cells3 x ++ flatF R := List.flatMap_cons ..
theorem flatF_length : ∀ R : List FR, (flatF R).length = R.length * 3
  | [] => rfl
  | x :: R => by rw [flatF_cons, List.length_append, flatF_length R, List.length_cons]; show 3 + _ = _; omega

theorem flatF_get : ∀ (R : List FR) (i : Nat) (hi : i < R.length) (j : Nat), j < 3 → (flatF R)[i * 3 + j]? = (cells3 R[i])[j]?
  | x :: R, 0, _, j, hj => by
    rw [flatF_cons, Nat.zero_mul, Nat.zero_add, List.getElem?_append_left (by show j < 3; exact hj)]
    rfl
  | x :: R, i + 1, hi, j, hj => by
    rw [flatF_cons, List.getElem?_append_right (by show 3 ≤ _; omega)]
    have := flatF_get R i (by simpa using hi) j hj
    rw [show (i + 1) * 3 + j - (cells3 x).length = i * 3 + j by show (i + 1) * 3 + j - 3 = _; omega, this]
    rfl

theorem flatF_one (R : List FR) : ∀ u ∈ flatF R, u.oneCell' = true := by
  intro u hu
  obtain ⟨x, _, hx⟩ := List.mem_flatMap.1 hu
  simp only [cells3, List.mem_cons, List.not_mem_nil, or_false] at hx
  rcases hx with rfl | rfl | rfl <;> rfl

/-- The bytes of a file, in blocks of X. -/
structure FileB (X : Nat → Prop) (w : World) (x : FR) : Prop where
  bytes : Bytes w x.pa x.f.b.length x.k x.f.b
  form : Formed x.pa x.k
  blk : 0 < x.f.b.length → ∀ a, x.pa = some a → X a.block
  dur : x.f.d ≤ x.f.b.length
  name : x.f.n.length ≤ 9223372036854775807

/-- The files R lie at the start of a slice's value. -/
structure RowF (X : Nat → Prop) (w : World) (a : Option Addr) (n c : Nat) (R : List FR) : Prop where
  len : R.length = n
  le : n ≤ c
  max : c ≤ 9223372036854775807
  form : Formed a c
  cell : 0 < n → ∃ b o, a = some ⟨b, o, none⟩ ∧ X b ∧ ∀ j u, (flatF R)[j]? = some u → w.cell? ⟨b, o + j, none⟩ = some u
  files : ∀ x ∈ R, FileB X w x

theorem FileB.mono {X Y : Nat → Prop} {w w' : World} {x : FR} (h : FileB X w x) (hk : ∀ b, X b → w'.heap[b]? = w.heap[b]?) (hXY : ∀ b, X b → Y b) : FileB Y w' x :=
  ⟨by
    rcases Nat.eq_zero_or_pos x.f.b.length with e | hn
    · have hb := h.bytes
      exact ⟨hb.len, hb.le, hb.capmax, hb.byte, hb.nil, fun h => absurd h (by omega)⟩
    · refine h.bytes.keep fun p _ hpa => ?_
      obtain ⟨b, o, e, _⟩ := h.bytes.cell hn
      have e2 := hpa _ e
      exact World.cell?_of_block (hk p.block (by rw [e2]; exact h.blk hn _ e)), h.form, fun hn a ha => hXY _ (h.blk hn a ha), h.dur, h.name⟩

theorem RowF.mono {X Y : Nat → Prop} {w w' : World} {a : Option Addr} {n c : Nat} {R : List FR} (h : RowF X w a n c R) (hk : ∀ b, X b → w'.heap[b]? = w.heap[b]?) (hXY : ∀ b, X b → Y b) : RowF Y w' a n c R := by
  refine ⟨h.len, h.le, h.max, h.form, fun hn => ?_, fun x hx => (h.files x hx).mono hk hXY⟩
  obtain ⟨b, o, e, hX, hc⟩ := h.cell hn
  exact ⟨b, o, e, hXY b hX, fun j u hu => by rw [World.cell?_of_block (hk b hX)]; exact hc j u hu⟩

theorem RowF.below {X : Nat → Prop} {w w' : World} {a : Option Addr} {n c : Nat} {R : List FR} (h : RowF X w a n c R) (hX : ∀ b, X b → b < w.heap.size) (hb : Below w.heap.size w w') : RowF X w' a n c R :=
  h.mono (fun b hx => hb.block b (hX b hx)) (fun _ h => h)

/-- The cells of the i-th file. -/
theorem RowF.at {X : Nat → Prop} {w : World} {b o n c : Nat} {R : List FR} (h : RowF X w (some ⟨b, o, none⟩) n c R) (i : Nat) (hi : i < R.length) :
    w.cell? ⟨b, o + i * 3, none⟩ = some (encStr R[i].f.n) ∧ w.cell? ⟨b, o + i * 3 + 1, none⟩ = some (.slice R[i].pa R[i].f.b.length R[i].k) ∧ w.cell? ⟨b, o + i * 3 + 2, none⟩ = some (.int .i64 (R[i].f.d : Int)) := by
  obtain ⟨b', o', e, _, hc⟩ := h.cell (by rw [← h.len]; omega)
  cases e
  refine ⟨?_, ?_, ?_⟩
  · have := hc (i * 3 + 0) (encStr R[i].f.n) (by rw [flatF_get R i hi 0 (by decide)]; rfl)
    exact this
  · have := hc (i * 3 + 1) (.slice R[i].pa R[i].f.b.length R[i].k) (by rw [flatF_get R i hi 1 (by decide)]; rfl)
    rw [← Nat.add_assoc] at this
    exact this
  · have := hc (i * 3 + 2) (.int .i64 (R[i].f.d : Int)) (by rw [flatF_get R i hi 2 (by decide)]; rfl)
    rw [← Nat.add_assoc] at this
    exact this

theorem rowF_nil (X : Nat → Prop) (w : World) : RowF X w none 0 0 [] := ⟨rfl, Nat.le_refl _, by omega, formed_none 0 rfl, fun h => absurd h (Nat.lt_irrefl _), fun _ h => by cases h⟩

/-- A row of the call's own. -/
theorem rowF_own {X Y : Nat → Prop} {w : World} {base n : Nat} {v : Value} {R : List FR} (h : w.ownsRow base 97 3 v n (flatF R)) (hF : ∀ x ∈ R, FileB X w x) (hXY : ∀ b, X b → Y b) (hY : ∀ b, base ≤ b → b < w.heap.size → Y b) :
    ∃ a c, v = .slice a n c ∧ RowF Y w a n c R := by
  have hlen : R.length = n := by have := h.1; rw [flatF_length] at this; omega
  have hF' : ∀ x ∈ R, FileB Y w x := fun x hx => (hF x hx).mono (fun _ _ => rfl) hXY
  rcases h.2 with ⟨rfl, h0⟩ | ⟨g, cap, cur, rfl, hb, hg, h1, h2, h3, h4⟩
  · have e : R = [] := List.length_eq_zero_iff.1 (by omega)
    subst e
    subst h0
    exact ⟨none, 0, rfl, rowF_nil Y w⟩
  · refine ⟨_, cap, rfl, hlen, h1, by rw [maxLen_nat] at h2; exact h2, formed_at _ _ _, fun hn => ⟨g, 0, rfl, hY g hb (Array.getElem?_eq_some_iff.1 hg).1, fun j u hu => ?_⟩, hF'⟩
    have := h.cells (g := g) rfl j u hu
    rw [addr_add] at this
    exact this
end Go.Proofs.YtmiepigieajpcaaGreat

