/- The walk of a disk's Crash. -/
import Derived.Test.YtdnbjpfapfnpaaaDkL
import Derived.Test.YtdnbjpfapfnpaaaNums
namespace Go.Proofs.Ytdnbjpfapfnpaaa
open Go.RowKit Go.Maps Go.Shelf

/-- The files of which the first i ones are cut. -/
def uptoF (ks : List Int) (i : Nat) (fs : List F) : List F := fs.mapIdx fun j f => if j < i then cutF f (ks.getD j 0) else f

theorem uptoF_at (ks : List Int) (i : Nat) (fs : List F) (j : Nat) (h : j < (uptoF ks i fs).length) (hj : j < fs.length) : (uptoF ks i fs)[j] = if j < i then cutF fs[j] (ks.getD j 0) else fs[j] := by
  simp only [uptoF, List.getElem_mapIdx]

theorem uptoF_zero (ks : List Int) (fs : List F) : uptoF ks 0 fs = fs := by
  unfold uptoF
  apply List.ext_getElem (by simp)
  intro j h1 h2
  simp

theorem uptoF_all (ks : List Int) (fs : List F) : uptoF ks fs.length fs = fs.mapIdx fun i f => cutF f (ks.getD i 0) := by
  unfold uptoF
  apply List.ext_getElem (by simp)
  intro j h1 h2
  have : j < fs.length := by simpa using h1
  simp [this]

theorem uptoF_length (ks : List Int) (i : Nat) (fs : List F) : (uptoF ks i fs).length = fs.length := by unfold uptoF; simp

theorem uptoF_get (ks : List Int) (i : Nat) (fs : List F) (hi : i < fs.length) : (uptoF ks i fs)[i]'(by rw [uptoF_length]; exact hi) = fs[i] := by
  unfold uptoF
  simp

theorem uptoF_name (ks : List Int) (i j : Nat) (fs : List F) (hj : j < fs.length) : ((uptoF ks i fs)[j]'(by rw [uptoF_length]; exact hj)).n = (fs[j]).n := by
  unfold uptoF
  rw [List.getElem_mapIdx]
  split <;> rfl

theorem setN_get {α : Type} (f : α → List UInt8) (x : α) (l : List α) (j : Nat) (hj : j < l.length) : (setN f x l)[j]'(by unfold setN; simpa using hj) = if f l[j] == f x then x else l[j] := by
  simp only [setN, List.getElem_map]

theorem uptoF_step (ks : List Int) (i : Nat) (fs : List F) (hi : i < fs.length) (hp : fs.Pairwise fun x y => x.n ≠ y.n) : setN F.n (cutF fs[i] (ks.getD i 0)) (uptoF ks i fs) = uptoF ks (i + 1) fs := by
  have hne : ∀ j (hj : j < fs.length), j ≠ i → (fs[j]).n ≠ (fs[i]).n := by
    intro j hj hji
    rcases Nat.lt_or_gt_of_ne hji with h | h
    · exact List.pairwise_iff_getElem.1 hp j i hj hi h
    · exact fun e => List.pairwise_iff_getElem.1 hp i j hi hj h e.symm
  apply List.ext_getElem (by unfold setN uptoF; simp)
  intro j h1 h2
  have hj : j < fs.length := by rw [uptoF_length] at h2; exact h2
  rw [setN_get F.n _ _ j (by rw [uptoF_length]; exact hj)]
  have hn : ((uptoF ks i fs)[j]'(by rw [uptoF_length]; exact hj)).n = (fs[j]).n := uptoF_name ks i j fs hj
  rw [uptoF_at ks (i + 1) fs j h2 hj]
  by_cases e : j = i
  · subst e
    rw [if_pos (by rw [beq_iff_eq, hn]; rfl), if_pos (Nat.lt_succ_self _)]
  · rw [if_neg (by rw [beq_iff_eq, hn]; exact hne j hj e), uptoF_at ks i fs j _ hj]
    by_cases h : j < i
    · rw [if_pos h, if_pos (by omega)]
    · rw [if_neg h, if_neg (by omega)]

theorem find_mem : ∀ {L : List FW} {y : FW}, (L.Pairwise fun x y => x.n ≠ y.n) → y ∈ L → findN FW.n y.n L = some y
  | [], _, _, h => by cases h
  | x :: L, y, hp, h => by
    obtain ⟨h1, h2⟩ := List.pairwise_cons.1 hp
    unfold findN
    rw [List.find?_cons]
    rcases List.mem_cons.1 h with e | h
    · rw [e]; simp
    · have : (x.n == y.n) = false := beq_eq_false_iff_ne.2 (h1 y h)
      rw [this]
      exact find_mem h2 h

theorem Nums.chg {S : Nat → Prop} {w w' : World} {a : Option Addr} {n c : Nat} {l : List Int} (h : Nums w a n c l) (hc : Chg S w w') (ha : 0 < n → ∀ x, a = some x → ¬ S x.block) : Nums w' a n c l := by
  obtain ⟨h1, h2, h3, h4, h6⟩ := h
  refine ⟨h1, h2, h3, h4, fun hn => ?_⟩
  obtain ⟨b, o, rfl, hcl⟩ := h6 hn
  exact ⟨b, o, rfl, fun i hi => hc.cell (hcl i hi) (show ¬ S b from ha hn ⟨b, o, none⟩ rfl)⟩

set_option maxRecDepth 100000 in
set_option maxHeartbeats 12800000 in
theorem crash_any {S : Nat → Prop} {w : World} {d : Nat} {M : DM} (h : DiskIn S w d M) (hlen : M.fs.length < 1000000) (pa : Option Addr) (n c : Nat) (ks : List Int) (hN : Nums w pa n c ks) (hap : 0 < n → ∀ a, pa = some a → ¬ S a.block) :
    Calls Try.prog 16 #[.pointer (some ⟨d, 0, none⟩), .slice pa n c] w fun e w' => (∃ v, e = .returned v) ∧ Step S w d (crashM ks M) w' := by
  have HLi := Lib.hid (list_any h hlen)
  obtain ⟨mb, p, L, h⟩ := h
  have H := Lib.hid h
  have HNu := Lib.hid hN
  have Hap := Lib.hid hap
  have hnk := hN.len
  have hpw : M.fs.Pairwise fun x y => x.n ≠ y.n := by rw [h.files, List.pairwise_map]; exact h.names
  have Hpw := Lib.hid hpw
  have hnmax : n ≤ 9223372036854775807 := Nat.le_trans hN.le hN.capmax
  clear h hN hap hpw
  obtain ⟨N, hNl⟩ : ∃ N, N = M.fs.length := ⟨_, rfl⟩
  have HNl := Lib.hid hNl
  rw [← hNl] at HLi hlen
  clear hNl
  go_enter Try.func16, Try.ntmps16
  go_wp2_with fail
  refine HLi.out.mono ?_
  rintro e w1 ⟨v, rfl, hrow, hb⟩
  have HR := Lib.hid hrow
  have Hb := Lib.hid hb
  obtain ⟨va, vc, hv, _, _⟩ := own_len hrow
  have HV := Lib.hid hv
  subst hv
  clear hrow hb
  go_wp2
  go_loopw [12] (fun i wr => ∃ (j : Nat) (L' : List FW), j ≤ N ∧ i = .int .i64 (j : Int) ∧ DiskAt S wr d mb p L' { M with fs := uptoF ks j M.fs } ∧ Chg S w1 wr) (fun i _ => N - (intOf i).toNat)
  case atStart => exact ⟨0, L, Nat.zero_le _, rfl, by rw [uptoF_zero]; exact H.out.below Hb.out, Chg.refl _ _⟩
  case round =>
    obtain ⟨j, L', hj, rfl, hD, hc⟩ := hrel
    have HD := Lib.hid hD
    have Hc := Lib.hid hc
    by_cases hlt : j < N
    · have hjl : j < (uptoF ks j M.fs).length := by rw [uptoF_length]; have := HNl.out; omega
      have hjL : j < L'.length := by
        have h1 : (uptoF ks j M.fs).length = (L'.map FW.f).length := congrArg List.length hD.files
        rw [List.length_map] at h1
        have := HNl.out
        omega
      obtain ⟨x, hx⟩ : ∃ x, x = L'[j]'hjL := ⟨_, rfl⟩
      have hxL : x ∈ L' := by rw [hx]; exact List.getElem_mem _
      have hjM : j < M.fs.length := by have := HNl.out; omega
      have hxf : x.f = M.fs[j]'hjM := by
        have h1 : (uptoF ks j M.fs)[j]'hjl = x.f := by
          rw [hx]
          have h2 := hD.files
          have h3 : (L'.map FW.f)[j]'(by rw [List.length_map]; exact hjL) = (L'[j]'hjL).f := by simp
          rw [← h3]
          congr 1
        rw [← h1, uptoF_get]
      have hfind := find_mem hD.names hxL
      have hname : x.n.length ≤ 9223372036854775807 := by
        have h1 := strKeys_le hD.dir Try.underlying9 x.n (by rw [dirD_keys]; exact List.mem_map.2 ⟨x, hxL, rfl⟩)
        rwa [maxLen_nat] at h1
      have hlk := hD.look x.n hname
      rw [hfind] at hlk
      unfold fileV at hlk
      obtain ⟨_, d1, _, _, _⟩ := hD.cells
      obtain ⟨g, cap, hform, hg1, _⟩ := HR.out.form (by omega)
      injection hform with e1 _ e3
      subst e1
      subst e3
      have hSg : ¬ S g := fun hs => absurd (H.out.bound g hs) (by omega)
      have hcell : wr.cell? ⟨g, j, none⟩ = some (encStr x.n) := by
        have h1 := HR.out.cells (g := g) rfl j (encStr x.n) (by
          rw [List.getElem?_map, List.getElem?_map, List.getElem?_eq_getElem hjM, ← hxf]
          rfl)
        rw [addr_add, Nat.zero_add] at h1
        exact hc.cell h1 hSg
      have hji : (j : Int) < (N : Int) := by omega
      have hstep := uptoF_step ks j M.fs hjM Hpw.out
      rw [← hxf] at hstep
      have Hstep := Lib.hid hstep
      have Hlt := Lib.hid hlt
      by_cases hjn : j < n
      · obtain ⟨b, o, rfl, hkc⟩ := (HNu.out.grow Hb.out |>.chg hc Hap.out).cell (by omega)
        have hkc2 := hkc j hjn
        have hget := HNu.out.get hjn
        have HC := Lib.hid (fun w2 (hD2 : DiskAt S w2 d mb p L' { M with fs := uptoF ks j M.fs }) => cut_any hD2 hxL (ks.getD j 0) hget.1 (by have := hget.2; omega))
        have hjn' : (j : Int) < (n : Int) := by omega
        clear hjl hjL hjM hx hxL hxf hfind hname hSg hstep hD hc hlt hkc hget hjn hg1
        generalize ks.getD j 0 = kk at *
        go_wp2_with fail
        refine (HC.out _ HD.out).mono ?_
        rintro e w2 ⟨⟨v, rfl⟩, ⟨v', hD2⟩, hc2⟩
        rw [Hstep.out] at hD2
        have HD2 := Lib.hid hD2
        have Hc2 := Lib.hid (Hc.out.same hc2)
        clear hD2 hc2
        go_wp2
        go_roundw
        case rel => exact ⟨j + 1, _, Hlt.out, by go_num, HD2.out, Hc2.out⟩
        case measure => simp [intOf]; have := Hlt.out; omega
      · have hk0 : ks.getD j 0 = 0 := by rw [List.getD_eq_getElem?_getD, List.getElem?_eq_none (by omega)]; rfl
        have HC := Lib.hid (fun w2 (hD2 : DiskAt S w2 d mb p L' { M with fs := uptoF ks j M.fs }) => cut_any hD2 hxL 0 (by decide) (by decide))
        have hjn' : ¬ (j : Int) < (n : Int) := by omega
        rw [hk0] at Hstep
        clear hjl hjL hjM hx hxL hxf hfind hname hSg hstep hD hc hlt hjn hg1 hk0
        go_wp2_with fail
        refine (HC.out _ HD.out).mono ?_
        rintro e w2 ⟨⟨v, rfl⟩, ⟨v', hD2⟩, hc2⟩
        rw [Hstep.out] at hD2
        have HD2 := Lib.hid hD2
        have Hc2 := Lib.hid (Hc.out.same hc2)
        clear hD2 hc2
        go_wp2
        go_roundw
        case rel => exact ⟨j + 1, _, Hlt.out, by go_num, HD2.out, Hc2.out⟩
        case measure => simp [intOf]; have := Hlt.out; omega
    · have hji : ¬ (j : Int) < (N : Int) := by omega
      obtain rfl : j = N := by omega
      obtain ⟨_, _, _, _, fr⟩ := hD.cells
      have fr2 := fr 2
      have fr3 := fr 3
      have hfin : Step S w d (crashM ks M) ((wr.setCell ⟨d, 2, none⟩ (.bool false)).setCell ⟨d, 3, none⟩ (.int .i64 0)) := by
        have e : crashM ks M = { M with fs := uptoF ks j M.fs, down := false, plan := 0 } := by unfold crashM; rw [HNl.out, uptoF_all]
        rw [e]
        have hE := hD.head_set (M' := { M with fs := uptoF ks j M.fs, down := false, plan := 0 }) (p' := 0) (w' := (wr.setCell ⟨d, 2, none⟩ (.bool false)).setCell ⟨d, 3, none⟩ (.int .i64 0)) ((chg_d wr d 2 _).same (chg_d _ d 3 _)) rfl rfl
          (by have := set_head (i := 3) (set_head (i := 2) hD.head (.bool false)) (.int .i64 0); simpa using this) rfl (by decide) (by decide)
        have hSd : S d := hD.sub d (by simp)
        exact Step.behind Hb.out (Step.same ⟨mb, 0, L', hE⟩ (hc.same ((Chg.set S wr hSd _).same (Chg.set S _ hSd _))))
      have Hfin := Lib.hid hfin
      obtain ⟨_, _, d2, d3, _⟩ := hD.cells
      clear hfin hD hc fr hlt
      go_wp2
      go_end0
      exact ⟨⟨_, rfl⟩, Hfin.out⟩
end Go.Proofs.Ytdnbjpfapfnpaaa
