import Derived.Test.YtjoolocdejnohaaGreatSA37
import Derived.Test.YtjoolocdejnohaaGreatSA34
/- What the statements of trim share: what compacting leaves in size, Look and Find of a disk, how small few records are. -/
namespace Go.Proofs.YtjoolocdejnohaaGreat
open Go.RowKit Go.Maps Go.Shelf

theorem few_size {ls : List (List Nat)} (h : minsF ls ≤ 1500 ∧ ls.length ≤ 60) : sizeL ls ≤ 1980 ∧ ls.length ≤ 60 := by
  have := (minsF_bound ls h.1).1
  exact ⟨by omega, h.2⟩

theorem chgM_rm {M : DM} {nm : List UInt8} {act : DM → DM × Int} (ha : ∀ M', M'.room = M.room → (act M').1.room = M.room) : (chgM M nm act).1.room = M.room := by
  unfold chgM
  split
  · exact (failM_rm M).1
  · split
    · exact ha _ (failM_rm M).1
    · exact (failM_rm M).1

theorem onM_rm {M M' : DM} (he : M'.room = M.room) {nm : List UInt8} {act : F → DM → DM × Int} (ha : ∀ f, (act f M').1.room = M.room) : (onM nm act M').1.room = M.room := by
  unfold onM
  split
  · exact he
  · exact ha _

theorem step_rm (M : DM) (k : Int) (nm tt : List UInt8) (bs : List Nat) : (stepM k nm tt bs M).1.room = M.room := by
  unfold stepM
  split
  · refine chgM_rm fun M' e => ?_
    split <;> exact e
  · split
    · refine chgM_rm fun M' e => onM_rm e fun f => ?_
      split <;> exact e
    · split
      · exact chgM_rm fun M' e => onM_rm e fun f => e
      · split
        · refine chgM_rm fun M' e => onM_rm e fun f => ?_
          split <;> exact e
        · exact chgM_rm fun M' e => onM_rm e fun f => e

theorem steps_rm : ∀ (ops : List SO) (M : DM), (stepsM ops M).1.room = M.room
  | [], _ => rfl
  | x :: ops, M => by
    have e : stepsM (x :: ops) M = if (stepM x.k x.nm x.tt x.bs M).2 = 0 then stepsM ops (stepM x.k x.nm x.tt x.bs M).1 else stepM x.k x.nm x.tt x.bs M := rfl
    rw [e]
    split
    · rw [steps_rm ops, step_rm]
    · rw [step_rm]

theorem comp_sum (M : DM) (out : List Int) (n : Nat) (b : List Nat) : ((compOps M out n b).map fun x => x.bs.length).sum ≤ b.length ∧ ∀ x ∈ compOps M out n b, x.nm.length ≤ 9223372036854775807 ∧ x.tt.length ≤ 9223372036854775807 := by
  have hs := stOps_sum M n b 5 (by omega)
  have e5 : stOps M n b 5 = cleanM [newB] M ++ fillOps n b := by
    unfold stOps
    rw [if_neg (by omega)]
    congr 1
  rw [e5] at hs
  have hz : ∀ l : List Int, (((l.map fun x => (⟨5, nmB x.toNat, [], []⟩ : SO))).map fun x => x.bs.length).sum = 0 := by
    intro l
    induction l with
    | nil => rfl
    | cons x l ih => rw [List.map_cons, List.map_cons, List.sum_cons, ih]; rfl
  unfold compOps oldOps
  refine ⟨?_, fun x hx => ?_⟩
  · rw [List.map_append, List.sum_append, hz]
    exact hs.1
  · rcases List.mem_append.1 hx with h | h
    · exact hs.2.2 x h
    · obtain ⟨y, _, rfl⟩ := List.mem_map.1 h
      exact ⟨nmB_short _, Nat.zero_le _⟩

/-- What compacting leaves, in size. -/
theorem comp_neat {M : DM} {N U : Nat} (hnt : Neat M N U) (hnm : Named M) {n : Nat} {b : List Nat} {r : DM × Int} (h : IsComp M n b r) : Neat r.1 (N + M.fs.length + 5) (U + b.length) ∧ Named r.1 ∧ (Up M → Up r.1) ∧ r.1.room = M.room := by
  obtain ⟨out, ho, rfl⟩ := h
  obtain ⟨ps, h1, hA⟩ := allOf_ex ho
  have h2 := segs_many hA
  have h3 : out.length = ps.length := by rw [← h1, List.length_map]
  have h4 := compOps_len M out n b
  obtain ⟨h5, h6⟩ := comp_sum M out n b
  exact ⟨(stepsM_neat' _ hnt).mono (by omega) (by omega), named_steps _ hnm h6, fun hu => up_steps _ hu, steps_rm _ _⟩

theorem compOf_neat {W : WM} {N U : Nat} (hnt : Neat W.D N U) (hnm : Named W.D) {recs : List (List Nat)} {r : DM × Int} (h : CompOf W recs r) : Neat r.1 (N + W.D.fs.length + 5) (U + (sizeL recs + 8)) ∧ Named r.1 ∧ (Up W.D → Up r.1) ∧ r.1.room = W.D.room := by
  rcases h with ⟨_, rfl⟩ | ⟨_, h⟩
  · exact ⟨hnt.mono (by omega) (by omega), hnm, fun h => h, rfl⟩
  · have h1 := comp_neat hnt hnm h
    rw [joinL_len, sizeL_mark] at h1
    exact h1

theorem compR_yes {W : WM} {most : Int} {recs : List (List Nat)} {r : DM × Int} (h : r.2 = 0) : compR W most recs r = compW W most recs r.1 := if_pos h
theorem compR_D (W : WM) (most : Int) (recs : List (List Nat)) (r : DM × Int) : (compR W most recs r).D = r.1 := by
  unfold compR
  split <;> rfl

section
variable {w0 : World} {T : Nat → Prop} {wT : World} {g d B : Nat} {W Wb : WM} {wr : World}

/-- Compact beside the reference's log. -/
theorem Both.comp (h : Both w0 T wT g d B W Wb wr) {wa : World} (hb : Below wr.heap.size wr wa) {U : Nat} (hnt : Neat W.D 900 U) (hU : U ≤ 10000000) (hnm : Named W.D) (h1 : 1 ≤ W.n) (hN : W.n ≤ 99999999) (most : Int) (p : Option Addr) (m c : Nat) (recs : List (List Nat)) (hP : Parts wa p m c recs) (hm : m ≤ 1000) (hs : sizeL recs ≤ 1000000) :
    Calls Tryz.prog 38 #[.pointer (some ⟨d, 0, none⟩), .pointer (some ⟨g, 0, none⟩), .int .i64 most, .slice p m c] wa fun e w3 => ∃ r, CompOf W recs r ∧
      ((r.2 ≠ 0 ∧ e = .returned (.tuple #[.pointer none, .int .i64 r.2]) ∧ Both w0 T wT g d B { W with D := r.1 } Wb w3) ∨
       (r.2 = 0 ∧ ∃ g2, e = .returned (.tuple #[.pointer (some ⟨g2, 0, none⟩), .int .i64 0]) ∧ Both w0 T wT g2 d B (compW W most recs r.1) Wb w3)) := by
  obtain ⟨Y', hL, _, hn1, hn2⟩ := h.stepLog hb
  refine (compact_any hL hnt hU hnm h1 hN most p m c recs hP hm hs).mono ?_
  rintro e w3 ⟨r, hC, ⟨hz, rfl, hE⟩ | ⟨hz, g2, rfl, hg, hL2, hk, hb3, hs3⟩⟩
  · exact ⟨r, hC, .inl ⟨hz, rfl, hn1 _ w3 ⟨⟨hE.1, hL.inY, hL.new, (hE.2.1 g hL.inY).trans hL.cells⟩, fun b hb _ => hE.2.1 b hb, hE.2.2.1, hE.2.2.2⟩⟩⟩
  · exact ⟨r, hC, .inr ⟨hz, g2, rfl, hn2 g2 _ w3 hg hL2 hk hs3⟩⟩

/-- .. and the reference's, whose answer goes into a new box. -/
theorem Both.rcomp (h : Both w0 T wT g d B W Wb wr) {U : Nat} (hnt : Neat Wb.D 900 U) (hU : U ≤ 1000000) (hnm : Named Wb.D) (h1 : 1 ≤ Wb.n) (hN : Wb.n ≤ 99999999) (most : Int) (p : Option Addr) (m k : Nat) (recs : List (List Nat)) (hP : Parts wr p m k recs) (hm : m ≤ 1000) (hs : sizeL recs ≤ 5000) (hl : Wb.D.fs.length + 905 ≤ 1000000) :
    ∃ a n c, wr.heap[B]? = some (logO (Wb.D.room : Int) a n c (Wb.D.plan : Int) Wb.D.down Wb.most (Wb.n : Int) (Wb.size : Int) (Wb.wait : Int)) ∧
      Calls Tryz.prog 39 #[logV (Wb.D.room : Int) a n c (Wb.D.plan : Int) Wb.D.down Wb.most (Wb.n : Int) (Wb.size : Int) (Wb.wait : Int), .int .i64 most, .slice p m k] wr fun e w4 => ∃ r a' n' c' W', CompOf Wb recs r ∧ W' = compR Wb most recs r ∧
        e = .returned (.tuple #[logV (W'.D.room : Int) a' n' c' (W'.D.plan : Int) W'.D.down W'.most (W'.n : Int) (W'.size : Int) (W'.wait : Int), .int .i64 r.2]) ∧
        Both w0 T wT g d w4.heap.size W W' (w4.alloc (logO (W'.D.room : Int) a' n' c' (W'.D.plan : Int) W'.D.down W'.most (W'.n : Int) (W'.size : Int) (W'.wait : Int))) := by
  obtain ⟨X, a, n, c, hc, hrl, _, hX, hnext⟩ := h.newBox
  refine ⟨a, n, c, hc, (rcompact_any hrl hX hnt hU hnm h1 hN most p m k recs hP hm hs).mono ?_⟩
  rintro e w4 ⟨r, hC, a', n', c', R', rfl, hR', hf, hb⟩
  refine ⟨r, a', n', c', _, hC, rfl, rfl, hnext _ w4 a' n' c' R' hb hR' hf ?_⟩
  have h1 := (compOf_neat hnt hnm hC).1.small.files
  have h2 := hnt.small.files
  have e : (compR Wb most recs r, r.2).1.D = r.1 := compR_D Wb most recs r
  rw [e]
  omega
end

theorem field_recs (aa : Option Addr) (an ac : Nat) (first last : Int) (va : Option Addr) (vn vc : Nat) (size torn z : Int) (w : World) :
    (Instr.field 35 (.agg #[.slice aa an ac, .int .i64 first, .int .i64 last, .slice va vn vc, .int .i64 size, .int .i64 torn, .int .i64 z]) 3).run Tryz.prog w = .ok (.slice va vn vc) w := by kernel_rfl

section
variable {w0 : World} {X : Nat → Prop} {w : World} {d : Nat} {M : DM}

/-- What Look answers of a disk. -/
theorem tlook_any (hO : Own w0 X w d M) (hd : M.down = false) (hl : M.fs.length ≤ 1000) (hu : usedF M.fs ≤ 10000) (hnm : Named M) (ps : List PS) (hA : AllOf M ps) :
    Calls Tryz.prog 15 #[.pointer (some ⟨d, 0, none⟩)] w fun e w' => ∃ y a c, IsLog ps y ∧ e = .returned (.tuple #[.slice a y.recs.length c, .int .i64 y.z]) ∧ Parts w' a y.recs.length c y.recs ∧ Below w.heap.size w w' := by
  refine (look_of findQ_grow (find_up hO hd hl hu hnm ps hA)).mono ?_
  rintro e w3 ⟨x, z, rfl, hq, hb3⟩
  obtain ⟨y, hy, rfl, _, hxr, hP⟩ := findQ_log hq
  rw [hxr] at hP ⊢
  exact ⟨y, _, _, hy, rfl, hP, hb3⟩

/-- What the reference's Find answers of a disk. -/
theorem rfound_any {v : Value} (hv : RefAt X w v M) (hX : ∀ b, X b → b < w.heap.size) (hd : M.down = false) (hl : M.fs.length ≤ 1000) (hu : usedF M.fs ≤ 10000) (hnm : Named M) (ps : List PS) (hA : AllOf M ps) :
    Calls Tryz.prog 16 #[v] w fun e w' => ∃ y aa an ac first last va vc size, IsLog ps y ∧ e = .returned (logRV aa an ac first last va y.recs.length vc size (y.torn : Int) y.z) ∧ Parts w' va y.recs.length vc y.recs ∧ PartsZ (fun b => X b ∨ w.heap.size ≤ b) w' w.heap.size (.slice va y.recs.length vc) y.recs ∧ Below w.heap.size w w' :=
  (rfind9_any hv hX hd hl hu hnm ps hA).mono fun _ _ h => rfind_log h
end
end Go.Proofs.YtjoolocdejnohaaGreat

/- The walks of the reference's Same, of bytes and of lists of bytes: true where they are the same. -/
namespace Go.Proofs.YtjoolocdejnohaaGreat
open Go.RowKit Crc

set_option maxRecDepth 100000 in
theorem rsame_yes (a a' : Option Addr) (n cap n' cap' : Nat) (l : List Nat) (w : World) (hl : Bytes w a n cap l) (hl' : Bytes w a' n' cap' l) :
    Calls Tryz.prog 62 #[.slice a n cap, .slice a' n' cap'] w fun e w' => e = .returned (.bool true) ∧ w' = w := by
  have h1 := convert_bytes (P := Tryz.prog) hl 58 5 9 Tryz.underlying58 Tryz.underlying5 Tryz.underlying9
  have h2 := convert_bytes (P := Tryz.prog) hl' 58 5 9 Tryz.underlying58 Tryz.underlying5 Tryz.underlying9
  have he := str_eq l
  clear hl hl'
  generalize str l = s at *
  go_enter Tryz.func62, Tryz.ntmps62
  go_wp2
  go_ret
  exact ⟨rfl, rfl⟩

set_option maxHeartbeats 800000 in
set_option maxRecDepth 100000 in
theorem same_yes (a a' : Option Addr) (n cap cap' : Nat) (ls : List (List Nat)) (w : World) (hl : Parts w a n cap ls) (hl' : Parts w a' n cap' ls) :
    Calls Tryz.prog 17 #[.slice a n cap, .slice a' n cap'] w fun e w' => e = .returned (.bool true) ∧ ∃ q, w' = w.drewN q := by
  have hnb := hl.max
  have hP := Lib.hid hl
  have hP' := Lib.hid hl'
  clear hl hl'
  go_enter Tryz.func17, Tryz.ntmps17
  go_wp2
  go_loopw [5] (fun i wr => ∃ k q : Nat, k ≤ n ∧ i = .int .i64 k ∧ wr = w.drewN q) (fun i _ => n - (intOf i).toNat)
  case atStart => exact ⟨0, 0, Nat.zero_le _, rfl, rfl⟩
  case round =>
    obtain ⟨k, q, hk, rfl, rfl⟩ := hrel
    by_cases hlt : k < n
    · obtain ⟨b, o, a1, n1, c1, rfl, hc, hB⟩ := bytes_get_all hP.out hlt
      obtain ⟨b', o', a2, n2, c2, rfl, hc', hB'⟩ := bytes_get_all hP'.out hlt
      have hc := fun q => (show (w.drewN q).cell? ⟨b, o + k, none⟩ = _ from hc)
      have hc' := fun q => (show (w.drewN q).cell? ⟨b', o' + k, none⟩ = _ from hc')
      have hc := hc q
      have hc' := hc' q
      have hB := hB.grow (below_drewN (Below.refl w.heap.size w) q)
      have hB' := hB'.grow (below_drewN (Below.refl w.heap.size w) q)
      have hq : ∀ m, (w.drewN q).drewN m = w.drewN (q + m) := fun m => by simp [World.drewN, Nat.add_assoc]
      generalize w.drewN q = wr at *
      have HS := Lib.hid (fun m => (rsame_yes a1 a2 n1 c1 n2 c2 (ls.getD k []) (wr.drewN m) (hB.grow (below_drewN (Below.refl _ _) m)) (hB'.grow (below_drewN (Below.refl _ _) m))).mono (R' := fun e w' => e = .returned (.bool true) ∧ ∃ k, w' = (wr.drewN m).drewN k) (by rintro e w' ⟨h1, rfl⟩; exact ⟨h1, 0, rfl⟩))
      have Hq := Lib.hid hq
      clear hB hB' hq
      go_wp2_with fail
      go_quiet (first | (go_at_call 62; exact Calls.quiet_of (HS.out _)))
      rw [Hq.out]
      go_wp2
      go_roundw
      case rel => exact ⟨k + 1, _, by omega, by go_num, rfl⟩
      case measure => simp [intOf]; omega
    · obtain rfl : k = n := by omega
      go_wp2
      go_ret
      exact ⟨rfl, q, rfl⟩
end Go.Proofs.YtjoolocdejnohaaGreat

