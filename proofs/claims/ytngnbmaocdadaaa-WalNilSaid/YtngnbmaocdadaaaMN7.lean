import Derived.Test.YtngnbmaocdadaaaMN6
import Derived.Test.YtngnbmaocdadaaaMN2
import Derived.Test.YtngnbmaocdadaaaMN1
import Derived.Shelf.Abstract
import Derived.Deep.Upon
/- Logs as plain data: what Put and Sync do, and what the files of a log are while no change fails. -/
namespace Go.Proofs.Ytngnbmaocdadaaa
open Go.RowKit Go.Maps

/-- The name of a segment, as a file's. -/
def nmB (i : Nat) : List UInt8 := (nameL i).map UInt8.ofNat

theorem nmB_inj {i j : Nat} (hi : i ≤ 99999999) (hj : j ≤ 99999999) (h : nmB i = nmB j) : i = j :=
  nameL_inj hi hj (ofNat_inj (nameL_byte i) (nameL_byte j) h)

theorem before_less : ∀ {a b : List Nat}, (∀ x ∈ a, x < 256) → (∀ x ∈ b, x < 256) → bytesBefore (a.map UInt8.ofNat) (b.map UInt8.ofNat) = ltL a b
  | [], [], _, _ => rfl
  | [], _ :: _, _, _ => rfl
  | _ :: _, [], _, _ => rfl
  | c :: r, c' :: r', ha, hb => by
    have hc := ha c (by simp)
    have hc' := hb c' (by simp)
    have e : UInt8.ofNat c < UInt8.ofNat c' ↔ c < c' := by
      rw [UInt8.lt_iff_toNat_lt, UInt8.toNat_ofNat', UInt8.toNat_ofNat']
      omega
    have e2 : UInt8.ofNat c = UInt8.ofNat c' ↔ c = c' := by
      constructor
      · intro h
        have h2 := congrArg UInt8.toNat h
        rw [UInt8.toNat_ofNat', UInt8.toNat_ofNat'] at h2
        omega
      · intro h; rw [h]
    have ih := before_less (a := r) (b := r') (fun x hx => ha x (by simp [hx])) (fun x hx => hb x (by simp [hx]))
    rw [List.map_cons, List.map_cons, ltL, bytesBefore, ih]
    by_cases h1 : c < c'
    · simp [e, h1]
    · by_cases h2 : c' < c
      · have h3 : ¬ c = c' := by omega
        simp [e, e2, h1, h2, h3]
      · have h3 : c = c' := by omega
        subst h3
        simp

theorem nmB_before {i j : Nat} (hi : i ≤ 99999999) (hj : j ≤ 99999999) : bytesBefore (nmB i) (nmB j) = decide (i < j) := by
  unfold nmB
  rw [before_less (nameL_byte i) (nameL_byte j), ltL_name hi hj]

theorem nmB_named (i : Nat) : named (nmB i) = true := by
  unfold named nmB
  have hl : ((nameL i).map UInt8.ofNat).length = 12 := by rw [List.length_map, nameL_len]
  rw [hl, List.all_map]
  have h : (nameL i).all (okByte ∘ UInt8.ofNat) = true := by
    rw [List.all_eq_true]
    intro c hc
    rcases List.mem_append.1 hc with h | h
    · unfold logL at h
      simp only [List.mem_cons, List.not_mem_nil, or_false] at h
      rcases h with rfl | rfl | rfl | rfl <;> decide
    · have hd := digN_digit 8 i c h
      show okByte (UInt8.ofNat c) = true
      have : ∀ k : Fin 10, okByte (UInt8.ofNat (48 + k.val)) = true := by decide
      have h2 := this ⟨c - 48, by omega⟩
      rwa [show 48 + (c - 48) = c by omega] at h2
  rw [h]
  rfl

/-- A log. -/
structure WM where
  D : DM
  most : Int
  n : Nat
  size : Nat
  wait : Nat

def syncW (W : WM) : WM × Int :=
  ({ W with D := (syncM (nmB W.n) W.D).1, wait := if (syncM (nmB W.n) W.D).2 = 0 then 0 else W.wait }, (syncM (nmB W.n) W.D).2)

def rotW (W : WM) : WM × Int :=
  if 99999999 ≤ W.n then (W, 2)
  else if (syncM (nmB W.n) W.D).2 ≠ 0 then ({ W with D := (syncM (nmB W.n) W.D).1 }, (syncM (nmB W.n) W.D).2)
  else if (createM (nmB (W.n + 1)) (syncM (nmB W.n) W.D).1).2 ≠ 0 then ({ W with D := (createM (nmB (W.n + 1)) (syncM (nmB W.n) W.D).1).1 }, (createM (nmB (W.n + 1)) (syncM (nmB W.n) W.D).1).2)
  else ({ W with D := (createM (nmB (W.n + 1)) (syncM (nmB W.n) W.D).1).1, n := W.n + 1, size := 0, wait := 0 }, 0)

def appW (W : WM) (l : List Nat) : WM × Int :=
  if (appendM (nmB W.n) (frameL l) W.D).2 = 0 then ({ W with D := (appendM (nmB W.n) (frameL l) W.D).1, size := W.size + (l.length + 8), wait := W.wait + 1 }, 0)
  else ({ W with D := (appendM (nmB W.n) (frameL l) W.D).1 }, (appendM (nmB W.n) (frameL l) W.D).2)

def putW (W : WM) (l : List Nat) : WM × Int :=
  if l = [] then (W, 2)
  else if 1048576 < l.length ∨ W.most < ((l.length + 8 : Nat) : Int) then (W, 4)
  else if 0 < W.size ∧ W.most < ((W.size + (l.length + 8) : Nat) : Int) then (if (rotW W).2 ≠ 0 then rotW W else appW (rotW W).1 l)
  else appW W l

section
variable {pre : List F} {x f : F}

theorem findN_last (hp : ∀ y ∈ pre, y.n ≠ x.n) : findN F.n x.n (pre ++ [x]) = some x := by
  unfold findN
  rw [List.find?_append]
  have : pre.find? (fun y => y.n == x.n) = none := List.find?_eq_none.2 (fun y hy => by simpa using hp y hy)
  rw [this]
  simp

theorem findN_not {n : List UInt8} (hp : ∀ y ∈ pre, y.n ≠ n) : findN F.n n pre = none :=
  List.find?_eq_none.2 (fun y hy => by simpa using hp y hy)

theorem setN_last (hp : ∀ y ∈ pre, y.n ≠ x.n) (hf : f.n = x.n) : setN F.n x (pre ++ [f]) = pre ++ [x] := by
  unfold setN
  rw [List.map_append]
  congr 1
  · conv => rhs; rw [← List.map_id pre]
    refine List.map_congr_left (fun y hy => ?_)
    have : (y.n == x.n) = false := by simpa using hp y hy
    simp [this]
  · simp [hf]

theorem insN_last : ∀ {pre : List F}, (∀ y ∈ pre, bytesBefore x.n y.n = false) → insN F.n x pre = pre ++ [x]
  | [], _ => rfl
  | y :: r, h => by
    unfold insN
    rw [h y (by simp)]
    simp only [Bool.false_eq_true, if_false]
    rw [insN_last (fun z hz => h z (by simp [hz]))]
    rfl
end

/-- The file of a segment that is complete. -/
def fullF (i : Nat) (c : List (List Nat)) : F := ⟨nmB (i + 1), joinL c, (joinL c).length⟩
/-- The file of the current segment, of whose records k wait. -/
def lastF (i : Nat) (c : List (List Nat)) (k : Nat) : F := ⟨nmB (i + 1), joinL c, sizeL (c.take (c.length - k))⟩
def filesL (B : List (List (List Nat))) (c : List (List Nat)) (k : Nat) : List F := B.mapIdx fullF ++ [lastF B.length c k]

theorem pre_names {B : List (List (List Nat))} {y : F} (h : y ∈ B.mapIdx fullF) : ∃ i, i < B.length ∧ y.n = nmB (i + 1) := by
  obtain ⟨i, hi, rfl⟩ := List.mem_mapIdx.1 h
  exact ⟨i, hi, rfl⟩

theorem used_append : ∀ a b : List F, usedF (a ++ b) = usedF a + usedF b
  | [], b => by simp [usedF]
  | x :: r, b => by
    have h := used_append r b
    unfold usedF at h ⊢
    rw [List.cons_append, List.map_cons, List.sum_cons, List.map_cons, List.sum_cons, h]
    omega

theorem used_full (B : List (List (List Nat))) : ∀ i, usedF (B.mapIdx fun k c => fullF (i + k) c) = sizeL B.flatten := by
  induction B with
  | nil => intro i; rfl
  | cons c r ih =>
    intro i
    rw [List.mapIdx_cons, List.flatten_cons, sizeL_append]
    have e : (r.mapIdx fun k c => fullF (i + (k + 1)) c) = r.mapIdx fun k c => fullF (i + 1 + k) c := by
      congr 1
      funext k c
      rw [show i + (k + 1) = i + 1 + k by omega]
    show usedF (fullF (i + 0) c :: _) = _
    rw [e]
    have h := ih (i + 1)
    unfold usedF at h ⊢
    rw [List.map_cons, List.sum_cons, h]
    show (joinL c).length + _ = _
    rw [joinL_len]

/-- A log on a disk on which nothing has failed: the records of its complete segments, and those of the current one. -/
structure LInv (W : WM) (B : List (List (List Nat))) (c : List (List Nat)) : Prop where
  n : W.n = B.length + 1
  nmax : W.n ≤ 99999999
  fs : W.D.fs = filesL B c W.wait
  down : W.D.down = false
  plan : W.D.plan = 0
  size : W.size = sizeL c
  wait : W.wait ≤ c.length
  recs : ∀ r ∈ B.flatten ++ c, r ≠ [] ∧ r.length ≤ 1048576
  most : ∀ b ∈ B ++ [c], b ≠ [] → ((sizeL b : Nat) : Int) ≤ W.most

theorem filesL_used (B : List (List (List Nat))) (c : List (List Nat)) (k : Nat) : usedF (filesL B c k) = sizeL (B.flatten ++ c) := by
  unfold filesL
  rw [used_append, sizeL_append]
  have h := used_full B 0
  simp only [Nat.zero_add] at h
  have e : (B.mapIdx fun k c => fullF k c) = B.mapIdx fullF := rfl
  rw [e] at h
  rw [h]
  show sizeL B.flatten + usedF [lastF B.length c k] = _
  congr 1
  unfold usedF lastF
  simp [joinL_len]

section
variable {W : WM} {B : List (List (List Nat))} {c : List (List Nat)}

theorem LInv.alive (h : LInv W B c) : failM W.D = W.D := by
  unfold failM
  rw [h.down, h.plan]
  simp
  obtain ⟨⟨room, fs, down, plan⟩, most, n, size, wait⟩ := W
  have := h.down
  have := h.plan
  simp_all

theorem pre_ne (h : B.length + 1 ≤ 99999999) : ∀ y ∈ B.mapIdx fullF, y.n ≠ nmB (B.length + 1) := by
  intro y hy e
  obtain ⟨i, hi, hn⟩ := pre_names hy
  have := nmB_inj (by omega) h (hn.symm.trans e)
  omega

theorem LInv.sync (h : LInv W B c) : (syncW W).2 = 0 ∧ LInv (syncW W).1 B c ∧ (syncW W).1.wait = 0 ∧ (syncW W).1.most = W.most ∧ (syncW W).1.D.room = W.D.room := by
  have hn := h.n
  have hne := pre_ne (B := B) (by rw [← hn]; exact h.nmax)
  have e : syncM (nmB W.n) W.D = ({ W.D with fs := filesL B c 0 }, 0) := by
    unfold syncM chgM
    rw [h.alive, h.down, nmB_named]
    simp only [Bool.false_eq_true, if_false, if_true]
    unfold onM
    rw [h.fs, hn]
    have hx : (lastF B.length c W.wait).n = nmB (B.length + 1) := rfl
    have h1 : findN F.n (nmB (B.length + 1)) (filesL B c W.wait) = some (lastF B.length c W.wait) := findN_last (x := lastF B.length c W.wait) hne
    rw [h1]
    show ({ W.D with fs := setN F.n ⟨nmB (B.length + 1), joinL c, (joinL c).length⟩ W.D.fs }, (0 : Int)) = _
    rw [h.fs]
    have h2 : setN F.n ⟨nmB (B.length + 1), joinL c, (joinL c).length⟩ (filesL B c W.wait) = filesL B c 0 := by
      unfold filesL
      rw [setN_last (x := ⟨nmB (B.length + 1), joinL c, (joinL c).length⟩) (f := lastF B.length c W.wait) hne rfl]
      congr 2
      unfold lastF
      rw [Nat.sub_zero, List.take_length, joinL_len]
    rw [h2]
  unfold syncW
  rw [e]
  exact ⟨rfl, ⟨hn, h.nmax, rfl, h.down, h.plan, h.size, Nat.zero_le _, h.recs, h.most⟩, rfl, rfl, rfl⟩

theorem LInv.append (h : LInv W B c) {l : List Nat} (hl : l ≠ []) (hm : l.length ≤ 1048576) (hroom : sizeL (B.flatten ++ c) + (l.length + 8) ≤ W.D.room) (hfit : ((sizeL c + (l.length + 8) : Nat) : Int) ≤ W.most) :
    (appW W l).2 = 0 ∧ LInv (appW W l).1 B (c ++ [l]) ∧ (appW W l).1.wait = W.wait + 1 ∧ (appW W l).1.most = W.most ∧ (appW W l).1.D.room = W.D.room := by
  have hn := h.n
  have hne := pre_ne (B := B) (by rw [← hn]; exact h.nmax)
  have hw := h.wait
  have e : appendM (nmB W.n) (frameL l) W.D = ({ W.D with fs := filesL B (c ++ [l]) (W.wait + 1) }, 0) := by
    unfold appendM chgM
    rw [h.alive, h.down, nmB_named]
    simp only [Bool.false_eq_true, if_false, if_true]
    unfold onM
    rw [h.fs, hn]
    have h1 : findN F.n (nmB (B.length + 1)) (filesL B c W.wait) = some (lastF B.length c W.wait) := findN_last (x := lastF B.length c W.wait) hne
    rw [h1]
    show (if usedF W.D.fs + (frameL l).length ≤ W.D.room then ({ W.D with fs := setN F.n ⟨nmB (B.length + 1), joinL c ++ frameL l, sizeL (c.take (c.length - W.wait))⟩ W.D.fs }, (0 : Int)) else (W.D, 5)) = _
    rw [h.fs, filesL_used, frameL_len, if_pos hroom]
    have h2 : setN F.n ⟨nmB (B.length + 1), joinL c ++ frameL l, sizeL (c.take (c.length - W.wait))⟩ (filesL B c W.wait) = filesL B (c ++ [l]) (W.wait + 1) := by
      unfold filesL
      rw [setN_last (x := ⟨nmB (B.length + 1), joinL c ++ frameL l, sizeL (c.take (c.length - W.wait))⟩) (f := lastF B.length c W.wait) hne rfl]
      congr 2
      unfold lastF
      rw [joinL_snoc, List.length_append, List.length_singleton, show c.length + 1 - (W.wait + 1) = c.length - W.wait by omega, List.take_append_of_le_length (by omega)]
    rw [h2]
  unfold appW
  rw [e]
  simp only [if_true]
  refine ⟨trivial, ⟨hn, h.nmax, rfl, h.down, h.plan, ?_, ?_, ?_, ?_⟩, trivial, trivial, trivial⟩
  · show W.size + _ = _
    rw [h.size, sizeL_append, sizeL_cons, sizeL_nil]
  · show W.wait + 1 ≤ _
    rw [List.length_append, List.length_singleton]
    omega
  · intro r hr
    rw [← List.append_assoc] at hr
    rcases List.mem_append.1 hr with hr | hr
    · exact h.recs r hr
    · have : r = l := by simpa using hr
      rw [this]; exact ⟨hl, hm⟩
  · intro b hb hbn
    rcases List.mem_append.1 hb with hb | hb
    · exact h.most b (List.mem_append.2 (.inl hb)) hbn
    · have : b = c ++ [l] := by simpa using hb
      rw [this, sizeL_append, sizeL_cons, sizeL_nil]
      exact hfit

theorem LInv.rotate (h : LInv W B c) (hnm : W.n < 99999999) :
    (rotW W).2 = 0 ∧ LInv (rotW W).1 (B ++ [c]) [] ∧ (rotW W).1.wait = 0 ∧ (rotW W).1.most = W.most ∧ (rotW W).1.D.room = W.D.room := by
  obtain ⟨h0, h1, h2, h3, h4⟩ := h.sync
  have hn := h.n
  have hs0 : (syncM (nmB W.n) W.D).2 = 0 := h0
  have hD : (syncW W).1.D = (syncM (nmB W.n) W.D).1 := rfl
  have e : createM (nmB (W.n + 1)) (syncM (nmB W.n) W.D).1 = ({ (syncM (nmB W.n) W.D).1 with fs := filesL (B ++ [c]) [] 0 }, 0) := by
    rw [← hD]
    unfold createM chgM
    rw [h1.alive, h1.down, nmB_named]
    simp only [Bool.false_eq_true, if_false, if_true]
    have hfs := h1.fs
    rw [h2] at hfs
    have hnames : ∀ y ∈ filesL B c 0, ∃ i, i < B.length + 1 ∧ y.n = nmB (i + 1) := by
      intro y hy
      rcases List.mem_append.1 hy with hy | hy
      · obtain ⟨i, hi, e⟩ := pre_names hy
        exact ⟨i, by omega, e⟩
      · have : y = lastF B.length c 0 := by simpa using hy
        exact ⟨B.length, by omega, by rw [this]; rfl⟩
    have hnot : ∀ y ∈ filesL B c 0, y.n ≠ nmB (W.n + 1) := by
      intro y hy e
      obtain ⟨i, hi, e2⟩ := hnames y hy
      have := nmB_inj (by omega) (by omega) (e2.symm.trans e)
      omega
    have hbef : ∀ y ∈ filesL B c 0, bytesBefore (nmB (W.n + 1)) y.n = false := by
      intro y hy
      obtain ⟨i, hi, e2⟩ := hnames y hy
      rw [e2, nmB_before (by omega) (by omega)]
      exact decide_eq_false (by omega)
    have hf : findN F.n (nmB (W.n + 1)) (filesL B c 0) = none := findN_not hnot
    rw [hfs, hf]
    show ({ (syncW W).1.D with fs := putN F.n ⟨nmB (W.n + 1), [], 0⟩ (filesL B c 0) }, (0 : Int)) = _
    have hp : putN F.n ⟨nmB (W.n + 1), [], 0⟩ (filesL B c 0) = filesL (B ++ [c]) [] 0 := by
      unfold putN
      rw [show (F.n ⟨nmB (W.n + 1), [], 0⟩) = nmB (W.n + 1) from rfl, delN_none hf, insN_last (x := ⟨nmB (W.n + 1), [], 0⟩) hbef]
      unfold filesL
      rw [List.mapIdx_append, hn]
      congr 1
      · congr 1
        show [lastF B.length c 0] = [fullF (0 + B.length) c]
        unfold lastF fullF
        rw [Nat.sub_zero, List.take_length, joinL_len, Nat.zero_add]
      · show [_] = [lastF (B ++ [c]).length [] 0]
        unfold lastF
        rw [List.length_append, List.length_singleton]
        rfl
    rw [hp]
  unfold rotW
  rw [if_neg (by omega), if_neg (by rw [hs0]; simp), if_neg (by rw [e]; simp), e]
  refine ⟨rfl, ⟨?_, ?_, rfl, ?_, ?_, rfl, Nat.zero_le _, ?_, ?_⟩, rfl, rfl, h4⟩
  · show W.n + 1 = _
    rw [List.length_append, List.length_singleton, hn]
  · show W.n + 1 ≤ _
    omega
  · exact h1.down
  · exact h1.plan
  · intro r hr
    rw [List.flatten_append, List.append_nil] at hr
    simp only [List.flatten_cons, List.flatten_nil, List.append_nil] at hr
    exact h.recs r hr
  · intro b hb hbn
    rcases List.mem_append.1 hb with hb | hb
    · exact h.most b hb hbn
    · have : b = [] := by simpa using hb
      exact absurd this hbn

/-- A record that Put takes, while no change fails and there is room. -/
def okR (most : Int) (l : List Nat) : Bool := decide (l ≠ [] ∧ l.length ≤ 1048576 ∧ ((l.length + 8 : Nat) : Int) ≤ most)

/-- Put, while no change fails and there is room. -/
theorem LInv.put (h : LInv W B c) (l : List Nat) (hroom : sizeL (B.flatten ++ c) + (l.length + 8) ≤ W.D.room) (hnm : W.n < 99999999) :
    (okR W.most l = false ∧ (putW W l).2 ≠ 0 ∧ (putW W l).1 = W) ∨ (okR W.most l = true ∧ (putW W l).2 = 0 ∧ ∃ B' c', LInv (putW W l).1 B' c' ∧ B'.flatten ++ c' = (B.flatten ++ c) ++ [l] ∧ (putW W l).1.n ≤ W.n + 1 ∧ (putW W l).1.most = W.most ∧ (putW W l).1.D.room = W.D.room ∧
      ((B' = B ∧ c' = c ++ [l] ∧ (putW W l).1.wait = W.wait + 1) ∨ (B' = B ++ [c] ∧ c' = [l] ∧ (putW W l).1.wait = 1))) := by
  unfold putW
  by_cases h1 : l = []
  · rw [if_pos h1]; exact .inl ⟨decide_eq_false (fun q => q.1 h1), by simp, rfl⟩
  rw [if_neg h1]
  by_cases h2 : 1048576 < l.length ∨ W.most < ((l.length + 8 : Nat) : Int)
  · rw [if_pos h2]; exact .inl ⟨decide_eq_false (fun q => by omega), by simp, rfl⟩
  rw [if_neg h2]
  have hm : l.length ≤ 1048576 := by omega
  have hfit : ((l.length + 8 : Nat) : Int) ≤ W.most := by omega
  have hok : okR W.most l = true := decide_eq_true ⟨h1, hm, hfit⟩
  by_cases h3 : 0 < W.size ∧ W.most < ((W.size + (l.length + 8) : Nat) : Int)
  · rw [if_pos h3]
    obtain ⟨r0, r1, r2, r3, r4⟩ := h.rotate hnm
    rw [if_neg (by rw [r0]; simp)]
    obtain ⟨a0, a1, a2, a3, a4⟩ := r1.append h1 hm (by rw [r4, List.append_nil, List.flatten_append]; simpa using hroom) (by rw [r3]; simpa [sizeL_nil] using hfit)
    refine .inr ⟨hok, a0, _, _, a1, by simp, ?_, by rw [a3, r3], by rw [a4, r4], .inr ⟨rfl, rfl, by rw [a2, r2]⟩⟩
    have e1 := a1.n
    have e2 := h.n
    rw [e1, e2, List.length_append, List.length_singleton]
    omega
  · rw [if_neg h3]
    have hfit2 : ((sizeL c + (l.length + 8) : Nat) : Int) ≤ W.most := by
      rw [← h.size]
      by_cases h0 : 0 < W.size
      · have : ¬ W.most < ((W.size + (l.length + 8) : Nat) : Int) := fun q => h3 ⟨h0, q⟩
        omega
      · omega
    obtain ⟨a0, a1, a2, a3, a4⟩ := h.append h1 hm hroom hfit2
    refine .inr ⟨hok, a0, _, _, a1, by rw [List.append_assoc], ?_, a3, a4, .inl ⟨rfl, rfl, a2⟩⟩
    have e1 := a1.n
    have e2 := h.n
    omega
end
end Go.Proofs.Ytngnbmaocdadaaa

/- The walk of a place's file: the name of the current segment. -/
namespace Go.Proofs.Ytngnbmaocdadaaa
open Go.RowKit Go.Maps Go.Shelf

/-- Where a log goes on, as a value. -/
def placeV (n s k : Int) : Value := .agg #[.int .i64 n, .int .i64 s, .int .i64 k]

/-- The cells of a log. -/
def logC (W : WM) (d : Nat) : Array Value := #[.int .i64 (W.n : Int), .int .i64 (W.size : Int), .int .i64 (W.wait : Int), .pointer (some ⟨d, 0, none⟩), .int .i64 W.most]

theorem plfile_any (N : Nat) (s k : Int) (w : World) (h1 : 1 ≤ N) (hN : N ≤ 99999999) :
    Calls Try.prog 32 #[placeV (N : Int) s k] w fun e w' => e = .returned (encStr (nmB N)) ∧ Below w.heap.size w w' := by
  have HI := Lib.hid (fun w1 => segname_yes N w1 h1 hN)
  clear h1 hN
  unfold placeV
  go_enter Try.func32, Try.ntmps32
  go_wp2_with fail
  refine (HI.out _).mono ?_
  rintro e w' ⟨rfl, hb⟩
  have Hb := Lib.hid (((Below.refl w.heap.size w).alloc (Nat.le_refl _) _).trans (hb.mono (by simp)))
  clear hb
  go_wp2
  go_ret
  exact ⟨rfl, Hb.out⟩

end Go.Proofs.Ytngnbmaocdadaaa

/- The walks of newHead and number: four bytes of a number, and back. -/
namespace Go.Proofs.Ytngnbmaocdadaaa
open Go.RowKit Crc

def headV (n : Nat) : Array Value := (u8s (little n)).toArray
theorem headV_size (n : Nat) : (headV n).size = 4 := by simp [headV, u8s, little]
theorem headV_one (n : Nat) : (headV n).all (·.oneCell') = true := by simp [headV, u8s, little, Value.oneCell']
theorem head_info : (Try.prog.info? 72).map (·.size) = some 4 := by kernel_rfl
theorem head_infoV (n : Nat) : (Try.prog.info? 72).map (·.size) = some (headV n).size := by rw [headV_size]; exact head_info

def headCell (n k j : Nat) : Value := if j < k then .int .u8 ((little n).getD j 0 : Nat) else .int .u8 0

theorem row_head {w : World} {b : Nat} {t : TypeId} {n : Nat} (h : w.rowIs b t 4 (headCell n 4)) : w.heap[b]? = some (.cells (headV n) t (0, 0)) := by
  obtain ⟨c, hc, hs, hi⟩ := h
  have e : c = headV n := by
    apply Array.ext_getElem?
    intro i
    by_cases h : i < 4
    · rw [hi i h, headCell, if_pos h]
      rcases i with _ | _ | _ | _ | i
      all_goals first | rfl | omega
    · rw [Array.getElem?_eq_none (by omega), Array.getElem?_eq_none (by rw [headV_size]; omega)]
  rw [hc, e]

def HeadRel (w : World) (n : Nat) (i : Value) (wr : World) : Prop :=
  ∃ k : Nat, k ≤ 4 ∧ i = .int .i64 k ∧ wr.rowIs (w.heap.size + 1) 72 4 (headCell n k) ∧ wr.rowIs w.heap.size 72 4 (fun _ => .int .u8 0) ∧ Below w.heap.size w wr

theorem headRel_start (w : World) (n : Nat) : HeadRel w n (.int .i64 0) ((w.alloc (.cells #[.int .u8 0, .int .u8 0, .int .u8 0, .int .u8 0] 72)).alloc (.cells #[.int .u8 0, .int .u8 0, .int .u8 0, .int .u8 0] 72)) := by
  have hz : ∀ (v : World), (v.alloc (.cells #[.int .u8 0, .int .u8 0, .int .u8 0, .int .u8 0] 72)).rowIs v.heap.size 72 4 (fun _ => .int .u8 0) := fun v =>
    World.rowIs_alloc v _ _ _ (fun i hi => by
      have hi : i < 4 := hi
      rcases i with _ | _ | _ | _ | i
      all_goals first | rfl | omega)
  refine ⟨0, Nat.zero_le _, rfl, ?_, (hz w).alloc _, ((Below.refl _ _).alloc (Nat.le_refl _) _).alloc (by simp) _⟩
  have h := hz (w.alloc (.cells #[.int .u8 0, .int .u8 0, .int .u8 0, .int .u8 0] 72))
  rw [show ∀ o, (w.alloc o).heap.size = w.heap.size + 1 from fun o => by simp] at h
  exact h.congr (fun j _ => by simp [headCell])

theorem headRel_step {w wr : World} {k n : Nat} {z : Int} (hk : k < 4) (hz : z = ((little n).getD k 0 : Nat)) (hrow : wr.rowIs (w.heap.size + 1) 72 4 (headCell n k)) (hres : wr.rowIs w.heap.size 72 4 (fun _ => .int .u8 0)) (hbel : Below w.heap.size w wr) :
    HeadRel w n (.int .i64 ((k : Int) + 1)) (wr.setCell ⟨w.heap.size + 1, k, none⟩ (.int .u8 z)) := by
  subst hz
  refine ⟨k + 1, by omega, by go_num, (hrow.set k _).congr (fun j _ => ?_), hres.setOther (by simp) _, hbel.setCell (by simp) _⟩
  unfold headCell
  by_cases h : j = k
  · subst h; simp
  · rw [if_neg h]
    by_cases h2 : j < k
    · rw [if_pos h2, if_pos (by omega)]
    · rw [if_neg h2, if_neg (by omega)]

set_option maxRecDepth 100000 in
theorem newHead_any (n : Nat) (w : World) (hn : n < 4294967296) :
    Calls Try.prog 28 #[.int .i64 (n : Int)] w fun e w' => e = .returned (.agg (headV n)) ∧ Below w.heap.size w w' := by
  go_enter Try.func28, Try.ntmps28
  go_wp2
  go_loopw [5] (fun i wr => HeadRel w n i wr) (fun i _ => 4 - (intOf i).toNat)
  case atStart => exact headRel_start w n
  case round =>
    obtain ⟨k, hk, rfl, hrow, hres, hbel⟩ := hrel
    by_cases hlt : k < 4
    · have Hc := Lib.hid (hrow.cell hlt)
      have hf := hrow.frozen k
      have hcell := Hc.out
      generalize headCell n k k = old at hcell
      clear Hc
      rcases (show k = 0 ∨ k = 1 ∨ k = 2 ∨ k = 3 by omega) with rfl | rfl | rfl | rfl
      · go_wp2
        go_roundw
        case rel => exact headRel_step (k := 0) (by omega) (by simp [little]) hrow hres hbel
        case measure => simp [intOf]
      · go_wp2
        go_roundw
        case rel => exact headRel_step (k := 1) (by omega) (by simp [little]) hrow hres hbel
        case measure => simp [intOf]
      · go_wp2
        go_roundw
        case rel => exact headRel_step (k := 2) (by omega) (by simp [little]) hrow hres hbel
        case measure => simp [intOf]
      · go_wp2
        go_roundw
        case rel => exact headRel_step (k := 3) (by omega) (by simp [little]) hrow hres hbel
        case measure => simp [intOf]
    · obtain rfl : k = 4 := by omega
      have g1 := row_head hrow
      obtain ⟨old, hg3, hold, _⟩ := hres
      have Hg3 := Lib.hid hg3
      clear hrow hlt hk hg3
      go_wp2_with (first
        | (refine wpList_load_row rfl 72 _ rfl (w.heap.size + 1) rfl 72 (headV n) (0, 0) _ g1 Try.underlying72 rfl (head_infoV n) ?_)
        | (refine wpList_store_row rfl 72 _ _ rfl w.heap.size (headV n) rfl rfl 72 old Hg3.out (head_infoV n) (by rw [hold, headV_size]) (headV_one n) ?_))
      exact bodyPost_ret (v := .agg (headV n)) (results_cell_row (p := 2) (ty := 72) rfl _ _ w.heap.size 72 (headV n) (0, 0) _ rfl (setRow_heap _ _ _ _ _ _ Hg3.out) Try.underlying72 rfl (head_infoV n)) rfl
        ⟨rfl, below_setRow hbel (Nat.le_refl _) _⟩

/-- The number behind k bytes. -/
def part4 (b : Nat → Nat) : Nat → Nat
  | 0 => 0
  | 1 => b 0
  | 2 => b 0 + 256 * b 1
  | 3 => b 0 + 256 * b 1 + 65536 * b 2
  | _ => b 0 + 256 * b 1 + 65536 * b 2 + 16777216 * b 3

theorem or_up {a x s : Nat} (ha : a < 2 ^ s) (h : a + x * 2 ^ s < 4294967296) : bits .or .u32 (a : Int) ((x * 2 ^ s : Nat) : Int) = ((a + x * 2 ^ s : Nat) : Int) := by
  rw [u32_or_nat a (x * 2 ^ s) (by omega) (by omega)]
  congr 1
  rw [Nat.or_comm, Nat.mul_comm x, ← Nat.two_pow_add_eq_or_of_lt ha]
  omega

theorem or_part (b : Nat → Nat) (hb : ∀ i, b i < 256) : ∀ k, k < 4 → bits .or .u32 (part4 b k : Int) ((b k : Int) * 2 ^ (8 * k)) = (part4 b (k + 1) : Int) := by
  intro k hk
  have h0 := hb 0
  have h1 := hb 1
  have h2 := hb 2
  have h3 := hb 3
  have e : ((b k : Int) * 2 ^ (8 * k)) = ((b k * 2 ^ (8 * k) : Nat) : Int) := by simp
  rw [e]
  rcases (show k = 0 ∨ k = 1 ∨ k = 2 ∨ k = 3 by omega) with rfl | rfl | rfl | rfl
  · rw [or_up (by show 0 < 2 ^ (8 * 0); decide) (by simp [part4]; omega)]; simp [part4]
  · rw [or_up (by simp [part4]; omega) (by simp [part4]; omega)]; simp [part4]; omega
  · rw [or_up (by simp [part4]; omega) (by simp [part4]; omega)]; simp [part4]; omega
  · rw [or_up (by simp [part4]; omega) (by simp [part4]; omega)]; simp [part4]; omega

theorem at_head (b : Nat → Nat) (w : World) (k : Nat) (hk : k < 4) :
    (Instr.index 72 (.agg #[.int .u8 (b 0 : Nat), .int .u8 (b 1 : Nat), .int .u8 (b 2 : Nat), .int .u8 (b 3 : Nat)]) (.int .i64 (k : Int))).run Try.prog w = .ok (.int .u8 (b k : Nat)) w := by
  rcases (show k = 0 ∨ k = 1 ∨ k = 2 ∨ k = 3 by omega) with rfl | rfl | rfl | rfl
  · kernel_rfl
  · kernel_rfl
  · kernel_rfl
  · kernel_rfl

end Go.Proofs.Ytngnbmaocdadaaa

/- The walks of Make, of the code and of the reference. -/
namespace Go.Proofs.Ytngnbmaocdadaaa
open Go.RowKit Crc

section
variable {P : Program} (w : World)

/-- 'append(b[:n:n], p...)', whatever is appended. -/
theorem wpList_append_full {ops : Array Oper} {rest : List Oper} {o : Oper} {a : Act} {Q : Exit → Act → World → Prop} (hgd : o.guard = none) (s x : Operand) (t : TypeId)
    (ho : o.op = .call { callee := .builtin .append, args := #[s, x], argTypes := #[t, t] })
    (ht : P.underlying t = some (.slice 5)) (hinfo : (P.info? 5).map (fun i => (i.zero, i.size, i.bytes)) = some (some (.int .u8 0), 1, 1))
    (b : Option Addr) (n : Nat) (l : List Nat) (hs : a.eval s = .slice b n n) (hS : Bytes w b n n l)
    (p : Option Addr) (m c : Nat) (l' : List Nat) (hx : a.eval x = .slice p m c) (hB : Bytes w p m c l')
    (hbytes : n + m ≤ 140737488355328)
    (h : ∀ q k w', Bytes w' q (n + m) k (l ++ l') → Below w.heap.size w w' → wpList P ops Q rest (a.put o.dst (.slice q (n + m) k)) w') : wpList P ops Q (o :: rest) a w := by
  rcases Nat.eq_zero_or_pos m with rfl | hm
  · obtain ⟨i, hi, _, hsz, _⟩ := info_parts hinfo
    have hl' : l' = [] := List.length_eq_zero_iff.1 hB.len
    have hr : (Builtin.append_ #[t, t] o.type #[.slice b n n, .slice p 0 c]).run P w = .ok (.slice b n n) w := by
      refine run_append_nothing w t t o.type 5 i ht hi b n n (Nat.le_refl _) (.slice p 0 c) ?_
      cases p with
      | none => exact Src.ofNil w ht c
      | some ad => exact Src.ofSlice w ht ad 0 c [] (by simp) (fun j u h => by simp at h) (fun u h => by simp at h)
    refine wpList_plain hgd fun K hK => ?_
    unfold Oper.wp execOp
    simp only [ho, resolve, invoke, builtin, Sem.run_bind, Sem.run_pure, Result.andThen_ok, List.map_toArray, List.map_cons, List.map_nil, hs, hx, hr]
    refine hK _ _ (h b n w ?_ (Below.refl _ _))
    rw [hl', List.append_nil]
    exact hS
  · refine wpList_append_capped w hgd s x t ho 5 ht hinfo b n l hs hS p m c l' hx hB hm hbytes fun v' w' g1 g2 => ?_
    obtain ⟨q, k, rfl, hq⟩ := own_slice (l := l ++ l') g1 (fun y hy => by
      rcases List.mem_append.1 hy with hy | hy
      · exact hS.byte y hy
      · exact hB.byte y hy)
    exact h q k w' hq g2
end

theorem slice_headF (B : Nat) (w : World) : (Instr.sliceAt 72 (.pointer (some ⟨B, 0, none⟩)) none none none).run Try.prog w = .ok (.slice (some ⟨B, 0, none⟩) 4 4) w := by
  have e := run_sliceAt_array_all (P := Try.prog) w 72 ⟨B, 0, none⟩ (by kernel_rfl)
  have es : (sizeOf (Try.prog.elem 72)).run Try.prog w = .ok 1 w := by kernel_rfl
  rw [e, es, show Try.prog.arrayLen 72 = 4 by kernel_rfl]
  show Result.ok (slicedAt ⟨B, 0, none⟩ 0 4 4 1) w = _
  unfold slicedAt
  rw [if_neg (by decide)]
  simp [Addr.add]

theorem head_bytes {w : World} {B n : Nat} {t : TypeId} (hn : n < 4294967296) (h : w.heap[B]? = some (.cells (headV n) t (0, 0))) : Bytes w (some ⟨B, 0, none⟩) 4 4 (little n) := by
  refine ⟨rfl, Nat.le_refl _, by omega, little_lt hn, (fun h => by cases h), fun _ => ⟨B, 0, rfl, fun i hi => ?_⟩⟩
  rw [Nat.zero_add, cell_of_row w B i (headV n) t (0, 0) h]
  rcases i with _ | _ | _ | _ | i
  all_goals first | rfl | omega

/-- What Make answers. -/
def MakeEnd (w : World) (l : List Nat) (e : Ending) (w' : World) : Prop :=
  ∃ v, e = .returned (.tuple #[v, .bool true]) ∧ OwnBytes w w' v (frameL l)

theorem make_no (a : Option Addr) (n cap : Nat) (w : World) (hn : 1048576 < n) :
    Calls Try.prog 17 #[.slice a n cap] w fun e w' => e = .returned (.tuple #[.slice none 0 0, .bool false]) ∧ w = w' := by
  go_enter Try.func17, Try.ntmps17
  go_wp2
  go_ret2
  exact ⟨rfl, rfl⟩

theorem make_yes (a : Option Addr) (n cap : Nat) (l : List Nat) (w : World) (hl : Bytes w a n cap l) (hn : n ≤ 1048576) :
    Calls Try.prog 17 #[.slice a n cap] w (MakeEnd w l) := by
  have HB := Lib.hid hl
  clear hl
  have hsl := slice_headF
  go_enter Try.func17, Try.ntmps17
  go_wp2_with fail
  refine (newHead_any n w (by omega)).mono ?_
  rintro e w1 ⟨rfl, hb1⟩
  have Hn := Lib.hid (head_infoV n)
  have H1 := Lib.hid (headV_one n)
  have Hs := Lib.hid (headV_size n)
  have hba : Below w1.heap.size w1 (w1.alloc (.cells (headV n) 72)) := (Below.refl _ _).alloc (Nat.le_refl _) _
  have Hb2 := Lib.hid (hb1.trans (hba.mono hb1.size))
  have HH := Lib.hid (head_bytes (n := n) (by omega) (heap_alloc_new w1 (.cells (headV n) 72)))
  have HL := Lib.hid (HB.out.grow Hb2.out)
  have hlen : (little n ++ l).length = 4 + n := by rw [List.length_append, little_len, HB.out.len]
  have Hlen := Lib.hid hlen
  clear hba hlen
  go_wp2_with (first
    | (refine wpList_store_row rfl 72 _ _ rfl _ (headV n) rfl rfl 72 _ (heap_alloc_new _ _) Hn.out (by rw [Hs.out]; rfl) H1.out ?_; rw [World.setRow_alloc_new])
    | (at_builtin; refine wpList_append_full _ rfl _ _ 22 rfl Try.underlying22 info_u8 _ 4 (little n) rfl HH.out a n cap l rfl HL.out (by omega) ?_; intro q k w2 g1 g2))
  have Hb3 := Lib.hid (Hb2.out.trans (g2.mono Hb2.out.size))
  have HS := Lib.hid (seal_any q (4 + n) k (little n ++ l) w2 g1 (by omega))
  clear g1 g2
  go_wp2_with fail
  refine HS.out.mono ?_
  rintro e w3 ⟨v, rfl, hown, hb4⟩
  have hown : w3.ownsRow w2.heap.size 5 1 v (sealL (little n ++ l)).length (u8s (sealL (little n ++ l))) := hown
  have Hown := Lib.hid hown
  clear hown
  go_wp2
  go_ret2
  refine ⟨v, rfl, ?_, Hb3.out.trans (hb4.mono Hb3.out.size)⟩
  have e : frameL l = sealL (little n ++ l) := by unfold frameL; rw [HB.out.len]
  rw [e]
  exact own_base Hown.out Hb3.out.size

theorem rmake_no (a : Option Addr) (n cap : Nat) (w : World) (hn : 1048576 < n) :
    Calls Try.prog 22 #[.slice a n cap] w fun e w' => e = .returned (.tuple #[.slice none 0 0, .bool false]) ∧ w = w' := by
  go_enter Try.func22, Try.ntmps22
  go_wp2
  go_ret2
  exact ⟨rfl, rfl⟩

theorem rmake_yes (a : Option Addr) (n cap : Nat) (l : List Nat) (w : World) (hl : Bytes w a n cap l) (hn : n ≤ 1048576) :
    Calls Try.prog 22 #[.slice a n cap] w (MakeEnd w l) := by
  have HB := Lib.hid hl
  clear hl
  go_enter Try.func22, Try.ntmps22
  go_wp2_with fail
  refine (little_any n w (by omega)).mono ?_
  rintro e w1 ⟨v, rfl, hown, hb1⟩
  have Hown := Lib.hid hown
  have HL := Lib.hid (HB.out.grow hb1)
  clear hown
  go_wp2_with (at_builtin; refine wpList_append_bytes _ rfl _ _ 22 rfl w.heap.size 5 Try.underlying22 info_u8 _ _ _ rfl Hown.out a n cap l rfl HL.out (by rw [little_len]; omega) hb1.size ?_; intro v' w2 g1 g2)
  have Hb2 := Lib.hid (hb1.grown g2 hb1.size (fun k hk => (Hown.out.lt k hk).1))
  obtain ⟨p, cp, rfl, hC⟩ := own_slice g1 (fun y hy => by
      rcases List.mem_append.1 hy with hy | hy
      · exact little_lt (by omega) y hy
      · exact HB.out.byte y hy)
  have HS := Lib.hid (rseal_any p _ cp (little n ++ l) w2 hC (by rw [little_len]; omega))
  clear g1 g2 hC
  go_wp2_with fail
  refine HS.out.mono ?_
  rintro e w3 ⟨v, rfl, hown, hb4⟩
  have Hown := Lib.hid hown
  clear hown
  go_wp2
  go_ret2
  refine ⟨v, rfl, ?_, Hb2.out.trans (hb4.mono Hb2.out.size)⟩
  have e : frameL l = sealL (little n ++ l) := by unfold frameL; rw [HB.out.len]
  rw [e]
  exact own_base Hown.out Hb2.out.size
end Go.Proofs.Ytngnbmaocdadaaa

