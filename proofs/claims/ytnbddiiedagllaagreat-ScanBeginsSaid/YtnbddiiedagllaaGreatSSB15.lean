import Derived.Test.YtnbddiiedagllaaGreatSSB14
import Derived.Test.YtnbddiiedagllaaGreatSSB1
/- Logs as plain data: what Put and Sync do, and what the files of a log are while no change fails. -/
namespace Go.Proofs.YtnbddiiedagllaaGreat
open Go.RowKit Go.Maps

def nmB (i : Nat) : List UInt8 := (nameL i).map UInt8.ofNat

theorem nmB_inj {i j : Nat} (hi : i ≤ 99999999) (hj : j ≤ 99999999) (h : nmB i = nmB j) : i = j :=
 nameL_inj hi hj (ofNat_inj (nameL_byte i) (nameL_byte j) h)

theorem before_less : ∀ {a b : List Nat}, (∀ x ∈ a, x < 256) → (∀ x ∈ b, x < 256) → bytesBefore (a.map UInt8.ofNat) (b.map UInt8.ofNat) = ltL a b
 | [], [], _, _ => rfl
 | [], _ :: _, _, _ => rfl
 | _ :: _, [], _, _ => rfl
 | c :: r, c' :: r', ha, hb => by
  have hc := ha c (by simp)
  have hc' := hb c' (by simp)
  have e : UInt8.ofNat c < UInt8.ofNat c' ↔ c < c' := by
   rw [UInt8.lt_iff_toNat_lt, UInt8.toNat_ofNat', UInt8.toNat_ofNat']
   omega
  have e2 : UInt8.ofNat c = UInt8.ofNat c' ↔ c = c' := by
   constructor
   ·intro h
    have h2 := congrArg UInt8.toNat h
    rw [UInt8.toNat_ofNat', UInt8.toNat_ofNat'] at h2
    omega
   ·intro h; rw [h]
  have ih := before_less (a := r) (b := r') (fun x hx => ha x (by simp [hx])) (fun x hx => hb x (by simp [hx]))
  rw [List.map_cons, List.map_cons, ltL, bytesBefore, ih]
  by_cases h1 : c < c'
  ·simp [e, h1]
  ·by_cases h2 : c' < c
   ·have h3 : ¬ c = c' := by omega
    simp [e, e2, h1, h2, h3]
   ·have h3 : c = c' := by omega
    subst h3
    simp

theorem nmB_before {i j : Nat} (hi : i ≤ 99999999) (hj : j ≤ 99999999) : bytesBefore (nmB i) (nmB j) = decide (i < j) := by
 unfold nmB
 rw [before_less (nameL_byte i) (nameL_byte j), ltL_name hi hj]

theorem nmB_named (i : Nat) : named (nmB i) = true := by
 unfold named nmB
 have hl : ((nameL i).map UInt8.ofNat).length = 12 := by rw [List.length_map, nameL_len]
 rw [hl, List.all_map]
 have h : (nameL i).all (okByte ∘ UInt8.ofNat) = true := by
  rw [List.all_eq_true]
  intro c hc
  rcases List.mem_append.1 hc with h | h
  ·unfold logL at h
   simp only [List.mem_cons, List.not_mem_nil, or_false] at h
   rcases h with rfl | rfl | rfl | rfl <;> decide
  ·have hd := digN_digit 8 i c h
   show okByte (UInt8.ofNat c) = true
   have : ∀ k : Fin 10, okByte (UInt8.ofNat (48 + k.val)) = true := by decide
   have h2 := this ⟨c - 48, by omega⟩
   rwa [show 48 + (c - 48) = c by omega] at h2
 rw [h]
 rfl

structure WM where
 D : DM
 most : Int
 n : Nat
 size : Nat
 wait : Nat

def syncW (W : WM) : WM × Int :=
 ({ W with D := (syncM (nmB W.n) W.D).1, wait := if (syncM (nmB W.n) W.D).2 = 0 then 0 else W.wait }, (syncM (nmB W.n) W.D).2)

def rotW (W : WM) : WM × Int :=
 if 99999999 ≤ W.n then (W, 2)
 else if (syncM (nmB W.n) W.D).2 ≠ 0 then ({ W with D := (syncM (nmB W.n) W.D).1 }, (syncM (nmB W.n) W.D).2)
 else if (createM (nmB (W.n + 1)) (syncM (nmB W.n) W.D).1).2 ≠ 0 then ({ W with D := (createM (nmB (W.n + 1)) (syncM (nmB W.n) W.D).1).1 }, (createM (nmB (W.n + 1)) (syncM (nmB W.n) W.D).1).2)
 else ({ W with D := (createM (nmB (W.n + 1)) (syncM (nmB W.n) W.D).1).1, n := W.n + 1, size := 0, wait := 0 }, 0)

def appW (W : WM) (l : List Nat) : WM × Int :=
 if (appendM (nmB W.n) (frameL l) W.D).2 = 0 then ({ W with D := (appendM (nmB W.n) (frameL l) W.D).1, size := W.size + (l.length + 8), wait := W.wait + 1 }, 0)
 else ({ W with D := (appendM (nmB W.n) (frameL l) W.D).1 }, (appendM (nmB W.n) (frameL l) W.D).2)

def putW (W : WM) (l : List Nat) : WM × Int :=
 if l = [] then (W, 2)
 else if 1048576 < l.length ∨ W.most < ((l.length + 8 : Nat) : Int) then (W, 4)
 else if 0 < W.size ∧ W.most < ((W.size + (l.length + 8) : Nat) : Int) then (if (rotW W).2 ≠ 0 then rotW W else appW (rotW W).1 l)
 else appW W l

section
variable {pre : List F} {x f : F}

theorem findN_last (hp : ∀ y ∈ pre, y.n ≠ x.n) : findN F.n x.n (pre ++ [x]) = some x := by
 unfold findN
 rw [List.find?_append]
 have : pre.find? (fun y => y.n == x.n) = none := List.find?_eq_none.2 (fun y hy => by simpa using hp y hy)
 rw [this]
 simp

theorem findN_not {n : List UInt8} (hp : ∀ y ∈ pre, y.n ≠ n) : findN F.n n pre = none :=
 List.find?_eq_none.2 (fun y hy => by simpa using hp y hy)

theorem setN_last (hp : ∀ y ∈ pre, y.n ≠ x.n) (hf : f.n = x.n) : setN F.n x (pre ++ [f]) = pre ++ [x] := by
 unfold setN
 rw [List.map_append]
 congr 1
 ·conv => rhs; rw [← List.map_id pre]
  refine List.map_congr_left (fun y hy => ?_)
  have : (y.n == x.n) = false := by simpa using hp y hy
  simp [this]
 ·simp [hf]

theorem insN_last : ∀ {pre : List F}, (∀ y ∈ pre, bytesBefore x.n y.n = false) → insN F.n x pre = pre ++ [x]
 | [], _ => rfl
 | y :: r, h => by
  unfold insN
  rw [h y (by simp)]
  simp only [Bool.false_eq_true, if_false]
  rw [insN_last (fun z hz => h z (by simp [hz]))]
  rfl
end

def fullF (i : Nat) (c : List (List Nat)) : F := ⟨nmB (i + 1), joinL c, (joinL c).length⟩
def lastF (i : Nat) (c : List (List Nat)) (k : Nat) : F := ⟨nmB (i + 1), joinL c, sizeL (c.take (c.length - k))⟩
def filesL (B : List (List (List Nat))) (c : List (List Nat)) (k : Nat) : List F := B.mapIdx fullF ++ [lastF B.length c k]

theorem pre_names {B : List (List (List Nat))} {y : F} (h : y ∈ B.mapIdx fullF) : ∃ i, i < B.length ∧ y.n = nmB (i + 1) := by
 obtain ⟨i, hi, rfl⟩ := List.mem_mapIdx.1 h
 exact ⟨i, hi, rfl⟩

theorem used_append : ∀ a b : List F, usedF (a ++ b) = usedF a + usedF b
 | [], b => by simp [usedF]
 | x :: r, b => by
  have h := used_append r b
  unfold usedF at h ⊢
  rw [List.cons_append, List.map_cons, List.sum_cons, List.map_cons, List.sum_cons, h]
  omega

theorem used_full (B : List (List (List Nat))) : ∀ i, usedF (B.mapIdx fun k c => fullF (i + k) c) = sizeL B.flatten := by
 induction B with
 | nil => intro i; rfl
 | cons c r ih =>
  intro i
  rw [List.mapIdx_cons, List.flatten_cons, sizeL_append]
  have e : (r.mapIdx fun k c => fullF (i + (k + 1)) c) = r.mapIdx fun k c => fullF (i + 1 + k) c := by
   congr 1
   funext k c
   rw [show i + (k + 1) = i + 1 + k by omega]
  show usedF (fullF (i + 0) c :: _) = _
  rw [e]
  have h := ih (i + 1)
  unfold usedF at h ⊢
  rw [List.map_cons, List.sum_cons, h]
  show (joinL c).length + _ = _
  rw [joinL_len]

structure LInv (W : WM) (B : List (List (List Nat))) (c : List (List Nat)) : Prop where
 n : W.n = B.length + 1
 nmax : W.n ≤ 99999999
 fs : W.D.fs = filesL B c W.wait
 down : W.D.down = false
 plan : W.D.plan = 0
 size : W.size = sizeL c
 wait : W.wait ≤ c.length
 recs : ∀ r ∈ B.flatten ++ c, r ≠ [] ∧ r.length ≤ 1048576
 most : ∀ b ∈ B ++ [c], b ≠ [] → ((sizeL b : Nat) : Int) ≤ W.most

theorem filesL_used (B : List (List (List Nat))) (c : List (List Nat)) (k : Nat) : usedF (filesL B c k) = sizeL (B.flatten ++ c) := by
 unfold filesL
 rw [used_append, sizeL_append]
 have h := used_full B 0
 simp only [Nat.zero_add] at h
 have e : (B.mapIdx fun k c => fullF k c) = B.mapIdx fullF := rfl
 rw [e] at h
 rw [h]
 show sizeL B.flatten + usedF [lastF B.length c k] = _
 congr 1
 unfold usedF lastF
 simp [joinL_len]

section
variable {W : WM} {B : List (List (List Nat))} {c : List (List Nat)}

theorem LInv.alive (h : LInv W B c) : failM W.D = W.D := by
 unfold failM
 rw [h.down, h.plan]
 simp
 obtain ⟨⟨room, fs, down, plan⟩, most, n, size, wait⟩ := W
 have := h.down
 have := h.plan
 simp_all

theorem pre_ne (h : B.length + 1 ≤ 99999999) : ∀ y ∈ B.mapIdx fullF, y.n ≠ nmB (B.length + 1) := by
 intro y hy e
 obtain ⟨i, hi, hn⟩ := pre_names hy
 have := nmB_inj (by omega) h (hn.symm.trans e)
 omega

theorem LInv.sync (h : LInv W B c) : (syncW W).2 = 0 ∧ LInv (syncW W).1 B c ∧ (syncW W).1.wait = 0 ∧ (syncW W).1.most = W.most ∧ (syncW W).1.D.room = W.D.room := by
 have hn := h.n
 have hne := pre_ne (B := B) (by rw [← hn]; exact h.nmax)
 have e : syncM (nmB W.n) W.D = ({ W.D with fs := filesL B c 0 }, 0) := by
  unfold syncM chgM
  rw [h.alive, h.down, nmB_named]
  simp only [Bool.false_eq_true, if_false, if_true]
  unfold onM
  rw [h.fs, hn]
  have hx : (lastF B.length c W.wait).n = nmB (B.length + 1) := rfl
  have h1 : findN F.n (nmB (B.length + 1)) (filesL B c W.wait) = some (lastF B.length c W.wait) := findN_last (x := lastF B.length c W.wait) hne
  rw [h1]
  show ({ W.D with fs := setN F.n ⟨nmB (B.length + 1), joinL c, (joinL c).length⟩ W.D.fs }, (0 : Int)) = _
  rw [h.fs]
  have h2 : setN F.n ⟨nmB (B.length + 1), joinL c, (joinL c).length⟩ (filesL B c W.wait) = filesL B c 0 := by
   unfold filesL
   rw [setN_last (x := ⟨nmB (B.length + 1), joinL c, (joinL c).length⟩) (f := lastF B.length c W.wait) hne rfl]
   congr 2
   unfold lastF
   rw [Nat.sub_zero, List.take_length, joinL_len]
  rw [h2]
 unfold syncW
 rw [e]
 exact ⟨rfl, ⟨hn, h.nmax, rfl, h.down, h.plan, h.size, Nat.zero_le _, h.recs, h.most⟩, rfl, rfl, rfl⟩

theorem LInv.append (h : LInv W B c) {l : List Nat} (hl : l ≠ []) (hm : l.length ≤ 1048576) (hroom : sizeL (B.flatten ++ c) + (l.length + 8) ≤ W.D.room) (hfit : ((sizeL c + (l.length + 8) : Nat) : Int) ≤ W.most) :
  (appW W l).2 = 0 ∧ LInv (appW W l).1 B (c ++ [l]) ∧ (appW W l).1.wait = W.wait + 1 ∧ (appW W l).1.most = W.most ∧ (appW W l).1.D.room = W.D.room := by
 have hn := h.n
 have hne := pre_ne (B := B) (by rw [← hn]; exact h.nmax)
 have hw := h.wait
 have e : appendM (nmB W.n) (frameL l) W.D = ({ W.D with fs := filesL B (c ++ [l]) (W.wait + 1) }, 0) := by
  unfold appendM chgM
  rw [h.alive, h.down, nmB_named]
  simp only [Bool.false_eq_true, if_false, if_true]
  unfold onM
  rw [h.fs, hn]
  have h1 : findN F.n (nmB (B.length + 1)) (filesL B c W.wait) = some (lastF B.length c W.wait) := findN_last (x := lastF B.length c W.wait) hne
  rw [h1]
  show (if usedF W.D.fs + (frameL l).length ≤ W.D.room then ({ W.D with fs := setN F.n ⟨nmB (B.length + 1), joinL c ++ frameL l, sizeL (c.take (c.length - W.wait))⟩ W.D.fs }, (0 : Int)) else (W.D, 5)) = _
  rw [h.fs, filesL_used, frameL_len, if_pos hroom]
  have h2 : setN F.n ⟨nmB (B.length + 1), joinL c ++ frameL l, sizeL (c.take (c.length - W.wait))⟩ (filesL B c W.wait) = filesL B (c ++ [l]) (W.wait + 1) := by
   unfold filesL
   rw [setN_last (x := ⟨nmB (B.length + 1), joinL c ++ frameL l, sizeL (c.take (c.length - W.wait))⟩) (f := lastF B.length c W.wait) hne rfl]
   congr 2
   unfold lastF
   rw [joinL_snoc, List.length_append, List.length_singleton, show c.length + 1 - (W.wait + 1) = c.length - W.wait by omega, List.take_append_of_le_length (by omega)]
  rw [h2]
 unfold appW
 rw [e]
 simp only [if_true]
 refine ⟨trivial, ⟨hn, h.nmax, rfl, h.down, h.plan, ?_, ?_, ?_, ?_⟩, trivial, trivial, trivial⟩
 ·show W.size + _ = _
  rw [h.size, sizeL_append, sizeL_cons, sizeL_nil]
 ·show W.wait + 1 ≤ _
  rw [List.length_append, List.length_singleton]
  omega
 ·intro r hr
  rw [← List.append_assoc] at hr
  rcases List.mem_append.1 hr with hr | hr
  ·exact h.recs r hr
  ·have : r = l := by simpa using hr
   rw [this]; exact ⟨hl, hm⟩
 ·intro b hb hbn
  rcases List.mem_append.1 hb with hb | hb
  ·exact h.most b (List.mem_append.2 (.inl hb)) hbn
  ·have : b = c ++ [l] := by simpa using hb
   rw [this, sizeL_append, sizeL_cons, sizeL_nil]
   exact hfit

theorem LInv.rotate (h : LInv W B c) (hnm : W.n < 99999999) :
  (rotW W).2 = 0 ∧ LInv (rotW W).1 (B ++ [c]) [] ∧ (rotW W).1.wait = 0 ∧ (rotW W).1.most = W.most ∧ (rotW W).1.D.room = W.D.room := by
 obtain ⟨h0, h1, h2, h3, h4⟩ := h.sync
 have hn := h.n
 have hs0 : (syncM (nmB W.n) W.D).2 = 0 := h0
 have hD : (syncW W).1.D = (syncM (nmB W.n) W.D).1 := rfl
 have e : createM (nmB (W.n + 1)) (syncM (nmB W.n) W.D).1 = ({ (syncM (nmB W.n) W.D).1 with fs := filesL (B ++ [c]) [] 0 }, 0) := by
  rw [← hD]
  unfold createM chgM
  rw [h1.alive, h1.down, nmB_named]
  simp only [Bool.false_eq_true, if_false, if_true]
  have hfs := h1.fs
  rw [h2] at hfs
  have hnames : ∀ y ∈ filesL B c 0, ∃ i, i < B.length + 1 ∧ y.n = nmB (i + 1) := by
   intro y hy
   rcases List.mem_append.1 hy with hy | hy
   ·obtain ⟨i, hi, e⟩ := pre_names hy
    exact ⟨i, by omega, e⟩
   ·have : y = lastF B.length c 0 := by simpa using hy
    exact ⟨B.length, by omega, by rw [this]; rfl⟩
  have hnot : ∀ y ∈ filesL B c 0, y.n ≠ nmB (W.n + 1) := by
   intro y hy e
   obtain ⟨i, hi, e2⟩ := hnames y hy
   have := nmB_inj (by omega) (by omega) (e2.symm.trans e)
   omega
  have hbef : ∀ y ∈ filesL B c 0, bytesBefore (nmB (W.n + 1)) y.n = false := by
   intro y hy
   obtain ⟨i, hi, e2⟩ := hnames y hy
   rw [e2, nmB_before (by omega) (by omega)]
   exact decide_eq_false (by omega)
  have hf : findN F.n (nmB (W.n + 1)) (filesL B c 0) = none := findN_not hnot
  rw [hfs, hf]
  show ({ (syncW W).1.D with fs := putN F.n ⟨nmB (W.n + 1), [], 0⟩ (filesL B c 0) }, (0 : Int)) = _
  have hp : putN F.n ⟨nmB (W.n + 1), [], 0⟩ (filesL B c 0) = filesL (B ++ [c]) [] 0 := by
   unfold putN
   rw [show (F.n ⟨nmB (W.n + 1), [], 0⟩) = nmB (W.n + 1) from rfl, delN_none hf, insN_last (x := ⟨nmB (W.n + 1), [], 0⟩) hbef]
   unfold filesL
   rw [List.mapIdx_append, hn]
   congr 1
   ·congr 1
    show [lastF B.length c 0] = [fullF (0 + B.length) c]
    unfold lastF fullF
    rw [Nat.sub_zero, List.take_length, joinL_len, Nat.zero_add]
   ·show [_] = [lastF (B ++ [c]).length [] 0]
    unfold lastF
    rw [List.length_append, List.length_singleton]
    rfl
  rw [hp]
 unfold rotW
 rw [if_neg (by omega), if_neg (by rw [hs0]; simp), if_neg (by rw [e]; simp), e]
 refine ⟨rfl, ⟨?_, ?_, rfl, ?_, ?_, rfl, Nat.zero_le _, ?_, ?_⟩, rfl, rfl, h4⟩
 ·show W.n + 1 = _
  rw [List.length_append, List.length_singleton, hn]
 ·show W.n + 1 ≤ _
  omega
 ·exact h1.down
 ·exact h1.plan
 ·intro r hr
  rw [List.flatten_append, List.append_nil] at hr
  simp only [List.flatten_cons, List.flatten_nil, List.append_nil] at hr
  exact h.recs r hr
 ·intro b hb hbn
  rcases List.mem_append.1 hb with hb | hb
  ·exact h.most b hb hbn
  ·have : b = [] := by simpa using hb
   exact absurd this hbn

def okR (most : Int) (l : List Nat) : Bool := decide (l ≠ [] ∧ l.length ≤ 1048576 ∧ ((l.length + 8 : Nat) : Int) ≤ most)

theorem LInv.put (h : LInv W B c) (l : List Nat) (hroom : sizeL (B.flatten ++ c) + (l.length + 8) ≤ W.D.room) (hnm : W.n < 99999999) :
  (okR W.most l = false ∧ (putW W l).2 ≠ 0 ∧ (putW W l).1 = W) ∨ (okR W.most l = true ∧ (putW W l).2 = 0 ∧ ∃ B' c', LInv (putW W l).1 B' c' ∧ B'.flatten ++ c' = (B.flatten ++ c) ++ [l] ∧ (putW W l).1.n ≤ W.n + 1 ∧ (putW W l).1.most = W.most ∧ (putW W l).1.D.room = W.D.room ∧
   ((B' = B ∧ c' = c ++ [l] ∧ (putW W l).1.wait = W.wait + 1) ∨ (B' = B ++ [c] ∧ c' = [l] ∧ (putW W l).1.wait = 1))) := by
 unfold putW
 by_cases h1 : l = []
 ·rw [if_pos h1]; exact .inl ⟨decide_eq_false (fun q => q.1 h1), by simp, rfl⟩
 rw [if_neg h1]
 by_cases h2 : 1048576 < l.length ∨ W.most < ((l.length + 8 : Nat) : Int)
 ·rw [if_pos h2]; exact .inl ⟨decide_eq_false (fun q => by omega), by simp, rfl⟩
 rw [if_neg h2]
 have hm : l.length ≤ 1048576 := by omega
 have hfit : ((l.length + 8 : Nat) : Int) ≤ W.most := by omega
 have hok : okR W.most l = true := decide_eq_true ⟨h1, hm, hfit⟩
 by_cases h3 : 0 < W.size ∧ W.most < ((W.size + (l.length + 8) : Nat) : Int)
 ·rw [if_pos h3]
  obtain ⟨r0, r1, r2, r3, r4⟩ := h.rotate hnm
  rw [if_neg (by rw [r0]; simp)]
  obtain ⟨a0, a1, a2, a3, a4⟩ := r1.append h1 hm (by rw [r4, List.append_nil, List.flatten_append]; simpa using hroom) (by rw [r3]; simpa [sizeL_nil] using hfit)
  refine .inr ⟨hok, a0, _, _, a1, by simp, ?_, by rw [a3, r3], by rw [a4, r4], .inr ⟨rfl, rfl, by rw [a2, r2]⟩⟩
  have e1 := a1.n
  have e2 := h.n
  rw [e1, e2, List.length_append, List.length_singleton]
  omega
 ·rw [if_neg h3]
  have hfit2 : ((sizeL c + (l.length + 8) : Nat) : Int) ≤ W.most := by
   rw [← h.size]
   by_cases h0 : 0 < W.size
   ·have : ¬ W.most < ((W.size + (l.length + 8) : Nat) : Int) := fun q => h3 ⟨h0, q⟩
    omega
   ·omega
  obtain ⟨a0, a1, a2, a3, a4⟩ := h.append h1 hm hroom hfit2
  refine .inr ⟨hok, a0, _, _, a1, by rw [List.append_assoc], ?_, a3, a4, .inl ⟨rfl, rfl, a2⟩⟩
  have e1 := a1.n
  have e2 := h.n
  omega
end
end Go.Proofs.YtnbddiiedagllaaGreat

/- Logs as plain data: Sync, the change of segments and appending, as a log and a code. -/
namespace Go.Proofs.YtnbddiiedagllaaGreat
open Go.RowKit Go.Maps

theorem rotW_eq (W : WM) (hN : W.n < 99999999) : rotW W = ((if (syncM (nmB W.n) W.D).2 = 0 then (if (createM (nmB (W.n + 1)) (syncM (nmB W.n) W.D).1).2 = 0 then { W with D := (createM (nmB (W.n + 1)) (syncM (nmB W.n) W.D).1).1, n := W.n + 1, size := 0, wait := 0 } else { W with D := (createM (nmB (W.n + 1)) (syncM (nmB W.n) W.D).1).1 }) else { W with D := (syncM (nmB W.n) W.D).1 }),
  (if (syncM (nmB W.n) W.D).2 = 0 then (createM (nmB (W.n + 1)) (syncM (nmB W.n) W.D).1).2 else (syncM (nmB W.n) W.D).2)) := by
 unfold rotW
 rw [if_neg (by omega)]
 by_cases h1 : (syncM (nmB W.n) W.D).2 = 0
 ·rw [if_neg (by simpa using h1), if_pos h1, if_pos h1]
  by_cases h2 : (createM (nmB (W.n + 1)) (syncM (nmB W.n) W.D).1).2 = 0
  ·rw [if_neg (by simpa using h2), if_pos h2, h2]
  ·rw [if_pos h2, if_neg h2]
 ·rw [if_pos h1, if_neg h1, if_neg h1]

theorem syncM_count (n : List UInt8) (M : DM) : (syncM n M).1.fs.length = M.fs.length := by
 have hf : (failM M).fs = M.fs := by unfold failM; split <;> (try split) <;> rfl
 unfold syncM chgM onM
 split
 ·rw [hf]
 ·split
  ·split
   ·rw [hf]
   ·show (setN F.n _ (failM M).fs).length = _
    rw [hf]
    exact List.length_map _
  ·rw [hf]

theorem appW_eq (W : WM) (l : List Nat) : appW W l = ((if (appendM (nmB W.n) (frameL l) W.D).2 = 0 then { W with D := (appendM (nmB W.n) (frameL l) W.D).1, size := W.size + (l.length + 8), wait := W.wait + 1 } else { W with D := (appendM (nmB W.n) (frameL l) W.D).1 }), (appendM (nmB W.n) (frameL l) W.D).2) := by
 unfold appW
 by_cases h : (appendM (nmB W.n) (frameL l) W.D).2 = 0
 ·rw [if_pos h, if_pos h, h]
 ·rw [if_neg h, if_neg h]

theorem syncW_eq (W : WM) : syncW W = ((if (syncM (nmB W.n) W.D).2 = 0 then { W with D := (syncM (nmB W.n) W.D).1, wait := 0 } else { W with D := (syncM (nmB W.n) W.D).1 }), (syncM (nmB W.n) W.D).2) := by
 unfold syncW
 by_cases h : (syncM (nmB W.n) W.D).2 = 0
 ·rw [if_pos h, if_pos h]
 ·rw [if_neg h, if_neg h]

theorem failM_rm (M : DM) : (failM M).room = M.room ∧ (failM M).fs = M.fs := by
 unfold failM; split
 ·exact ⟨rfl, rfl⟩
 ·split <;> exact ⟨rfl, rfl⟩

theorem syncM_rm (n : List UInt8) (M : DM) : (syncM n M).1.room = M.room := by
 unfold syncM chgM onM
 split
 ·exact (failM_rm M).1
 ·split
  ·split
   ·exact (failM_rm M).1
   ·exact (failM_rm M).1
  ·exact (failM_rm M).1

theorem insN_len {α : Type} (f : α → List UInt8) (x : α) (l : List α) : (insN f x l).length = l.length + 1 := (perm_insN f x l).length_eq

theorem putN_len {α : Type} (f : α → List UInt8) (x : α) (l : List α) : (putN f x l).length ≤ l.length + 1 := by
 unfold putN
 rw [insN_len]
 unfold delN
 have := List.length_filter_le (fun y => !(f y == f x)) l
 omega

theorem createM_rm (n : List UInt8) (M : DM) : (createM n M).1.room = M.room ∧ (createM n M).1.fs.length ≤ M.fs.length + 1 := by
 unfold createM chgM
 split
 ·exact ⟨(failM_rm M).1, by rw [(failM_rm M).2]; omega⟩
 ·split
  ·dsimp only
   split
   ·exact ⟨(failM_rm M).1, by rw [(failM_rm M).2]; omega⟩
   ·refine ⟨(failM_rm M).1, ?_⟩
    have := putN_len F.n ⟨n, [], 0⟩ (failM M).fs
    rw [(failM_rm M).2] at this ⊢
    exact this
  ·exact ⟨(failM_rm M).1, by rw [(failM_rm M).2]; omega⟩

theorem rotW_facts (W : WM) : (rotW W).1.most = W.most ∧ (rotW W).1.D.room = W.D.room ∧ (rotW W).1.D.fs.length ≤ W.D.fs.length + 1 ∧ ((rotW W).2 = 0 → (rotW W).1.n = W.n + 1 ∧ W.n < 99999999 ∧ (rotW W).1.size = 0 ∧ (rotW W).1.wait = 0) ∧ ((rotW W).2 ≠ 0 → (rotW W).1.n = W.n ∧ (rotW W).1.size = W.size ∧ (rotW W).1.wait = W.wait) := by
 by_cases hN : W.n < 99999999
 ·rw [rotW_eq W hN]
  have h1 := syncM_rm (nmB W.n) W.D
  have h2 := createM_rm (nmB (W.n + 1)) (syncM (nmB W.n) W.D).1
  have h3 := syncM_count (nmB W.n) W.D
  rw [h1, h3] at h2
  split
  ·split
   ·exact ⟨rfl, h2.1, h2.2, fun _ => ⟨rfl, hN, rfl, rfl⟩, fun h => absurd (by assumption) h⟩
   ·exact ⟨rfl, h2.1, h2.2, fun h => absurd h (by assumption), fun _ => ⟨rfl, rfl, rfl⟩⟩
  ·exact ⟨rfl, h1, by show (syncM (nmB W.n) W.D).1.fs.length ≤ _; omega, fun h => absurd h (by assumption), fun _ => ⟨rfl, rfl, rfl⟩⟩
 ·have e : rotW W = (W, 2) := by unfold rotW; rw [if_pos (by omega)]
  rw [e]
  exact ⟨rfl, rfl, by show W.D.fs.length ≤ _; omega, fun h => absurd (show (2 : Int) = 0 from h) (by decide), fun _ => ⟨rfl, rfl, rfl⟩⟩

end Go.Proofs.YtnbddiiedagllaaGreat

/- The walks of the reference's Name and Number of segments. -/
namespace Go.Proofs.YtnbddiiedagllaaGreat
open Go.RowKit

theorem sg_ten_all : ∀ d : Fin 10, (ByteArray.mk #[48, 49, 50, 51, 52, 53, 54, 55, 56, 57]).extract d.val (d.val + 1) = str [48 + d.val] := by decide +kernel
theorem sg_ten_at {d : Nat} (h : d < 10) : (ByteArray.mk #[48, 49, 50, 51, 52, 53, 54, 55, 56, 57]).extract d (d + 1) = str [48 + d] := sg_ten_all ⟨d, h⟩

theorem digN_front : ∀ k n, digN (k + 1) n = (48 + n / 10 ^ k % 10) :: digN k n
 | 0, n => by simp [digN]
 | k + 1, n => by
  have e : n / 10 / 10 ^ k = n / 10 ^ (k + 1) := by rw [Nat.div_div_eq_div_mul, Nat.pow_succ, Nat.mul_comm]
  show digN (k + 1) (n / 10) ++ [48 + n % 10] = _
  rw [digN_front k (n / 10), e, List.cons_append]; rfl

theorem tmod_ten (m : Nat) : (m : Int).tmod 10 = ((m % 10 : Nat) : Int) := by rw [Int.tmod_eq_emod_of_nonneg (by omega)]; omega
theorem tdiv_ten (m : Nat) : (m : Int).tdiv 10 = ((m / 10 : Nat) : Int) := by rw [Int.tdiv_eq_ediv_of_nonneg (by omega)]; omega

def NmRel (N : Nat) (x s i : Value) : Prop := ∃ k : Nat, k ≤ 8 ∧ x = .int .i64 ((N / 10 ^ k : Nat) : Int) ∧ s = .string (str (digN k N)) ∧ i = .int .i64 (k : Int)

def NameEnd (n : Int) (e : Ending) : Prop := (1 ≤ n ∧ n ≤ 99999999 ∧ e = .returned (.tuple #[.string (str (nameL n.toNat)), .bool true])) ∨ (¬ (1 ≤ n ∧ n ≤ 99999999) ∧ e = .returned (.tuple #[.string (str []), .bool false]))

set_option maxRecDepth 100000 in
set_option maxHeartbeats 800000 in
theorem rsegname_yes (N : Nat) (w : World) (h1 : 1 ≤ N) (hN : N ≤ 99999999) :
  Calls Tryz.prog 69 #[.int .i64 (N : Int)] w fun e w' => e = .returned (.tuple #[.string (str (nameL N)), .bool true]) ∧ w = w' := by
 have hlo : ¬ ((N : Int) < 1) := by omega
 have hhi : ¬ ((99999999 : Int) < (N : Int)) := by omega
 have Hst := Lib.hid (show NmRel N (.int .i64 (N : Int)) (.string ⟨#[]⟩) (.int .i64 0) from ⟨0, by omega, by simp, rfl, rfl⟩)
 go_enter Tryz.func69, Tryz.ntmps69
 go_wp2
 clear hlo hhi
 go_loop [0, 4, 5, 6] (fun x s i _ => NmRel N x s i) (fun _ _ i _ => 8 - (intOf i).toNat)
 case atStart => exact Hst.out
 case round =>
  obtain ⟨k, hk, rfl, rfl, rfl⟩ := hrel
  by_cases h8 : k < 8
  ·have hm : N / 10 ^ k ≤ 99999999 := Nat.le_trans (Nat.div_le_self _ _) hN
   have hnext : N / 10 ^ k / 10 = N / 10 ^ (k + 1) := by rw [Nat.div_div_eq_div_mul, Nat.pow_succ]
   have hcat := str_append [48 + N / 10 ^ k % 10] (digN k N)
   rw [show [48 + N / 10 ^ k % 10] ++ digN k N = digN (k + 1) N from (digN_front k N).symm] at hcat
   have hd : N / 10 ^ k % 10 < 10 := Nat.mod_lt _ (by omega)
   have hex := sg_ten_at hd
   have hmod : ((N / 10 ^ k : Nat) : Int).tmod 10 = ((N / 10 ^ k % 10 : Nat) : Int) := tmod_ten _
   have hdiv : ((N / 10 ^ k : Nat) : Int).tdiv 10 = ((N / 10 ^ (k + 1) : Nat) : Int) := by rw [tdiv_ten, hnext]
   have hsz : (str (digN k N)).size ≤ 1000 := by rw [str_size, digN_len]; omega
   have hsz1 : (str [48 + N / 10 ^ k % 10]).size = 1 := by rw [str_size]; rfl
   have Hnext := Lib.hid (show NmRel N (.int .i64 ((N / 10 ^ (k + 1) : Nat) : Int)) (.string (str (digN (k + 1) N))) (.int .i64 ((k + 1 : Nat) : Int)) from ⟨k + 1, by omega, rfl, rfl, rfl⟩)
   have hm2 : N / 10 ^ (k + 1) ≤ 99999999 := Nat.le_trans (Nat.div_le_self _ _) hN
   clear hnext
   generalize str (digN (k + 1) N) = S at *
   generalize str (digN k N) = s at *
   generalize N / 10 ^ k % 10 = d at *
   generalize N / 10 ^ (k + 1) = m2 at *
   generalize N / 10 ^ k = m at *
   generalize str [48 + d] = s1 at *
   go_wp2
   go_round
   case rel => exact Hnext.out
   case measure => simp [intOf]; omega
  ·obtain rfl : k = 8 := by omega
   have hcat := str_append logL (digN 8 N)
   rw [show logL ++ digN 8 N = nameL N from rfl] at hcat
   have hsz : (str (digN 8 N)).size ≤ 1000 := by rw [str_size, digN_len]; omega
   have hL : str logL = ⟨#[108, 111, 103, 45]⟩ := rfl
   rw [hL] at hcat
   generalize hS : str (nameL N) = S at *
   have HS := Lib.hid hS
   clear hS
   generalize str (digN 8 N) = s at *
   go_wp2
   go_ret2
   exact ⟨by rw [HS.out]; rfl, rfl⟩

theorem rsegname_no (n : Int) (w : World) (h : ¬ (1 ≤ n ∧ n ≤ 99999999)) :
  Calls Tryz.prog 69 #[.int .i64 n] w fun e w' => e = .returned (.tuple #[.string (str []), .bool false]) ∧ w = w' := by
 have he : str [] = ⟨#[]⟩ := rfl
 rw [he]
 by_cases h1 : n < 1
 ·clear h
  go_enter Tryz.func69, Tryz.ntmps69
  go_wp2
  go_ret2
  exact ⟨rfl, rfl⟩
 ·have h2 : 99999999 < n := by omega
  clear h
  go_enter Tryz.func69, Tryz.ntmps69
  go_wp2
  go_ret2
  exact ⟨rfl, rfl⟩

theorem rsegname_any (n : Int) (w : World) : Calls Tryz.prog 69 #[.int .i64 n] w fun e w' => NameEnd n e ∧ w = w' := by
 by_cases h : 1 ≤ n ∧ n ≤ 99999999
 ·obtain ⟨N, rfl⟩ : ∃ N : Nat, n = (N : Int) := ⟨n.toNat, by omega⟩
  refine (rsegname_yes N w (by omega) (by omega)).mono ?_
  rintro e w' ⟨rfl, rfl⟩
  exact ⟨.inl ⟨h.1, h.2, rfl⟩, rfl⟩
 ·refine (rsegname_no n w h).mono ?_
  rintro e w' ⟨rfl, rfl⟩
  exact ⟨.inr ⟨h, rfl⟩, rfl⟩
end Go.Proofs.YtnbddiiedagllaaGreat

