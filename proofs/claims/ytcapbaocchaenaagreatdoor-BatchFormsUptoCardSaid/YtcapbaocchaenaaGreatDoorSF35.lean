import Derived.Test.YtcapbaocchaenaaGreatDoorSF34
import Derived.Test.YtcapbaocchaenaaGreatDoorSF30
import Derived.Test.YtcapbaocchaenaaGreatDoorSF31
import Derived.Test.YtcapbaocchaenaaGreatDoorSF17
import Derived.Test.YtcapbaocchaenaaGreatDoorSF28
import Derived.Test.YtcapbaocchaenaaGreatDoorSF33
import Derived.Test.YtcapbaocchaenaaGreatDoorSF32
import Derived.RegionTactic
/- The walks of the readers of events' fields N and Value. -/
namespace Go.Proofs.YtcapbaocchaenaaGreatDoor
open Go.RowKit Go.Shelf Fl
attribute [local go_sem] run_store_func run_store_nilFunc

/-- A small number. -/
def smallE (x : Nat) : Nat := if x ≤ 2147483647 then x else 0

set_option maxRecDepth 100000 in
theorem small11_any (x : Nat) (hx : x < 18446744073709551616) (w : World) :
    Calls Tryz.prog 76 #[.int .u64 (x : Int)] w fun e w' => e = .returned (.tuple #[.int .i64 ((smallE x : Nat) : Int), .bool (decide (x ≤ 2147483647))]) ∧ w = w' := by
  unfold smallE
  by_cases h : x ≤ 2147483647
  · rw [if_pos h, decide_eq_true h]
    have h1 : ¬ (2147483647 : Int) < (x : Int) := by omega
    have h2 : IntKind.i64.wrap (x : Int) = (x : Int) := by rw [IntKind.wrap_i64] <;> omega
    go_enter Tryz.func76, Tryz.ntmps76
    go_wp2
    exact bodyPost_ret (v := .tuple #[.int .i64 (x : Int), .bool true]) (by simp [results, Tryz.results76, go_sem, *]) rfl ⟨rfl, rfl⟩
  · rw [if_neg h, decide_eq_false h]
    have h1 : (2147483647 : Int) < (x : Int) := by omega
    go_enter Tryz.func76, Tryz.ntmps76
    go_wp2
    exact bodyPost_ret (v := .tuple #[.int .i64 0, .bool false]) (by simp [results, Tryz.results76, go_sem, *]) rfl ⟨rfl, rfl⟩

set_option maxRecDepth 100000 in
set_option maxHeartbeats 3200000 in
theorem fr2_any (K : Nat → Prop) (A B g E : Nat) (l : List Nat) (w : World) (hB : Boxes w A B g E) (hne : A ≠ g ∧ B ≠ g ∧ E ≠ g ∧ A ≠ E ∧ B ≠ E) (hK : ¬ K E) (hR : RdK K w g l true)
    (k : Int) (id : Nat) (n : Int) (t : Nat) (nm tx : List Nat) (vk vn : Int) (vf : Nat) (vs : List Nat) (a : Option Addr) (len cap : Nat) (hE : w.heap[E]? = some (.cells (evC k id n t nm tx vk vn vf vs a len cap) 45 (0, 0))) :
    Calls Tryz.prog 114 #[.pointer (some ⟨A, 0, none⟩), .pointer (some ⟨B, 0, none⟩)] w fun e w' => e = .returned (.bool (decide ((readN l true).1 ≤ 2147483647) && (readN l true).2.2)) ∧ RdK K w' g (readN l true).2.1 (readN l true).2.2 ∧ TwoG w w' g E ∧ w'.heap[E]? = some (.cells (evC k id ((smallE (readN l true).1 : Nat) : Int) t nm tx vk vn vf vs a len cap) 45 (0, 0)) := by
  have HB := Lib.hid hB
  have HU := Lib.hid (fun W (h : RdK K W g l true) => mUintK _ g _ true W W (orNone_some g W) h)
  have hlt := readN_lt g l true w hR.rd
  obtain ⟨x, l2, ok, hx⟩ : ∃ x l2 ok, readN l true = (x, l2, ok) := ⟨_, _, _, rfl⟩
  rw [hx] at HU hlt ⊢
  have HS := Lib.hid (fun W => small11_any x hlt W)
  have HE := Lib.hid hE
  have HR := Lib.hid hR
  have Hne := Lib.hid hne
  have HK := Lib.hid hK
  obtain ⟨q, hq⟩ : ∃ q : Bool, q = decide (x ≤ 2147483647) := ⟨_, rfl⟩
  rw [← hq] at HS
  change Calls _ _ _ _ fun e w' => e = .returned (.bool (decide (x ≤ 2147483647) && ok)) ∧ RdK K w' g l2 ok ∧ TwoG w w' g E ∧ w'.heap[E]? = some (.cells (evC k id ((smallE x : Nat) : Int) t nm tx vk vn vf vs a len cap) 45 (0, 0))
  rw [← hq]
  generalize smallE x = y at *
  clear hE hR hB hx hne hK hlt hq
  go_enter Tryz.func114, Tryz.ntmps114
  go_wp2_with fail
  go_region_held3 (fun W => W.cell? ⟨A, 0, none⟩ = some (.pointer (some ⟨g, 0, none⟩)) ∧ W.cell? ⟨B, 0, none⟩ = some (.pointer (some ⟨E, 0, none⟩)))
    (first | exact (HB.out.below ((Below.refl _ _).drew)).cells | exact hB2.cells | exact (hB2.set Hne.out _ _).cells)
    (first
      | (go_at_call 41; (with_reducible refine (HU.out _ (HR.out.below ((Below.refl _ _).drew))).mono ?_); rintro e w2 ⟨rfl, h2⟩
         have hB2 := (HB.out.below ((Below.refl _ _).drew)).turn Hne.out h2.2
         have hE2 := evAt_turn (((Below.refl _ _).drew.block _ (Array.getElem?_eq_some_iff.1 HE.out).1).trans HE.out) Hne.out.2.2.1 h2.2
         have e1 := (box11 hE2).2.2.1
         have f1 := froz hE2 2
         have H2 := Lib.hid h2
         have HE2 := Lib.hid hE2
         clear h2 hE2)
      | (go_at_call 76; (with_reducible refine (HS.out _).mono ?_); rintro e w3 ⟨rfl, rfl⟩))
  have hB3 := hB2.set Hne.out 2 (.int .i64 (y : Int))
  have HR3 := Lib.hid (H2.out.1.setE (i := 2) Hne.out.2.2.1 HK.out (.int .i64 (y : Int)))
  have HT3 := Lib.hid (((((TwoG.refl w g E).below (Below.refl _ _).drew)).trans (TwoG.of H2.out.2)).set 2 (.int .i64 (y : Int)))
  have HE3 := Lib.hid (set_headE HE2.out (i := 2) (.int .i64 (y : Int)))
  obtain ⟨c0, c1⟩ := hB3.cells
  clear hB2 e1 f1 hB3
  generalize w2.setCell ⟨E, 2, none⟩ (.int .i64 (y : Int)) = w3 at *
  cases q
  · go_wp2
    go_ret
    exact ⟨rfl, HR3.out, HT3.out, HE3.out⟩
  · go_wp2_with fail
    refine (mOk _ g l2 ok _ _ (orNone_some g _) HR3.out.rd).mono ?_
    rintro e w4 ⟨rfl, rfl⟩
    go_wp2
    go_ret
    exact ⟨rfl, HR3.out, HT3.out, HE3.out⟩

/-- What Read answers: five cells and a flag. -/
def FiveB (w w' : World) (l : List Nat) (k' n' : Int) (f : Nat) (s : List Nat) (a : Option Addr) (len cap : Nat) (b : Bool) (ls : List Nat) (ok : Bool) : Prop :=
  (b = true ∧ ∃ u : V, u.kind = k' ∧ u.n = n' ∧ u.f = f ∧ u.s = s ∧ u.l.length = len ∧ VInP (fun b => w.heap.size ≤ b ∧ b < w'.heap.size) w' u (cells5 u.kind u.n u.f u.s a u.l.length cap) ∧ IsV 8 l u ls ∧ ok = true) ∨ (b = false ∧ NoV 8 l)

theorem ReadAll.five {K : Nat → Prop} {w w' : World} {g : Nat} {l : List Nat} {e : Ending} (h : ReadAll K w g l e w') :
    ∃ (k' n' : Int) (f : Nat) (s : List Nat) (a : Option Addr) (len cap : Nat) (b : Bool) (ls : List Nat) (ok : Bool), e = .returned (.tuple #[.agg #[.int .i64 k', .int .i64 n', .float .f64 f, .string (str s), .slice a len cap], .bool b]) ∧ RdEndK K w g (ls, ok) w' ∧ FiveB w w' l k' n' f s a len cap b ls ok := by
  rcases h with ⟨u, rest, a, cap, rfl, hv, hi, hr⟩ | ⟨hno, rfl, ⟨ls, ok⟩, hr⟩
  · exact ⟨u.kind, u.n, u.f, u.s, a, u.l.length, cap, true, rest, true, rfl, hr, .inl ⟨rfl, u, rfl, rfl, rfl, rfl, rfl, hv, hi, rfl⟩⟩
  · exact ⟨0, 0, 0, [], none, 0, 0, false, ls, ok, rfl, hr, .inr ⟨rfl, hno⟩⟩

theorem set5E {w : World} {E : Nat} {v0 v1 v2 v3 v4 v5 v6 v7 v8 v9 v10 : Value} {t : TypeId} {m : Nat × Nat} (h : w.heap[E]? = some (.cells #[v0, v1, v2, v3, v4, v5, v6, v7, v8, v9, v10] t m)) (u6 u7 u8 u9 u10 : Value) :
    (((((w.setCell ⟨E, 6, none⟩ u6).setCell ⟨E, 7, none⟩ u7).setCell ⟨E, 8, none⟩ u8).setCell ⟨E, 9, none⟩ u9).setCell ⟨E, 10, none⟩ u10).heap[E]? = some (.cells #[v0, v1, v2, v3, v4, v5, u6, u7, u8, u9, u10] t m) :=
  set_headE (set_headE (set_headE (set_headE (set_headE h u6) u7) u8) u9) u10

/-- What the reader of values answers. -/
def Fr6End (K : Nat → Prop) (w : World) (g E : Nat) (l : List Nat) (k : Int) (id : Nat) (n : Int) (t : Nat) (nm tx : List Nat) (e : Ending) (w' : World) : Prop :=
  (∃ (u : V) (rest : List Nat) (a : Option Addr) (cap : Nat), e = .returned (.bool true) ∧ IsV 8 l u rest ∧ RdK K w' g rest true ∧ TwoG w w' g E ∧ w'.heap[E]? = some (.cells (evC k id n t nm tx u.kind u.n u.f u.s a u.l.length cap) 45 (0, 0)) ∧ VInP (fun b => w.heap.size ≤ b ∧ b < w'.heap.size) w' u (cells5 u.kind u.n u.f u.s a u.l.length cap)) ∨
  (NoV 8 l ∧ e = .returned (.bool false) ∧ (∃ (ls : List Nat) (ok : Bool), RdK K w' g ls ok) ∧ TwoG w w' g E)

theorem set5O {w : World} {E j : Nat} (h : j ≠ E) (u6 u7 u8 u9 u10 : Value) :
    (((((w.setCell ⟨E, 6, none⟩ u6).setCell ⟨E, 7, none⟩ u7).setCell ⟨E, 8, none⟩ u8).setCell ⟨E, 9, none⟩ u9).setCell ⟨E, 10, none⟩ u10).heap[j]? = w.heap[j]? := by
  simp [World.setCell, Array.getElem?_modify, Ne.symm h]

set_option maxRecDepth 100000 in
set_option maxHeartbeats 3200000 in
theorem fr6_any (K : Nat → Prop) (A B g E : Nat) (l : List Nat) (w : World) (hB : Boxes w A B g E) (hne : A ≠ g ∧ B ≠ g ∧ E ≠ g ∧ A ≠ E ∧ B ≠ E) (hK : ¬ K E) (hKb : ∀ b, K b → b < w.heap.size) (hl : l.length ≤ 100000000000) (hR : RdK K w g l true)
    (k : Int) (id : Nat) (n : Int) (t : Nat) (nm tx : List Nat) (vk vn : Int) (vf : Nat) (vs : List Nat) (a : Option Addr) (len cap : Nat) (hE : w.heap[E]? = some (.cells (evC k id n t nm tx vk vn vf vs a len cap) 45 (0, 0))) :
    Calls Tryz.prog 118 #[.pointer (some ⟨A, 0, none⟩), .pointer (some ⟨B, 0, none⟩)] w (Fr6End K w g E l k id n t nm tx) := by
  have HB := Lib.hid hB
  have HU := Lib.hid (fun W (hW : Below w.heap.size w W) => (vread_all K l g W hl (fun b h => Nat.lt_of_lt_of_le (hKb b h) hW.size) (hR.below hW)).mono (fun e w' h => h.five))
  have HE := Lib.hid hE
  have Hne := Lib.hid hne
  have HK := Lib.hid hK
  have HEs := Lib.hid (Array.getElem?_eq_some_iff.1 hE).1
  have Hb1 := Lib.hid ((Below.refl w.heap.size w).drew)
  clear hR hB hne hK hl hKb
  have hfl : ∀ (w : World) (a : Addr) (m : Mode) (b : Nat), (store a (.float .f64 b) m).run Tryz.prog w = stored Tryz.prog w a (.float .f64 b) m := fun w a m b => run_store Tryz.prog w a _ m rfl
  clear hE
  go_enter Tryz.func118, Tryz.ntmps118
  go_wp2_with fail
  go_region_held3 (fun W => W.cell? ⟨A, 0, none⟩ = some (.pointer (some ⟨g, 0, none⟩)) ∧ W.cell? ⟨B, 0, none⟩ = some (.pointer (some ⟨E, 0, none⟩)))
    (first | with_reducible exact (HB.out.below Hb1.out).cells | with_reducible exact hB2.cells | with_reducible exact HS5.out _ _ _ _ _)
    (first
      | (go_at_call 119; (with_reducible refine (HU.out _ Hb1.out).mono ?_); rintro e w2 ⟨k', n', f', s', a', len', cap', b', ls, ok, rfl, h2, hq⟩
         have hB2 := (HB.out.below Hb1.out).turn Hne.out h2.2
         have hE2 := evAt_turn ((Hb1.out.block _ HEs.out).trans HE.out) Hne.out.2.2.1 h2.2
         obtain ⟨e0, e1, e2, e3, e4, e5, e6, e7, e8, e9, e10⟩ := box11 hE2
         have HS5 := Lib.hid (fun u6 u7 u8 u9 u10 => (((((hB2.set Hne.out 6 u6).set Hne.out 7 u7).set Hne.out 8 u8).set Hne.out 9 u9).set Hne.out 10 u10).cells)
         have f6 := froz hE2 6
         have f7 := froz hE2 7
         have f8 := froz hE2 8
         have f9 := froz hE2 9
         have f10 := froz hE2 10
         have H2 := Lib.hid h2
         have HE2 := Lib.hid hE2
         have Hq := Lib.hid hq
         clear h2 hE2 e0 e1 e2 e3 e4 e5 hq))
  have HR3 := Lib.hid (((((H2.out.1.setE (i := 6) Hne.out.2.2.1 HK.out (.int .i64 k')).setE (i := 7) Hne.out.2.2.1 HK.out (.int .i64 n')).setE (i := 8) Hne.out.2.2.1 HK.out (.float .f64 f')).setE (i := 9) Hne.out.2.2.1 HK.out (.string (str s'))).setE (i := 10) Hne.out.2.2.1 HK.out (.slice a' len' cap'))
  have HT3 := Lib.hid (((((((((TwoG.refl w g E).below Hb1.out)).trans (TwoG.of H2.out.2)).set 6 (.int .i64 k')).set 7 (.int .i64 n')).set 8 (.float .f64 f')).set 9 (.string (str s'))).set 10 (.slice a' len' cap'))
  have HE3 := Lib.hid (set5E HE2.out (.int .i64 k') (.int .i64 n') (.float .f64 f') (.string (str s')) (.slice a' len' cap'))
  have HO := Lib.hid (fun j (h : j ≠ E) => set5O (w := w2) h (.int .i64 k') (.int .i64 n') (.float .f64 f') (.string (str s')) (.slice a' len' cap'))
  have hsz : w.drew.heap.size = w.heap.size := rfl
  have HT4 := Lib.hid (TwoG.set (TwoG.set (TwoG.set (TwoG.set (TwoG.set (TwoG.refl w2 g E) 6 (.int .i64 k')) 7 (.int .i64 n')) 8 (.float .f64 f')) 9 (.string (str s'))) 10 (.slice a' len' cap'))
  clear hB2 f6 f7 f8 f9 f10 e6 e7 e8 e9 e10
  generalize World.setCell (World.setCell (World.setCell (World.setCell (World.setCell w2 _ _) _ _) _ _) _ _) _ _ = w3 at *
  rcases Hq.out with ⟨rfl, u, rfl, rfl, rfl, rfl, rfl, hv, hi, rfl⟩ | ⟨rfl, hno⟩
  · have Hv := Lib.hid hv
    have Hi := Lib.hid hi
    clear hv hi
    go_wp2
    go_ret
    have hs4 := HT4.out.2.2.2.1
    refine .inl ⟨u, ls, a', cap', rfl, Hi.out, HR3.out, HT3.out, HE3.out, VInP.turn (fun b hb => ⟨hb.1, by have := hb.2; omega⟩) (fun p hp => ?_) u _ Hv.out⟩
    unfold World.cell?
    have hEs := HEs.out
    rw [HO.out p.block (by have := hp.1; omega)]
  · have Hno := Lib.hid hno
    clear hno
    go_wp2
    go_ret
    exact .inr ⟨Hno.out, rfl, ⟨ls, ok, HR3.out⟩, HT3.out⟩
end Go.Proofs.YtcapbaocchaenaaGreatDoor

/- Bytes that are read as an event, field by field: plain. -/
namespace Go.Proofs.YtcapbaocchaenaaGreatDoor
open Go.RowKit Go.Shelf Fl

/-- The bounds of what is read. -/
structure EvD (e : Ev) : Prop where
  id : e.id < 18446744073709551616
  n : 0 ≤ e.n ∧ e.n ≤ 2147483647
  t : e.t < 18446744073709551616
  nm : e.nm.length ≤ 100000000000
  tx : e.tx.length ≤ 100000000000
  v : boundV e.v
  r : rightN 8 e.v = true
  nb : ∀ c ∈ e.nm, c < 256
  tb : ∀ c ∈ e.tx, c < 256

/-- An event of a kind before its fields are read. -/
def ev0 (k : Int) : Ev := ⟨k, 0, 0, 0, [], [], zeroV⟩

theorem ev0_d (k : Int) : EvD (ev0 k) where
  id := (by decide : 0 < 18446744073709551616)
  n := (by decide : (0 : Int) ≤ 0 ∧ (0 : Int) ≤ 2147483647)
  t := (by decide : 0 < 18446744073709551616)
  nm := (by decide : 0 ≤ 100000000000)
  tx := (by decide : 0 ≤ 100000000000)
  v := by unfold ev0 zeroV; exact bound_atom (by omega) (by omega) (by simp)
  r := (by decide +kernel : rightN 8 zeroV = true)
  nb := fun c h => (by unfold ev0 at h; cases h)
  tb := fun c h => (by unfold ev0 at h; cases h)
theorem ev0_empty (k : Int) (i : Nat) : emptyE (ev0 k) i = true := by
  unfold emptyE ev0
  repeat' split
  all_goals first | rfl | decide

theorem pieceD_split {a b : Ev} (ha : EvD a) (hb : EvB b) {i : Nat} (hi : i < 6) (hrb : rightE b i = true) {r r' : List Nat} (h : pieceE a i ++ r = pieceE b i ++ r') : eqF a b i ∧ r = r' := by
  match i, hi with
  | 0, _ => exact form_split ha.id hb.id h
  | 1, _ =>
    have h1 := ha.n
    have h2 : 1 ≤ b.n ∧ b.n ≤ 2147483647 := by simpa [rightE] using hrb
    obtain ⟨e, h⟩ := form_split (x := a.n.toNat) (y := b.n.toNat) (by omega) (by omega) h
    exact ⟨by show a.n = b.n; omega, h⟩
  | 2, _ => exact form_split ha.t hb.t h
  | 3, _ => exact formB_split (by have := ha.nm; omega) hb.nm h
  | 4, _ => exact formB_split (by have := ha.tx; omega) hb.tx h
  | 5, _ =>
    have h2 : rightN 8 b.v = true := by simpa [rightE] using hrb
    exact formV_split _ _ 8 8 _ _ ha.r h2 ha.v hb.v h

theorem piecesD_split {a b : Ev} (ha : EvD a) (hb : EvB b) : ∀ (fs : List Nat) (r r' : List Nat), (∀ i ∈ fs, i < 6 ∧ rightE b i = true) → (fs.map (pieceE a)).flatten ++ r = (fs.map (pieceE b)).flatten ++ r' → (∀ i ∈ fs, eqF a b i) ∧ r = r'
  | [], r, r', _, h => ⟨fun i hi => (by cases hi), h⟩
  | i :: fs, r, r', hf, h => by
    rw [List.map_cons, List.map_cons, List.flatten_cons, List.flatten_cons, List.append_assoc, List.append_assoc] at h
    obtain ⟨h6, h2⟩ := hf i (by simp)
    obtain ⟨e, h⟩ := pieceD_split ha hb h6 h2 h
    obtain ⟨g, h⟩ := piecesD_split ha hb fs r r' (fun j hj => hf j (by simp [hj])) h
    refine ⟨fun j hj => ?_, h⟩
    rcases List.mem_cons.1 hj with rfl | hj
    · exact e
    · exact g j hj

theorem okE_same {a b : Ev} (h : sameE a b = true) : okE a = okE b := by
  unfold sameE at h
  rw [Bool.and_eq_true, decide_eq_true_eq] at h
  obtain ⟨⟨h0, h1, h2, h3, h4, h5⟩, h6⟩ := h
  have e1 : ∀ i, rightE a i = rightE b i := fun i => by
    unfold rightE
    rw [h1, h2, h3, h4, h5, fields_same 8 _ _ h6]
  have e2 : ∀ i, emptyE a i = emptyE b i := fun i => by
    unfold emptyE
    rw [h1, h2, h3, h4, h5]
    congr 5
    rw [Bool.eq_iff_iff]
    exact ⟨fun h => sameV_trans _ _ _ (sameV_symm _ _ h6) h, fun h => sameV_trans _ _ _ h6 h⟩
  unfold okE
  rw [h0]
  congr 1
  refine congrArg _ (funext fun i => ?_)
  rw [e1, e2]

/-- The bytes l begin with the form of a valid event, and r comes behind it. -/
def IsE (l : List Nat) (e : Ev) (r : List Nat) : Prop := okE e = true ∧ EvB e ∧ l = formE e ++ r
/-- No valid event's form stands at the beginning of l. -/
def NoE (l : List Nat) : Prop := ∀ e r, ¬ IsE l e r

/-- A field is read. -/
def FldOk (x : Nat) (l : List Nat) (e e' : Ev) (rest : List Nat) : Prop := l = pieceE e' x ++ rest ∧ e'.k = e.k ∧ (∀ i, i < 6 → i ≠ x → pieceE e' i = pieceE e i ∧ emptyE e' i = emptyE e i) ∧ (EvD e → EvD e')
/-- A field is not there. -/
def FldNo (x : Nat) (l : List Nat) : Prop := ∀ e r, EvB e → rightE e x = true → l ≠ pieceE e x ++ r

theorem IsE.parts {k : Nat} {l2 r : List Nat} {e : Ev} (h : IsE (form 1 ++ (form k ++ l2)) e r) (hk : k < 18446744073709551616) : e.k = (k : Int) ∧ (1 ≤ k ∧ k ≤ 11) ∧ l2 = ((evFields (k : Int)).map (pieceE e)).flatten ++ r ∧ ∀ i ∈ evFields (k : Int), i < 6 ∧ rightE e i = true := by
  obtain ⟨ho, hb, he⟩ := h
  obtain ⟨hk1, _⟩ := okE_parts ho
  unfold formE at he
  rw [List.append_assoc, List.append_assoc] at he
  have he := List.append_cancel_left he
  obtain ⟨e1, e2⟩ := form_split hk (by omega) he
  have hkk : e.k = (k : Int) := by omega
  rw [hkk] at e2
  exact ⟨hkk, by omega, e2, fun i hi => by rw [← hkk] at hi; exact ⟨evFields_lt _ _ hi, okE_right ho hi⟩⟩

theorem noE_version {l : List Nat} (h : ∀ r, l ≠ form 1 ++ r) : NoE l := fun e r ⟨_, _, he⟩ => by
  unfold formE at he
  rw [List.append_assoc, List.append_assoc] at he
  exact h _ he
theorem noE_nokind {l : List Nat} (h : ∀ x r, x < 18446744073709551616 → l ≠ form x ++ r) : NoE (form 1 ++ l) := fun e r ⟨ho, _, he⟩ => by
  obtain ⟨hk1, _⟩ := okE_parts ho
  unfold formE at he
  rw [List.append_assoc, List.append_assoc] at he
  exact h _ _ (by omega) (List.append_cancel_left he)
theorem noE_kind {k : Nat} {l : List Nat} (hk : k < 18446744073709551616) (h : ¬ (1 ≤ k ∧ k ≤ 11)) : NoE (form 1 ++ (form k ++ l)) := fun _ _ he => h (he.parts hk).2.1

theorem noE_field {k j : Nat} {l2 lj : List Nat} {e : Ev} (hk : k < 18446744073709551616) (hd : EvD e) (hj : j < (evFields (k : Int)).length) (hl : l2 = (((evFields (k : Int)).take j).map (pieceE e)).flatten ++ lj) (hno : FldNo (evFields (k : Int))[j] lj) : NoE (form 1 ++ (form k ++ l2)) := fun e' r he => by
  obtain ⟨_, _, h2, hr⟩ := he.parts hk
  have hs : (evFields (k : Int)) = (evFields (k : Int)).take j ++ (evFields (k : Int))[j] :: (evFields (k : Int)).drop (j + 1) := by rw [← List.drop_eq_getElem_cons hj, List.take_append_drop]
  have hm := List.getElem_mem hj
  obtain ⟨x, hx⟩ : ∃ x, x = (evFields (k : Int))[j] := ⟨_, rfl⟩
  rw [← hx] at hs hno hm
  rw [hs, List.map_append, List.flatten_append, List.map_cons, List.flatten_cons, List.append_assoc, List.append_assoc] at h2
  rw [hl] at h2
  obtain ⟨_, h3⟩ := piecesD_split hd he.2.1 _ _ _ (fun i hi => hr i (List.mem_of_mem_take hi)) h2
  exact hno _ _ he.2.1 (hr x hm).2 h3

theorem noE_valid {k : Nat} {l2 lj : List Nat} {e : Ev} (hk : k < 18446744073709551616) (hd : EvD e) (hek : e.k = (k : Int)) (hl : l2 = ((evFields (k : Int)).map (pieceE e)).flatten ++ lj) (hem : ∀ i, i < 6 → i ∉ evFields (k : Int) → emptyE e i = true) (hno : okE e = false) : NoE (form 1 ++ (form k ++ l2)) := fun e' r he => by
  obtain ⟨hk', _, h2, hr⟩ := he.parts hk
  rw [hl] at h2
  obtain ⟨h3, _⟩ := piecesD_split hd he.2.1 _ _ _ hr h2
  have hs : sameE e e' = true := eqF_all (by rw [hek, hk']) fun i hi => by
    by_cases hm : i ∈ evFields (k : Int)
    · exact h3 i hm
    · have h5 := (okE_parts he.1).2 i hi
      rw [hk', if_neg hm] at h5
      exact eqF_empty hi (hem i hi hm) h5
  rw [okE_same hs, he.1] at hno
  cases hno

theorem IsE.uniq {l r r' : List Nat} {e e' : Ev} (h : IsE l e r) (h' : IsE l e' r') : sameE e e' = true ∧ r = r' := by
  obtain ⟨ho, hb, he⟩ := h
  obtain ⟨hk1, _⟩ := okE_parts ho
  have hkn : e.k = ((e.k.toNat : Nat) : Int) := by omega
  have hl : l = form 1 ++ (form e.k.toNat ++ (((evFields e.k).map (pieceE e)).flatten ++ r)) := by rw [he]; unfold formE; rw [List.append_assoc, List.append_assoc]
  rw [hl] at h'
  have h1 := h'.parts (by omega)
  rw [← hkn] at h1
  obtain ⟨hk', _, h2, hr⟩ := h1
  obtain ⟨ho', hb', _⟩ := h'
  obtain ⟨h3, h4⟩ := pieces_split hb hb' (evFields e.k) _ _ (fun i hi => ⟨evFields_lt _ _ hi, okE_right ho hi, (hr i hi).2⟩) h2
  exact ⟨same_of_fields ho ho' hk'.symm h3, h4⟩

/-- The first j of the fields are read. -/
structure Dec (fs : List Nat) (k : Int) (l2 : List Nat) (j : Nat) (e : Ev) (lj : List Nat) : Prop where
  d : EvD e
  k : e.k = k
  l : l2 = ((fs.take j).map (pieceE e)).flatten ++ lj
  m : ∀ i, i < 6 → i ∉ fs.take j → emptyE e i = true

theorem Dec.start (fs : List Nat) (k : Int) (l2 : List Nat) : Dec fs k l2 0 (ev0 k) l2 := ⟨ev0_d k, rfl, by simp, fun i _ _ => ev0_empty k i⟩

theorem Dec.step {fs : List Nat} {k : Int} {l2 : List Nat} {j : Nat} {e e' : Ev} {lj rest : List Nat} (h : Dec fs k l2 j e lj) (hj : j < fs.length) (hn : fs.Nodup) (h6 : ∀ i ∈ fs, i < 6) (hf : FldOk fs[j] lj e e' rest) : Dec fs k l2 (j + 1) e' rest := by
  obtain ⟨h1, h2, h3, h4⟩ := hf
  have ht : fs.take (j + 1) = fs.take j ++ [fs[j]] := List.take_succ_eq_append_getElem hj
  have hx : fs[j] ∉ fs.take j := by
    intro hm
    obtain ⟨q, hq, e⟩ := List.getElem_of_mem hm
    rw [List.length_take] at hq
    rw [List.getElem_take] at e
    have := (List.getElem_inj hn).1 e
    omega
  refine ⟨h4 h.d, h2.trans h.k, ?_, fun i hi hm => ?_⟩
  · rw [h.l, h1, ht, List.map_append, List.flatten_append, List.append_assoc]
    have e1 : (fs.take j).map (pieceE e) = (fs.take j).map (pieceE e') := List.map_congr_left fun i hi => ((h3 i (h6 i (List.mem_of_mem_take hi)) (fun q => hx (by rw [← q]; exact hi))).1).symm
    rw [e1]
    simp
  · rw [ht] at hm
    have hm1 : i ∉ fs.take j := fun q => hm (List.mem_append.2 (.inl q))
    have hm2 : i ≠ fs[j] := fun q => hm (List.mem_append.2 (.inr (by simp [q])))
    rw [(h3 i hi hm2).2]
    exact h.m i hi hm1

theorem right_small : ∀ (t : Nat) (v : V), rightN t v = true → smallN (t + 1) v = true
  | 0, .mk k n f s l, h => by
    obtain ⟨⟨_, _, _, h4⟩, hk, _⟩ := rightN_field h
    unfold rightN at h
    simp only [Bool.and_eq_true, decide_eq_true_eq] at h
    have e : l = [] := h4.resolve_left h.1.2
    rw [e]
    rfl
  | t + 1, .mk k n f s l, h => by
    unfold rightN at h
    simp only [Bool.and_eq_true, decide_eq_true_eq, List.all_eq_true] at h
    unfold smallN
    rw [List.all_eq_true]
    exact fun u hu => right_small t u (h.1.2 u hu)
end Go.Proofs.YtcapbaocchaenaaGreatDoor

/- The readers of events' fields, together: each reads its field, or says that it is not there. -/
namespace Go.Proofs.YtcapbaocchaenaaGreatDoor
open Go.RowKit Go.Shelf Fl
attribute [local go_sem] run_store_func run_store_nilFunc

/-- A function that has captured two variables. -/
abbrev capW (f : FuncId) (A B : Nat) : Value := .func (.func f) #[] #[.pointer (some ⟨A, 0, none⟩), .pointer (some ⟨B, 0, none⟩)]
abbrev fr6 (A B : Nat) : Array Value := #[capW 113 A B, capW 114 A B, capW 115 A B, capW 116 A B, capW 117 A B, capW 118 A B]
/-- The functions that read the fields. -/
def frF (i : Nat) : FuncId := if i = 0 then 113 else if i = 1 then 114 else if i = 2 then 115 else if i = 3 then 116 else if i = 4 then 117 else 118

theorem enters_fr (i : Nat) (args : Array Value) (W : World) : (callFunc (frF i) args).run Tryz.prog W = .ok (.enter (frF i) args) W := by
  unfold frF
  repeat' split
  · exact enters_of Tryz.func113 (by kernel_rfl) rfl args W
  · exact enters_of Tryz.func114 (by kernel_rfl) rfl args W
  · exact enters_of Tryz.func115 (by kernel_rfl) rfl args W
  · exact enters_of Tryz.func116 (by kernel_rfl) rfl args W
  · exact enters_of Tryz.func117 (by kernel_rfl) rfl args W
  · exact enters_of Tryz.func118 (by kernel_rfl) rfl args W

theorem fr6_get (A B : Nat) (i : Nat) (hi : i < 6) : (fr6 A B)[i]? = some (capW (frF i) A B) := by
  match i, hi with
  | 0, _ => rfl
  | 1, _ => rfl
  | 2, _ => rfl
  | 3, _ => rfl
  | 4, _ => rfl
  | 5, _ => rfl

def ReadersEnd (w : World) (g E : Nat) (e : Ending) (w' : World) : Prop :=
  Below w.heap.size w w' ∧ ∃ A B, w.heap.size ≤ A ∧ w.heap.size ≤ B ∧ Boxes w' A B g E ∧ e = .returned (.agg (fr6 A B))

set_option maxRecDepth 100000 in
theorem readers_six (g E : Nat) (w : World) :
    Calls Tryz.prog 77 #[.pointer (some ⟨g, 0, none⟩), .pointer (some ⟨E, 0, none⟩)] w (ReadersEnd w g E) := by
  go_enter Tryz.func77, Tryz.ntmps77
  go_wp2
  have h0 := fun o o' o'' => (show (((w.alloc o).alloc o').alloc o'').heap[w.heap.size]? = some o from by
    rw [Below.heap_alloc _ _ _ (by simp; omega), Below.heap_alloc _ _ _ (by simp)]; exact heap_alloc_new _ _)
  have h1 := fun o o' o'' => (show (((w.alloc o).alloc o').alloc o'').heap[w.heap.size + 1]? = some o' from by
    rw [Below.heap_alloc _ _ _ (by simp)]
    have h := heap_alloc_new (w.alloc o) o'
    rw [World.size_alloc] at h
    exact h)
  refine bodyPost_ret (v := .agg (fr6 w.heap.size (w.heap.size + 1))) ?_ rfl ⟨(((Below.refl _ _).alloc (Nat.le_refl _) _).alloc (by simp) _).alloc (by simp; omega) _, _, _, Nat.le_refl _, Nat.le_succ _, ⟨h0 _ _ _, h1 _ _ _⟩, rfl⟩
  rw [results_c rfl]
  go_simp

/-- The event lies in block E, its value in blocks from lo on. -/
def EvAt (w : World) (E lo : Nat) (e : Ev) : Prop :=
  ∃ a cap, w.heap[E]? = some (.cells (evC e.k e.id e.n e.t e.nm e.tx e.v.kind e.v.n e.v.f e.v.s a e.v.l.length cap) 45 (0, 0)) ∧ VInP (fun b => lo ≤ b ∧ b < w.heap.size) w e.v (cells5 e.v.kind e.v.n e.v.f e.v.s a e.v.l.length cap)

/-- What a reader answers. -/
def FldEnd (K : Nat → Prop) (w : World) (g E lo x : Nat) (e : Ev) (l : List Nat) (r : Ending) (w' : World) : Prop :=
  (∃ e' rest, r = .returned (.bool true) ∧ FldOk x l e e' rest ∧ RdK K w' g rest true ∧ TwoG w w' g E ∧ EvAt w' E lo e') ∨
  (FldNo x l ∧ r = .returned (.bool false) ∧ (∃ ls ok, RdK K w' g ls ok) ∧ TwoG w w' g E)

theorem vin_two {w w' : World} {g E lo : Nat} {v : V} {x : Array Value} (hlo : g < lo ∧ E < lo) (h : VInP (fun b => lo ≤ b ∧ b < w.heap.size) w v x) (ht : TwoG w w' g E) : VInP (fun b => lo ≤ b ∧ b < w'.heap.size) w' v x :=
  VInP.turn (fun b hb => ⟨hb.1, Nat.lt_of_lt_of_le hb.2 ht.2.2.2.1⟩) (fun p hp => by
    unfold World.cell?
    have h1 := hp.1
    rw [ht.2.2.2.2 p.block hp.2 (by omega) (by omega)]) v x h

theorem fr_any (x : Nat) (hx : x < 6) (K : Nat → Prop) (A B g E lo : Nat) (e : Ev) (l : List Nat) (w : World) (hB : Boxes w A B g E) (hne : A ≠ g ∧ B ≠ g ∧ E ≠ g ∧ A ≠ E ∧ B ≠ E) (hK : ¬ K E) (hKb : ∀ b, K b → b < w.heap.size) (hlo : (g < lo ∧ E < lo) ∧ lo ≤ w.heap.size) (hl : l.length ≤ 100000000000) (hR : RdK K w g l true) (hE : EvAt w E lo e) :
    Calls Tryz.prog (frF x) #[.pointer (some ⟨A, 0, none⟩), .pointer (some ⟨B, 0, none⟩)] w (FldEnd K w g E lo x e l) := by
  obtain ⟨a, cap, hE, hv⟩ := hE
  have hb := hR.byte
  match x, hx with
  | 0, _ =>
    refine (fr1_any K A B g E l w hB hne hK hR _ _ _ _ _ _ _ _ _ _ _ _ _ hE).mono ?_
    rintro r w' ⟨rfl, h1, h2, h3⟩
    rcases readN_only hb with ⟨y, l1, hy, rfl⟩ | ⟨hn, hno⟩
    · rw [readN_form hy l1] at h1 h3 ⊢
      exact .inl ⟨{ e with id := y }, l1, rfl, ⟨rfl, rfl, fun i hi hne => by
        match i, hi, hne with
        | 0, _, h => exact absurd rfl h
        | 1, _, _ | 2, _, _ | 3, _, _ | 4, _, _ | 5, _, _ => exact ⟨rfl, rfl⟩, fun h => { h with id := hy }⟩, h1, h2, a, cap, h3, vin_two hlo.1 hv h2⟩
    · rw [hn] at h1 ⊢
      exact .inr ⟨fun e' r hb' _ hq => hno _ _ hb'.id hq, rfl, ⟨_, _, h1⟩, h2⟩
  | 1, _ =>
    refine (fr2_any K A B g E l w hB hne hK hR _ _ _ _ _ _ _ _ _ _ _ _ _ hE).mono ?_
    rintro r w' ⟨rfl, h1, h2, h3⟩
    rcases readN_only hb with ⟨y, l1, hy, rfl⟩ | ⟨hn, hno⟩
    · rw [readN_form hy l1] at h1 h3 ⊢
      by_cases hs : y ≤ 2147483647
      · have e1 : smallE y = y := if_pos hs
        simp only [e1] at h3
        refine .inl ⟨{ e with n := (y : Int) }, l1, by simp [hs], ⟨?_, rfl, fun i hi hne => by
          match i, hi, hne with
          | 1, _, h => exact absurd rfl h
          | 0, _, _ | 2, _, _ | 3, _, _ | 4, _, _ | 5, _, _ => exact ⟨rfl, rfl⟩, fun h => { h with n := (show (0 : Int) ≤ (y : Int) ∧ (y : Int) ≤ 2147483647 from ⟨by omega, by omega⟩) }⟩, h1, h2, a, cap, h3, vin_two hlo.1 hv h2⟩
        show form y ++ l1 = form ((y : Int)).toNat ++ l1
        rw [Int.toNat_natCast]
      · refine .inr ⟨fun e' r hb' hr hq => ?_, by simp [hs], ⟨_, _, h1⟩, h2⟩
        have h5 : 1 ≤ e'.n ∧ e'.n ≤ 2147483647 := by simpa [rightE] using hr
        obtain ⟨e2, _⟩ := form_split (y := e'.n.toNat) hy (by omega) hq
        omega
    · rw [hn] at h1 ⊢
      exact .inr ⟨fun e' r hb' hr hq => by
        have h5 : 1 ≤ e'.n ∧ e'.n ≤ 2147483647 := by simpa [rightE] using hr
        exact hno e'.n.toNat _ (by omega) hq, by simp, ⟨_, _, h1⟩, h2⟩
  | 2, _ =>
    refine (fr3_any K A B g E l w hB hne hK hR _ _ _ _ _ _ _ _ _ _ _ _ _ hE).mono ?_
    rintro r w' ⟨rfl, h1, h2, h3⟩
    rcases readN_only hb with ⟨y, l1, hy, rfl⟩ | ⟨hn, hno⟩
    · rw [readN_form hy l1] at h1 h3 ⊢
      exact .inl ⟨{ e with t := y }, l1, rfl, ⟨rfl, rfl, fun i hi hne => by
        match i, hi, hne with
        | 2, _, h => exact absurd rfl h
        | 0, _, _ | 1, _, _ | 3, _, _ | 4, _, _ | 5, _, _ => exact ⟨rfl, rfl⟩, fun h => { h with t := hy }⟩, h1, h2, a, cap, h3, vin_two hlo.1 hv h2⟩
    · rw [hn] at h1 ⊢
      exact .inr ⟨fun e' r hb' _ hq => hno _ _ hb'.t hq, rfl, ⟨_, _, h1⟩, h2⟩
  | 3, _ =>
    refine (fr4_any K A B g E l w hB hne hK hR _ _ _ _ _ _ _ _ _ _ _ _ _ hE).mono ?_
    rintro r w' ⟨rfl, h1, h2, h3⟩
    rcases readB_only hb with ⟨s, l1, hs, rfl⟩ | ⟨hn, hno⟩
    · rw [readB_form hs l1] at h1 h3 ⊢
      have hs8 : ∀ c ∈ s, c < 256 := fun c hc => hb c (by unfold formB; simp [hc])
      have hs6 : s.length ≤ 100000000000 := by rw [List.length_append] at hl; unfold formB at hl; rw [List.length_append] at hl; omega
      exact .inl ⟨{ e with nm := s }, l1, rfl, ⟨rfl, rfl, fun i hi hne => by
        match i, hi, hne with
        | 3, _, h => exact absurd rfl h
        | 0, _, _ | 1, _, _ | 2, _, _ | 4, _, _ | 5, _, _ => exact ⟨rfl, rfl⟩, fun h => { h with nm := hs6, nb := hs8 }⟩, h1, h2, a, cap, h3, vin_two hlo.1 hv h2⟩
    · rw [hn] at h1 ⊢
      exact .inr ⟨fun e' r hb' _ hq => hno _ _ hb'.nm hq, rfl, ⟨_, _, h1⟩, h2⟩
  | 4, _ =>
    refine (fr5_any K A B g E l w hB hne hK hR _ _ _ _ _ _ _ _ _ _ _ _ _ hE).mono ?_
    rintro r w' ⟨rfl, h1, h2, h3⟩
    rcases readB_only hb with ⟨s, l1, hs, rfl⟩ | ⟨hn, hno⟩
    · rw [readB_form hs l1] at h1 h3 ⊢
      have hs8 : ∀ c ∈ s, c < 256 := fun c hc => hb c (by unfold formB; simp [hc])
      have hs6 : s.length ≤ 100000000000 := by rw [List.length_append] at hl; unfold formB at hl; rw [List.length_append] at hl; omega
      exact .inl ⟨{ e with tx := s }, l1, rfl, ⟨rfl, rfl, fun i hi hne => by
        match i, hi, hne with
        | 4, _, h => exact absurd rfl h
        | 0, _, _ | 1, _, _ | 2, _, _ | 3, _, _ | 5, _, _ => exact ⟨rfl, rfl⟩, fun h => { h with tx := hs6, tb := hs8 }⟩, h1, h2, a, cap, h3, vin_two hlo.1 hv h2⟩
    · rw [hn] at h1 ⊢
      exact .inr ⟨fun e' r hb' _ hq => hno _ _ hb'.tx hq, rfl, ⟨_, _, h1⟩, h2⟩
  | 5, _ =>
    refine (fr6_any K A B g E l w hB hne hK hKb hl hR _ _ _ _ _ _ _ _ _ _ _ _ _ hE).mono ?_
    rintro r w' (⟨u, rest, a', cap', rfl, hi, h1, h2, h3, h4⟩ | ⟨hno, rfl, h1, h2⟩)
    · exact .inl ⟨{ e with v := u }, rest, rfl, ⟨hi.2.2, rfl, fun i hi hne => by
        match i, hi, hne with
        | 5, _, h => exact absurd rfl h
        | 0, _, _ | 1, _, _ | 2, _, _ | 3, _, _ | 4, _, _ => exact ⟨rfl, rfl⟩, fun h => { h with v := hi.2.1, r := hi.1 }⟩, h1, h2, a', cap', h3, VInP.turn (fun b hb => ⟨Nat.le_trans hlo.2 hb.1, hb.2⟩) (fun _ _ => rfl) u _ h4⟩
    · exact .inr ⟨fun e' r hb' hr hq => hno _ _ ⟨by simpa [rightE] using hr, hb'.v, hq⟩, rfl, h1, h2⟩
end Go.Proofs.YtcapbaocchaenaaGreatDoor

/- Events whose values lie in blocks that a predicate allows; rows of events of a call's own, and how they grow. -/
namespace Go.Proofs.YtcapbaocchaenaaGreatDoor
open Go.RowKit Fl

/-- The cells x hold the event e; the rows of its value's lists lie in blocks that q allows. -/
def EvInP (q : Nat → Prop) (w : World) (e : Ev) (x : Array Value) : Prop :=
  (-9223372036854775808 ≤ e.k ∧ e.k ≤ 9223372036854775807) ∧ e.id < 18446744073709551616 ∧ (-9223372036854775808 ≤ e.n ∧ e.n ≤ 9223372036854775807) ∧ e.t < 18446744073709551616 ∧
  ((∀ c ∈ e.nm, c < 256) ∧ e.nm.length ≤ 9223372036854775807) ∧ ((∀ c ∈ e.tx, c < 256) ∧ e.tx.length ≤ 9223372036854775807) ∧
  ∃ a cap, x = evC e.k e.id e.n e.t e.nm e.tx e.v.kind e.v.n e.v.f e.v.s a e.v.l.length cap ∧ VInP q w e.v (cells5 e.v.kind e.v.n e.v.f e.v.s a e.v.l.length cap)

theorem EvInP.weak {q : Nat → Prop} {w : World} {e : Ev} {x : Array Value} (h : EvInP q w e x) : EvIn w e x := by
  obtain ⟨h1, h2, h3, h4, h5, h6, a, cap, h7, h8⟩ := h
  exact ⟨h1, h2, h3, h4, h5, h6, a, cap, h7, h8.weak⟩

theorem EvInP.turn {q q' : Nat → Prop} {w w' : World} (hq : ∀ b, q b → q' b) (hw : ∀ b, q b → w'.heap[b]? = w.heap[b]?) {e : Ev} {x : Array Value} (h : EvInP q w e x) : EvInP q' w' e x := by
  obtain ⟨h1, h2, h3, h4, h5, h6, a, cap, h7, h8⟩ := h
  exact ⟨h1, h2, h3, h4, h5, h6, a, cap, h7, VInP.turn hq (fun p hp => by unfold World.cell?; rw [hw p.block hp]) _ _ h8⟩

theorem EvInP.size {q : Nat → Prop} {w : World} {e : Ev} {x : Array Value} (h : EvInP q w e x) : x.size = 11 := by
  obtain ⟨_, _, _, _, _, _, a, cap, rfl, _⟩ := h
  rfl

/-- A list of events of the call's own: its row, and its values' rows in other blocks, of which Q holds. -/
def OwnEs (Q : Nat → Prop) (w : World) (base : Nat) (v : Value) (l : List Ev) : Prop :=
  ∃ cs : List (Array Value), cs.length = l.length ∧ w.ownsRow base 45 11 v l.length (cs.flatMap Array.toList) ∧
    ∀ (i : Nat) (x : Array Value) (u : Ev), cs[i]? = some x → l[i]? = some u → EvInP (fun b => (Q b ∧ some b ≠ v.ownBlock) ∧ b < w.heap.size) w u x

theorem OwnEs.nil (Q : Nat → Prop) (w : World) (base : Nat) : OwnEs Q w base (.slice none 0 0) [] := ⟨[], rfl, ⟨rfl, .inl ⟨rfl, rfl⟩⟩, fun i x u h => by simp at h⟩

theorem OwnEs.snoc {Q : Nat → Prop} {w w' : World} {base : Nat} {v v' : Value} {l : List Ev} {cs : List (Array Value)} {u : Ev} {x : Array Value} (hlen : cs.length = l.length)
    (hel : ∀ (i : Nat) (x : Array Value) (u : Ev), cs[i]? = some x → l[i]? = some u → EvInP (fun b => (Q b ∧ some b ≠ v.ownBlock) ∧ b < w.heap.size) w u x)
    (hu : EvInP (fun b => (Q b ∧ some b ≠ v.ownBlock) ∧ b < w.heap.size) w u x) (hown : w'.ownsRow base 45 11 v' (l.length + 1) (cs.flatMap Array.toList ++ x.toList))
    (hg : w.grownBy w' v.ownBlock) (hb : v'.ownBlock = v.ownBlock ∨ v'.ownBlock = some w.heap.size) : OwnEs Q w' base v' (l ++ [u]) := by
  have hs : w.heap.size ≤ w'.heap.size := hg.size
  have hturn : ∀ (y : Array Value) (z : Ev), EvInP (fun b => (Q b ∧ some b ≠ v.ownBlock) ∧ b < w.heap.size) w z y → EvInP (fun b => (Q b ∧ some b ≠ v'.ownBlock) ∧ b < w'.heap.size) w' z y := by
    intro y z hz
    refine hz.turn (fun b hb1 => ⟨⟨hb1.1.1, ?_⟩, by omega⟩) (fun b hb1 => hg.block b hb1.2 hb1.1.2)
    rcases hb with e | e
    · rw [e]; exact hb1.1.2
    · rw [e]
      intro e2
      have e3 : b = w.heap.size := Option.some.inj e2
      omega
  refine ⟨cs ++ [x], by rw [List.length_append, List.length_append, hlen]; rfl, ?_, fun i y z hy hz => ?_⟩
  · rw [List.length_append, List.flatMap_append]
    simpa using hown
  · rcases Nat.lt_or_ge i cs.length with hi | hi
    · rw [List.getElem?_append_left hi] at hy
      rw [List.getElem?_append_left (by omega)] at hz
      exact hturn y z (hel i y z hy hz)
    · rw [List.getElem?_append_right hi] at hy
      rw [List.getElem?_append_right (by omega), ← hlen] at hz
      cases hk : i - cs.length with
      | zero =>
        rw [hk] at hy hz
        simp at hy hz
        subst hy
        subst hz
        exact hturn x u hu
      | succ m => rw [hk] at hy; simp at hy

theorem OwnEs.keep {Q : Nat → Prop} {w w' : World} {base : Nat} {v : Value} {l : List Ev} (h : OwnEs Q w base v l) (hb : ∀ b, base ≤ b ∨ Q b → b < w.heap.size → w'.heap[b]? = w.heap[b]?) (hs : w.heap.size ≤ w'.heap.size) : OwnEs Q w' base v l := by
  obtain ⟨cs, hlen, ⟨hx, hrow⟩, hel⟩ := h
  refine ⟨cs, hlen, ⟨hx, ?_⟩, fun i x u hi hu => (hel i x u hi hu).turn (fun b hq => ⟨hq.1, by omega⟩) (fun b hq => hb b (.inr hq.1.1) hq.2)⟩
  rcases hrow with hn | ⟨g, cap, cur, e, hbg, hg, rest⟩
  · exact .inl hn
  · exact .inr ⟨g, cap, cur, e, hbg, (hb g (.inl hbg) (Array.getElem?_eq_some_iff.1 hg).1).trans hg, rest⟩

theorem OwnEs.below {Q : Nat → Prop} {w w' : World} {base : Nat} {v : Value} {l : List Ev} (h : OwnEs Q w base v l) (hb : Below w.heap.size w w') : OwnEs Q w' base v l := h.keep (fun b _ hlt => hb.block b hlt) hb.size

theorem OwnEs.block {Q : Nat → Prop} {w : World} {base : Nat} {v : Value} {l : List Ev} (h : OwnEs Q w base v l) {g : Nat} (hg : v.ownBlock = some g) : base ≤ g ∧ g < w.heap.size := by
  obtain ⟨cs, hlen, ⟨hx, hrow⟩, hel⟩ := h
  rcases hrow with ⟨e, _⟩ | ⟨g', cap, cur, e, hbg, hg', rest⟩
  · rw [e] at hg
    cases hg
  · rw [e] at hg
    have e2 : g' = g := Option.some.inj hg
    rw [← e2]
    exact ⟨hbg, (Array.getElem?_eq_some_iff.1 hg').1⟩

theorem flat_at11 : ∀ (cs : List (Array Value)), (∀ x ∈ cs, x.size = 11) → ∀ (i : Nat) (x : Array Value), cs[i]? = some x → ∀ j, j < 11 → (cs.flatMap Array.toList)[i * 11 + j]? = x[j]?
  | [], _, i, x, h, _, _ => by simp at h
  | y :: r, hs, i, x, h, j, hj => by
    have hy : y.toList.length = 11 := by rw [Array.length_toList]; exact hs y (by simp)
    rw [List.flatMap_cons]
    cases i with
    | zero =>
      simp at h
      subst h
      rw [List.getElem?_append_left (by omega)]
      simp
    | succ i =>
      have ih := flat_at11 r (fun z hz => hs z (by simp [hz])) i x (by simpa using h) j hj
      rw [List.getElem?_append_right (by omega), hy, show (i + 1) * 11 + j - 11 = i * 11 + j by omega]
      exact ih

/-- A row of the call's own, as events in memory; with the blocks of each one's values. -/
theorem OwnEs.evs {Q : Nat → Prop} {w : World} {base : Nat} {v : Value} {l : List Ev} (h : OwnEs Q w base v l) : ∃ a cap, v = .slice a l.length cap ∧ Evs w a l.length cap l ∧ (l = [] ∨ ∃ g, a = some ⟨g, 0, none⟩ ∧ base ≤ g ∧ g < w.heap.size) := by
  obtain ⟨cs, hlen, ⟨_, hrow⟩, hel⟩ := h
  rcases hrow with ⟨rfl, h0⟩ | ⟨g, cap, cur, rfl, hbg, hg, hle, hcm, hsz, htake⟩
  · have e : l = [] := List.length_eq_zero_iff.1 h0
    subst e
    exact ⟨none, 0, rfl, evs_nil w, .inl rfl⟩
  · have hglt : g < w.heap.size := (Array.getElem?_eq_some_iff.1 hg).1
    refine ⟨_, cap, rfl, ⟨rfl, hle, by rw [maxLen_nat] at hcm; exact hcm, fun _ => ⟨g, 0, rfl, fun i hi => ?_⟩⟩, .inr ⟨g, rfl, hbg, hglt⟩⟩
    have hx : cs[i]? = some (cs[i]'(by omega)) := List.getElem?_eq_getElem (by omega)
    have hsz11 : ∀ x ∈ cs, x.size = 11 := by
      intro x hx
      obtain ⟨k, hk, rfl⟩ := List.getElem_of_mem hx
      exact (hel k _ l[k] (List.getElem?_eq_getElem hk) (List.getElem?_eq_getElem (by omega))).size
    have hv := (hel i _ l[i] hx (List.getElem?_eq_getElem hi)).weak
    have hv2 := hv
    obtain ⟨_, _, _, _, _, _, a, c, e, _⟩ := hv2
    rw [e] at hv hx
    refine ⟨a, c, hv, fun j hj => ?_⟩
    rw [cell_of_row w g _ cur _ _ hg, ← flat_at11 cs hsz11 i _ hx j hj, ← htake, Nat.zero_add, List.getElem?_take, if_pos (by omega), Array.getElem?_toList]
end Go.Proofs.YtcapbaocchaenaaGreatDoor

/- The walk of the code's Read of an event, whatever the bytes. -/
namespace Go.Proofs.YtcapbaocchaenaaGreatDoor
open Go.RowKit Go.Shelf Fl
attribute [local go_sem] run_store_func run_store_nilFunc

/-- Eleven stores into one block. -/
abbrev sets11 (w : World) (E : Nat) (u0 u1 u2 u3 u4 u5 u6 u7 u8 u9 u10 : Value) : World :=
  ((((((((((w.setCell ⟨E, 0, none⟩ u0).setCell ⟨E, 1, none⟩ u1).setCell ⟨E, 2, none⟩ u2).setCell ⟨E, 3, none⟩ u3).setCell ⟨E, 4, none⟩ u4).setCell ⟨E, 5, none⟩ u5).setCell ⟨E, 6, none⟩ u6).setCell ⟨E, 7, none⟩ u7).setCell ⟨E, 8, none⟩ u8).setCell ⟨E, 9, none⟩ u9).setCell ⟨E, 10, none⟩ u10
theorem sets11_at {w : World} {E : Nat} {v0 v1 v2 v3 v4 v5 v6 v7 v8 v9 v10 : Value} {t : TypeId} {m : Nat × Nat} (h : w.heap[E]? = some (.cells #[v0, v1, v2, v3, v4, v5, v6, v7, v8, v9, v10] t m)) (u0 u1 u2 u3 u4 u5 u6 u7 u8 u9 u10 : Value) :
    (sets11 w E u0 u1 u2 u3 u4 u5 u6 u7 u8 u9 u10).heap[E]? = some (.cells #[u0, u1, u2, u3, u4, u5, u6, u7, u8, u9, u10] t m) := by
  have h' := set_headE (i := 10) (set_headE (i := 9) (set_headE (i := 8) (set_headE (i := 7) (set_headE (i := 6) (set_headE (i := 5) (set_headE (i := 4) (set_headE (i := 3) (set_headE (i := 2) (set_headE (i := 1) (set_headE (i := 0) h u0) u1) u2) u3) u4) u5) u6) u7) u8) u9) u10
  simp only [List.setIfInBounds_toArray, List.set_cons_zero, List.set_cons_succ] at h'
  exact h'
theorem sets11_other {w : World} {E j : Nat} (h : j ≠ E) (u0 u1 u2 u3 u4 u5 u6 u7 u8 u9 u10 : Value) : (sets11 w E u0 u1 u2 u3 u4 u5 u6 u7 u8 u9 u10).heap[j]? = w.heap[j]? := by
  simp [World.setCell, Array.getElem?_modify, Ne.symm h]
theorem sets11_below {w0 w : World} {E bs : Nat} (hb : Below bs w0 w) (h : bs ≤ E) (u0 u1 u2 u3 u4 u5 u6 u7 u8 u9 u10 : Value) : Below bs w0 (sets11 w E u0 u1 u2 u3 u4 u5 u6 u7 u8 u9 u10) :=
  ((((((((((hb.setCell (p := ⟨E, 0, none⟩) h u0).setCell (p := ⟨E, 1, none⟩) h u1).setCell (p := ⟨E, 2, none⟩) h u2).setCell (p := ⟨E, 3, none⟩) h u3).setCell (p := ⟨E, 4, none⟩) h u4).setCell (p := ⟨E, 5, none⟩) h u5).setCell (p := ⟨E, 6, none⟩) h u6).setCell (p := ⟨E, 7, none⟩) h u7).setCell (p := ⟨E, 8, none⟩) h u8).setCell (p := ⟨E, 9, none⟩) h u9).setCell (p := ⟨E, 10, none⟩) h u10
/-- All that a store of an event into a box wants. -/
theorem box11z {w : World} {E : Nat} {v0 v1 v2 v3 v4 v5 v6 v7 v8 v9 v10 : Value} {t : TypeId} (h : w.heap[E]? = some (.cells #[v0, v1, v2, v3, v4, v5, v6, v7, v8, v9, v10] t (0, 0))) :
    (w.frozen? ⟨E, 0, none⟩ = false ∧ w.frozen? ⟨E, 1, none⟩ = false ∧ w.frozen? ⟨E, 2, none⟩ = false ∧ w.frozen? ⟨E, 3, none⟩ = false ∧ w.frozen? ⟨E, 4, none⟩ = false ∧ w.frozen? ⟨E, 5, none⟩ = false) ∧ w.frozen? ⟨E, 6, none⟩ = false ∧ w.frozen? ⟨E, 7, none⟩ = false ∧ w.frozen? ⟨E, 8, none⟩ = false ∧ w.frozen? ⟨E, 9, none⟩ = false ∧ w.frozen? ⟨E, 10, none⟩ = false :=
  ⟨⟨froz h 0, froz h 1, froz h 2, froz h 3, froz h 4, froz h 5⟩, froz h 6, froz h 7, froz h 8, froz h 9, froz h 10⟩

theorem only_set11 {w w0 w1 w5 : World} {g : Nat} (h0 : Below w.heap.size w w0) (h1 : w0.grownBy w1 (some g)) (h : Below w.heap.size w1 w5) : w.grownBy w5 (some g) :=
  ⟨h.os.trans (h1.os.trans h0.os), h.tape.trans (h1.tape.trans h0.tape), h.output.trans (h1.output.trans h0.output), Nat.le_trans h0.size (Nat.le_trans h1.size h.size), fun i hi hne => (h.block i hi).trans ((h1.block i (Nat.lt_of_lt_of_le hi h0.size) hne).trans (h0.block i hi))⟩

/-- The cells of the event that is zero. -/
abbrev evZ : Array Value := evC 0 0 0 0 [] [] 0 0 0 [] none 0 0
/-- What Read answers. -/
def EvReadEnd (K : Nat → Prop) (w : World) (g : Nat) (l : List Nat) (r : Ending) (w' : World) : Prop :=
  (∃ e rest x, r = .returned (.tuple #[.agg x, .bool true]) ∧ IsE l e rest ∧ EvInP (fun b => w.heap.size ≤ b ∧ b < w'.heap.size) w' e x ∧ RdEndK K w g (rest, true) w') ∨
  (NoE l ∧ r = .returned (.tuple #[.agg evZ, .bool false]) ∧ ∃ ls ok, RdEndK K w g (ls, ok) w')

set_option maxRecDepth 100000 in
theorem evread_version (K : Nat → Prop) (g : Nat) (l : List Nat) (w : World) (hv : ∀ r, l ≠ form 1 ++ r) (hKb : ∀ b, K b → b < w.heap.size) (hR : RdK K w g l true) :
    Calls Tryz.prog 42 #[.pointer (some ⟨g, 0, none⟩)] w (EvReadEnd K w g l) := by
  have hb0 := (Below.refl w.heap.size w).alloc (Nat.le_refl _) (.cells evZ 45)
  have HU := Lib.hid (mUintK _ g _ true _ _ (orNone_some g _) (hR.below hb0))
  have H0 := Lib.hid (heap_alloc_new w (.cells evZ 45))
  have Hb0 := Lib.hid hb0
  have hx : ((((readN l true).1 : Nat) : Int) == 1) = false := by
    rw [beq_eq_false_iff_ne]
    intro e
    rcases readN_only hR.byte with ⟨x, r, hx, rfl⟩ | ⟨hn, _⟩
    · rw [readN_form hx r] at e
      have : x = 1 := by have e : (x : Int) = 1 := e; omega
      subst this
      exact hv r rfl
    · rw [hn] at e
      have e : ((0 : Nat) : Int) = 1 := e
      omega
  have Hv := Lib.hid (noE_version hv)
  obtain ⟨x, l2, ok, hxx⟩ : ∃ x l2 ok, readN l true = (x, l2, ok) := ⟨_, _, _, rfl⟩
  rw [hxx] at HU hx
  have Hg := Lib.hid (show g < w.heap.size from by obtain ⟨a, n, c, h1, _⟩ := hR; exact (Array.getElem?_eq_some_iff.1 h1).1)
  have hfl : ∀ (w : World) (a : Addr) (m : Mode) (b : Nat), (store a (.float .f64 b) m).run Tryz.prog w = stored Tryz.prog w a (.float .f64 b) m := fun w a m b => run_store Tryz.prog w a _ m rfl
  have HK := Lib.hid hKb
  clear hv hR hxx hb0 hKb
  go_enter Tryz.func42, Tryz.ntmps42
  go_wp2_with fail
  refine HU.out.mono ?_
  rintro e w1 ⟨rfl, h1⟩
  have H1 := Lib.hid h1
  have hR1 := evAt_turn H0.out (show w.heap.size ≠ g by have := Hg.out; omega) h1.2
  obtain ⟨c0, c1, c2, c3, c4, c5, c6, c7, c8, c9, c10⟩ := box11 hR1
  obtain ⟨⟨z0, z1, z2, z3, z4, z5⟩, z6, z7, z8, z9, z10⟩ := box11z hR1
  have HR1 := Lib.hid hR1
  clear h1 hR1
  go_wp2
  have hZ := sets11_at HR1.out (.int .i64 0) (.int .u64 0) (.int .i64 0) (.int .u64 0) (.string ⟨#[]⟩) (.string ⟨#[]⟩) (.int .i64 0) (.int .i64 0) (.float .f64 0) (.string ⟨#[]⟩) (.slice none 0 0)
  have HO := Lib.hid (fun j (hj : j ≠ w.heap.size) => sets11_other (w := w1) hj (.int .i64 0) (.int .u64 0) (.int .i64 0) (.int .u64 0) (.string ⟨#[]⟩) (.string ⟨#[]⟩) (.int .i64 0) (.int .i64 0) (.float .f64 0) (.string ⟨#[]⟩) (.slice none 0 0))
  have HS := Lib.hid (sets11_below (Below.refl w.heap.size w1) (Nat.le_refl _) (.int .i64 0) (.int .u64 0) (.int .i64 0) (.int .u64 0) (.string ⟨#[]⟩) (.string ⟨#[]⟩) (.int .i64 0) (.int .i64 0) (.float .f64 0) (.string ⟨#[]⟩) (.slice none 0 0))
  unfold sets11 at hZ HO HS
  clear c0 c1 c2 c3 c4 c5 c6 c7 c8 c9 c10 z0 z1 z2 z3 z4 z5 z6 z7 z8 z9 z10
  generalize World.setCell (World.setCell (World.setCell (World.setCell (World.setCell (World.setCell (World.setCell (World.setCell (World.setCell (World.setCell (World.setCell w1 _ _) _ _) _ _) _ _) _ _) _ _) _ _) _ _) _ _) _ _) _ _ = w5 at *
  obtain ⟨c0, c1, c2, c3, c4, c5, c6, c7, c8, c9, c10⟩ := box11 hZ
  refine bodyPost_ret (v := .tuple #[.agg #[.int .i64 0, .int .u64 0, .int .i64 0, .int .u64 0, .string ⟨#[]⟩, .string ⟨#[]⟩, .int .i64 0, .int .i64 0, .float .f64 0, .string ⟨#[]⟩, .slice none 0 0], .bool false]) (by simp [results, Tryz.results42, go_sem, *]) rfl (.inr ⟨Hv.out, rfl, l2, ok, ?_⟩)
  have hg := Hg.out
  have hz := Hb0.out.size
  refine ⟨H1.out.1.keep (HO.out g (by omega)) (fun b hb hk => HO.out b (fun e => ?_)), ?_⟩
  · exact absurd (HK.out b hk) (by omega)
  · exact only_set11 Hb0.out H1.out.2 HS.out
end Go.Proofs.YtcapbaocchaenaaGreatDoor

/- A reader over bytes, which it copies: where its bytes lie. -/
namespace Go.Proofs.YtcapbaocchaenaaGreatDoor
open Go.RowKit Go.Shelf Fl

/-- What New answers: a reader whose bytes lie in blocks of its own. -/
def NewK2 (w : World) (l : List Nat) (e : Ending) (w' : World) : Prop := ∃ g, e = .returned (.pointer (some ⟨g, 0, none⟩)) ∧ (w.heap.size ≤ g ∧ g < w'.heap.size) ∧ RdK (fun b => w.heap.size ≤ b ∧ b < w'.heap.size ∧ b ≠ g) w' g l true ∧ Below w.heap.size w w'

theorem new_k2 (a : Option Addr) (n cap : Nat) (l : List Nat) (w : World) (hl : Bytes w a n cap l) (hn : n ≤ 100000000000000) :
    Calls Tryz.prog 39 #[.slice a n cap] w (NewK2 w l) := by
  have HB := Lib.hid hl
  clear hl
  go_enter Tryz.func39, Tryz.ntmps39
  go_wp2_with fail
  refine (bclone_any a n cap l w HB.out (by omega)).mono ?_
  rintro e w1 ⟨x, rfl, hown, hb⟩
  have hown : w1.ownsRow w.heap.size 5 1 x l.length (u8s l) := hown
  have hnear : ∀ p n c, x = .slice (some p) n c → w.heap.size ≤ p.block ∧ p.block < w1.heap.size := by
    rintro p n c rfl
    rcases hown.2 with ⟨hv, _⟩ | ⟨g, cap', cur, hv, hg, hh, _⟩
    · cases hv
    · cases hv; exact ⟨hg, (Array.getElem?_eq_some_iff.1 hh).1⟩
  obtain ⟨p, cp, rfl, hP⟩ := own_slice hown HB.out.byte
  have hfp := own_formed hown
  have HP := Lib.hid hP
  have Hfp := Lib.hid hfp
  have Hnear := Lib.hid hnear
  clear hP hown hfp hnear
  go_wp2
  go_ret
  refine ⟨w1.heap.size, rfl, ⟨hb.size, by simp⟩, ⟨p, _, cp, heap_alloc_new _ _, HP.out.grow ((Below.refl _ _).alloc (Nat.le_refl _) _), Hfp.out, fun x hx => ?_⟩, hb.alloc hb.size _⟩
  subst hx
  have h1 := Hnear.out x _ _ rfl
  refine ⟨h1.1, ?_, ?_⟩
  · simp
    omega
  · omega
end Go.Proofs.YtcapbaocchaenaaGreatDoor

/- Bytes that are read as a batch: plain. -/
namespace Go.Proofs.YtcapbaocchaenaaGreatDoor
open Go.RowKit Fl

theorem sameEs_cons {e e' : Ev} {l l' : List Ev} (h : sameE e e' = true) (hl : sameEs l l' = true) : sameEs (e :: l) (e' :: l') = true := by
  unfold sameEs at *
  rw [Bool.and_eq_true, decide_eq_true_eq] at hl ⊢
  refine ⟨by rw [List.length_cons, List.length_cons, hl.1], ?_⟩
  rw [List.zip_cons_cons, List.all_cons, h, hl.2]
  rfl
theorem sameEs_nil : sameEs [] [] = true := by simp [sameEs]

/-- What a valid batch's parts are bounded by. -/
structure BtB (t : Bt) : Prop where
  fl : t.flow.length < 18446744073709551616
  at_ : t.at_ < 18446744073709551616
  n : t.es.length < 18446744073709551616
  es : ∀ e ∈ t.es, okE e = true ∧ EvB e

/-- The bytes l are the form of the valid batch t. -/
def IsB (l : List Nat) (t : Bt) : Prop := okB t = true ∧ BtB t ∧ l = formBt t
/-- No valid batch has the form l. -/
def NoB (l : List Nat) : Prop := ∀ t, ¬ IsB l t

theorem formBt_is (t : Bt) : formBt t = formB t.flow ++ (form t.at_ ++ (form t.es.length ++ (t.es.map formE).flatten)) := by
  unfold formBt headB
  simp only [List.append_assoc]

theorem noB_flow {l : List Nat} (h : ∀ s r, s.length < 18446744073709551616 → l ≠ formB s ++ r) : NoB l := fun t ⟨_, hb, he⟩ => h _ _ hb.fl (by rw [formBt_is] at he; exact he)
theorem noB_at {s l : List Nat} (hs : s.length < 18446744073709551616) (h : ∀ x r, x < 18446744073709551616 → l ≠ form x ++ r) : NoB (formB s ++ l) := fun t ⟨_, hb, he⟩ => by
  rw [formBt_is] at he
  exact h _ _ hb.at_ (formB_split hs hb.fl he).2
theorem noB_count {s l : List Nat} {at_ : Nat} (hs : s.length < 18446744073709551616) (ha : at_ < 18446744073709551616) (h : ∀ x r, x < 18446744073709551616 → l ≠ form x ++ r) : NoB (formB s ++ (form at_ ++ l)) := fun t ⟨_, hb, he⟩ => by
  rw [formBt_is] at he
  exact h _ _ hb.n (form_split ha hb.at_ (formB_split hs hb.fl he).2).2

theorem IsB.parts {s l : List Nat} {at_ n : Nat} {t : Bt} (h : IsB (formB s ++ (form at_ ++ (form n ++ l))) t) (hs : s.length < 18446744073709551616) (ha : at_ < 18446744073709551616) (hn : n < 18446744073709551616) :
    s = t.flow ∧ at_ = t.at_ ∧ n = t.es.length ∧ l = (t.es.map formE).flatten := by
  obtain ⟨_, hb, he⟩ := h
  rw [formBt_is] at he
  obtain ⟨e1, he⟩ := formB_split hs hb.fl he
  obtain ⟨e2, he⟩ := form_split ha hb.at_ he
  obtain ⟨e3, he⟩ := form_split hn hb.n he
  exact ⟨e1, e2, e3, he⟩

/-- Events read one behind the other from the front of forms of events. -/
theorem evs_front : ∀ (es es' : List Ev) (r r' : List Nat), (∀ e ∈ es, okE e = true ∧ EvB e) → (∀ e ∈ es', okE e = true ∧ EvB e) → es.length ≤ es'.length → (es.map formE).flatten ++ r = (es'.map formE).flatten ++ r' → sameEs es (es'.take es.length) = true ∧ r = ((es'.drop es.length).map formE).flatten ++ r'
  | [], es', r, r', _, _, _, h => ⟨sameEs_nil, h⟩
  | e :: es, [], _, _, _, _, hl, _ => by simp at hl
  | e :: es, e' :: es', r, r', h1, h2, hl, h => by
    obtain ⟨o1, o2⟩ := h1 e (by simp)
    obtain ⟨o3, o4⟩ := h2 e' (by simp)
    rw [List.map_cons, List.map_cons, List.flatten_cons, List.flatten_cons, List.append_assoc, List.append_assoc] at h
    obtain ⟨s1, s2⟩ := IsE.uniq (e := e) (e' := e') ⟨o1, o2, rfl⟩ ⟨o3, o4, h⟩
    obtain ⟨s3, s4⟩ := evs_front es es' r r' (fun x hx => h1 x (by simp [hx])) (fun x hx => h2 x (by simp [hx])) (by simpa using hl) s2
    exact ⟨sameEs_cons s1 s3, s4⟩

/-- An event that is not there. -/
theorem noB_event {s l lj : List Nat} {at_ n : Nat} {es : List Ev} (hs : s.length < 18446744073709551616) (ha : at_ < 18446744073709551616) (hn : n < 18446744073709551616) (hes : ∀ e ∈ es, okE e = true ∧ EvB e) (hl : l = (es.map formE).flatten ++ lj) (hlt : es.length < n) (hno : NoE lj) :
    NoB (formB s ++ (form at_ ++ (form n ++ l))) := fun t h => by
  obtain ⟨_, _, e3, e4⟩ := h.parts hs ha hn
  rw [hl, ← List.append_nil ((t.es.map formE).flatten)] at e4
  obtain ⟨_, e5⟩ := evs_front es t.es lj [] hes h.2.1.es (by omega) e4
  have hx : es.length < t.es.length := by omega
  rw [List.drop_eq_getElem_cons hx, List.map_cons, List.flatten_cons, List.append_nil] at e5
  obtain ⟨o1, o2⟩ := h.2.1.es _ (List.getElem_mem hx)
  exact hno _ _ ⟨o1, o2, e5⟩

/-- Bytes that are left. -/
theorem noB_left {s l lj : List Nat} {at_ : Nat} {es : List Ev} (hs : s.length < 18446744073709551616) (ha : at_ < 18446744073709551616) (hn : es.length < 18446744073709551616) (hes : ∀ e ∈ es, okE e = true ∧ EvB e) (hl : l = (es.map formE).flatten ++ lj) (hne : lj ≠ []) :
    NoB (formB s ++ (form at_ ++ (form es.length ++ l))) := fun t h => by
  obtain ⟨_, _, e3, e4⟩ := h.parts hs ha hn
  rw [hl, ← List.append_nil ((t.es.map formE).flatten)] at e4
  obtain ⟨_, e5⟩ := evs_front es t.es lj [] hes h.2.1.es (by omega) e4
  rw [List.drop_eq_nil_of_le (by omega)] at e5
  exact hne e5

theorem okB_same {t t' : Bt} (hf : t.flow = t'.flow) (ha : t.at_ = t'.at_) (hn : t.es.length = t'.es.length) (h : ∀ e ∈ t.es, okE e = true) (h' : ∀ e ∈ t'.es, okE e = true) : okB t = okB t' := by
  unfold okB
  rw [hf, ha, List.all_eq_true.2 h, List.all_eq_true.2 h']
  congr 2
  refine decide_eq_decide.2 ?_
  rw [← List.length_pos_iff, ← List.length_pos_iff, hn]

/-- A batch that is read but not valid. -/
theorem noB_valid {s l : List Nat} {at_ : Nat} {es : List Ev} (hs : s.length < 18446744073709551616) (ha : at_ < 18446744073709551616) (hn : es.length < 18446744073709551616) (hes : ∀ e ∈ es, okE e = true ∧ EvB e) (_ : l = (es.map formE).flatten) (hno : okB ⟨s, at_, es⟩ = false) :
    NoB (formB s ++ (form at_ ++ (form es.length ++ l))) := fun t h => by
  obtain ⟨e1, e2, e3, e4⟩ := h.parts hs ha hn
  have h1 := okB_same (t := ⟨s, at_, es⟩) (t' := t) e1 e2 e3 (fun e he => (hes e he).1) (fun e he => (h.2.1.es e he).1)
  rw [hno, h.1] at h1
  cases h1

theorem isB_read {s l : List Nat} {at_ : Nat} {es : List Ev} (hs : s.length < 18446744073709551616) (ha : at_ < 18446744073709551616) (hn : es.length < 18446744073709551616) (hes : ∀ e ∈ es, okE e = true ∧ EvB e) (hl : l = (es.map formE).flatten) (hok : okB ⟨s, at_, es⟩ = true) :
    IsB (formB s ++ (form at_ ++ (form es.length ++ l))) ⟨s, at_, es⟩ := ⟨hok, ⟨hs, ha, hn, hes⟩, by rw [formBt_is, hl]⟩

theorem IsB.uniq {l : List Nat} {t t' : Bt} (h : IsB l t) (h' : IsB l t') : sameB t t' = true := by
  have h2 := h'
  rw [h.2.2, formBt_is] at h2
  obtain ⟨e1, e2, e3, e4⟩ := h2.parts h.2.1.fl h.2.1.at_ h.2.1.n
  have e5 : (t.es.map formE).flatten ++ [] = (t'.es.map formE).flatten ++ [] := by rw [e4]
  obtain ⟨e6, _⟩ := evs_front t.es t'.es [] [] h.2.1.es h'.2.1.es (by omega) e5
  rw [e3, List.take_length] at e6
  unfold sameB
  rw [Bool.and_eq_true, decide_eq_true_eq]
  exact ⟨⟨e1, e2⟩, e6⟩

/-- The forms of events are at least as long as the events are many. -/
theorem forms_many : ∀ es : List Ev, es.length ≤ (es.map formE).flatten.length
  | [] => Nat.zero_le _
  | e :: es => by
    have h1 := forms_many es
    have h2 : 1 ≤ (formE e).length := by
      unfold formE
      rw [List.length_append, List.length_append]
      have := form_pos 1
      omega
    rw [List.map_cons, List.flatten_cons, List.length_append, List.length_cons]
    omega

theorem readN_bad (l : List Nat) : readN l false = (0, l, false) := by
  unfold readN
  rw [if_neg (fun h => by cases h.1)]

/-- What the three reads ahead of the events find. -/
theorem head_read {l s l1 l2 l3 : List Nat} {at_ n : Nat} {ok1 ok2 ok3 : Bool} (hb : ∀ c ∈ l, c < 256) (h1 : readB l true = (s, l1, ok1)) (h2 : readN l1 ok1 = (at_, l2, ok2)) (h3 : readN l2 ok2 = (n, l3, ok3)) :
    ((∀ c ∈ s, c < 256) ∧ s.length ≤ l.length) ∧ (at_ < 18446744073709551616 ∧ n < 18446744073709551616) ∧ l3.length ≤ l.length ∧
    ((ok3 = true ∧ s.length < 18446744073709551616 ∧ l = formB s ++ (form at_ ++ (form n ++ l3))) ∨ (ok3 = false ∧ n = 0 ∧ NoB l)) := by
  rcases readB_only hb with ⟨s', r, hs, rfl⟩ | ⟨hn, hno⟩
  rotate_left
  · rw [hn] at h1
    obtain ⟨rfl, kh1⟩ := Prod.mk.inj h1
    obtain ⟨rfl, rfl⟩ := Prod.mk.inj kh1
    rw [readN_bad] at h2
    obtain ⟨rfl, kh2⟩ := Prod.mk.inj h2
    obtain ⟨rfl, rfl⟩ := Prod.mk.inj kh2
    rw [readN_bad] at h3
    obtain ⟨rfl, kh3⟩ := Prod.mk.inj h3
    obtain ⟨rfl, rfl⟩ := Prod.mk.inj kh3
    exact ⟨⟨fun c h => by (cases h), Nat.zero_le _⟩, ⟨by omega, by omega⟩, Nat.le_refl _, .inr ⟨rfl, rfl, noB_flow hno⟩⟩
  rw [readB_form hs r] at h1
  obtain ⟨rfl, kh1⟩ := Prod.mk.inj h1
  obtain ⟨rfl, rfl⟩ := Prod.mk.inj kh1
  have hs8 : ∀ c ∈ s', c < 256 := fun c hc => hb c (by unfold formB; simp [hc])
  have hr8 : ∀ c ∈ r, c < 256 := fun c hc => hb c (by simp [hc])
  have hsl : s'.length ≤ (formB s' ++ r).length := by unfold formB; simp only [List.length_append]; omega
  rcases readN_only hr8 with ⟨x, r1, hx, rfl⟩ | ⟨hn, hno⟩
  rotate_left
  · rw [hn] at h2
    obtain ⟨rfl, kh2⟩ := Prod.mk.inj h2
    obtain ⟨rfl, rfl⟩ := Prod.mk.inj kh2
    rw [readN_bad] at h3
    obtain ⟨rfl, kh3⟩ := Prod.mk.inj h3
    obtain ⟨rfl, rfl⟩ := Prod.mk.inj kh3
    exact ⟨⟨hs8, hsl⟩, ⟨by omega, by omega⟩, by simp only [List.length_append]; omega, .inr ⟨rfl, rfl, noB_at hs hno⟩⟩
  rw [readN_form hx r1] at h2
  obtain ⟨rfl, kh2⟩ := Prod.mk.inj h2
  obtain ⟨rfl, rfl⟩ := Prod.mk.inj kh2
  have hr1 : ∀ c ∈ r1, c < 256 := fun c hc => hr8 c (by simp [hc])
  rcases readN_only hr1 with ⟨y, r2, hy, rfl⟩ | ⟨hn, hno⟩
  rotate_left
  · rw [hn] at h3
    obtain ⟨rfl, kh3⟩ := Prod.mk.inj h3
    obtain ⟨rfl, rfl⟩ := Prod.mk.inj kh3
    exact ⟨⟨hs8, hsl⟩, ⟨hx, by omega⟩, by simp only [List.length_append]; omega, .inr ⟨rfl, rfl, noB_count hs hx hno⟩⟩
  rw [readN_form hy r2] at h3
  obtain ⟨rfl, kh3⟩ := Prod.mk.inj h3
  obtain ⟨rfl, rfl⟩ := Prod.mk.inj kh3
  exact ⟨⟨hs8, hsl⟩, ⟨hx, hy⟩, by simp only [List.length_append]; omega, .inl ⟨rfl, hs, rfl⟩⟩
end Go.Proofs.YtcapbaocchaenaaGreatDoor

