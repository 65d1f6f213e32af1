/- The statement QueueWords. -/
import Derived.Test.YtmmiommfbkcebaaQwList
import Derived.Test.YtmmiommfbkcebaaQueueOrders
import Derived.Test.YtmmiommfbkcebaaStr
namespace Go.Proofs.Ytmmiommfbkcebaa
open Go.RowKit

/-- A byte as an int. -/
def cI (x : UInt8) : Int := (x.toNat : Int)
theorem cI_inj {x y : UInt8} (h : cI x = cI y) : x = y := UInt8.toNat_inj.1 (Int.ofNat.inj h)
/-- What New makes of words. -/
def newU (l : List UInt8) : List UInt8 := l.foldl pushU []
theorem newU_snoc (l : List UInt8) (x : UInt8) : newU (l ++ [x]) = pushU (newU l) x := by unfold newU; rw [List.foldl_append]; rfl
theorem newU_map (l : List UInt8) : (newU l).map cI = newQ (l.map cI) := by
  have h : ∀ (l a : List UInt8), (l.foldl pushU a).map cI = (l.map cI).foldl pushQ (a.map cI) := by
    intro l
    induction l with
    | nil => intro a; rfl
    | cons x l ih =>
      intro a
      have e : (pushU a x).map cI = pushQ (a.map cI) (cI x) := by
        unfold pushU pushQ
        by_cases hx : x ∈ a
        · rw [if_pos hx, if_pos (List.mem_map.2 ⟨x, hx, rfl⟩)]
        · rw [if_neg hx, if_neg (fun hm => by obtain ⟨y, hy, hyx⟩ := List.mem_map.1 hm; exact hx (cI_inj hyx ▸ hy)), List.map_append]
          rfl
      rw [List.foldl_cons, List.map_cons, List.foldl_cons, ih, e]
  exact h l []
theorem newU_len (l : List UInt8) : (newU l).length ≤ l.length := by
  have h := newQ_len (l.map cI)
  rw [← newU_map, List.length_map, List.length_map] at h
  exact h

theorem rowS_own {w : World} {base : Nat} {v : Value} {l : List UInt8} (h : OwnS w base v l) : ∃ p c, v = .slice p l.length c ∧ l.length ≤ c ∧ c ≤ 9223372036854775807 ∧ (0 < l.length → ∃ g o, p = some ⟨g, o, none⟩ ∧ ∀ i x, l[i]? = some x → w.cell? ⟨g, o + i, none⟩ = some (.string (strB x))) := by
  rcases h.2 with ⟨rfl, hn⟩ | ⟨g, cap, cur, rfl, hb, hg, hnc, hcm, hcs, htake⟩
  · rw [hn]
    exact ⟨none, 0, rfl, Nat.le_refl _, by decide, fun h => absurd h (Nat.lt_irrefl _)⟩
  · rw [maxLen_nat] at hcm
    refine ⟨_, cap, rfl, hnc, hcm, fun _ => ⟨g, 0, rfl, fun i x hi => ?_⟩⟩
    rw [Nat.zero_add]
    exact cell_inQ (xs := l.map evS) hg (by rw [List.length_map]; rw [Nat.mul_one] at htake; exact htake) (by rw [List.getElem?_map, hi]; rfl)

/-- What the first loop holds after j rounds. -/
def QwJ (w0 : World) (d : Nat) (L : List UInt8) (j : Nat) (u : Value) (wr : World) : Prop :=
  ∃ X, QwS w0 X wr j d (newU (L.take j)) ∧ OwnQ wr w0.heap.size u ((L.take j).map cI) ∧ ∀ b, u.ownBlock = some b → X b

theorem QwJ.pushed {w0 w2 w5 : World} {X : Nat → Prop} {m d : Nat} {l' : List UInt8} {u u5 : Value} {a a5 : List Int} {o o' : Obj} (h4 : QwS w0 X w2 m d l') (hu : OwnQ w2 w0.heap.size u a) (h3 : ∀ b, u.ownBlock = some b → X b) (g5 : OwnQ w5 w0.heap.size u5 a5)
    (gb : (w2.alloc o).grownBy w5 u.ownBlock) (ob : u5.ownBlock = u.ownBlock ∨ u5.ownBlock = some (w2.alloc o).heap.size) : ∃ X', QwS w0 X' (w5.alloc o') m d l' ∧ ∀ b, u5.ownBlock = some b → X' b := by
  have hb : Below w2.heap.size w2 (w2.alloc o) := (Below.refl _ _).alloc (Nat.le_refl _) _
  have hsz : (w2.alloc o).heap.size ≤ w5.heap.size := gb.size
  have s3 : QwS w0 X (w2.alloc o) m d l' := h4.grown (r := none) ⟨hb.os, hb.tape, hb.output, hb.size, fun k hk _ => hb.block k hk⟩ (fun b e => by cases e) (fun b hx => ⟨.inl hx, Nat.lt_of_lt_of_le (h4.xb b hx) hb.size⟩)
  have s5 : QwS w0 (fun b => X b ∨ ((w2.alloc o).heap.size ≤ b ∧ b < w5.heap.size)) w5 m d l' := s3.grown gb (fun b e => ⟨h3 b e, (World.ownsRow.lt hu b e).1⟩) (fun b hx => by
    rcases hx with hx | hx
    · exact ⟨.inl hx, Nat.lt_of_lt_of_le (s3.xb b hx) hsz⟩
    · exact ⟨.inr hx.1, hx.2⟩)
  have hb5 : Below w5.heap.size w5 (w5.alloc o') := (Below.refl _ _).alloc (Nat.le_refl _) _
  refine ⟨_, s5.grown (r := none) ⟨hb5.os, hb5.tape, hb5.output, hb5.size, fun k hk _ => hb5.block k hk⟩ (fun b e => by cases e) (fun b hx => ⟨.inl hx, Nat.lt_of_lt_of_le (s5.xb b hx) hb5.size⟩), fun b e => ?_⟩
  rcases ob with e' | e'
  · exact .inl (h3 b (e' ▸ e))
  · have h7 := (World.ownsRow.lt g5 b e).2
    rw [e'] at e
    cases e
    exact .inr ⟨Nat.le_refl _, h7⟩

theorem wrap64_byte (x : UInt8) : wrap64 (x.toNat : Int) = (x.toNat : Int) := by
  have h := UInt8.toNat_lt x
  unfold wrap64
  omega

theorem conv_one (x : UInt8) (W : World) : (convert 46 9 (.slice (some ⟨W.heap.size, 0, none⟩) 1 1)).run Try.prog (W.alloc (.cells #[.int .u8 (x.toNat : Int)] 5)) = .ok (.string (strB x)) (W.alloc (.cells #[.int .u8 (x.toNat : Int)] 5)) := by
  have hB : Bytes (W.alloc (.cells #[.int .u8 (x.toNat : Int)] 5)) (some ⟨W.heap.size, 0, none⟩) 1 1 [x.toNat] := by
    refine ⟨rfl, Nat.le_refl _, by omega, fun y hy => by rw [List.mem_singleton] at hy; rw [hy]; exact UInt8.toNat_lt x, fun h => (by cases h), fun _ => ⟨W.heap.size, 0, rfl, fun i hi => ?_⟩⟩
    obtain rfl : i = 0 := by omega
    exact box_new _ _ _ _ rfl
  have h := convert_bytes (P := Try.prog) hB 46 5 9 Try.underlying46 Try.underlying5 Try.underlying9
  have e : str [x.toNat] = strB x := by unfold str strB; simp
  rw [e] at h
  exact h

set_option maxRecDepth 100000 in
set_option maxHeartbeats 3200000 in
theorem queueWords_any (K : QKit) (p : Option Addr) (n c : Nat) (l : List Nat) (w : World) (h : Bytes w p n c l) :
    Calls Try.prog 7 #[.slice p n c] w fun r w' => r = .returned (.bool true) ∧ Below w.heap.size w w' := by
  have hle := h.le
  have hmx := h.capmax
  have HA := Lib.hid (fun w => alive17_any K w)
  by_cases hbig : 200 < n
  · have hb : (200 : Int) < (n : Int) := by omega
    clear h hbig
    go_enter Try.func7, Try.ntmps7
    go_wp2_with fail
    refine (HA.out _).mono ?_
    rintro r w2 ⟨rfl, hb2⟩
    have HE := Lib.hid hb2
    clear hb2
    go_wp2
    go_ret
    exact ⟨rfl, HE.out⟩
  · have hb : ¬ (200 : Int) < (n : Int) := by omega
    have hn2 : n ≤ 200 := by omega
    have HN := Lib.hid (newW_any w)
    obtain ⟨L, hL⟩ : ∃ L : List UInt8, L = l.map UInt8.ofNat := ⟨_, rfl⟩
    have hLn : L.length = n := by rw [hL, List.length_map, h.len]
    have HI := Lib.hid (show 0 < n → ∃ b o, p = some ⟨b, o, none⟩ ∧ ∀ i x, L[i]? = some x → w.cell? ⟨b, o + i, none⟩ = some (.int .u8 (x.toNat : Int)) from fun hn => by
      obtain ⟨b, o, e, hc⟩ := h.cell hn
      refine ⟨b, o, e, fun i x hi => ?_⟩
      rw [hL, List.getElem?_map] at hi
      obtain ⟨y, hy, rfl⟩ := Option.map_eq_some_iff.1 hi
      have hlt : i < n := by rw [← h.len]; exact (List.getElem?_eq_some_iff.1 hy).1
      have hby := h.byte y (List.mem_of_getElem? hy)
      rw [hc i hlt, List.getD_eq_getElem?_getD, hy]
      simp only [Option.getD_some, UInt8.toNat_ofNat']
      rw [Nat.mod_eq_of_lt (by omega)])
    clear h hbig hL
    go_enter Try.func7, Try.ntmps7
    go_wp2_with fail
    refine HN.out.mono ?_
    rintro r w1 ⟨d, rfl, hS⟩
    have HJ0 := Lib.hid (show QwJ w d L 0 (.slice none 0 0) w1 from ⟨_, hS, World.ownsRow_nil _ _ _ _, fun b e => (by cases e)⟩)
    clear hS
    go_wp2_with fail
    go_loopw [4, 17] (fun u i wr => ∃ j : Nat, j ≤ n ∧ i = .int .i64 (j : Int) ∧ RowKit.Hid (QwJ w d L j u wr)) (fun _ i _ => n - (intOf i).toNat)
    case atStart => exact ⟨0, Nat.zero_le _, rfl, HJ0⟩
    case round =>
      clear HJ0
      obtain ⟨j, hj, rfl, HJ⟩ := hrel
      obtain ⟨X, h1, h2, h3⟩ := HJ.out
      by_cases hlt : j < n
      · have hji : (j : Int) < (n : Int) := by omega
        obtain ⟨g, o, rfl, hc⟩ := HI.out (by omega)
        obtain ⟨x, hx⟩ : ∃ x, L[j]? = some x := ⟨_, List.getElem?_eq_getElem (by omega)⟩
        have g0 := cell_below h1.base (hc j x hx)
        have He := Lib.hid (show L.take (j + 1) = L.take j ++ [x] from by rw [List.take_add_one, hx]; rfl)
        have HCV := Lib.hid (fun W => conv_one x W)
        have Hu3 := Lib.hid (h2.below ((Below.refl _ _).alloc (Nat.le_refl _) (.cells #[.int .i64 (x.toNat : Int)] 3)))
        have Hl := Lib.hid (show ((L.take j).map cI).length + 1 ≤ 4000000 from by rw [List.length_map, List.length_take]; omega)
        have Hsz := Lib.hid h1.base.size
        have H123 := Lib.hid (And.intro h1 (And.intro h2 h3))
        have hw64 : wrap64 (x.toNat : Int) = (x.toNat : Int) := wrap64_byte x
        clear h1 h2 h3 hc hx HJ
        go_wp2_with (at_builtin; go_loud (refine wpl_appq rfl _ _ rfl (base := w.heap.size) (l := (L.take j).map cI) rfl Hu3.out (p := some ⟨wr.heap.size, 0, none⟩) (m := 1) (c := 1) (ms := [cI x]) rfl (qs_box wr (cI x)) (by have h5 := Hsz.out; simp; omega) Hl.out ?_; intro u5 w5 g5 b5 gb5 ob5; have hcv := HCV.out w5; have HG := Lib.hid (And.intro g5 (And.intro gb5 ob5)); clear g5 b5 gb5 ob5))
        obtain ⟨X', hs5, hm5⟩ := QwJ.pushed (o' := .cells #[.int .u8 (x.toNat : Int)] 5) H123.out.1 H123.out.2.1 H123.out.2.2 HG.out.1 HG.out.2.1 HG.out.2.2
        have HP := Lib.hid (pushW_any hs5 (by omega) x trivial)
        have Hm5 := Lib.hid hm5
        clear hs5 hm5 hcv
        go_wp2_with fail
        refine HP.out.mono ?_
        rintro r w7 ⟨rfl, hE⟩
        have HJ7 := Lib.hid (show QwJ w d L (j + 1) u5 w7 from by
          refine ⟨X', by rw [He.out, newU_snoc]; exact hE.1, ?_, Hm5.out⟩
          rw [He.out, List.map_append]
          have h6 : OwnQ (w5.alloc (.cells #[.int .u8 (x.toNat : Int)] 5)) w.heap.size u5 _ := HG.out.1.below ((Below.refl _ _).alloc (Nat.le_refl _) _)
          refine ⟨h6.1, ?_⟩
          rcases h6.2 with hn | ⟨g', cap, cur, rfl, hb', hg', rest⟩
          · exact .inl hn
          · exact .inr ⟨g', cap, cur, rfl, hb', (hE.2.1 g' (Hm5.out g' rfl)).trans hg', rest⟩)
        clear hE
        go_wp2
        go_roundw
        case rel => exact ⟨j + 1, by omega, by go_num, HJ7⟩
        case measure => simp [intOf]; omega
      · have hji : ¬ (j : Int) < (n : Int) := by omega
        obtain rfl : j = n := by omega
        rw [List.take_of_length_le (by omega)] at h1 h2
        obtain ⟨q, kq, rfl, hrow⟩ := rowQ_own h2 (n := j) (by rw [List.length_map]; exact hLn)
        have Hnum := Lib.hid hrow.items
        have HB := Lib.hid h1.base
        obtain ⟨vv, TT, mb, kk, hq⟩ := h1
        have HLs := Lib.hid (listW_any hq (by omega))
        obtain ⟨M, hM⟩ : ∃ M, M = newU L := ⟨_, rfl⟩
        have hMl : M.length ≤ j := by rw [hM, ← hLn]; exact newU_len L
        have hMm : M.map cI = newQ (L.map cI) := by rw [hM]; exact newU_map L
        obtain ⟨N, hN⟩ : ∃ N, N = M.length := ⟨_, rfl⟩
        have HRn := Lib.hid (fun W (hW : Below wr.heap.size wr W) => (rnew17_any q j kq (L.map cI) W (hrow.items.below hW) (by omega)).mono (R' := fun r w' => ∃ q k, r = .returned (.slice q N k) ∧ Qs w' q N k (M.map cI) ∧ Below W.heap.size W w') (fun r w' h => by
          obtain ⟨q, k, rfl, h1, h2⟩ := h
          rw [← hMm, List.length_map, ← hN] at h1
          exact ⟨q, k, by rw [← hMm, List.length_map, ← hN], h1.items, h2⟩))
        rw [← hM] at HLs
        clear h2 h3 hrow hq HJ hM hMm
        go_wp2_with fail
        refine HLs.out.mono ?_
        rintro r w9 ⟨u9, rfl, hu9, hb9⟩
        obtain ⟨p9, c9, rfl, hle9, hmx9, hc9⟩ := rowS_own hu9
        rw [← hN] at hle9 hc9 hMl
        have HN9 := Lib.hid hN
        have HB9 := Lib.hid hb9
        have HC9 := Lib.hid hc9
        clear hu9 hb9 hc9
        rw [← hN]
        clear hN
        go_wp2_with fail
        go_loopw [7, 35] (fun u i wx => ∃ t : Nat, t ≤ N ∧ i = .int .i64 (t : Int) ∧ RowKit.Hid (OwnQ wx w9.heap.size u ((M.take t).map cI) ∧ Below w9.heap.size w9 wx)) (fun _ i _ => N - (intOf i).toNat)
        case atStart => exact ⟨0, Nat.zero_le _, rfl, Lib.hid ⟨World.ownsRow_nil _ _ _ _, Below.refl _ _⟩⟩
        case round =>
          obtain ⟨t, ht, rfl, HT⟩ := hrel
          by_cases hlt2 : t < N
          · have htN : (t : Int) < (N : Int) := by omega
            obtain ⟨g, o, rfl, hc⟩ := HC9.out (by omega)
            obtain ⟨x, hx⟩ : ∃ x, M[t]? = some x := ⟨_, List.getElem?_eq_getElem (by have := HN9.out; omega)⟩
            have g0 := cell_below HT.out.2 (hc t x hx)
            have hsz : (strB x).size = 1 := strB_size x
            have He := Lib.hid (show M.take (t + 1) = M.take t ++ [x] from by rw [List.take_add_one, hx]; rfl)
            have hix : ∀ h : 0 < (strB x).size, (strB x)[0]'h = x := fun _ => rfl
            have hw64 : wrap64 (x.toNat : Int) = (x.toNat : Int) := wrap64_byte x
            have Hu3 := Lib.hid (HT.out.1.below ((Below.refl _ _).alloc (Nat.le_refl _) (.cells #[.int .i64 (x.toNat : Int)] 3)))
            have Hl := Lib.hid (show ((M.take t).map cI).length + 1 ≤ 4000000 from by rw [List.length_map, List.length_take]; omega)
            have Hsz := Lib.hid HT.out.2.size
            clear hc hx
            go_wp2_with (at_builtin; refine wpl_appq rfl _ _ rfl (base := w9.heap.size) (l := (M.take t).map cI) rfl Hu3.out (p := some ⟨wr.heap.size, 0, none⟩) (m := 1) (c := 1) (ms := [cI x]) rfl (qs_box wr (cI x)) (by have h5 := Hsz.out; simp; omega) Hl.out ?_; intro u5 w5 g5 b5 gb5 ob5; have HG := Lib.hid (And.intro g5 b5); clear g5 b5 gb5 ob5)
            go_roundw
            case rel => exact ⟨t + 1, by omega, by go_num, Lib.hid ⟨by rw [He.out, List.map_append]; exact HG.out.1, (HT.out.2.trans (((Below.refl wr.heap.size wr).alloc (Nat.le_refl _) _).mono Hsz.out)).trans HG.out.2⟩⟩
            case measure => simp [intOf]; omega
          · have htN : ¬ (t : Int) < (N : Int) := by omega
            obtain rfl : t = N := by omega
            have hT := HT.out
            rw [List.take_of_length_le (by have := HN9.out; omega)] at hT
            obtain ⟨pg, cg, rfl, hrg⟩ := rowQ_own hT.1 (n := t) (by rw [List.length_map]; exact HN9.out.symm)
            have Hg := Lib.hid hrg.items
            have Hbx := Lib.hid (HB9.out.trans (hT.2.mono HB9.out.size))
            clear hT hrg HT
            go_wp2_with fail
            refine (HA.out _).mono ?_
            rintro r w11 ⟨rfl, hb11⟩
            have Hb11 := Lib.hid (Hbx.out.trans (hb11.mono Hbx.out.size))
            have Hg11 := Lib.hid (Hg.out.below hb11)
            clear hb11
            go_wp2_with fail
            refine (HRn.out _ Hb11.out).mono ?_
            rintro r w12 ⟨q12, k12, rfl, hI12, hb12⟩
            have HE := Lib.hid (show Calls Try.prog 18 #[.slice pg t cg, .slice q12 t k12] w12 fun r w' => r = .returned (.bool true) ∧ Below w12.heap.size w12 w' from (qequal_any pg q12 _ _ cg k12 _ _ w12 (Hg11.out.below hb12) hI12).mono (fun r w' h => ⟨h.1.trans (by simp), h.2⟩))
            have Hb12 := Lib.hid (HB.out.trans ((Hb11.out.trans (hb12.mono Hb11.out.size)).mono HB.out.size))
            clear hI12 hb12
            go_wp2_with fail
            refine HE.out.mono ?_
            rintro r w13 ⟨rfl, hb13⟩
            have HEnd := Lib.hid (Hb12.out.trans (hb13.mono Hb12.out.size))
            clear hb13
            go_wp2
            go_ret
            exact ⟨rfl, HEnd.out⟩
end Go.Proofs.Ytmmiommfbkcebaa
