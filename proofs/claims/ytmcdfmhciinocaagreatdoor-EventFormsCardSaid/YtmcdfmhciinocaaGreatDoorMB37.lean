import Derived.Test.YtmcdfmhciinocaaGreatDoorMB36
import Derived.Test.YtmcdfmhciinocaaGreatDoorMB32
import Derived.Test.YtmcdfmhciinocaaGreatDoorMB14
/- The walk of readList, whatever the bytes, where read does what it is to do at one level less. -/
namespace Go.Proofs.YtmcdfmhciinocaaGreatDoor
open Go.RowKit Go.Shelf Fl

/-- read does what it is to do at t levels, whatever the bytes. -/
def RdV (t : Nat) : Prop := ∀ (K : Nat → Prop) (l : List Nat) (g : Nat) (w : World), l.length ≤ 1000000 → (∀ b, K b → b < w.heap.size) → RdK K w g l true →
  Calls Tryz.prog 149 #[.pointer (some ⟨g, 0, none⟩), .int .i64 (t : Int)] w (RdAny K w g t l)

/-- What readList answers at a count and the bytes behind it. -/
def RdsAny (K : Nat → Prop) (w : World) (g t n : Nat) (l : List Nat) (e : Ending) (w' : World) : Prop :=
  (∃ (us : List V) (rest : List Nat) (a : Option Addr) (cap : Nat), e = .returned (.iface 158 (.slice a us.length cap)) ∧
    (us.length ≤ cap ∧ cap ≤ 9223372036854775807 ∧ (us = [] ∨ ∃ gg, a = some ⟨gg, 0, none⟩ ∧ (w.heap.size ≤ gg ∧ gg < w'.heap.size) ∧ VsInP (fun b => w.heap.size ≤ b ∧ b < w'.heap.size) w' us gg 0)) ∧
    (∀ u ∈ us, rightN t u = true ∧ boundV u) ∧ us.length = n ∧ l = formsV us ++ rest ∧ RdEndK K w g (rest, true) w') ∨
  (NoV (t + 1) (form 4 ++ (form n ++ l)) ∧ NilEnd K w g e w')

theorem forms_snoc (us : List V) (u : V) (r : List Nat) : formsV (us ++ [u]) ++ r = formsV us ++ (formV u ++ r) := by
  rw [formsV_append, List.append_assoc]
  show _ ++ ((formV u ++ []) ++ r) = _
  rw [List.append_nil]

set_option maxRecDepth 100000 in
set_option maxHeartbeats 3200000 in
theorem readList_all (K : Nat → Prop) (t : Nat) (ht : t ≤ 1000) (hA : RdV t) (n : Nat) (l : List Nat) (g : Nat) (w : World) (hn : n < 18446744073709551616) (hl : l.length ≤ 1000000)
    (hK : ∀ b, K b → b < w.heap.size) (hg : g < w.heap.size) (hR : RdK K w g (form n ++ l) true) :
    Calls Tryz.prog 173 #[.pointer (some ⟨g, 0, none⟩), .int .i64 ((t + 1 : Nat) : Int)] w (RdsAny K w g t n l) := by
  obtain ⟨T, hTe⟩ : ∃ T : Int, T = ((t + 1 : Nat) : Int) := ⟨_, rfl⟩
  have hT0 : (T == 0) = false := beq_eq_false_iff_ne.2 (by omega)
  have hT1 : T - 1 = (t : Int) := by omega
  have hT2 : 0 < T ∧ T ≤ 1001 := by omega
  rw [← hTe]
  have HA := Lib.hid hA
  have HK := Lib.hid hK
  have Hg := Lib.hid hg
  have Hl := Lib.hid hl
  have Hn := Lib.hid hn
  have HU := Lib.hid (mUintK _ g _ true w w (orNone_some g w) hR)
  rw [readN_form hn l] at HU
  have hnm : (n : Int) < 18446744073709551616 := by omega
  clear hA hK hg hl hTe hR hn
  go_enter Tryz.func173, Tryz.ntmps173
  go_wp2_with fail
  refine HU.out.mono ?_
  rintro e w1 ⟨rfl, h1⟩
  have H1 := Lib.hid h1
  clear h1
  go_wp2
  go_loopw [5, 11] (fun v i wr => ∃ (j : Nat) (us : List V) (lj : List Nat), j ≤ n ∧ i = .int .u64 (j : Int) ∧ us.length = j ∧ OwnVs wr w.heap.size v us ∧ (∀ u ∈ us, rightN t u = true ∧ boundV u) ∧ l = formsV us ++ lj ∧ RdEndK K w g (lj, true) wr) (fun _ i _ => n - (intOf i).toNat)
  case atStart => exact ⟨0, [], l, Nat.zero_le _, rfl, rfl, OwnVs.nil _ _, fun u hu => (by cases hu), rfl, H1.out⟩
  case round =>
    obtain ⟨j, us, lj, hj, rfl, hul, hO, hru, hsa, hrd⟩ := hrel
    have HO := Lib.hid hO
    have Hru := Lib.hid hru
    have Hsa := Lib.hid hsa
    have Hrd := Lib.hid hrd
    have Hul := Lib.hid hul
    have Hus := Lib.hid (show us.length ≤ 1000000 from by
      have h1 := formsV_count us
      have h2 := Hl.out
      rw [hsa, List.length_append] at h2
      omega)
    clear hO hru hsa hrd hul
    by_cases hlt : j < n
    · have hlen : lj.length ≤ 1000000 := by
        have h2 := Hl.out
        rw [Hsa.out, List.length_append] at h2
        omega
      have HA1 := Lib.hid (HA.out K lj g wr hlen (fun b hb => Nat.lt_of_lt_of_le (HK.out b hb) Hrd.out.2.size) Hrd.out.1)
      have Hlt := Lib.hid hlt
      have hji : (j : Int) < (n : Int) := by omega
      clear hlen hlt
      go_wp2_with fail
      refine HA1.out.mono ?_
      rintro e w2 (⟨u, rest, a, cap, rfl, hv, hiv, hrd2⟩ | ⟨hno, rfl, s, hrd2⟩)
      · obtain ⟨hrt, hbu, hlj⟩ := hiv
        obtain ⟨T', p', hci⟩ := con_iface (a := a) (cap := cap) hrt
        obtain ⟨a2, cap2, hwh, hv2⟩ := whole_in hrt hv
        have HW := Lib.hid (fun w => whole_any u.kind u.n u.f u.s a u.l.length cap w)
        rw [hwh] at HW
        rw [hci] at HW ⊢
        have Hrd2 := Lib.hid hrd2
        have Hv2 := Lib.hid hv2
        have Hrt := Lib.hid (And.intro hrt hbu)
        have Hsm := Lib.hid hlj
        clear hci hwh hv hv2 hrt hbu hlj hrd2
        go_wp2_with fail
        refine (HW.out _).mono ?_
        rintro e w3 ⟨rfl, hb3⟩
        have hwz := Hrd.out.2.size
        have hgw := Hg.out
        have hO2 := (HO.out.keep (fun b hb1 hb => Hrd2.out.2.block b hb (fun e => by cases e; omega)) Hrd2.out.2.size).keep (fun b _ hb => hb3.block b hb) hb3.size
        have hal : Below w3.heap.size w3 (w3.alloc (.cells #[.int .i64 u.kind, .int .i64 u.n, .float .f64 u.f, .string (str u.s), .slice a2 u.l.length cap2] 26)) := (Below.refl _ _).alloc (Nat.le_refl _) _
        have hO3 := hO2.keep (fun b _ hb => hal.block b hb) hal.size
        have hblk := fun e => (HO.out.block (g := e))
        obtain ⟨cs, hcl, hrow, hel⟩ := hO3
        have hrk : RdEndK K w g (rest, true) (w3.alloc (.cells #[.int .i64 u.kind, .int .i64 u.n, .float .f64 u.f, .string (str u.s), .slice a2 u.l.length cap2] 26)) := ((Hrd.out.go Hrd2.out).below hb3).below hal
        have hu : VInP (fun b => w.heap.size ≤ b ∧ some b ≠ u5.ownBlock ∧ b < (w3.alloc (.cells #[.int .i64 u.kind, .int .i64 u.n, .float .f64 u.f, .string (str u.s), .slice a2 u.l.length cap2] 26)).heap.size) (w3.alloc (.cells #[.int .i64 u.kind, .int .i64 u.n, .float .f64 u.f, .string (str u.s), .slice a2 u.l.length cap2] 26)) u (cells5 u.kind u.n u.f u.s a2 u.l.length cap2) :=
          VInP.turn (fun b hq => ⟨by omega, (fun e => by have := (hblk _ e.symm).2; omega), by have := hal.size; have := hb3.size; omega⟩) (fun p hp => by unfold World.cell?; rw [hal.block p.block (by have := hb3.size; omega), hb3.block p.block hp.2]) u _ Hv2.out
        have Hcl := Lib.hid hcl
        have Hrow := Lib.hid hrow
        have Hel := Lib.hid hel
        have Hu := Lib.hid hu
        have Hrk := Lib.hid hrk
        clear hb3 hO2 hal hblk hcl hrow hel hu hrk hwz hgw
        obtain ⟨i0, hi, hz0, hz1, hz2⟩ := info_parts info_value
        go_wp2_with (at_builtin; refine wpList_append_lies _ rfl _ _ 158 rfl w.heap.size 26 i0 _ 5 64 Tryz.underlying158 hi hz0 hz1 hz2 rfl (by decide) u5 us.length _ rfl Hrow.out ⟨w3.heap.size, 0, none⟩ 1 1 [.int .i64 u.kind, .int .i64 u.n, .float .f64 u.f, .string (str u.s), .slice a2 u.l.length cap2] rfl rfl (World.news_of_block (heap_alloc_new w3 _)) (by simp [Value.oneCell']) (by decide) (by have := Hus.out; rw [maxLen_nat]; omega) (by have := Hus.out; omega) Hrk.out.2.size _ rfl ?_; intro gg cap4 w4 g1 g2 g3 g4; have hO4 := OwnVs.snoc Hcl.out Hel.out Hu.out g1 g2 (g3.imp (fun e => e.symm) (fun e => by rw [e]; rfl)))
        have hfar : ∀ b, u5.ownBlock = some b → w.heap.size ≤ b := fun b hb => (Hrow.out.lt b hb).1
        have hgl : g < (w3.alloc (.cells #[.int .i64 u.kind, .int .i64 u.n, .float .f64 u.f, .string (str u.s), .slice a2 u.l.length cap2] 26)).heap.size := Nat.lt_of_lt_of_le Hg.out Hrk.out.2.size
        have hR4 : RdEndK K w g (rest, true) w4 := ⟨Hrk.out.1.keep (g2.block g hgl (fun e => by have := hfar g e.symm; have := Hg.out; omega)) (fun b hb hk => g2.block b hb (fun e => by have := hfar b e.symm; have := HK.out b hk; omega)), only_far Hrk.out.2 g2 hfar⟩
        go_roundw
        case rel => exact ⟨j + 1, us ++ [u], rest, Hlt.out, by go_num, by rw [List.length_append, Hul.out]; rfl, hO4, (fun x hx => by
          rcases List.mem_append.1 hx with h | h
          · exact Hru.out x h
          · have e : x = u := by simpa using h
            rw [e]; exact Hrt.out), by rw [forms_snoc, ← Hsm.out]; exact Hsa.out, hR4⟩
        case measure => simp [intOf]; have := Hlt.out; omega
      · have Hno := Lib.hid hno
        have Hrd2 := Lib.hid hrd2
        clear hno hrd2
        go_wp2
        go_ret
        refine .inr ⟨?_, rfl, _, Hrd.out.go Hrd2.out⟩
        rw [Hsa.out]
        exact noV_elem Hn.out (by have := Hul.out; have := Hlt.out; omega) (fun u hu => (Hru.out u hu).1) (fun u hu => (Hru.out u hu).2) Hno.out
    · obtain ⟨a, cap, rfl, hle⟩ := HO.out.lies
      have Hle := Lib.hid hle
      have hjn : j = n := by omega
      have Hjn := Lib.hid hjn
      have hji : ¬ ((j : Int) < (n : Int)) := by omega
      clear hle hlt hjn
      go_wp2
      go_ret
      exact .inl ⟨us, lj, a, cap, rfl, Hle.out, Hru.out, Hul.out.trans Hjn.out, Hsa.out, Hrd.out⟩

set_option maxRecDepth 100000 in
theorem readList_count (K : Nat → Prop) (t : Nat) (ht : t ≤ 1000) (l : List Nat) (g : Nat) (w : World) (hn : readN l true = (0, l, false)) (hR : RdK K w g l true) :
    Calls Tryz.prog 173 #[.pointer (some ⟨g, 0, none⟩), .int .i64 ((t + 1 : Nat) : Int)] w fun e w' => e = .returned (.iface 158 (.slice none 0 0)) ∧ RdEndK K w g (l, false) w' := by
  obtain ⟨T, hTe⟩ : ∃ T : Int, T = ((t + 1 : Nat) : Int) := ⟨_, rfl⟩
  have hT0 : (T == 0) = false := beq_eq_false_iff_ne.2 (by omega)
  have hT2 : 0 < T ∧ T ≤ 1001 := by omega
  rw [← hTe]
  have HU := Lib.hid (mUintK _ g _ true w w (orNone_some g w) hR)
  rw [hn] at HU
  clear hTe hR hn
  go_enter Tryz.func173, Tryz.ntmps173
  go_wp2_with fail
  refine HU.out.mono ?_
  rintro e w1 ⟨rfl, h1⟩
  have H1 := Lib.hid h1
  clear h1
  go_wp2
  go_loop [5, 11] (fun v i => i = .int .u64 0 ∧ v = .slice none 0 0) (fun _ _ => 0)
  case atStart => exact ⟨rfl, rfl⟩
  case round =>
    obtain ⟨rfl, rfl⟩ := hrel
    go_wp2
    go_ret
    exact ⟨rfl, H1.out⟩
end Go.Proofs.YtmcdfmhciinocaaGreatDoor

/- The walk of read and Read, whatever the bytes. -/
namespace Go.Proofs.YtmcdfmhciinocaaGreatDoor
open Go.RowKit Go.Shelf Fl

set_option maxRecDepth 100000 in
theorem rd_list (K : Nat → Prop) (t : Nat) (ht : t ≤ 1000) (hA : RdV t) (l : List Nat) (g : Nat) (w : World) (hl : (form 4 ++ l).length ≤ 1000000) (hK : ∀ b, K b → b < w.heap.size) (hR : RdK K w g (form 4 ++ l) true) :
    Calls Tryz.prog 149 #[.pointer (some ⟨g, 0, none⟩), .int .i64 ((t + 1 : Nat) : Int)] w (RdAny K w g (t + 1) (form 4 ++ l)) := by
  have hb1 : ∀ c ∈ l, c < 256 := fun c hc => hR.byte c (List.mem_append.2 (.inr hc))
  have hl1 : l.length ≤ 1000000 := by rw [List.length_append] at hl; omega
  have hg : g < w.heap.size := by
    obtain ⟨a, n, c, h1, _⟩ := hR
    exact (Array.getElem?_eq_some_iff.1 h1).1
  have HU := Lib.hid (mUintK _ g _ true w w (orNone_some g w) hR)
  rw [readN_form (by omega) l] at HU
  rcases readN_only hb1 with ⟨n, l2, hn, rfl⟩ | ⟨hn, hno⟩
  · have hl2 : l2.length ≤ 1000000 := by rw [List.length_append] at hl1; omega
    have HL := Lib.hid (fun W (hs : w.heap.size ≤ W.heap.size) (h : RdK K W g (form n ++ l2) true) => readList_all K t ht hA n l2 g W hn hl2 (fun b hb => Nat.lt_of_lt_of_le (hK b hb) hs) (Nat.lt_of_lt_of_le hg hs) h)
    obtain ⟨T, hT⟩ : ∃ T : Int, T = ((t + 1 : Nat) : Int) := ⟨_, rfl⟩
    rw [← hT] at HL ⊢
    have Hn := Lib.hid hn
    have Hl2 := Lib.hid hl2
    clear hl hl1 hl2 hg hR hK hT hA hb1 hn
    go_enter Tryz.func149, Tryz.ntmps149
    go_wp2_with fail
    refine HU.out.mono ?_
    rintro e w1 ⟨rfl, h1⟩
    have H1 := Lib.hid h1
    clear h1
    go_wp2_with fail
    refine (HL.out _ H1.out.2.size H1.out.1).mono ?_
    rintro e w2 (⟨us, rest, a, cap, rfl, hle, hru, hun, hsa, hrd⟩ | ⟨hno, rfl, s, hrd⟩)
    · have Hle := Lib.hid hle
      have Hru := Lib.hid hru
      have Hun := Lib.hid hun
      have Hsa := Lib.hid hsa
      have Hrd := Lib.hid hrd
      clear hle hru hun hsa hrd
      go_wp2_with fail
      refine (mOk _ g rest true _ _ (orNone_some g _) Hrd.out.1.rd).mono ?_
      rintro e w3 ⟨rfl, rfl⟩
      go_wp2
      go_ret
      have hsz := H1.out.2.size
      refine .inl ⟨.mk 4 0 0 [] us, rest, a, cap, rfl, ?_, ⟨list_is_right (fun u hu => (Hru.out u hu).1), ?_, ?_⟩, H1.out.go Hrd.out⟩
      · rw [VInP]
        obtain ⟨h1, h2, h3⟩ := Hle.out
        refine ⟨by omega, by omega, by omega, by simp, by simp, a, cap, rfl, h1, h2, h3.imp id (fun ⟨gg, e, hb, hv⟩ => ⟨gg, 0, e, ⟨by omega, hb.2⟩, VsInP.turn (fun b hb => ⟨by omega, hb.2⟩) (fun _ _ => rfl) us gg 0 hb hv⟩)⟩
      · rw [boundV]
        exact ⟨by omega, by omega, by simp, by have := Hun.out; have := Hn.out; omega, boundL_of (fun u hu => (Hru.out u hu).2)⟩
      · rw [formV_is, ← Hun.out, Hsa.out]
        simp [pieceV, contF, V.kind, V.l]
    · have Hno := Lib.hid hno
      have Hrd := Lib.hid hrd
      clear hno hrd
      obtain ⟨ls, ok⟩ := s
      go_wp2_with fail
      refine (mOk _ g ls ok _ _ (orNone_some g _) Hrd.out.1.rd).mono ?_
      rintro e w3 ⟨rfl, rfl⟩
      cases ok
      all_goals go_wp2
      all_goals go_ret
      all_goals exact .inr ⟨Hno.out, rfl, _, H1.out.go Hrd.out⟩
  · have HL := Lib.hid (fun W (h : RdK K W g l true) => readList_count K t ht l g W hn h)
    obtain ⟨T, hT⟩ : ∃ T : Int, T = ((t + 1 : Nat) : Int) := ⟨_, rfl⟩
    rw [← hT] at HL ⊢
    have Hno := Lib.hid hno
    clear hl hl1 hg hR hK hT hA hb1 hn hno
    go_enter Tryz.func149, Tryz.ntmps149
    go_wp2_with fail
    refine HU.out.mono ?_
    rintro e w1 ⟨rfl, h1⟩
    have H1 := Lib.hid h1
    clear h1
    go_wp2_with fail
    refine (HL.out _ H1.out.1).mono ?_
    rintro e w2 ⟨rfl, hrd⟩
    have Hrd := Lib.hid hrd
    clear hrd
    go_wp2_with fail
    refine (mOk _ g l false _ _ (orNone_some g _) Hrd.out.1.rd).mono ?_
    rintro e w3 ⟨rfl, rfl⟩
    go_wp2
    go_ret
    exact .inr ⟨noV_count Hno.out, rfl, _, H1.out.go Hrd.out⟩

theorem rd_any (t : Nat) (ht : t ≤ 1000) : RdV t := by
  induction t with
  | zero =>
    intro K l g w hl _ hR
    by_cases h4 : ∃ r, l = form 4 ++ r
    · obtain ⟨r, rfl⟩ := h4
      exact (read_deep K g w r hR).mono fun e w' h => .inr ⟨noV_deep, h⟩
    · exact rd_atom K 0 l g w hl hR h4
  | succ t ih =>
    intro K l g w hl hK hR
    by_cases h4 : ∃ r, l = form 4 ++ r
    · obtain ⟨r, rfl⟩ := h4
      exact rd_list K t (by omega) (ih (by omega)) r g w hl hK hR
    · exact rd_atom K (t + 1) l g w hl hR h4

/-- What Read answers, whatever the bytes. -/
def ReadAll (K : Nat → Prop) (w : World) (g : Nat) (l : List Nat) (e : Ending) (w' : World) : Prop :=
  (∃ (u : V) (rest : List Nat) (a : Option Addr) (cap : Nat), e = .returned (.tuple #[.agg (cells5 u.kind u.n u.f u.s a u.l.length cap), .bool true]) ∧ VInP (fun b => w.heap.size ≤ b ∧ b < w'.heap.size) w' u (cells5 u.kind u.n u.f u.s a u.l.length cap) ∧ IsV 8 l u rest ∧ RdEndK K w g (rest, true) w') ∨
  (NoV 8 l ∧ e = .returned (.tuple #[.agg (cells5 0 0 0 [] none 0 0), .bool false]) ∧ ∃ s, RdEndK K w g s w')

set_option maxRecDepth 100000 in
theorem vread_all (K : Nat → Prop) (l : List Nat) (g : Nat) (w : World) (hl : l.length ≤ 1000000) (hK : ∀ b, K b → b < w.heap.size) (hR : RdK K w g l true) :
    Calls Tryz.prog 123 #[.pointer (some ⟨g, 0, none⟩)] w (ReadAll K w g l) := by
  have hg : g < w.heap.size := by
    obtain ⟨a, n, c, h1, _⟩ := hR
    exact (Array.getElem?_eq_some_iff.1 h1).1
  have hb0 := (Below.refl w.heap.size w).alloc (Nat.le_refl _) (.cells #[.int .i64 0, .int .i64 0, .float .f64 0, .string ⟨#[]⟩, .slice none 0 0] 26)
  have HA := Lib.hid (rd_any 8 (by omega) K l g _ hl (fun b h => Nat.lt_of_lt_of_le (hK b h) hb0.size) (hR.below hb0))
  have Hb0 := Lib.hid hb0
  have hfl : ∀ (w : World) (a : Addr) (m : Mode) (b : Nat), (store a (.float .f64 b) m).run Tryz.prog w = stored Tryz.prog w a (.float .f64 b) m := fun w a m b => run_store Tryz.prog w a _ m rfl
  have H0 := Lib.hid (heap_alloc_new w (.cells #[.int .i64 0, .int .i64 0, .float .f64 0, .string ⟨#[]⟩, .slice none 0 0] 26))
  have hwz : (w.alloc (.cells #[.int .i64 0, .int .i64 0, .float .f64 0, .string ⟨#[]⟩, .slice none 0 0] 26)).heap.size = w.heap.size + 1 := by simp
  have Hg := Lib.hid hg
  have HK := Lib.hid hK
  clear hl hR hb0 hg hK
  go_enter Tryz.func123, Tryz.ntmps123
  go_wp2_with fail
  generalize w.alloc (.cells #[.int .i64 0, .int .i64 0, .float .f64 0, .string ⟨#[]⟩, .slice none 0 0] 26) = w1 at *
  refine (show Calls Tryz.prog 149 #[.pointer (some ⟨g, 0, none⟩), .int .i64 8] w1 _ from HA.out).mono ?_
  rintro e w2 (⟨u, rest, a, cap, rfl, hv, hiv, hrd2⟩ | ⟨hno, rfl, s, hrd2⟩)
  · obtain ⟨hrt, hbu, hlu⟩ := hiv
    obtain ⟨T', p', hci⟩ := con_iface (a := a) (cap := cap) hrt
    obtain ⟨a2, cap2, hwh, hv2⟩ := whole_in hrt hv
    have HW := Lib.hid (fun w => whole_any u.kind u.n u.f u.s a u.l.length cap w)
    rw [hwh] at HW
    rw [hci] at HW ⊢
    have Hrd2 := Lib.hid hrd2
    have Hv2 := Lib.hid hv2
    have Hrt := Lib.hid (show IsV 8 l u rest from ⟨hrt, hbu, hlu⟩)
    have Hres2 := Lib.hid ((hrd2.2.block w.heap.size (by omega) (fun e => by cases e; exact absurd Hg.out (Nat.lt_irrefl _))).trans H0.out)
    have Hs2 := Lib.hid (show w.heap.size < w2.heap.size by have := hrd2.2.size; omega)
    clear hci hwh hv hv2 hrt hbu hlu hrd2
    unfold cells5 at *
    go_wp2_with fail
    go_region_law
      (first
        | (go_simp; go_at_call 150; (with_reducible refine (HW.out _).mono ?_); rintro e w4 ⟨rfl, hb4⟩
           have hb5 : Below w2.heap.size w2 w4 := ((Below.refl _ _).drew).trans hb4
           obtain ⟨⟨z0, z1, z2, z3, z4⟩, ⟨y0, y1, y2, y3, y4⟩⟩ := res_cells ((hb5.block w.heap.size Hs2.out).trans Hres2.out)
           have Hb4 := Lib.hid hb5
           clear hb4 hb5))
    all_goals go_wp2
    all_goals refine bodyPost_ret (v := .tuple #[.agg #[.int .i64 u.kind, .int .i64 u.n, .float .f64 u.f, .string (str u.s), .slice a2 u.l.length cap2], .bool true]) (by simp [results, Tryz.results123, go_sem, Act.put, *]) rfl ?_
    all_goals have hs4 := Hb4.out.size
    all_goals have hwz1 := Hb0.out.size
    all_goals refine .inl ⟨u, rest, a2, cap2, rfl, VInP.turn (fun b hb => ⟨by omega, ?_⟩) (fun p hp => ?_) u _ Hv2.out, Hrt.out, ?_, ?_⟩
    · unfold World.cell?
      rw [set5_block (by omega), Hb4.out.block p.block hp.2]
    · have hne : g ≠ w.heap.size := by have := Hg.out; omega
      exact (Hrd2.out.1.below Hb4.out).keep (set5_block hne _ _ _ _ _) (fun b _ hb => set5_block (by have := HK.out b hb; omega) _ _ _ _ _)
    · have h1 : w.grownBy w1 (some g) := ⟨Hb0.out.os, Hb0.out.tape, Hb0.out.output, Hb0.out.size, fun i hi _ => Hb0.out.block i hi⟩
      have h4 := only_below (only_trans h1 Hrd2.out.2) Hb4.out
      have h5 := ((((((Below.refl w.heap.size w4).setCell (p := ⟨w.heap.size, 0, none⟩) (Nat.le_refl _) (.int .i64 u.kind)).setCell (p := ⟨w.heap.size, 1, none⟩) (Nat.le_refl _) (.int .i64 u.n)).setCell (p := ⟨w.heap.size, 2, none⟩) (Nat.le_refl _) (.float .f64 u.f)).setCell (p := ⟨w.heap.size, 3, none⟩) (Nat.le_refl _) (.string (str u.s))).setCell (p := ⟨w.heap.size, 4, none⟩) (Nat.le_refl _) (.slice a2 u.l.length cap2))
      exact ⟨h5.os.trans h4.os, h5.tape.trans h4.tape, h5.output.trans h4.output, Nat.le_trans h4.size h5.size, fun i hi hne => (h5.block i hi).trans (h4.block i hi hne)⟩
    · have hs5 := ((((((Below.refl w.heap.size w4).setCell (p := ⟨w.heap.size, 0, none⟩) (Nat.le_refl _) (.int .i64 u.kind)).setCell (p := ⟨w.heap.size, 1, none⟩) (Nat.le_refl _) (.int .i64 u.n)).setCell (p := ⟨w.heap.size, 2, none⟩) (Nat.le_refl _) (.float .f64 u.f)).setCell (p := ⟨w.heap.size, 3, none⟩) (Nat.le_refl _) (.string (str u.s))).setCell (p := ⟨w.heap.size, 4, none⟩) (Nat.le_refl _) (.slice a2 u.l.length cap2)).size
      have := hb.2
      omega
  · have HW := Lib.hid (fun w => whole_any 5 0 0 [] none 0 0 w)
    have e1 : conOf 5 0 0 [] none 0 0 = .nilIface := rfl
    have e2 : wholeOf 5 0 0 [] none 0 0 = cells5 0 0 0 [] none 0 0 := rfl
    rw [e1, e2] at HW
    have Hno := Lib.hid hno
    have Hrd2 := Lib.hid hrd2
    have Hres2 := Lib.hid ((hrd2.2.block w.heap.size (by omega) (fun e => by cases e; exact absurd Hg.out (Nat.lt_irrefl _))).trans H0.out)
    have Hs2 := Lib.hid (show w.heap.size < w2.heap.size by have := hrd2.2.size; omega)
    clear hno hrd2 e1 e2
    unfold cells5 at *
    go_wp2_with fail
    go_region_law
      (first
        | (go_simp; go_at_call 150; (with_reducible refine (HW.out _).mono ?_); rintro e w4 ⟨rfl, hb4⟩
           have hb5 : Below w2.heap.size w2 w4 := ((Below.refl _ _).drew).trans hb4
           obtain ⟨⟨z0, z1, z2, z3, z4⟩, ⟨y0, y1, y2, y3, y4⟩⟩ := res_cells ((hb5.block w.heap.size Hs2.out).trans Hres2.out)
           have Hb4 := Lib.hid hb5
           clear hb4 hb5))
    all_goals go_wp2
    all_goals refine bodyPost_ret (v := .tuple #[.agg #[.int .i64 0, .int .i64 0, .float .f64 0, .string (str []), .slice none 0 0], .bool false]) (by simp [results, Tryz.results123, go_sem, Act.put, *]) rfl ?_
    all_goals refine .inr ⟨Hno.out, rfl, s, ?_, ?_⟩
    · have hne : g ≠ w.heap.size := by have := Hg.out; omega
      exact (Hrd2.out.1.below Hb4.out).keep (set5_block hne _ _ _ _ _) (fun b _ hb => set5_block (by have := HK.out b hb; omega) _ _ _ _ _)
    · have h1 : w.grownBy w1 (some g) := ⟨Hb0.out.os, Hb0.out.tape, Hb0.out.output, Hb0.out.size, fun i hi _ => Hb0.out.block i hi⟩
      have h4 := only_below (only_trans h1 Hrd2.out.2) Hb4.out
      have h5 := ((((((Below.refl w.heap.size w4).setCell (p := ⟨w.heap.size, 0, none⟩) (Nat.le_refl _) (.int .i64 0)).setCell (p := ⟨w.heap.size, 1, none⟩) (Nat.le_refl _) (.int .i64 0)).setCell (p := ⟨w.heap.size, 2, none⟩) (Nat.le_refl _) (.float .f64 0)).setCell (p := ⟨w.heap.size, 3, none⟩) (Nat.le_refl _) (.string (str []))).setCell (p := ⟨w.heap.size, 4, none⟩) (Nat.le_refl _) (.slice none 0 0))
      exact ⟨h5.os.trans h4.os, h5.tape.trans h4.tape, h5.output.trans h4.output, Nat.le_trans h4.size h5.size, fun i hi hne => (h5.block i hi).trans (h4.block i hi hne)⟩
end Go.Proofs.YtmcdfmhciinocaaGreatDoor

/- The walks of the readers of events' fields. -/
namespace Go.Proofs.YtmcdfmhciinocaaGreatDoor
open Go.RowKit Go.Shelf Fl
attribute [local go_sem] run_store_func run_store_nilFunc

/-- Nothing but the blocks g and E, and new ones, has turned. -/
def TwoG (w w' : World) (g E : Nat) : Prop := w'.os = w.os ∧ w'.tape = w.tape ∧ w'.output = w.output ∧ w.heap.size ≤ w'.heap.size ∧ ∀ i, i < w.heap.size → i ≠ g → i ≠ E → w'.heap[i]? = w.heap[i]?

/-- Where the two captured variables of the readers lie, and what they point to. -/
structure Boxes (w : World) (A B g E : Nat) : Prop where
  a : w.heap[A]? = some (.cells #[.pointer (some ⟨g, 0, none⟩)] 36 (0, 0))
  b : w.heap[B]? = some (.cells #[.pointer (some ⟨E, 0, none⟩)] 87 (0, 0))

theorem box1 {w : World} {B : Nat} {v : Value} {t : TypeId} (h : w.heap[B]? = some (.cells #[v] t (0, 0))) : w.cell? ⟨B, 0, none⟩ = some v := by
  rw [cell_of_row _ _ _ _ _ (0, 0) h]; rfl

theorem Boxes.below {w w' : World} {A B g E : Nat} (h : Boxes w A B g E) (hb : Below w.heap.size w w') : Boxes w' A B g E :=
  ⟨(hb.block _ (Array.getElem?_eq_some_iff.1 h.a).1).trans h.a, (hb.block _ (Array.getElem?_eq_some_iff.1 h.b).1).trans h.b⟩
theorem Boxes.turn {w w' : World} {A B g E : Nat} (h : Boxes w A B g E) (hn : A ≠ g ∧ B ≠ g ∧ E ≠ g ∧ A ≠ E ∧ B ≠ E) (hb : w.grownBy w' (some g)) : Boxes w' A B g E :=
  ⟨(hb.block _ (Array.getElem?_eq_some_iff.1 h.a).1 (fun e => hn.1 (Option.some.inj e))).trans h.a, (hb.block _ (Array.getElem?_eq_some_iff.1 h.b).1 (fun e => hn.2.1 (Option.some.inj e))).trans h.b⟩
theorem Boxes.cells {w : World} {A B g E : Nat} (h : Boxes w A B g E) : w.cell? ⟨A, 0, none⟩ = some (.pointer (some ⟨g, 0, none⟩)) ∧ w.cell? ⟨B, 0, none⟩ = some (.pointer (some ⟨E, 0, none⟩)) := ⟨box1 h.a, box1 h.b⟩
theorem Boxes.set {w : World} {A B g E : Nat} (h : Boxes w A B g E) (hn : A ≠ g ∧ B ≠ g ∧ E ≠ g ∧ A ≠ E ∧ B ≠ E) (i : Nat) (v : Value) : Boxes (w.setCell ⟨E, i, none⟩ v) A B g E :=
  ⟨by rw [← h.a]; simp [World.setCell, Array.getElem?_modify, Ne.symm hn.2.2.2.1], by rw [← h.b]; simp [World.setCell, Array.getElem?_modify, Ne.symm hn.2.2.2.2]⟩
theorem froz {w : World} {E : Nat} {cs : Array Value} {t : TypeId} (h : w.heap[E]? = some (.cells cs t (0, 0))) (i : Nat) : w.frozen? ⟨E, i, none⟩ = false := by simp [World.frozen?, h]
theorem evAt_turn {w w' : World} {g E : Nat} {x : Obj} (h : w.heap[E]? = some x) (hn : E ≠ g) (hb : w.grownBy w' (some g)) : w'.heap[E]? = some x :=
  (hb.block _ (Array.getElem?_eq_some_iff.1 h).1 (fun e => hn (Option.some.inj e))).trans h
theorem TwoG.of {w w' : World} {g E : Nat} (h : w.grownBy w' (some g)) : TwoG w w' g E := ⟨h.os, h.tape, h.output, h.size, fun i hi hg _ => h.block i hi (fun e => hg (Option.some.inj e))⟩
theorem TwoG.refl (w : World) (g E : Nat) : TwoG w w g E := ⟨rfl, rfl, rfl, Nat.le_refl _, fun _ _ _ _ => rfl⟩
theorem TwoG.trans {w w1 w2 : World} {g E : Nat} (h : TwoG w w1 g E) (k : TwoG w1 w2 g E) : TwoG w w2 g E := by
  obtain ⟨a1, a2, a3, a4, a5⟩ := h
  obtain ⟨b1, b2, b3, b4, b5⟩ := k
  exact ⟨b1.trans a1, b2.trans a2, b3.trans a3, Nat.le_trans a4 b4, fun i hi hg hE => (b5 i (Nat.lt_of_lt_of_le hi a4) hg hE).trans (a5 i hi hg hE)⟩
theorem TwoG.below {w w1 w2 : World} {g E : Nat} (h : TwoG w w1 g E) (k : Below w1.heap.size w1 w2) : TwoG w w2 g E := by
  obtain ⟨a1, a2, a3, a4, a5⟩ := h
  exact ⟨k.os.trans a1, k.tape.trans a2, k.output.trans a3, Nat.le_trans a4 k.size, fun i hi hg hE => (k.block i (Nat.lt_of_lt_of_le hi a4)).trans (a5 i hi hg hE)⟩
theorem TwoG.set {w w1 : World} {g E : Nat} (h : TwoG w w1 g E) (i : Nat) (v : Value) : TwoG w (w1.setCell ⟨E, i, none⟩ v) g E := by
  obtain ⟨a1, a2, a3, a4, a5⟩ := h
  have hs := (Below.refl E w1).setCell (p := ⟨E, i, none⟩) (Nat.le_refl _) v
  refine ⟨hs.os.trans a1, hs.tape.trans a2, hs.output.trans a3, Nat.le_trans a4 hs.size, fun j hj hg hE => ?_⟩
  rw [show (w1.setCell ⟨E, i, none⟩ v).heap[j]? = w1.heap[j]? from by simp [World.setCell, Array.getElem?_modify, Ne.symm hE]]
  exact a5 j hj hg hE
theorem RdK.setE {K : Nat → Prop} {w : World} {g E i : Nat} {l : List Nat} {ok : Bool} (h : RdK K w g l ok) (hn : E ≠ g) (hK : ¬ K E) (v : Value) : RdK K (w.setCell ⟨E, i, none⟩ v) g l ok :=
  h.keep (by simp [World.setCell, Array.getElem?_modify, hn]) (fun b _ hk => by
    have : E ≠ b := fun e => hK (by rw [e]; exact hk)
    simp [World.setCell, Array.getElem?_modify, this])

set_option maxRecDepth 100000 in
set_option maxHeartbeats 3200000 in
theorem fr1_any (K : Nat → Prop) (A B g E : Nat) (l : List Nat) (w : World) (hB : Boxes w A B g E) (hne : A ≠ g ∧ B ≠ g ∧ E ≠ g ∧ A ≠ E ∧ B ≠ E) (hK : ¬ K E) (hR : RdK K w g l true)
    (k : Int) (id : Nat) (n : Int) (t : Nat) (nm tx : List Nat) (vk vn : Int) (vf : Nat) (vs : List Nat) (a : Option Addr) (len cap : Nat) (hE : w.heap[E]? = some (.cells (evC k id n t nm tx vk vn vf vs a len cap) 28 (0, 0))) :
    Calls Tryz.prog 117 #[.pointer (some ⟨A, 0, none⟩), .pointer (some ⟨B, 0, none⟩)] w fun e w' => e = .returned (.bool (readN l true).2.2) ∧ RdK K w' g (readN l true).2.1 (readN l true).2.2 ∧ TwoG w w' g E ∧ w'.heap[E]? = some (.cells (evC k (readN l true).1 n t nm tx vk vn vf vs a len cap) 28 (0, 0)) := by
  have HB := Lib.hid hB
  have HU := Lib.hid (fun W (h : RdK K W g l true) => mUintK _ g _ true W W (orNone_some g W) h)
  obtain ⟨x, l2, ok, hx⟩ : ∃ x l2 ok, readN l true = (x, l2, ok) := ⟨_, _, _, rfl⟩
  rw [hx] at HU ⊢
  have HE := Lib.hid hE
  have HR := Lib.hid hR
  have Hne := Lib.hid hne
  have HK := Lib.hid hK
  clear hE hR hB hx hne hK
  go_enter Tryz.func117, Tryz.ntmps117
  go_wp2_with fail
  go_region_held3 (fun W => W.cell? ⟨A, 0, none⟩ = some (.pointer (some ⟨g, 0, none⟩)) ∧ W.cell? ⟨B, 0, none⟩ = some (.pointer (some ⟨E, 0, none⟩)))
    (first | exact (HB.out.below ((Below.refl _ _).drew)).cells | exact hB2.cells | exact (hB2.set Hne.out _ _).cells)
    (first
      | (go_at_call 49; (with_reducible refine (HU.out _ (HR.out.below ((Below.refl _ _).drew))).mono ?_); rintro e w2 ⟨rfl, h2⟩
         have hB2 := (HB.out.below ((Below.refl _ _).drew)).turn Hne.out h2.2
         have hE2 := evAt_turn (((Below.refl _ _).drew.block _ (Array.getElem?_eq_some_iff.1 HE.out).1).trans HE.out) Hne.out.2.2.1 h2.2
         have e1 := (box11 hE2).2.1
         have f1 := froz hE2 1
         have H2 := Lib.hid h2
         have HE2 := Lib.hid hE2
         clear h2 hE2))
  have hB3 := hB2.set Hne.out 1 (.int .u64 (x : Int))
  have HR3 := Lib.hid (H2.out.1.setE (i := 1) Hne.out.2.2.1 HK.out (.int .u64 (x : Int)))
  have HT3 := Lib.hid (((((TwoG.refl w g E).below (Below.refl _ _).drew)).trans (TwoG.of H2.out.2)).set 1 (.int .u64 (x : Int)))
  have HE3 := Lib.hid (set_headE HE2.out (i := 1) (.int .u64 (x : Int)))
  obtain ⟨c0, c1⟩ := hB3.cells
  clear hB2 e1 f1 hB3
  generalize w2.setCell ⟨E, 1, none⟩ (.int .u64 (x : Int)) = w3 at *
  go_wp2_with fail
  refine (mOk _ g l2 ok _ _ (orNone_some g _) HR3.out.rd).mono ?_
  rintro e w4 ⟨rfl, rfl⟩
  go_wp2
  go_ret
  exact ⟨rfl, HR3.out, HT3.out, HE3.out⟩
set_option maxRecDepth 100000 in
set_option maxHeartbeats 3200000 in
theorem fr3_any (K : Nat → Prop) (A B g E : Nat) (l : List Nat) (w : World) (hB : Boxes w A B g E) (hne : A ≠ g ∧ B ≠ g ∧ E ≠ g ∧ A ≠ E ∧ B ≠ E) (hK : ¬ K E) (hR : RdK K w g l true)
    (k : Int) (id : Nat) (n : Int) (t : Nat) (nm tx : List Nat) (vk vn : Int) (vf : Nat) (vs : List Nat) (a : Option Addr) (len cap : Nat) (hE : w.heap[E]? = some (.cells (evC k id n t nm tx vk vn vf vs a len cap) 28 (0, 0))) :
    Calls Tryz.prog 119 #[.pointer (some ⟨A, 0, none⟩), .pointer (some ⟨B, 0, none⟩)] w fun e w' => e = .returned (.bool (readN l true).2.2) ∧ RdK K w' g (readN l true).2.1 (readN l true).2.2 ∧ TwoG w w' g E ∧ w'.heap[E]? = some (.cells (evC k id n (readN l true).1 nm tx vk vn vf vs a len cap) 28 (0, 0)) := by
  have HB := Lib.hid hB
  have HU := Lib.hid (fun W (h : RdK K W g l true) => mUintK _ g _ true W W (orNone_some g W) h)
  obtain ⟨x, l2, ok, hx⟩ : ∃ x l2 ok, readN l true = (x, l2, ok) := ⟨_, _, _, rfl⟩
  rw [hx] at HU ⊢
  have HE := Lib.hid hE
  have HR := Lib.hid hR
  have Hne := Lib.hid hne
  have HK := Lib.hid hK
  clear hE hR hB hx hne hK
  go_enter Tryz.func119, Tryz.ntmps119
  go_wp2_with fail
  go_region_held3 (fun W => W.cell? ⟨A, 0, none⟩ = some (.pointer (some ⟨g, 0, none⟩)) ∧ W.cell? ⟨B, 0, none⟩ = some (.pointer (some ⟨E, 0, none⟩)))
    (first | exact (HB.out.below ((Below.refl _ _).drew)).cells | exact hB2.cells | exact (hB2.set Hne.out _ _).cells)
    (first
      | (go_at_call 49; (with_reducible refine (HU.out _ (HR.out.below ((Below.refl _ _).drew))).mono ?_); rintro e w2 ⟨rfl, h2⟩
         have hB2 := (HB.out.below ((Below.refl _ _).drew)).turn Hne.out h2.2
         have hE2 := evAt_turn (((Below.refl _ _).drew.block _ (Array.getElem?_eq_some_iff.1 HE.out).1).trans HE.out) Hne.out.2.2.1 h2.2
         have e1 := (box11 hE2).2.2.2.1
         have f1 := froz hE2 3
         have H2 := Lib.hid h2
         have HE2 := Lib.hid hE2
         clear h2 hE2))
  have hB3 := hB2.set Hne.out 3 (.int .u64 (x : Int))
  have HR3 := Lib.hid (H2.out.1.setE (i := 3) Hne.out.2.2.1 HK.out (.int .u64 (x : Int)))
  have HT3 := Lib.hid (((((TwoG.refl w g E).below (Below.refl _ _).drew)).trans (TwoG.of H2.out.2)).set 3 (.int .u64 (x : Int)))
  have HE3 := Lib.hid (set_headE HE2.out (i := 3) (.int .u64 (x : Int)))
  obtain ⟨c0, c1⟩ := hB3.cells
  clear hB2 e1 f1 hB3
  generalize w2.setCell ⟨E, 3, none⟩ (.int .u64 (x : Int)) = w3 at *
  go_wp2_with fail
  refine (mOk _ g l2 ok _ _ (orNone_some g _) HR3.out.rd).mono ?_
  rintro e w4 ⟨rfl, rfl⟩
  go_wp2
  go_ret
  exact ⟨rfl, HR3.out, HT3.out, HE3.out⟩
set_option maxRecDepth 100000 in
set_option maxHeartbeats 3200000 in
theorem fr4_any (K : Nat → Prop) (A B g E : Nat) (l : List Nat) (w : World) (hB : Boxes w A B g E) (hne : A ≠ g ∧ B ≠ g ∧ E ≠ g ∧ A ≠ E ∧ B ≠ E) (hK : ¬ K E) (hR : RdK K w g l true)
    (k : Int) (id : Nat) (n : Int) (t : Nat) (nm tx : List Nat) (vk vn : Int) (vf : Nat) (vs : List Nat) (a : Option Addr) (len cap : Nat) (hE : w.heap[E]? = some (.cells (evC k id n t nm tx vk vn vf vs a len cap) 28 (0, 0))) :
    Calls Tryz.prog 120 #[.pointer (some ⟨A, 0, none⟩), .pointer (some ⟨B, 0, none⟩)] w fun e w' => e = .returned (.bool (readB l true).2.2) ∧ RdK K w' g (readB l true).2.1 (readB l true).2.2 ∧ TwoG w w' g E ∧ w'.heap[E]? = some (.cells (evC k id n t (readB l true).1 tx vk vn vf vs a len cap) 28 (0, 0)) := by
  have HB := Lib.hid hB
  have HU := Lib.hid (fun W (h : RdK K W g l true) => mTextK _ g _ true W W (orNone_some g W) h)
  obtain ⟨x, l2, ok, hx⟩ : ∃ (x l2 : List Nat) (ok : Bool), readB l true = (x, l2, ok) := ⟨_, _, _, rfl⟩
  rw [hx] at HU ⊢
  have HE := Lib.hid hE
  have HR := Lib.hid hR
  have Hne := Lib.hid hne
  have HK := Lib.hid hK
  clear hE hR hB hx hne hK
  go_enter Tryz.func120, Tryz.ntmps120
  go_wp2_with fail
  go_region_held3 (fun W => W.cell? ⟨A, 0, none⟩ = some (.pointer (some ⟨g, 0, none⟩)) ∧ W.cell? ⟨B, 0, none⟩ = some (.pointer (some ⟨E, 0, none⟩)))
    (first | exact (HB.out.below ((Below.refl _ _).drew)).cells | exact hB2.cells | exact (hB2.set Hne.out _ _).cells)
    (first
      | (go_at_call 73; (with_reducible refine (HU.out _ (HR.out.below ((Below.refl _ _).drew))).mono ?_); rintro e w2 ⟨rfl, h2⟩
         have hB2 := (HB.out.below ((Below.refl _ _).drew)).turn Hne.out h2.2
         have hE2 := evAt_turn (((Below.refl _ _).drew.block _ (Array.getElem?_eq_some_iff.1 HE.out).1).trans HE.out) Hne.out.2.2.1 h2.2
         have e1 := (box11 hE2).2.2.2.2.1
         have f1 := froz hE2 4
         have H2 := Lib.hid h2
         have HE2 := Lib.hid hE2
         clear h2 hE2))
  have hB3 := hB2.set Hne.out 4 (.string (str x))
  have HR3 := Lib.hid (H2.out.1.setE (i := 4) Hne.out.2.2.1 HK.out (.string (str x)))
  have HT3 := Lib.hid (((((TwoG.refl w g E).below (Below.refl _ _).drew)).trans (TwoG.of H2.out.2)).set 4 (.string (str x)))
  have HE3 := Lib.hid (set_headE HE2.out (i := 4) (.string (str x)))
  obtain ⟨c0, c1⟩ := hB3.cells
  clear hB2 e1 f1 hB3
  generalize w2.setCell ⟨E, 4, none⟩ (.string (str x)) = w3 at *
  go_wp2_with fail
  refine (mOk _ g l2 ok _ _ (orNone_some g _) HR3.out.rd).mono ?_
  rintro e w4 ⟨rfl, rfl⟩
  go_wp2
  go_ret
  exact ⟨rfl, HR3.out, HT3.out, HE3.out⟩
set_option maxRecDepth 100000 in
set_option maxHeartbeats 3200000 in
theorem fr5_any (K : Nat → Prop) (A B g E : Nat) (l : List Nat) (w : World) (hB : Boxes w A B g E) (hne : A ≠ g ∧ B ≠ g ∧ E ≠ g ∧ A ≠ E ∧ B ≠ E) (hK : ¬ K E) (hR : RdK K w g l true)
    (k : Int) (id : Nat) (n : Int) (t : Nat) (nm tx : List Nat) (vk vn : Int) (vf : Nat) (vs : List Nat) (a : Option Addr) (len cap : Nat) (hE : w.heap[E]? = some (.cells (evC k id n t nm tx vk vn vf vs a len cap) 28 (0, 0))) :
    Calls Tryz.prog 121 #[.pointer (some ⟨A, 0, none⟩), .pointer (some ⟨B, 0, none⟩)] w fun e w' => e = .returned (.bool (readB l true).2.2) ∧ RdK K w' g (readB l true).2.1 (readB l true).2.2 ∧ TwoG w w' g E ∧ w'.heap[E]? = some (.cells (evC k id n t nm (readB l true).1 vk vn vf vs a len cap) 28 (0, 0)) := by
  have HB := Lib.hid hB
  have HU := Lib.hid (fun W (h : RdK K W g l true) => mTextK _ g _ true W W (orNone_some g W) h)
  obtain ⟨x, l2, ok, hx⟩ : ∃ (x l2 : List Nat) (ok : Bool), readB l true = (x, l2, ok) := ⟨_, _, _, rfl⟩
  rw [hx] at HU ⊢
  have HE := Lib.hid hE
  have HR := Lib.hid hR
  have Hne := Lib.hid hne
  have HK := Lib.hid hK
  clear hE hR hB hx hne hK
  go_enter Tryz.func121, Tryz.ntmps121
  go_wp2_with fail
  go_region_held3 (fun W => W.cell? ⟨A, 0, none⟩ = some (.pointer (some ⟨g, 0, none⟩)) ∧ W.cell? ⟨B, 0, none⟩ = some (.pointer (some ⟨E, 0, none⟩)))
    (first | exact (HB.out.below ((Below.refl _ _).drew)).cells | exact hB2.cells | exact (hB2.set Hne.out _ _).cells)
    (first
      | (go_at_call 73; (with_reducible refine (HU.out _ (HR.out.below ((Below.refl _ _).drew))).mono ?_); rintro e w2 ⟨rfl, h2⟩
         have hB2 := (HB.out.below ((Below.refl _ _).drew)).turn Hne.out h2.2
         have hE2 := evAt_turn (((Below.refl _ _).drew.block _ (Array.getElem?_eq_some_iff.1 HE.out).1).trans HE.out) Hne.out.2.2.1 h2.2
         have e1 := (box11 hE2).2.2.2.2.2.1
         have f1 := froz hE2 5
         have H2 := Lib.hid h2
         have HE2 := Lib.hid hE2
         clear h2 hE2))
  have hB3 := hB2.set Hne.out 5 (.string (str x))
  have HR3 := Lib.hid (H2.out.1.setE (i := 5) Hne.out.2.2.1 HK.out (.string (str x)))
  have HT3 := Lib.hid (((((TwoG.refl w g E).below (Below.refl _ _).drew)).trans (TwoG.of H2.out.2)).set 5 (.string (str x)))
  have HE3 := Lib.hid (set_headE HE2.out (i := 5) (.string (str x)))
  obtain ⟨c0, c1⟩ := hB3.cells
  clear hB2 e1 f1 hB3
  generalize w2.setCell ⟨E, 5, none⟩ (.string (str x)) = w3 at *
  go_wp2_with fail
  refine (mOk _ g l2 ok _ _ (orNone_some g _) HR3.out.rd).mono ?_
  rintro e w4 ⟨rfl, rfl⟩
  go_wp2
  go_ret
  exact ⟨rfl, HR3.out, HT3.out, HE3.out⟩
end Go.Proofs.YtmcdfmhciinocaaGreatDoor

/- The walks of the readers of events' fields N and Value. -/
namespace Go.Proofs.YtmcdfmhciinocaaGreatDoor
open Go.RowKit Go.Shelf Fl
attribute [local go_sem] run_store_func run_store_nilFunc

/-- A small number. -/
def smallE (x : Nat) : Nat := if x ≤ 2147483647 then x else 0

set_option maxRecDepth 100000 in
theorem small11_any (x : Nat) (hx : x < 18446744073709551616) (w : World) :
    Calls Tryz.prog 50 #[.int .u64 (x : Int)] w fun e w' => e = .returned (.tuple #[.int .i64 ((smallE x : Nat) : Int), .bool (decide (x ≤ 2147483647))]) ∧ w = w' := by
  unfold smallE
  by_cases h : x ≤ 2147483647
  · rw [if_pos h, decide_eq_true h]
    have h1 : ¬ (2147483647 : Int) < (x : Int) := by omega
    have h2 : IntKind.i64.wrap (x : Int) = (x : Int) := by rw [IntKind.wrap_i64] <;> omega
    go_enter Tryz.func50, Tryz.ntmps50
    go_wp2
    exact bodyPost_ret (v := .tuple #[.int .i64 (x : Int), .bool true]) (by simp [results, Tryz.results50, go_sem, *]) rfl ⟨rfl, rfl⟩
  · rw [if_neg h, decide_eq_false h]
    have h1 : (2147483647 : Int) < (x : Int) := by omega
    go_enter Tryz.func50, Tryz.ntmps50
    go_wp2
    exact bodyPost_ret (v := .tuple #[.int .i64 0, .bool false]) (by simp [results, Tryz.results50, go_sem, *]) rfl ⟨rfl, rfl⟩

set_option maxRecDepth 100000 in
set_option maxHeartbeats 3200000 in
theorem fr2_any (K : Nat → Prop) (A B g E : Nat) (l : List Nat) (w : World) (hB : Boxes w A B g E) (hne : A ≠ g ∧ B ≠ g ∧ E ≠ g ∧ A ≠ E ∧ B ≠ E) (hK : ¬ K E) (hR : RdK K w g l true)
    (k : Int) (id : Nat) (n : Int) (t : Nat) (nm tx : List Nat) (vk vn : Int) (vf : Nat) (vs : List Nat) (a : Option Addr) (len cap : Nat) (hE : w.heap[E]? = some (.cells (evC k id n t nm tx vk vn vf vs a len cap) 28 (0, 0))) :
    Calls Tryz.prog 118 #[.pointer (some ⟨A, 0, none⟩), .pointer (some ⟨B, 0, none⟩)] w fun e w' => e = .returned (.bool (decide ((readN l true).1 ≤ 2147483647) && (readN l true).2.2)) ∧ RdK K w' g (readN l true).2.1 (readN l true).2.2 ∧ TwoG w w' g E ∧ w'.heap[E]? = some (.cells (evC k id ((smallE (readN l true).1 : Nat) : Int) t nm tx vk vn vf vs a len cap) 28 (0, 0)) := by
  have HB := Lib.hid hB
  have HU := Lib.hid (fun W (h : RdK K W g l true) => mUintK _ g _ true W W (orNone_some g W) h)
  have hlt := readN_lt g l true w hR.rd
  obtain ⟨x, l2, ok, hx⟩ : ∃ x l2 ok, readN l true = (x, l2, ok) := ⟨_, _, _, rfl⟩
  rw [hx] at HU hlt ⊢
  have HS := Lib.hid (fun W => small11_any x hlt W)
  have HE := Lib.hid hE
  have HR := Lib.hid hR
  have Hne := Lib.hid hne
  have HK := Lib.hid hK
  obtain ⟨q, hq⟩ : ∃ q : Bool, q = decide (x ≤ 2147483647) := ⟨_, rfl⟩
  rw [← hq] at HS
  change Calls _ _ _ _ fun e w' => e = .returned (.bool (decide (x ≤ 2147483647) && ok)) ∧ RdK K w' g l2 ok ∧ TwoG w w' g E ∧ w'.heap[E]? = some (.cells (evC k id ((smallE x : Nat) : Int) t nm tx vk vn vf vs a len cap) 28 (0, 0))
  rw [← hq]
  generalize smallE x = y at *
  clear hE hR hB hx hne hK hlt hq
  go_enter Tryz.func118, Tryz.ntmps118
  go_wp2_with fail
  go_region_held3 (fun W => W.cell? ⟨A, 0, none⟩ = some (.pointer (some ⟨g, 0, none⟩)) ∧ W.cell? ⟨B, 0, none⟩ = some (.pointer (some ⟨E, 0, none⟩)))
    (first | exact (HB.out.below ((Below.refl _ _).drew)).cells | exact hB2.cells | exact (hB2.set Hne.out _ _).cells)
    (first
      | (go_at_call 49; (with_reducible refine (HU.out _ (HR.out.below ((Below.refl _ _).drew))).mono ?_); rintro e w2 ⟨rfl, h2⟩
         have hB2 := (HB.out.below ((Below.refl _ _).drew)).turn Hne.out h2.2
         have hE2 := evAt_turn (((Below.refl _ _).drew.block _ (Array.getElem?_eq_some_iff.1 HE.out).1).trans HE.out) Hne.out.2.2.1 h2.2
         have e1 := (box11 hE2).2.2.1
         have f1 := froz hE2 2
         have H2 := Lib.hid h2
         have HE2 := Lib.hid hE2
         clear h2 hE2)
      | (go_at_call 50; (with_reducible refine (HS.out _).mono ?_); rintro e w3 ⟨rfl, rfl⟩))
  have hB3 := hB2.set Hne.out 2 (.int .i64 (y : Int))
  have HR3 := Lib.hid (H2.out.1.setE (i := 2) Hne.out.2.2.1 HK.out (.int .i64 (y : Int)))
  have HT3 := Lib.hid (((((TwoG.refl w g E).below (Below.refl _ _).drew)).trans (TwoG.of H2.out.2)).set 2 (.int .i64 (y : Int)))
  have HE3 := Lib.hid (set_headE HE2.out (i := 2) (.int .i64 (y : Int)))
  obtain ⟨c0, c1⟩ := hB3.cells
  clear hB2 e1 f1 hB3
  generalize w2.setCell ⟨E, 2, none⟩ (.int .i64 (y : Int)) = w3 at *
  cases q
  · go_wp2
    go_ret
    exact ⟨rfl, HR3.out, HT3.out, HE3.out⟩
  · go_wp2_with fail
    refine (mOk _ g l2 ok _ _ (orNone_some g _) HR3.out.rd).mono ?_
    rintro e w4 ⟨rfl, rfl⟩
    go_wp2
    go_ret
    exact ⟨rfl, HR3.out, HT3.out, HE3.out⟩

/-- What Read answers: five cells and a flag. -/
def FiveB (w w' : World) (l : List Nat) (k' n' : Int) (f : Nat) (s : List Nat) (a : Option Addr) (len cap : Nat) (b : Bool) (ls : List Nat) (ok : Bool) : Prop :=
  (b = true ∧ ∃ u : V, u.kind = k' ∧ u.n = n' ∧ u.f = f ∧ u.s = s ∧ u.l.length = len ∧ VInP (fun b => w.heap.size ≤ b ∧ b < w'.heap.size) w' u (cells5 u.kind u.n u.f u.s a u.l.length cap) ∧ IsV 8 l u ls ∧ ok = true) ∨ (b = false ∧ NoV 8 l)

theorem ReadAll.five {K : Nat → Prop} {w w' : World} {g : Nat} {l : List Nat} {e : Ending} (h : ReadAll K w g l e w') :
    ∃ (k' n' : Int) (f : Nat) (s : List Nat) (a : Option Addr) (len cap : Nat) (b : Bool) (ls : List Nat) (ok : Bool), e = .returned (.tuple #[.agg #[.int .i64 k', .int .i64 n', .float .f64 f, .string (str s), .slice a len cap], .bool b]) ∧ RdEndK K w g (ls, ok) w' ∧ FiveB w w' l k' n' f s a len cap b ls ok := by
  rcases h with ⟨u, rest, a, cap, rfl, hv, hi, hr⟩ | ⟨hno, rfl, ⟨ls, ok⟩, hr⟩
  · exact ⟨u.kind, u.n, u.f, u.s, a, u.l.length, cap, true, rest, true, rfl, hr, .inl ⟨rfl, u, rfl, rfl, rfl, rfl, rfl, hv, hi, rfl⟩⟩
  · exact ⟨0, 0, 0, [], none, 0, 0, false, ls, ok, rfl, hr, .inr ⟨rfl, hno⟩⟩

theorem set5E {w : World} {E : Nat} {v0 v1 v2 v3 v4 v5 v6 v7 v8 v9 v10 : Value} {t : TypeId} {m : Nat × Nat} (h : w.heap[E]? = some (.cells #[v0, v1, v2, v3, v4, v5, v6, v7, v8, v9, v10] t m)) (u6 u7 u8 u9 u10 : Value) :
    (((((w.setCell ⟨E, 6, none⟩ u6).setCell ⟨E, 7, none⟩ u7).setCell ⟨E, 8, none⟩ u8).setCell ⟨E, 9, none⟩ u9).setCell ⟨E, 10, none⟩ u10).heap[E]? = some (.cells #[v0, v1, v2, v3, v4, v5, u6, u7, u8, u9, u10] t m) :=
  set_headE (set_headE (set_headE (set_headE (set_headE h u6) u7) u8) u9) u10

/-- What the reader of values answers. -/
def Fr6End (K : Nat → Prop) (w : World) (g E : Nat) (l : List Nat) (k : Int) (id : Nat) (n : Int) (t : Nat) (nm tx : List Nat) (e : Ending) (w' : World) : Prop :=
  (∃ (u : V) (rest : List Nat) (a : Option Addr) (cap : Nat), e = .returned (.bool true) ∧ IsV 8 l u rest ∧ RdK K w' g rest true ∧ TwoG w w' g E ∧ w'.heap[E]? = some (.cells (evC k id n t nm tx u.kind u.n u.f u.s a u.l.length cap) 28 (0, 0)) ∧ VInP (fun b => w.heap.size ≤ b ∧ b < w'.heap.size) w' u (cells5 u.kind u.n u.f u.s a u.l.length cap)) ∨
  (NoV 8 l ∧ e = .returned (.bool false) ∧ (∃ (ls : List Nat) (ok : Bool), RdK K w' g ls ok) ∧ TwoG w w' g E)

theorem set5O {w : World} {E j : Nat} (h : j ≠ E) (u6 u7 u8 u9 u10 : Value) :
    (((((w.setCell ⟨E, 6, none⟩ u6).setCell ⟨E, 7, none⟩ u7).setCell ⟨E, 8, none⟩ u8).setCell ⟨E, 9, none⟩ u9).setCell ⟨E, 10, none⟩ u10).heap[j]? = w.heap[j]? := by
  simp [World.setCell, Array.getElem?_modify, Ne.symm h]

set_option maxRecDepth 100000 in
set_option maxHeartbeats 3200000 in
theorem fr6_any (K : Nat → Prop) (A B g E : Nat) (l : List Nat) (w : World) (hB : Boxes w A B g E) (hne : A ≠ g ∧ B ≠ g ∧ E ≠ g ∧ A ≠ E ∧ B ≠ E) (hK : ¬ K E) (hKb : ∀ b, K b → b < w.heap.size) (hl : l.length ≤ 1000000) (hR : RdK K w g l true)
    (k : Int) (id : Nat) (n : Int) (t : Nat) (nm tx : List Nat) (vk vn : Int) (vf : Nat) (vs : List Nat) (a : Option Addr) (len cap : Nat) (hE : w.heap[E]? = some (.cells (evC k id n t nm tx vk vn vf vs a len cap) 28 (0, 0))) :
    Calls Tryz.prog 122 #[.pointer (some ⟨A, 0, none⟩), .pointer (some ⟨B, 0, none⟩)] w (Fr6End K w g E l k id n t nm tx) := by
  have HB := Lib.hid hB
  have HU := Lib.hid (fun W (hW : Below w.heap.size w W) => (vread_all K l g W hl (fun b h => Nat.lt_of_lt_of_le (hKb b h) hW.size) (hR.below hW)).mono (fun e w' h => h.five))
  have HE := Lib.hid hE
  have Hne := Lib.hid hne
  have HK := Lib.hid hK
  have HEs := Lib.hid (Array.getElem?_eq_some_iff.1 hE).1
  have Hb1 := Lib.hid ((Below.refl w.heap.size w).drew)
  clear hR hB hne hK hl hKb
  have hfl : ∀ (w : World) (a : Addr) (m : Mode) (b : Nat), (store a (.float .f64 b) m).run Tryz.prog w = stored Tryz.prog w a (.float .f64 b) m := fun w a m b => run_store Tryz.prog w a _ m rfl
  clear hE
  go_enter Tryz.func122, Tryz.ntmps122
  go_wp2_with fail
  go_region_held3 (fun W => W.cell? ⟨A, 0, none⟩ = some (.pointer (some ⟨g, 0, none⟩)) ∧ W.cell? ⟨B, 0, none⟩ = some (.pointer (some ⟨E, 0, none⟩)))
    (first | with_reducible exact (HB.out.below Hb1.out).cells | with_reducible exact hB2.cells | with_reducible exact HS5.out _ _ _ _ _)
    (first
      | (go_at_call 123; (with_reducible refine (HU.out _ Hb1.out).mono ?_); rintro e w2 ⟨k', n', f', s', a', len', cap', b', ls, ok, rfl, h2, hq⟩
         have hB2 := (HB.out.below Hb1.out).turn Hne.out h2.2
         have hE2 := evAt_turn ((Hb1.out.block _ HEs.out).trans HE.out) Hne.out.2.2.1 h2.2
         obtain ⟨e0, e1, e2, e3, e4, e5, e6, e7, e8, e9, e10⟩ := box11 hE2
         have HS5 := Lib.hid (fun u6 u7 u8 u9 u10 => (((((hB2.set Hne.out 6 u6).set Hne.out 7 u7).set Hne.out 8 u8).set Hne.out 9 u9).set Hne.out 10 u10).cells)
         have f6 := froz hE2 6
         have f7 := froz hE2 7
         have f8 := froz hE2 8
         have f9 := froz hE2 9
         have f10 := froz hE2 10
         have H2 := Lib.hid h2
         have HE2 := Lib.hid hE2
         have Hq := Lib.hid hq
         clear h2 hE2 e0 e1 e2 e3 e4 e5 hq))
  have HR3 := Lib.hid (((((H2.out.1.setE (i := 6) Hne.out.2.2.1 HK.out (.int .i64 k')).setE (i := 7) Hne.out.2.2.1 HK.out (.int .i64 n')).setE (i := 8) Hne.out.2.2.1 HK.out (.float .f64 f')).setE (i := 9) Hne.out.2.2.1 HK.out (.string (str s'))).setE (i := 10) Hne.out.2.2.1 HK.out (.slice a' len' cap'))
  have HT3 := Lib.hid (((((((((TwoG.refl w g E).below Hb1.out)).trans (TwoG.of H2.out.2)).set 6 (.int .i64 k')).set 7 (.int .i64 n')).set 8 (.float .f64 f')).set 9 (.string (str s'))).set 10 (.slice a' len' cap'))
  have HE3 := Lib.hid (set5E HE2.out (.int .i64 k') (.int .i64 n') (.float .f64 f') (.string (str s')) (.slice a' len' cap'))
  have HO := Lib.hid (fun j (h : j ≠ E) => set5O (w := w2) h (.int .i64 k') (.int .i64 n') (.float .f64 f') (.string (str s')) (.slice a' len' cap'))
  have hsz : w.drew.heap.size = w.heap.size := rfl
  have HT4 := Lib.hid (TwoG.set (TwoG.set (TwoG.set (TwoG.set (TwoG.set (TwoG.refl w2 g E) 6 (.int .i64 k')) 7 (.int .i64 n')) 8 (.float .f64 f')) 9 (.string (str s'))) 10 (.slice a' len' cap'))
  clear hB2 f6 f7 f8 f9 f10 e6 e7 e8 e9 e10
  generalize World.setCell (World.setCell (World.setCell (World.setCell (World.setCell w2 _ _) _ _) _ _) _ _) _ _ = w3 at *
  rcases Hq.out with ⟨rfl, u, rfl, rfl, rfl, rfl, rfl, hv, hi, rfl⟩ | ⟨rfl, hno⟩
  · have Hv := Lib.hid hv
    have Hi := Lib.hid hi
    clear hv hi
    go_wp2
    go_ret
    have hs4 := HT4.out.2.2.2.1
    refine .inl ⟨u, ls, a', cap', rfl, Hi.out, HR3.out, HT3.out, HE3.out, VInP.turn (fun b hb => ⟨hb.1, by have := hb.2; omega⟩) (fun p hp => ?_) u _ Hv.out⟩
    unfold World.cell?
    have hEs := HEs.out
    rw [HO.out p.block (by have := hp.1; omega)]
  · have Hno := Lib.hid hno
    clear hno
    go_wp2
    go_ret
    exact .inr ⟨Hno.out, rfl, ⟨ls, ok, HR3.out⟩, HT3.out⟩
end Go.Proofs.YtmcdfmhciinocaaGreatDoor

