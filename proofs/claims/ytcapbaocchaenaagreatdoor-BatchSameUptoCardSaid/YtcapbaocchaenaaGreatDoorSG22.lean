import Derived.Test.YtcapbaocchaenaaGreatDoorSG20
import Derived.Lib.SlBytesConst
import Derived.Lib.ItoaMem
import Derived.Deep.RegionLawGrows
import Derived.Deep.AppendLies
import Derived.Test.YtcapbaocchaenaaGreatDoorSG8
import Derived.Deep.OwnRows
import Derived.Lib.SmallJoins
import Derived.Lib.Join
import Derived.Test.YtcapbaocchaenaaGreatDoorSG15
import Derived.Test.YtcapbaocchaenaaGreatDoorSG12
/- The text of a content of bytes. -/

namespace Go.Proofs.YtcapbaocchaenaaGreatDoor
open Go.RowKit Go.Shelf Fl

/-- What is written so far: the first row, which the program lays, or one of the call's own. -/
def TxtRel (w wr : World) (l : List Nat) (v : Value) : Prop :=
  (l = [34] ∧ v = .slice (some ⟨w.heap.size, 0, none⟩) 1 1 ∨ wr.ownsRow (w.heap.size + 1) 5 1 v l.length (u8s l)) ∧ wr.heap[w.heap.size]? = some (.cells #[.int .u8 34] 5 (1, 2)) ∧ Below w.heap.size w wr

theorem TxtRel.keep {w wr W : World} {l : List Nat} {v : Value} (h : TxtRel w wr l v) (hb : Below wr.heap.size wr W) : TxtRel w W l v := by
  obtain ⟨h1, h2, h3⟩ := h
  have hlt : w.heap.size < wr.heap.size := (Array.getElem?_eq_some_iff.1 h2).1
  refine ⟨h1.imp id (fun h => own_below h hb), (hb.block _ hlt).trans h2, h3.trans (hb.mono h3.size)⟩

theorem TxtRel.bytes {w W : World} {l : List Nat} {v : Value} (h : TxtRel w W l v) (hl : ∀ c ∈ l, c < 256) : ∃ a n cap, v = .slice a n cap ∧ Bytes W a n cap l := by
  obtain ⟨h1, h2, _⟩ := h
  rcases h1 with ⟨rfl, rfl⟩ | h1
  · refine ⟨_, _, _, rfl, rfl, Nat.le_refl _, by omega, hl, (fun h => by cases h), fun _ => ⟨w.heap.size, 0, rfl, fun i hi => ?_⟩⟩
    obtain rfl : i = 0 := by omega
    simp [World.cell?, h2]
  · obtain ⟨p, cp, e, hB⟩ := own_slice h1 hl
    exact ⟨p, _, cp, e, hB⟩

theorem TxtRel.form {w W : World} {l : List Nat} {v : Value} (h : TxtRel w W l v) (hl : l ≠ []) : ∃ g cap, v = .slice (some ⟨g, 0, none⟩) l.length cap := by
  rcases h.1 with ⟨rfl, rfl⟩ | h1
  · exact ⟨_, _, rfl⟩
  · obtain ⟨g, cap, e, _⟩ := h1.form (by cases l with | nil => exact absurd rfl hl | cons _ _ => simp)
    exact ⟨g, cap, e⟩

/-- 'b = append(b, x, y)' as one step of a region that draws. -/
theorem step_txt {ops : Array Oper} {o : Oper} {a : Act} {W : World} {K : Act → World → Prop} {Q : Exit → Act → World → Prop} {E : Prop}
    (hg : o.guard = none) (s x : Operand) (hop : o.op = Op.call { callee := Callee.builtin Builtin.append, args := #[s, x], argTypes := #[28, 28] })
    (w : World) (l : List Nat) (v : Value) (hs : a.eval s = v) (hT : TxtRel w W l v) (ad : Addr) (c : Nat) (p q : Nat) (hx : a.eval x = .slice (some ad) 2 c) (hc : ∀ j u, (u8s [p, q])[j]? = some u → W.cell? (ad.add j) = some u)
    (hn : l.length ≤ 10000000)
    (hK : ∀ g cap w', TxtRel w w' (l ++ [p, q]) (.slice (some ⟨g, 0, none⟩) (l.length + 2) cap) → K (a.put o.dst (.slice (some ⟨g, 0, none⟩) (l.length + 2) cap)) w') :
    if Region.wanted o (yielded ops a.tmps) = true then Oper.wp Tryz.prog o a W K Q else E := by
  obtain ⟨i0, hi, hz0, hz1, hz2⟩ := info_parts info_u8
  have hsz : w.heap.size < W.heap.size := (Array.getElem?_eq_some_iff.1 hT.2.1).1
  rcases hT.1 with ⟨rfl, rfl⟩ | hown
  · refine step_append_grows hg s x 28 hop 5 i0 _ 1 1 Tryz.underlying28 hi hz0 hz1 hz2 rfl (by decide) _ 1 1 (u8s [34]) hs (fun h => by cases h) rfl (fun b e j u hj => ?_) ad 2 c (u8s [p, q]) hx rfl hc (u8s_one _) (by omega) (by rw [maxLen_nat]; omega) (by omega) ?_
    · cases e
      obtain ⟨hj', rfl⟩ := u8s_get hj
      obtain rfl : j = 0 := by simp at hj'; omega
      rw [Lib.add_plain]
      simp [World.cell?, hT.2.1]
    · intro v' w' h1 h2
      obtain ⟨g, cap, rfl, _⟩ := h1.form (by omega)
      have e2 : (1 + 2 : Nat) = [34].length + 2 := rfl
      exact hK g cap w' ⟨.inr (own_base (base' := w.heap.size + 1) h1 (by omega)), (h2.block _ hsz (by simp)).trans hT.2.1, hT.2.2.grown h2 (by omega) (fun k hk => by cases hk)⟩
  · refine step_append_lies W hg s x 28 hop (w.heap.size + 1) 5 i0 _ 1 1 Tryz.underlying28 hi hz0 hz1 hz2 rfl (by decide) v l.length (u8s l) hs hown ad 2 c (u8s [p, q]) hx rfl hc (u8s_one _) (by omega) (by rw [maxLen_nat]; omega) (by omega) (by omega) _ rfl ?_
    intro g cap w' h1 h2 _ _
    have hne : ∀ k, v.ownBlock = some k → w.heap.size + 1 ≤ k := by
      intro k hk
      rcases hown.2 with ⟨e, _⟩ | ⟨g', cap', cur, e, hbg, _⟩
      · rw [e] at hk; cases hk
      · rw [e] at hk
        have e2 : g' = k := Option.some.inj hk
        omega
    refine hK g cap w' ⟨.inr ?_, (h2.block _ hsz (fun e => ?_)).trans hT.2.1, hT.2.2.grown h2 (by omega) (fun k hk => by have := hne k hk; omega)⟩
    · rw [List.length_append, u8s_append]; exact h1
    · have := hne _ e.symm; omega

theorem hexc_all : ∀ d : Fin 16, ∀ h : d.val < (ByteArray.mk #[48, 49, 50, 51, 52, 53, 54, 55, 56, 57, 97, 98, 99, 100, 101, 102]).size, (((ByteArray.mk #[48, 49, 50, 51, 52, 53, 54, 55, 56, 57, 97, 98, 99, 100, 101, 102])[d.val]'h).toNat : Int) = ((hexD d.val : Nat) : Int) := by decide +kernel
theorem hexc_at {d : Nat} (hd : d < 16) (h : d < (ByteArray.mk #[48, 49, 50, 51, 52, 53, 54, 55, 56, 57, 97, 98, 99, 100, 101, 102]).size) : (((ByteArray.mk #[48, 49, 50, 51, 52, 53, 54, 55, 56, 57, 97, 98, 99, 100, 101, 102])[d]'h).toNat : Int) = ((hexD d : Nat) : Int) := hexc_all ⟨d, hd⟩ h
theorem and15b : ∀ c : Fin 256, bits .and .u8 (c.val : Int) 15 = ((c.val % 16 : Nat) : Int) := by decide +kernel

theorem hexD_lt : ∀ d : Fin 16, hexD d.val < 256 := by decide +kernel

theorem hex2_byte {l : List Nat} (hl : ∀ c ∈ l, c < 256) : ∀ c ∈ hex2 l, c < 256 := by
  intro c hc
  unfold hex2 at hc
  obtain ⟨x, hx, hc⟩ := List.mem_flatMap.1 hc
  have hx := hl x hx
  have h1 := hexD_lt ⟨x / 16, by omega⟩
  have h2 := hexD_lt ⟨x % 16, by omega⟩
  simp at hc h1 h2
  rcases hc with rfl | rfl
  · exact h1
  · exact h2

set_option maxRecDepth 100000 in
theorem textText_any (s : List Nat) (w : World) (hs : ∀ c ∈ s, c < 256) (hn : s.length ≤ 1000000) :
    Calls Tryz.prog 222 #[.string (str s)] w fun e w' => e = .returned (.string (str (34 :: (hex2 s ++ [34])))) ∧ Below w.heap.size w w' := by
  have hsz := str_size s
  have kc := fun (w : World) (C : Array Value) (n c : Nat) => Lib.run_convert_bytes_const (P := Tryz.prog) w 28 5 C n c Tryz.underlying28 Tryz.underlying5
  have H0 := Lib.hid (show TxtRel w (w.alloc (.cells #[.int .u8 34] 5 (1, 2))) (34 :: hex2 (s.take 0)) (.slice (some ⟨w.heap.size, 0, none⟩) 1 1) from
    ⟨.inl ⟨rfl, rfl⟩, heap_alloc_new w _, (Below.refl w.heap.size w).alloc (Nat.le_refl _) _⟩)
  have HG := Lib.hid (get_str hs)
  have Hs := Lib.hid hs
  clear hs
  go_enter Tryz.func222, Tryz.ntmps222
  go_wp2
  go_loopw [3, 9] (fun v i wr => ∃ j : Nat, j ≤ s.length ∧ i = .int .i64 (j : Int) ∧ TxtRel w wr (34 :: hex2 (s.take j)) v) (fun _ i _ => s.length - (intOf i).toNat)
  case atStart => exact ⟨0, Nat.zero_le _, rfl, H0.out⟩
  case round =>
    obtain ⟨j, hj, rfl, hR⟩ := hrel
    have HR := Lib.hid hR
    obtain ⟨g, cap, rfl⟩ := hR.form (by simp)
    clear hR
    by_cases hlt : j < s.length
    · have hji : (j : Int) < (s.length : Int) := by omega
      have hgl : j < (str s).size := by rw [hsz]; exact hlt
      have hgj := HG.out j hgl
      have hc : s.getD j 0 < 256 := by
        rw [List.getD_eq_getElem?_getD, List.getElem?_eq_getElem hlt]
        exact Hs.out _ (List.getElem_mem _)
      have hxs : 34 :: hex2 (s.take (j + 1)) = (34 :: hex2 (s.take j)) ++ [hexD (s.getD j 0 / 16), hexD (s.getD j 0 % 16)] := by
        rw [hex2_take hlt]; simp
      have Hl := Lib.hid (show (34 :: hex2 (s.take j)).length ≤ 10000000 from by rw [List.length_cons, hex2_len, List.length_take]; omega)
      generalize 34 :: hex2 (s.take j) = L at *
      generalize s.getD j 0 = c at *
      obtain ⟨x, hx⟩ : ∃ x, x = c / 16 := ⟨_, rfl⟩
      obtain ⟨y, hy⟩ : ∃ y, y = c % 16 := ⟨_, rfl⟩
      have h15 := and15b ⟨c, hc⟩
      simp only at h15
      rw [← hx, ← hy] at hxs
      have Hx := Lib.hid hxs
      have Hlt := Lib.hid hlt
      rw [← hy] at h15
      have hx16 : (c : Int) / 16 = (x : Int) := by omega
      have hxl : x < 16 := by omega
      have hyl : y < 16 := by omega
      have hxi : (x : Int) < 16 := by omega
      have hyi : (y : Int) < 16 := by omega
      have hxd := fun h => hexc_at hxl h
      have hyd := fun h => hexc_at hyl h
      have HT := Lib.hid (HR.out.keep (((Below.refl wr.heap.size wr).alloc (Nat.le_refl _) (.cells #[.int .u8 (hexD x : Nat), .int .u8 (hexD y : Nat)] 5)).drew))
      have HC := Lib.hid (World.news_of_block (w := (wr.alloc (.cells #[.int .u8 (hexD x : Nat), .int .u8 (hexD y : Nat)] 5)).drew) (heap_alloc_new wr (.cells #[.int .u8 (hexD x : Nat), .int .u8 (hexD y : Nat)] 5)))
      clear hx hy hc hlt hxs
      go_wp2
      go_region_law (refine step_txt rfl (.tmp 12) (.tmp 23) rfl w L _ (by simp [Act.eval]) HT.out ⟨wr.heap.size, 0, none⟩ 2 (hexD x) (hexD y) (by simp [Act.eval]) HC.out Hl.out ?_; intro g2 cap2 w2 hT2; have HT2 := Lib.hid hT2; clear hT2)
      all_goals go_wp2
      all_goals go_roundw
      all_goals first
        | exact ⟨j + 1, Hlt.out, by go_num, by rw [Hx.out]; exact HT2.out⟩
        | (simp [intOf]; have := Hlt.out; omega)
    · have hji : ¬ ((j : Int) < (s.length : Int)) := by omega
      have he : 34 :: hex2 (s.take j) = 34 :: hex2 s := by rw [List.take_of_length_le (by omega)]
      rw [he] at HR ⊢
      have hl34 : ∀ c ∈ 34 :: hex2 s, c < 256 := by
        intro c hc
        rcases List.mem_cons.1 hc with rfl | hc
        · omega
        · exact hex2_byte Hs.out c hc
      obtain ⟨a', n', cap', e, hB⟩ := HR.out.bytes hl34
      have hcv := convert_bytes (P := Tryz.prog) hB 28 5 9 Tryz.underlying28 Tryz.underlying5 Tryz.underlying9
      rw [← e] at hcv
      have hq := str_size (34 :: hex2 s)
      rw [List.length_cons, hex2_len] at hq
      have Happ := Lib.hid (show str (34 :: hex2 s) ++ (⟨#[34]⟩ : ByteArray) = str (34 :: (hex2 s ++ [34])) from (str_append (34 :: hex2 s) [34]).trans (by simp))
      have Hb := Lib.hid HR.out.2.2
      clear e hB he
      generalize str (34 :: hex2 s) = S at *
      generalize (34 :: hex2 s).length = len at *
      go_wp2
      go_ret
      exact ⟨by rw [← Happ.out]; rfl, Hb.out⟩
end Go.Proofs.YtcapbaocchaenaaGreatDoor

/- The text of a list of values. -/
namespace Go.Proofs.YtcapbaocchaenaaGreatDoor
open Go.RowKit Go.Shelf Fl

theorem info_string : (Tryz.prog.info? 9).map (fun i => (i.zero, i.size, i.bytes)) = some (some (.string ByteArray.empty), 1, 16) := by kernel_rfl

/-- The array of texts when the first j of them are written. -/
def textRow (l : List V) (j : Nat) : Array Value := ((l.take j).map (fun u => Value.string (str (textV u))) ++ List.replicate (l.length - j) (Value.string ⟨#[]⟩)).toArray

theorem textRow_size {l : List V} {j : Nat} (h : j ≤ l.length) : (textRow l j).size = l.length := by
  unfold textRow
  simp
  omega

theorem textRow_zero (l : List V) : (madeCells #[Value.string ByteArray.empty] l.length) = textRow l 0 := by
  apply Array.ext
  · rw [size_madeCells, textRow_size (Nat.zero_le _)]
  · intro i h1 h2
    simp [madeCells, textRow, Nat.mod_one]
    rfl

theorem textRow_set {l : List V} {j : Nat} (h : j < l.length) : (textRow l j).setIfInBounds j (.string (str (textV l[j]))) = textRow l (j + 1) := by
  apply Array.ext
  · rw [Array.size_setIfInBounds, textRow_size (by omega), textRow_size (by omega)]
  · intro i h1 h2
    rw [textRow_size (by omega)] at h2
    rw [Array.getElem_setIfInBounds (by rw [textRow_size (by omega)]; exact h2)]
    by_cases e : j = i
    · subst e
      rw [if_pos rfl]
      simp [textRow, List.length_take, Nat.min_eq_left (show j + 1 ≤ l.length by omega)]
    · rw [if_neg e]
      by_cases e2 : i < j
      · simp [textRow, List.length_take, Nat.min_eq_left (show j + 1 ≤ l.length by omega), Nat.min_eq_left (show j ≤ l.length by omega), e2, show i < j + 1 by omega]
      · simp [textRow, List.getElem_append, List.length_take, Nat.min_eq_left (show j + 1 ≤ l.length by omega), Nat.min_eq_left (show j ≤ l.length by omega), e2, show ¬ i < j + 1 by omega]

theorem join_len : ∀ a : List (List Nat), a.length ≤ (joinS a).length + 1
  | [] => by simp
  | [y] => by simp [joinS]
  | y :: z :: r => by
    have := join_len (z :: r)
    rw [joinS, List.length_append, List.length_cons]
    simp only [List.length_cons] at this ⊢
    omega

theorem lib_join : ∀ a : List (List Nat), Lib.join (a.map (fun l => l.map UInt8.ofNat)) [32] = (joinS a).map UInt8.ofNat
  | [] => rfl
  | [y] => by simp [Lib.join, List.intercalate, joinS]
  | y :: z :: r => by
    have ih := lib_join (z :: r)
    unfold Lib.join at ih ⊢
    rw [joinS, List.map_append, show (32 :: joinS (z :: r)).map UInt8.ofNat = 32 :: (joinS (z :: r)).map UInt8.ofNat from rfl, ← ih]
    simp [List.intercalate]

/-- How a content answers text. -/
def TextAt (w : World) (con : Value) (txt : List Nat) : Prop :=
  ∃ (T : TypeId) (v : Value) (f : FuncId), con = .iface T v ∧ (∀ (n : Nat) (w : World), (method (n + 1) T v "clockwork/value.text").run Tryz.prog w = .ok (f, v) w) ∧ (∀ args w, (callFunc f args).run Tryz.prog w = .ok (.enter f args) w) ∧
    ∀ w', Below w.heap.size w w' → Calls Tryz.prog f #[v] w' fun e w'' => e = .returned (.string (str txt)) ∧ Below w'.heap.size w' w''

set_option maxRecDepth 100000 in
theorem listText_any (l : List V) (a : Option Addr) (cap : Nat) (w : World) (hn : (textV (.mk 4 0 0 [] l)).length ≤ 1000000) (hl : l = [] ∨ ∃ b o, a = some ⟨b, o, none⟩ ∧ VsIn w l b o)
    (ht : ∀ u ∈ l, ∀ a cap, VIn w u (cells5 u.kind u.n u.f u.s a u.l.length cap) → TextAt w (conOf u.kind u.n u.f u.s a u.l.length cap) (textV u)) :
    Calls Tryz.prog 224 #[.slice a l.length cap] w fun e w' => e = .returned (.string (str (textV (.mk 4 0 0 [] l)))) ∧ Below w.heap.size w w' := by
  have hll : l.length ≤ 1000000 := by
    have h := join_len (textVs l)
    rw [textVs_map, List.length_map] at h
    rw [textV, if_neg (by decide), if_neg (by decide), if_neg (by decide), if_pos rfl, List.length_cons, List.length_append, textVs_map] at hn
    simp only [List.length_cons, List.length_nil] at hn
    omega
  have hmk := run_make_row' (P := Tryz.prog) 59 9 (.string ByteArray.empty) 16 Tryz.underlying59 info_string rfl .i64 .i64 l.length (by omega) (by omega)
  have hfl : ∀ (w : World) (a : Addr) (m : Mode) (b : Nat), (store a (.float .f64 b) m).run Tryz.prog w = stored Tryz.prog w a (.float .f64 b) m := fun w a m b => run_store Tryz.prog w a _ m rfl
  have HC := Lib.hid (fun k n f s a len cap w => contentOf_any k n f s a len cap w)
  have H0 := Lib.hid (show (w.alloc (.cells (madeCells #[Value.string ByteArray.empty] l.length) 9)).heap[w.heap.size]? = some (.cells (textRow l 0) 9 (0, 0)) from by
    rw [textRow_zero]; exact heap_alloc_new w _)
  have HL := Lib.hid hl
  have HT := Lib.hid ht
  have HN := Lib.hid hn
  have hb0 := (Below.refl w.heap.size w).alloc (Nat.le_refl _) (.cells (madeCells #[Value.string ByteArray.empty] l.length) 9)
  have Hb0 := Lib.hid hb0
  have hj1 := Tryz.strings_Join
  clear hl hb0 ht hn
  go_enter Tryz.func224, Tryz.ntmps224
  go_wp2_with fail
  generalize w.alloc (.cells (madeCells #[Value.string ByteArray.empty] l.length) 9) = w1 at *
  go_loopw [11] (fun i wr => ∃ j : Nat, j ≤ l.length ∧ i = .int .i64 (j : Int) ∧ wr.heap[w.heap.size]? = some (.cells (textRow l j) 9 (0, 0)) ∧ Below w.heap.size w wr) (fun i _ => l.length - (intOf i).toNat)
  case atStart => exact ⟨0, Nat.zero_le _, rfl, H0.out, Hb0.out⟩
  case round =>
    obtain ⟨j, hj, rfl, hR, hbr⟩ := hrel
    have HR := Lib.hid hR
    have Hbr := Lib.hid hbr
    by_cases hlt : j < l.length
    · have hji : (j : Int) < (l.length : Int) := by omega
      obtain ⟨b, o, rfl, hvs⟩ := HL.out.resolve_left (by intro e; rw [e] at hlt; simp at hlt)
      obtain ⟨a', cap', hvy, c0, c1, c2, c3, c4⟩ := hvs.elem hlt
      replace c0 := cell_below hbr c0
      replace c1 := cell_below hbr c1
      replace c2 := cell_below hbr c2
      replace c3 := cell_below hbr c3
      replace c4 := cell_below hbr c4
      obtain ⟨hget, hmem⟩ := get_mem hlt
      have Hset := Lib.hid (textRow_set hlt)
      have Hlt := Lib.hid hlt
      obtain ⟨T, v, f, hc, hm, he, hcall⟩ := HT.out _ hmem _ _ hvy
      generalize l[j] = u at *
      obtain ⟨z0, z1, z2, z3, z4⟩ := new5 wr (.int .i64 u.kind) (.int .i64 u.n) (.float .f64 u.f) (.string (str u.s)) (.slice a' u.l.length cap') 43
      have HM := Lib.hid hm
      have HK := Lib.hid hcall
      have hal := (Below.refl wr.heap.size wr).alloc (Nat.le_refl _) (.cells #[.int .i64 u.kind, .int .i64 u.n, .float .f64 u.f, .string (str u.s), .slice a' u.l.length cap'] 43)
      have Hal := Lib.hid hal
      clear hlt hbr hR hvs hvy hget hmem hm hcall hal
      go_wp2_with fail
      refine (HC.out u.kind u.n u.f u.s a' u.l.length cap' _).mono ?_
      rintro e w3 ⟨rfl, hb3⟩
      rw [hc]
      have Hb3 := Lib.hid (Hal.out.trans (hb3.mono Hal.out.size))
      clear hb3 hc
      go_wp2_with fail
      rw [HM.out]
      go_wp2_with fail
      refine (HK.out _ (Hbr.out.trans (Hb3.out.mono Hbr.out.size))).mono ?_
      rintro e w4 ⟨rfl, hb4⟩
      have hblk : w4.heap[w.heap.size]? = some (.cells (textRow l j) 9 (0, 0)) := by
        have hlt2 : w.heap.size < wr.heap.size := (Array.getElem?_eq_some_iff.1 HR.out).1
        rw [hb4.block _ (by have := Hb3.out.size; omega), Hb3.out.block _ hlt2]
        exact HR.out
      have Hblk := Lib.hid hblk
      have hcell : ∃ y, w4.cell? ⟨w.heap.size, j, none⟩ = some y := by
        rw [cell_of_row _ _ _ _ _ _ hblk]
        exact ⟨_, Array.getElem?_eq_getElem (by rw [textRow_size (by have := Hlt.out; omega)]; exact Hlt.out)⟩
      obtain ⟨y, hy⟩ := hcell
      have hfr : w4.frozen? ⟨w.heap.size, j, none⟩ = false := by simp [World.frozen?, hblk]
      have Hb4 := Lib.hid (show Below w.heap.size w w4 from Hbr.out.trans ((Hb3.out.trans (hb4.mono Hb3.out.size)).mono Hbr.out.size))
      clear hb4 hblk c0 c1 c2 c3 c4 z0 z1 z2 z3 z4
      go_wp2
      go_roundw
      case rel =>
        refine ⟨j + 1, Hlt.out, by go_num, ?_, Hb4.out.setCell (Nat.le_refl _) _⟩
        rw [← Hset.out]
        exact Joins.block_setCell Hblk.out _
      case measure => simp [intOf]; have := Hlt.out; omega
    · have hji : ¬ ((j : Int) < (l.length : Int)) := by omega
      obtain rfl : j = l.length := by omega
      have hxl : (l.map (fun u => str (textV u))).length = l.length := List.length_map _
      have hmm : (l.map (fun u => str (textV u))).map (·.data.toList) = (textVs l).map (fun x => x.map UInt8.ofNat) := by
        rw [textVs_map, List.map_map, List.map_map]
        exact List.map_congr_left (fun u _ => by simp [str])
      have hjn := hj1 w.heap.size 0 l.length (l.map (fun u => str (textV u))) ⟨#[32]⟩ wr (fun i x hx => by
          rw [List.getElem?_map] at hx
          obtain ⟨u, hu, rfl⟩ := Option.map_eq_some_iff.1 hx
          obtain ⟨hi, rfl⟩ := List.getElem?_eq_some_iff.1 hu
          rw [Nat.zero_add, cell_of_row _ _ _ _ _ _ hR]
          simp [textRow, hi])
        (Array.getElem?_eq_some_iff.1 hR).1 (by rw [hxl]; omega) (by rw [hxl]; exact Nat.le_refl _) (by
          rw [hmm, show ((⟨#[32]⟩ : ByteArray).data.toList) = [32] from rfl, lib_join, List.length_map]
          have h := HN.out
          rw [textV, if_neg (by decide), if_neg (by decide), if_neg (by decide), if_pos rfl, List.length_cons, List.length_append] at h
          omega)
      rw [hxl, hmm, show ((⟨#[32]⟩ : ByteArray).data.toList) = [32] from rfl, lib_join] at hjn
      have Hjn := Lib.hid (show Calls Tryz.prog 33 #[.slice (some ⟨w.heap.size, 0, none⟩) l.length l.length, .string ⟨#[32]⟩] wr (fun e w' => e = .returned (.string (str (joinS (textVs l)))) ∧ Below wr.heap.size wr w') from hjn)
      have hq := str_size (joinS (textVs l))
      have Hsum := Lib.hid (show (⟨#[91]⟩ : ByteArray) ++ str (joinS (textVs l)) ++ (⟨#[93]⟩ : ByteArray) = str (textV (.mk 4 0 0 [] l)) from by
        rw [textV, if_neg (by decide), if_neg (by decide), if_neg (by decide), if_pos rfl]
        exact (congrArg (· ++ (⟨#[93]⟩ : ByteArray)) (str_append [91] (joinS (textVs l)))).trans ((str_append (91 :: joinS (textVs l)) [93]).trans (by simp)))
      have hqn : (joinS (textVs l)).length ≤ 1000000 := by
        have h := HN.out
        rw [textV, if_neg (by decide), if_neg (by decide), if_neg (by decide), if_pos rfl, List.length_cons, List.length_append] at h
        omega
      clear hR hbr hlt hxl hmm hjn hj1
      generalize str (joinS (textVs l)) = S at *
      generalize (joinS (textVs l)).length = q at *
      go_wp2_with fail
      refine Hjn.out.mono ?_
      rintro e w5 ⟨rfl, hb5⟩
      have Hb5 := Lib.hid (Hbr.out.trans (hb5.mono Hbr.out.size))
      clear hb5
      go_wp2
      go_ret
      exact ⟨by rw [← Hsum.out]; rfl, Hb5.out⟩
end Go.Proofs.YtcapbaocchaenaaGreatDoor

/- The walk of the reference's Text. -/
namespace Go.Proofs.YtcapbaocchaenaaGreatDoor
open Go.RowKit Fl

/-- The text of a valid value, and nothing for others. -/
def textB (v : V) : List Nat := if rightN 8 v = true then textV v else []

end Go.Proofs.YtcapbaocchaenaaGreatDoor

/- Text of the code. -/
namespace Go.Proofs.YtcapbaocchaenaaGreatDoor
open Go.RowKit Go.Shelf Fl

theorem meth_nil (n : Nat) (w : World) : (method (n + 1) 123 (.agg #[]) "clockwork/value.text").run Tryz.prog w = .ok (203, .agg #[]) w := by kernel_rfl
theorem meth_int (n : Nat) (x : Int) (w : World) : (method (n + 1) 124 (.int .i64 x) "clockwork/value.text").run Tryz.prog w = .ok (205, .int .i64 x) w := by kernel_rfl
theorem meth_float (n : Nat) (x : Nat) (w : World) : (method (n + 1) 125 (.float .f64 x) "clockwork/value.text").run Tryz.prog w = .ok (210, .float .f64 x) w := by kernel_rfl
theorem meth_text (n : Nat) (x : ByteArray) (w : World) : (method (n + 1) 126 (.string x) "clockwork/value.text").run Tryz.prog w = .ok (222, .string x) w := by kernel_rfl
theorem meth_list (n : Nat) (a : Option Addr) (len cap : Nat) (w : World) : (method (n + 1) 127 (.slice a len cap) "clockwork/value.text").run Tryz.prog w = .ok (224, .slice a len cap) w := by kernel_rfl

theorem Pow10.below {w w' : World} (h : Pow10 w) (hb : Below w.heap.size w w') : Pow10 w' := by
  unfold Pow10 Lib.TabIs World.var? at h ⊢
  cases hg : Tryz.prog.globalNamed "internal/strconv.uint64pow10" with
  | none => rw [hg] at h; cases h
  | some g =>
    rw [hg] at h
    change (match w'.heap[g]? with | some (.cells cs _ _) => some cs | _ => none) = _
    change (match w.heap[g]? with | some (.cells cs _ _) => some cs | _ => none) = _ at h
    have hlt : g < w.heap.size := by
      rcases Nat.lt_or_ge g w.heap.size with h1 | h1
      · exact h1
      · rw [Array.getElem?_eq_none h1] at h; cases h
    rw [hb.block g hlt]
    exact h

theorem tab_below {w w' : World} (h : Tab16 w) (hb : Below w.heap.size w w') : Tab16 w' := cell_below hb h

theorem textAt_any : ∀ (v : V) (t : Nat) (a : Option Addr) (cap : Nat) (w : World), rightN t v = true → VIn w v (cells5 v.kind v.n v.f v.s a v.l.length cap) → (textV v).length ≤ 1000000 → Pow10 w → Tab16 w →
    TextAt w (conOf v.kind v.n v.f v.s a v.l.length cap) (textV v) := by
  refine V.ind ?_
  rintro ⟨k, n, f, s, l⟩ ih t a cap w hr hv hlen hp ht
  change ∀ u ∈ l, _ at ih
  obtain ⟨_, hn, hf, hs, _, _⟩ := hv.parts
  have hkk : 0 ≤ k ∧ k ≤ 4 := by
    by_cases h : 0 ≤ k ∧ k ≤ 4
    · exact h
    · rw [rightN_kind (v := .mk k n f s l) h] at hr
      cases hr
  change TextAt w (conOf k n f s a l.length cap) _
  change f < 18446744073709551616 at hf
  change ∀ c ∈ s, c < 256 at hs
  unfold conOf
  rw [textV] at hlen ⊢
  by_cases h0 : k = 0
  · subst h0
    rw [if_pos rfl, if_neg (by decide), if_neg (by decide), if_neg (by decide), if_neg (by decide)]
    exact ⟨_, _, _, rfl, fun n w => meth_nil n w, enters_of Tryz.func203 (by kernel_rfl) rfl, fun w' _ => nilText_any w'⟩
  rw [if_neg h0]
  by_cases h1 : k = 1
  · rw [if_pos h1, if_pos h1]
    exact ⟨_, _, _, rfl, fun n w => meth_int n _ w, enters_of Tryz.func205 (by kernel_rfl) rfl, fun w' hb => intText_any n w' hn.1 hn.2 (hp.below hb)⟩
  rw [if_neg h1] at hlen
  rw [if_neg h1, if_neg h1]
  by_cases h2 : k = 2
  · rw [if_pos h2, if_pos h2]
    exact ⟨_, _, _, rfl, fun n w => meth_float n _ w, enters_of Tryz.func210 (by kernel_rfl) rfl, fun w' hb => floatText_any f w' hf (tab_below ht hb)⟩
  rw [if_neg h2] at hlen
  rw [if_neg h2, if_neg h2]
  by_cases h3 : k = 3
  · rw [if_pos h3] at hlen
    rw [if_pos h3, if_pos h3]
    have hsl : s.length ≤ 1000000 := by
      rw [List.length_cons, List.length_append, hex2_len] at hlen; omega
    exact ⟨_, _, _, rfl, fun n w => meth_text n _ w, enters_of Tryz.func222 (by kernel_rfl) rfl, fun w' _ => textText_any s w' hs hsl⟩
  have h4 : k = 4 := by omega
  subst h4
  rw [if_neg h3, if_pos rfl] at hlen
  rw [if_neg h3, if_neg h3, if_pos rfl, if_pos rfl]
  have hall : ∃ t', ∀ u ∈ l, rightN t' u = true := by
    cases t with
    | zero => unfold rightN at hr; simp [V.kind] at hr
    | succ t =>
      refine ⟨t, ?_⟩
      unfold rightN at hr
      rw [Bool.and_eq_true, Bool.and_eq_true, List.all_eq_true] at hr
      exact hr.1.2
  obtain ⟨t', hall⟩ := hall
  have hl : l = [] ∨ ∃ b o, a = some ⟨b, o, none⟩ ∧ VsIn w l b o := by
    by_cases e : l = []
    · exact .inl e
    · exact .inr (hv.list e)
  have hlen' : (textV (.mk 4 0 0 [] l)).length ≤ 1000000 := by
    rw [textV, if_neg (by decide), if_neg (by decide), if_neg (by decide), if_pos rfl]
    exact hlen
  refine ⟨_, _, _, rfl, fun n w => meth_list n _ _ _ w, enters_of Tryz.func224 (by kernel_rfl) rfl, fun w' hb => ?_⟩
  have h := listText_any l a cap w' hlen' (hl.imp id (fun ⟨b, o, e, h⟩ => ⟨b, o, e, VsIn.keep (fun _ hp => hb.cell hp) l b o h⟩)) (fun u hu a' cap' hvu => by
    have hmem := textVs_mem hu
    have hle : (textV u).length ≤ 1000000 := by
      rw [List.length_cons, List.length_append] at hlen
      omega
    exact ih u hu t' a' cap' w' (hall u hu) hvu hle (hp.below hb) (tab_below ht hb))
  rw [textV, if_neg (by decide), if_neg (by decide), if_neg (by decide), if_pos rfl] at h
  exact h
set_option maxRecDepth 100000 in
theorem vText_any (t : Nat) (ht1 : t ≤ 1000) (v : V) (x : Array Value) (w : World) (hs : smallN t v = true) (hv : VIn w v x) (hlen : (textB v).length ≤ 1000000) (hp : Pow10 w) (ht : Tab16 w) :
    Calls Tryz.prog 31 #[.agg x] w fun e w' => e = .returned (.string (str (textB v))) ∧ Below w.heap.size w w' := by
  obtain ⟨_, _, _, _, _, a, cap, rfl, _⟩ := hv.parts
  have hal := (Below.refl w.heap.size w).alloc (Nat.le_refl _) (.cells (cells5 v.kind v.n v.f v.s a v.l.length cap) 43)
  have HA := Lib.hid hal
  have HW := Lib.hid (valid_any t ht1 v _ _ hs (hv.below hal))
  have hwz : (w.alloc (.cells (cells5 v.kind v.n v.f v.s a v.l.length cap) 43)).heap.size = w.heap.size + 1 := by simp
  have C0 := Lib.hid (new5 w (.int .i64 v.kind) (.int .i64 v.n) (.float .f64 v.f) (.string (str v.s)) (.slice a v.l.length cap) 43)
  have HC := Lib.hid (fun w => contentOf_any v.kind v.n v.f v.s a v.l.length cap w)
  have HV := Lib.hid (hv.below hal)
  have HP := Lib.hid (hp.below hal)
  have HT := Lib.hid (tab_below ht hal)
  have Hlen := Lib.hid hlen
  clear hv hs ht hal hp hlen
  cases hr : rightN 8 v with
  | false =>
    have HB := Lib.hid (show textB v = [] from by unfold textB; rw [hr]; rfl)
    rw [hr] at HW
    clear hr
    unfold cells5 at *
    go_enter Tryz.func31, Tryz.ntmps31
    go_wp2_with fail
    refine HW.out.mono ?_
    rintro e w1 ⟨rfl, hb⟩
    have Hb := Lib.hid (HA.out.trans (hb.mono HA.out.size))
    clear hb
    go_wp2
    go_ret
    exact ⟨by rw [HB.out]; rfl, Hb.out⟩
  | true =>
    have HB := Lib.hid (show textB v = textV v from by unfold textB; rw [hr]; rfl)
    rw [hr] at HW
    have Hr := Lib.hid hr
    clear hr
    unfold cells5 at *
    go_enter Tryz.func31, Tryz.ntmps31
    go_wp2_with fail
    generalize w.alloc (.cells #[.int .i64 v.kind, .int .i64 v.n, .float .f64 v.f, .string (str v.s), .slice a v.l.length cap] 43) = w1 at *
    refine HW.out.mono ?_
    rintro e w2 ⟨rfl, hb⟩
    have Hb := Lib.hid hb
    obtain ⟨z0, z1, z2, z3, z4⟩ := keep5 hb C0.out
    clear hb
    go_wp2_with fail
    refine (HC.out _).mono ?_
    rintro e w3 ⟨rfl, hb3⟩
    have Hb3 := Lib.hid (Hb.out.trans (hb3.mono Hb.out.size))
    have hwb : Below w1.heap.size w1 w3 := Hb3.out
    obtain ⟨T, pv, f, hc, hm, he, hcall⟩ := textAt_any v 8 a cap w3 Hr.out (HV.out.below hwb) (by rw [← HB.out]; exact Hlen.out) (HP.out.below hwb) (tab_below HT.out hwb)
    rw [hc]
    have HM := Lib.hid hm
    have HK := Lib.hid hcall
    clear hb3 hwb hc hm hcall z0 z1 z2 z3 z4
    go_wp2_with fail
    rw [HM.out]
    go_wp2_with fail
    refine (HK.out _ (Below.refl _ _)).mono ?_
    rintro e w4 ⟨rfl, hb4⟩
    have Hb4 := Lib.hid (HA.out.trans ((Hb3.out.trans (hb4.mono Hb3.out.size)).mono HA.out.size))
    clear hb4
    go_wp2
    go_ret
    exact ⟨by rw [HB.out]; rfl, Hb4.out⟩
end Go.Proofs.YtcapbaocchaenaaGreatDoor

