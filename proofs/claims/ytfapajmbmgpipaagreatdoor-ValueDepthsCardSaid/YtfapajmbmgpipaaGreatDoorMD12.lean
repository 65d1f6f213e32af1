import Derived.Test.YtfapajmbmgpipaaGreatDoorMD11
import Derived.Lib.SlBytesConst
import Derived.Deep.RegionLawGrows
import Derived.Deep.AppendLies
import Derived.Test.YtfapajmbmgpipaaGreatDoorMD7
import Derived.Test.YtfapajmbmgpipaaGreatDoorMD9
import Derived.Lib.ParseIntBTie
import Derived.Test.YtfapajmbmgpipaaGreatDoorMD6
/- The text of a content of bytes. -/

namespace Go.Proofs.YtfapajmbmgpipaaGreatDoor
open Go.RowKit Go.Shelf Fl

/-- What is written so far: the first row, which the program lays, or one of the call's own. -/
def TxtRel (w wr : World) (l : List Nat) (v : Value) : Prop :=
  (l = [34] ∧ v = .slice (some ⟨w.heap.size, 0, none⟩) 1 1 ∨ wr.ownsRow (w.heap.size + 1) 5 1 v l.length (u8s l)) ∧ wr.heap[w.heap.size]? = some (.cells #[.int .u8 34] 5 (1, 2)) ∧ Below w.heap.size w wr

theorem TxtRel.keep {w wr W : World} {l : List Nat} {v : Value} (h : TxtRel w wr l v) (hb : Below wr.heap.size wr W) : TxtRel w W l v := by
  obtain ⟨h1, h2, h3⟩ := h
  have hlt : w.heap.size < wr.heap.size := (Array.getElem?_eq_some_iff.1 h2).1
  refine ⟨h1.imp id (fun h => own_below h hb), (hb.block _ hlt).trans h2, h3.trans (hb.mono h3.size)⟩

theorem TxtRel.bytes {w W : World} {l : List Nat} {v : Value} (h : TxtRel w W l v) (hl : ∀ c ∈ l, c < 256) : ∃ a n cap, v = .slice a n cap ∧ Bytes W a n cap l := by
  obtain ⟨h1, h2, _⟩ := h
  rcases h1 with ⟨rfl, rfl⟩ | h1
  · refine ⟨_, _, _, rfl, rfl, Nat.le_refl _, by omega, hl, (fun h => by cases h), fun _ => ⟨w.heap.size, 0, rfl, fun i hi => ?_⟩⟩
    obtain rfl : i = 0 := by omega
    simp [World.cell?, h2]
  · obtain ⟨p, cp, e, hB⟩ := own_slice h1 hl
    exact ⟨p, _, cp, e, hB⟩

theorem TxtRel.form {w W : World} {l : List Nat} {v : Value} (h : TxtRel w W l v) (hl : l ≠ []) : ∃ g cap, v = .slice (some ⟨g, 0, none⟩) l.length cap := by
  rcases h.1 with ⟨rfl, rfl⟩ | h1
  · exact ⟨_, _, rfl⟩
  · obtain ⟨g, cap, e, _⟩ := h1.form (by cases l with | nil => exact absurd rfl hl | cons _ _ => simp)
    exact ⟨g, cap, e⟩

/-- 'b = append(b, x, y)' as one step of a region that draws. -/
theorem step_txt {ops : Array Oper} {o : Oper} {a : Act} {W : World} {K : Act → World → Prop} {Q : Exit → Act → World → Prop} {E : Prop}
    (hg : o.guard = none) (s x : Operand) (hop : o.op = Op.call { callee := Callee.builtin Builtin.append, args := #[s, x], argTypes := #[28, 28] })
    (w : World) (l : List Nat) (v : Value) (hs : a.eval s = v) (hT : TxtRel w W l v) (ad : Addr) (c : Nat) (p q : Nat) (hx : a.eval x = .slice (some ad) 2 c) (hc : ∀ j u, (u8s [p, q])[j]? = some u → W.cell? (ad.add j) = some u)
    (hn : l.length ≤ 10000000)
    (hK : ∀ g cap w', TxtRel w w' (l ++ [p, q]) (.slice (some ⟨g, 0, none⟩) (l.length + 2) cap) → K (a.put o.dst (.slice (some ⟨g, 0, none⟩) (l.length + 2) cap)) w') :
    if Region.wanted o (yielded ops a.tmps) = true then Oper.wp Tryz.prog o a W K Q else E := by
  obtain ⟨i0, hi, hz0, hz1, hz2⟩ := info_parts info_u8
  have hsz : w.heap.size < W.heap.size := (Array.getElem?_eq_some_iff.1 hT.2.1).1
  rcases hT.1 with ⟨rfl, rfl⟩ | hown
  · refine step_append_grows hg s x 28 hop 5 i0 _ 1 1 Tryz.underlying28 hi hz0 hz1 hz2 rfl (by decide) _ 1 1 (u8s [34]) hs (fun h => by cases h) rfl (fun b e j u hj => ?_) ad 2 c (u8s [p, q]) hx rfl hc (u8s_one _) (by omega) (by rw [maxLen_nat]; omega) (by omega) ?_
    · cases e
      obtain ⟨hj', rfl⟩ := u8s_get hj
      obtain rfl : j = 0 := by simp at hj'; omega
      rw [Lib.add_plain]
      simp [World.cell?, hT.2.1]
    · intro v' w' h1 h2
      obtain ⟨g, cap, rfl, _⟩ := h1.form (by omega)
      have e2 : (1 + 2 : Nat) = [34].length + 2 := rfl
      exact hK g cap w' ⟨.inr (own_base (base' := w.heap.size + 1) h1 (by omega)), (h2.block _ hsz (by simp)).trans hT.2.1, hT.2.2.grown h2 (by omega) (fun k hk => by cases hk)⟩
  · refine step_append_lies W hg s x 28 hop (w.heap.size + 1) 5 i0 _ 1 1 Tryz.underlying28 hi hz0 hz1 hz2 rfl (by decide) v l.length (u8s l) hs hown ad 2 c (u8s [p, q]) hx rfl hc (u8s_one _) (by omega) (by rw [maxLen_nat]; omega) (by omega) (by omega) _ rfl ?_
    intro g cap w' h1 h2 _ _
    have hne : ∀ k, v.ownBlock = some k → w.heap.size + 1 ≤ k := by
      intro k hk
      rcases hown.2 with ⟨e, _⟩ | ⟨g', cap', cur, e, hbg, _⟩
      · rw [e] at hk; cases hk
      · rw [e] at hk
        have e2 : g' = k := Option.some.inj hk
        omega
    refine hK g cap w' ⟨.inr ?_, (h2.block _ hsz (fun e => ?_)).trans hT.2.1, hT.2.2.grown h2 (by omega) (fun k hk => by have := hne k hk; omega)⟩
    · rw [List.length_append, u8s_append]; exact h1
    · have := hne _ e.symm; omega

theorem hexc_all : ∀ d : Fin 16, ∀ h : d.val < (ByteArray.mk #[48, 49, 50, 51, 52, 53, 54, 55, 56, 57, 97, 98, 99, 100, 101, 102]).size, (((ByteArray.mk #[48, 49, 50, 51, 52, 53, 54, 55, 56, 57, 97, 98, 99, 100, 101, 102])[d.val]'h).toNat : Int) = ((hexD d.val : Nat) : Int) := by decide +kernel
theorem hexc_at {d : Nat} (hd : d < 16) (h : d < (ByteArray.mk #[48, 49, 50, 51, 52, 53, 54, 55, 56, 57, 97, 98, 99, 100, 101, 102]).size) : (((ByteArray.mk #[48, 49, 50, 51, 52, 53, 54, 55, 56, 57, 97, 98, 99, 100, 101, 102])[d]'h).toNat : Int) = ((hexD d : Nat) : Int) := hexc_all ⟨d, hd⟩ h
theorem and15b : ∀ c : Fin 256, bits .and .u8 (c.val : Int) 15 = ((c.val % 16 : Nat) : Int) := by decide +kernel

theorem hexD_lt : ∀ d : Fin 16, hexD d.val < 256 := by decide +kernel

theorem hex2_byte {l : List Nat} (hl : ∀ c ∈ l, c < 256) : ∀ c ∈ hex2 l, c < 256 := by
  intro c hc
  unfold hex2 at hc
  obtain ⟨x, hx, hc⟩ := List.mem_flatMap.1 hc
  have hx := hl x hx
  have h1 := hexD_lt ⟨x / 16, by omega⟩
  have h2 := hexD_lt ⟨x % 16, by omega⟩
  simp at hc h1 h2
  rcases hc with rfl | rfl
  · exact h1
  · exact h2

set_option maxRecDepth 100000 in
theorem textText_any (s : List Nat) (w : World) (hs : ∀ c ∈ s, c < 256) (hn : s.length ≤ 1000000) :
    Calls Tryz.prog 170 #[.string (str s)] w fun e w' => e = .returned (.string (str (34 :: (hex2 s ++ [34])))) ∧ Below w.heap.size w w' := by
  have hsz := str_size s
  have kc := fun (w : World) (C : Array Value) (n c : Nat) => Lib.run_convert_bytes_const (P := Tryz.prog) w 28 5 C n c Tryz.underlying28 Tryz.underlying5
  have H0 := Lib.hid (show TxtRel w (w.alloc (.cells #[.int .u8 34] 5 (1, 2))) (34 :: hex2 (s.take 0)) (.slice (some ⟨w.heap.size, 0, none⟩) 1 1) from
    ⟨.inl ⟨rfl, rfl⟩, heap_alloc_new w _, (Below.refl w.heap.size w).alloc (Nat.le_refl _) _⟩)
  have HG := Lib.hid (get_str hs)
  have Hs := Lib.hid hs
  clear hs
  go_enter Tryz.func170, Tryz.ntmps170
  go_wp2
  go_loopw [3, 9] (fun v i wr => ∃ j : Nat, j ≤ s.length ∧ i = .int .i64 (j : Int) ∧ TxtRel w wr (34 :: hex2 (s.take j)) v) (fun _ i _ => s.length - (intOf i).toNat)
  case atStart => exact ⟨0, Nat.zero_le _, rfl, H0.out⟩
  case round =>
    obtain ⟨j, hj, rfl, hR⟩ := hrel
    have HR := Lib.hid hR
    obtain ⟨g, cap, rfl⟩ := hR.form (by simp)
    clear hR
    by_cases hlt : j < s.length
    · have hji : (j : Int) < (s.length : Int) := by omega
      have hgl : j < (str s).size := by rw [hsz]; exact hlt
      have hgj := HG.out j hgl
      have hc : s.getD j 0 < 256 := by
        rw [List.getD_eq_getElem?_getD, List.getElem?_eq_getElem hlt]
        exact Hs.out _ (List.getElem_mem _)
      have hxs : 34 :: hex2 (s.take (j + 1)) = (34 :: hex2 (s.take j)) ++ [hexD (s.getD j 0 / 16), hexD (s.getD j 0 % 16)] := by
        rw [hex2_take hlt]; simp
      have Hl := Lib.hid (show (34 :: hex2 (s.take j)).length ≤ 10000000 from by rw [List.length_cons, hex2_len, List.length_take]; omega)
      generalize 34 :: hex2 (s.take j) = L at *
      generalize s.getD j 0 = c at *
      obtain ⟨x, hx⟩ : ∃ x, x = c / 16 := ⟨_, rfl⟩
      obtain ⟨y, hy⟩ : ∃ y, y = c % 16 := ⟨_, rfl⟩
      have h15 := and15b ⟨c, hc⟩
      simp only at h15
      rw [← hx, ← hy] at hxs
      have Hx := Lib.hid hxs
      have Hlt := Lib.hid hlt
      rw [← hy] at h15
      have hx16 : (c : Int) / 16 = (x : Int) := by omega
      have hxl : x < 16 := by omega
      have hyl : y < 16 := by omega
      have hxi : (x : Int) < 16 := by omega
      have hyi : (y : Int) < 16 := by omega
      have hxd := fun h => hexc_at hxl h
      have hyd := fun h => hexc_at hyl h
      have HT := Lib.hid (HR.out.keep (((Below.refl wr.heap.size wr).alloc (Nat.le_refl _) (.cells #[.int .u8 (hexD x : Nat), .int .u8 (hexD y : Nat)] 5)).drew))
      have HC := Lib.hid (World.news_of_block (w := (wr.alloc (.cells #[.int .u8 (hexD x : Nat), .int .u8 (hexD y : Nat)] 5)).drew) (heap_alloc_new wr (.cells #[.int .u8 (hexD x : Nat), .int .u8 (hexD y : Nat)] 5)))
      clear hx hy hc hlt hxs
      go_wp2
      go_region_law (refine step_txt rfl (.tmp 12) (.tmp 23) rfl w L _ (by simp [Act.eval]) HT.out ⟨wr.heap.size, 0, none⟩ 2 (hexD x) (hexD y) (by simp [Act.eval]) HC.out Hl.out ?_; intro g2 cap2 w2 hT2; have HT2 := Lib.hid hT2; clear hT2)
      all_goals go_wp2
      all_goals go_roundw
      all_goals first
        | exact ⟨j + 1, Hlt.out, by go_num, by rw [Hx.out]; exact HT2.out⟩
        | (simp [intOf]; have := Hlt.out; omega)
    · have hji : ¬ ((j : Int) < (s.length : Int)) := by omega
      have he : 34 :: hex2 (s.take j) = 34 :: hex2 s := by rw [List.take_of_length_le (by omega)]
      rw [he] at HR ⊢
      have hl34 : ∀ c ∈ 34 :: hex2 s, c < 256 := by
        intro c hc
        rcases List.mem_cons.1 hc with rfl | hc
        · omega
        · exact hex2_byte Hs.out c hc
      obtain ⟨a', n', cap', e, hB⟩ := HR.out.bytes hl34
      have hcv := convert_bytes (P := Tryz.prog) hB 28 5 9 Tryz.underlying28 Tryz.underlying5 Tryz.underlying9
      rw [← e] at hcv
      have hq := str_size (34 :: hex2 s)
      rw [List.length_cons, hex2_len] at hq
      have Happ := Lib.hid (show str (34 :: hex2 s) ++ (⟨#[34]⟩ : ByteArray) = str (34 :: (hex2 s ++ [34])) from (str_append (34 :: hex2 s) [34]).trans (by simp))
      have Hb := Lib.hid HR.out.2.2
      clear e hB he
      generalize str (34 :: hex2 s) = S at *
      generalize (34 :: hex2 s).length = len at *
      go_wp2
      go_ret
      exact ⟨by rw [← Happ.out]; rfl, Hb.out⟩
end Go.Proofs.YtfapajmbmgpipaaGreatDoor

/- The bytes that some hexadecimal digits may have: guessText. -/
namespace Go.Proofs.YtfapajmbmgpipaaGreatDoor
open Go.RowKit Go.Shelf Fl

/-- What the first j pairs gave. -/
def GtRel (w : World) (l : List Nat) (d v : Value) (wr : World) : Prop :=
  ∃ (j : Nat) (b : List Nat), 2 * j ≤ l.length ∧ d = .string (str (l.drop (2 * j))) ∧ b.length = j ∧ (∀ c ∈ b, c < 256) ∧ (∀ q : List Nat, (∀ c ∈ q, c < 256) → l = hex2 q → b = q.take j) ∧ wr.ownsRow w.heap.size 5 1 v j (u8s b) ∧ Below w.heap.size w wr

theorem two_take {l : List Nat} {j : Nat} (h : 2 * j + 2 ≤ l.length) : (l.drop (2 * j)).take 2 = [l.getD (2 * j) 0, l.getD (2 * j + 1) 0] := by
  have h1 : 2 * j < l.length := by omega
  have h2 : 2 * j + 1 < l.length := by omega
  rw [List.drop_eq_getElem_cons h1, List.drop_eq_getElem_cons h2]
  rw [List.take_succ_cons, List.take_succ_cons, List.take_zero, List.getD_eq_getElem?_getD, List.getElem?_eq_getElem h1, List.getD_eq_getElem?_getD, List.getElem?_eq_getElem h2]
  rfl

set_option maxRecDepth 100000 in
set_option maxHeartbeats 1600000 in
theorem gtext_any (l : List Nat) (w : World) (hl : ∀ x ∈ l, x < 256) (hn : l.length ≤ 1000000) (he : Errs w) :
    Calls Tryz.prog 79 #[.string (str l)] w fun e w' => ∃ b : List Nat, e = .returned (.iface 73 (.string (str b))) ∧ (∀ c ∈ b, c < 256) ∧ b.length = l.length / 2 ∧ (∀ q : List Nat, (∀ c ∈ q, c < 256) → l = hex2 q → b = q) ∧ Below w.heap.size w w' := by
  have HL := Lib.hid hl
  have HE := Lib.hid he
  obtain ⟨i0, hi, hz0, hz1, hz2⟩ := info_parts info_u8
  clear hl he
  go_enter Tryz.func79, Tryz.ntmps79
  go_wp2

  go_loopw [0, 3] (fun d v wr => GtRel w l d v wr) (fun d _ _ => match d with | .string s => s.size | _ => 0)
  case atStart => exact ⟨0, [], by omega, by simp, rfl, by simp, fun q _ _ => by simp, World.ownsRow_nil _ _ _ _, Below.refl _ _⟩
  case round =>
    obtain ⟨j, b, hj, rfl, hbl, hb8, hq, hown, hbel⟩ := hrel
    have hsz := str_size (l.drop (2 * j))
    rw [List.length_drop] at hsz
    by_cases hlt : 2 * j + 2 ≤ l.length
    · have hji : (2 : Int) ≤ ((str (l.drop (2 * j))).size : Int) := by omega
      have hx1 := str_extract (l.drop (2 * j)) 0 2
      have hx2 : (str (l.drop (2 * j))).extract 2 (str (l.drop (2 * j))).size = str (l.drop (2 * (j + 1))) := by
        rw [str_extract, hsz, List.take_of_length_le (by rw [List.length_drop]; omega), List.drop_drop]
        congr 2
      rw [List.drop_zero, two_take hlt] at hx1
      have HU := Lib.hid (fun w h => uint8_any [l.getD (2 * j) 0, l.getD (2 * j + 1) 0] w (fun x hx => by
        have g : ∀ i, i < l.length → l.getD i 0 < 256 := fun i hi => by
          rw [List.getD_eq_getElem?_getD, List.getElem?_eq_getElem hi]; exact HL.out _ (List.getElem_mem _)
        simp at hx
        rcases hx with rfl | rfl
        · exact g _ (by omega)
        · exact g _ (by omega)) rfl h)
      have Hq := Lib.hid hq
      have Hb8 := Lib.hid hb8
      have Hbl := Lib.hid hbl
      have Hown := Lib.hid hown
      have Hbel := Lib.hid hbel
      have Hlt := Lib.hid hlt
      have hsz2 : 2 ≤ (str (l.drop (2 * j))).size := by omega
      clear hq hb8 hown hbel hlt hj hbl
      have Hpq := Lib.hid (show ∀ q : List Nat, l = hex2 q → j < q.length ∧ [l.getD (2 * j) 0, l.getD (2 * j + 1) 0] = [hexD (q.getD j 0 / 16), hexD (q.getD j 0 % 16)] from by
        intro q e
        have hl2 := Hlt.out
        rw [e, hex2_len] at hl2
        have hj2 : j < q.length := by omega
        obtain ⟨e1, e2⟩ := hex2_get q j hj2
        exact ⟨hj2, by rw [e, e1, e2]⟩)
      have Hx2 := Lib.hid (show (str (l.drop (2 * j))).extract 2 (l.length - 2 * j) = str (l.drop (2 * (j + 1))) from by rw [← hsz]; exact hx2)
      have Hsz := Lib.hid hsz
      have Hsz2 := Lib.hid (str_size (l.drop (2 * (j + 1))))
      generalize [l.getD (2 * j) 0, l.getD (2 * j + 1) 0] = p at *
      generalize str (l.drop (2 * j)) = S at *
      have hjb : j ≤ 1000000 := by have := Hlt.out; omega
      go_wp2_with fail
      refine (HU.out _ (HE.out.below Hbel.out)).mono ?_
      rintro e w1 ⟨hb1, x, er, hx, hxq, rfl⟩
      have Hb1 := Lib.hid hb1
      have Hown1 := Lib.hid (own_below Hown.out hb1)
      have Hbel1 := Lib.hid (Hbel.out.trans (hb1.mono Hbel.out.size))
      have hxm : (x : Int) % 256 = (x : Int) := by omega
      have Hx := Lib.hid hx
      have Hxq := Lib.hid hxq
      have hz0 := Hbel1.out.size
      clear hb1 hxq
      go_wp2_with (at_builtin; refine wpList_append_bytes _ rfl _ _ 28 rfl w.heap.size 5 Tryz.underlying28 info_u8 _ _ _ rfl (Hown1.out.alloc _) _ 1 1 [x] rfl (byte_row _ (by omega) (by omega)) (by omega) (by simp; omega) ?_; intro v' w2 g1 g2)
      case roundEnd =>
        refine ⟨⟨j + 1, b ++ [x], by have := Hlt.out; omega, by rw [Hx2.out], by rw [List.length_append, Hbl.out]; rfl, ?_, fun q hq8 e => ?_, ?_, ?_⟩, ?_⟩
        · intro c hc
          rcases List.mem_append.1 hc with h | h
          · exact Hb8.out c h
          · rw [List.mem_singleton.1 h]; exact Hx.out
        · obtain ⟨hjq, e2⟩ := Hpq.out q e
          have e3 : q.getD j 0 = q[j] := by rw [List.getD_eq_getElem?_getD, List.getElem?_eq_getElem hjq]; rfl
          have h256 := hq8 _ (List.getElem_mem hjq)
          have e4 := Hxq.out (q.getD j 0 / 16) (q.getD j 0 % 16) (by rw [e3]; omega) (by omega) e2
          rw [Hq.out q hq8 e, List.take_succ_eq_append_getElem hjq, e4, ← e3]
          congr 2
          omega
        · exact g1
        · have hb : Below w.heap.size w (w1.alloc (.cells #[.int .u8 (x : Int)] 5)) := Hbel1.out.alloc Hbel1.out.size _
          exact hb.grown g2 hb.size (fun k hk => (Hown1.out.lt k hk).1)
        · rw [Hx2.out]
          show (str (l.drop (2 * (j + 1)))).size < S.size
          rw [Hsz2.out, Hsz.out, List.length_drop]
          have := Hlt.out
          omega
    · have hji : ((str (l.drop (2 * j))).size : Int) < 2 := by omega
      have hszl : (str (l.drop (2 * j))).size < 2 := by omega
      obtain ⟨p, cp, rfl, hB⟩ := own_slice hown hb8
      have hcv := convert_bytes (P := Tryz.prog) hB 28 5 73 Tryz.underlying28 Tryz.underlying5 Tryz.underlying73
      have Hq := Lib.hid hq
      have Hb8 := Lib.hid hb8
      have Hbl := Lib.hid hbl
      have Hbel := Lib.hid hbel
      have Hj := Lib.hid (show j = l.length / 2 by omega)
      clear hq hb8 hown hbel hlt hj hbl hB
      generalize str (l.drop (2 * j)) = S at *
      generalize hS : str b = T at *
      have HS := Lib.hid hS
      clear hS
      go_wp2
      go_ret
      refine ⟨b, by rw [HS.out]; rfl, Hb8.out, by rw [Hbl.out, Hj.out], fun q hq8 e => ?_, Hbel.out⟩
      rw [Hq.out q hq8 e, List.take_of_length_le]
      have h2 := Hj.out
      rw [e, hex2_len] at h2
      omega
end Go.Proofs.YtfapajmbmgpipaaGreatDoor

/- What strconv.ParseInt makes of decimal forms: plain mathematics. -/
namespace Go.Proofs.YtfapajmbmgpipaaGreatDoor
open Go.RowKit Fl

def valD (acc : Nat) (l : List Nat) : Nat := l.foldl (fun a c => a * 10 + (c - 48)) acc

theorem valD_ge : ∀ (l : List Nat) (acc : Nat), acc ≤ valD acc l
  | [], acc => Nat.le_refl _
  | c :: r, acc => by
    have h := valD_ge r (acc * 10 + (c - 48))
    have e : valD acc (c :: r) = valD (acc * 10 + (c - 48)) r := rfl
    rw [e]
    omega

theorem digit_toNat {c : Nat} (h : 48 ≤ c ∧ c ≤ 57) : (UInt8.ofNat c).toNat = c := by
  simp [UInt8.toNat_ofNat']
  omega

theorem parseM_digits {M : Nat} (hM : M ≤ 18446744073709551615) : ∀ (l : List Nat) (acc : Nat), (∀ c ∈ l, 48 ≤ c ∧ c ≤ 57) → valD acc l ≤ M → Lib.parseUintM M acc (l.map UInt8.ofNat) = .ok (valD acc l)
  | [], acc, _, _ => rfl
  | c :: r, acc, hd, hv => by
    have hc := hd c (by simp)
    have e : valD acc (c :: r) = valD (acc * 10 + (c - 48)) r := rfl
    rw [e] at hv ⊢
    have hge := valD_ge r (acc * 10 + (c - 48))
    rw [List.map_cons, Lib.parseUintM, digit_toNat hc, if_pos hc, if_neg (by omega), if_neg (by omega)]
    exact parseM_digits hM r _ (fun x hx => hd x (by simp [hx])) hv

theorem parseB_dec {n : Nat} (h : n ≤ 18446744073709551615) : Lib.parseUintB 64 ((decD n).map UInt8.ofNat) = .ok n := by
  obtain ⟨c, q, e, h1, h2⟩ := decD_head n
  unfold Lib.parseUintB
  rw [if_neg (by rw [e]; simp)]
  have hv : valD 0 (decD n) = n := decOf_decD n
  have h64 : 2 ^ 64 - 1 = 18446744073709551615 := by decide
  have hm := parseM_digits (M := 2 ^ 64 - 1) (by decide) (decD n) 0 (fun c hc => decD_digit n c hc) (by rw [hv, h64]; exact h)
  rw [hv] at hm
  exact hm

theorem parseInt_dec {n : Int} (h1 : -9223372036854775808 ≤ n) (h2 : n ≤ 9223372036854775807) : Lib.parseIntB 64 ((decL n).map UInt8.ofNat) = .ok n := by
  have h63 : (2 : Nat) ^ (64 - 1) = 9223372036854775808 := by decide
  unfold decL
  by_cases hn : n < 0
  · rw [if_pos hn, List.map_cons, Lib.parseIntB]
    have e45 : (UInt8.ofNat 45).toNat = 45 := by decide
    simp only [e45, or_true, if_true]
    rw [parseB_dec (by omega)]
    simp only [not_true_eq_false, false_and, if_false, true_and]
    rw [h63, if_neg (by omega)]
    congr 1
    omega
  · rw [if_neg hn]
    obtain ⟨c, q, e, g1, g2⟩ := decD_head n.natAbs
    have hp := parseB_dec (n := n.natAbs) (by omega)
    rw [e, List.map_cons] at hp ⊢
    rw [Lib.parseIntB]
    have ec := digit_toNat (c := c) ⟨g1, g2⟩
    simp only [ec]
    rw [if_neg (by omega), hp]
    simp only [show ¬ c = 45 by omega, not_false_eq_true, true_and, false_and, if_false]
    rw [h63, if_neg (by omega)]
    congr 1
    omega

theorem parseM_lt {M : Nat} : ∀ (l : List UInt8) (acc u : Nat), Lib.parseUintM M acc l = .ok u → u < (acc + 1) * 10 ^ l.length
  | [], acc, u, h => by
    rw [Lib.parseUintM] at h
    cases h
    simp
  | c :: r, acc, u, h => by
    rw [Lib.parseUintM] at h
    by_cases hc : 48 ≤ c.toNat ∧ c.toNat ≤ 57
    · rw [if_pos hc] at h
      by_cases h1 : 1844674407370955162 ≤ acc
      · rw [if_pos h1] at h; cases h
      · rw [if_neg h1] at h
        by_cases h2 : M < acc * 10 + (c.toNat - 48)
        · rw [if_pos h2] at h; cases h
        · rw [if_neg h2] at h
          have ih := parseM_lt r _ u h
          have h3 : (acc * 10 + (c.toNat - 48) + 1) * 10 ^ r.length ≤ ((acc + 1) * 10) * 10 ^ r.length := Nat.mul_le_mul_right _ (by omega)
          rw [List.length_cons, Nat.pow_succ, Nat.mul_comm (10 ^ r.length) 10, ← Nat.mul_assoc]
          omega
    · rw [if_neg hc] at h; cases h

theorem parseB_len {l : List UInt8} {u : Nat} (h : Lib.parseUintB 64 l = .ok u) : (decD u).length ≤ l.length ∧ 0 < l.length := by
  unfold Lib.parseUintB at h
  by_cases h0 : l = []
  · rw [if_pos h0] at h; cases h
  · rw [if_neg h0] at h
    have h1 := parseM_lt l 0 u h
    have hl : 0 < l.length := by cases l with | nil => exact absurd rfl h0 | cons _ _ => simp
    rw [show l.length = (l.length - 1) + 1 by omega] at h1 ⊢
    exact ⟨decD_len (l.length - 1) u (by omega), by omega⟩

theorem parseInt_len {l : List UInt8} {v : Int} (h : Lib.parseIntB 64 l = .ok v) : (decL v).length ≤ l.length + 1 ∧ 0 < l.length := by
  cases l with
  | nil => rw [Lib.parseIntB] at h; cases h
  | cons c r =>
    refine ⟨?_, by simp⟩
    rw [Lib.parseIntB] at h
    cases hu : Lib.parseUintB 64 (if c.toNat = 43 ∨ c.toNat = 45 then r else c :: r) with
    | range => rw [hu] at h; cases h
    | ok u =>
      rw [hu] at h
      have hl := (parseB_len hu).1
      have hle : (decD u).length ≤ (c :: r).length := by
        split at hl
        · rw [List.length_cons]; omega
        · exact hl
      have hv : v.natAbs = u := by
        simp only at h
        split at h
        · cases h
        · split at h
          · cases h
          · split at h
            · cases h; omega
            · cases h; omega
      unfold decL
      rw [hv]
      split
      · rw [List.length_cons]; omega
      · omega
    | _ => rw [hu] at h; cases h
end Go.Proofs.YtfapajmbmgpipaaGreatDoor

/- What the walk of the code's guess wants: prefixes, the map's entries, texts that are words. -/
namespace Go.Proofs.YtfapajmbmgpipaaGreatDoor
open Go.RowKit Go.Maps Fl

theorem cut_yes (c : Nat) (d : List Nat) (w : World) :
    Calls Tryz.prog 57 #[.string (str (c :: d)), .string (str [c])] w fun e w' => e = .returned (.tuple #[.string (str d), .bool true]) ∧ w = w' := by
  have h := Tryz.strings_CutPrefix (str (c :: d)) (str [c]) w
  have h1 : (str (c :: d)).data.toList = UInt8.ofNat c :: d.map UInt8.ofNat := rfl
  have h2 : (str [c]).data.toList = [UInt8.ofNat c] := rfl
  have h3 : Lib.hasPrefix (str (c :: d)).data.toList (str [c]).data.toList = true := by
    rw [h1, h2]
    unfold Lib.hasPrefix
    simp
  have h4 : Lib.trimPrefix (str (c :: d)).data.toList (str [c]).data.toList = d.map UInt8.ofNat := by
    unfold Lib.trimPrefix
    rw [if_pos h3, h1, h2]
    rfl
  rw [h3, h4] at h
  refine h.mono ?_
  rintro e w' ⟨rfl, rfl⟩
  exact ⟨rfl, rfl⟩

theorem cut_no (c : Nat) (l : List Nat) (w : World) (hc : c < 256) (hl : ∀ x ∈ l, x < 256) (hd : ∀ d, l ≠ c :: d) :
    Calls Tryz.prog 57 #[.string (str l), .string (str [c])] w fun e w' => e = .returned (.tuple #[.string (str l), .bool false]) ∧ w = w' := by
  have h := Tryz.strings_CutPrefix (str l) (str [c]) w
  have h1 : (str l).data.toList = l.map UInt8.ofNat := rfl
  have h2 : (str [c]).data.toList = [UInt8.ofNat c] := rfl
  have h3 : Lib.hasPrefix (str l).data.toList (str [c]).data.toList = false := by
    rw [h1, h2]
    unfold Lib.hasPrefix
    cases l with
    | nil => rfl
    | cons a d =>
      have hne : a ≠ c := fun e => hd d (by rw [e])
      have ha : a < 256 := hl a (by simp)
      have hne2 : UInt8.ofNat c ≠ UInt8.ofNat a := by
        intro e
        have e2 := congrArg UInt8.toNat e
        rw [UInt8.toNat_ofNat', UInt8.toNat_ofNat'] at e2
        omega
      rw [List.map_cons, List.isPrefixOf_cons_cons, beq_eq_false_iff_ne.2 hne2, Bool.false_and]
  have h4 : Lib.trimPrefix (str l).data.toList (str [c]).data.toList = l.map UInt8.ofNat := by
    unfold Lib.trimPrefix
    rw [h3]
    rfl
  rw [h3, h4] at h
  refine h.mono ?_
  rintro e w' ⟨rfl, rfl⟩
  exact ⟨rfl, rfl⟩

/-- What word lies at a key. -/
def WordAt (x : Int) (l : List Nat) : Prop := (x = 9221120237041090561 ∧ l = [110, 97, 110]) ∨ (x = 9218868437227405312 ∧ l = [105, 110, 102]) ∨ (x = 0 ∧ l = [48])

theorem words_entry {x : Int} {c : ByteArray} (h : ∀ zd, wordsD.atKey (.int .u64 x) zd = .lit (.string c.data.toList)) : ∃ l, c = str l ∧ WordAt x l := by
  have hs : ∀ l : List Nat, c.data.toList = l.map UInt8.ofNat → c = str l := by
    intro l e
    apply ByteArray.ext
    have h2 : c.data = (l.map UInt8.ofNat).toArray := by rw [← e]
    exact h2
  have h1 := h (.lit (.string [1]))
  have h2 := h (.lit (.string [2]))
  by_cases e1 : x = 9221120237041090561
  · subst e1
    have e : wordsD.atKey (.int .u64 9221120237041090561) (.lit (.string [1])) = .lit (.string [110, 97, 110]) := rfl
    have h3 := Lit.string.inj (DataW.lit.inj (e.symm.trans h1))
    exact ⟨[110, 97, 110], hs _ h3.symm, .inl ⟨rfl, rfl⟩⟩
  by_cases e2 : x = 9218868437227405312
  · subst e2
    have e : wordsD.atKey (.int .u64 9218868437227405312) (.lit (.string [1])) = .lit (.string [105, 110, 102]) := rfl
    have h3 := Lit.string.inj (DataW.lit.inj (e.symm.trans h1))
    exact ⟨[105, 110, 102], hs _ h3.symm, .inr (.inl ⟨rfl, rfl⟩)⟩
  by_cases e3 : x = 0
  · subst e3
    have e : wordsD.atKey (.int .u64 0) (.lit (.string [1])) = .lit (.string [48]) := rfl
    have h3 := Lit.string.inj (DataW.lit.inj (e.symm.trans h1))
    exact ⟨[48], hs _ h3.symm, .inr (.inr ⟨rfl, rfl⟩)⟩
  · exfalso
    have hk : ∀ zd : DataW Unit, wordsD.atKey (.int .u64 x) zd = zd := by
      intro zd
      have e : wordsD = .map [(.int .u64 0, .lit (.string [48])), (.int .u64 9218868437227405312, .lit (.string [105, 110, 102])), (.int .u64 9221120237041090561, .lit (.string [110, 97, 110]))] := rfl
      rw [e]
      have n1 : ¬ (9221120237041090561 = x) := fun h => e1 h.symm
      have n2 : ¬ (9218868437227405312 = x) := fun h => e2 h.symm
      have n3 : ¬ (0 = x) := fun h => e3 h.symm
      simp [DataW.atKey, List.find?, Lit.sameKey, n1, n2, n3]
    rw [hk] at h1 h2
    have h3 := h1.trans h2.symm
    have h4 := Lit.string.inj (DataW.lit.inj h3)
    exact absurd h4 (by decide)

theorem text_word {x : Nat} {l : List Nat} (h : textL x = l) (hd : ∀ d, l ≠ 120 :: d) :
    (x = Q ∧ l = [110, 97, 110]) ∨ (x = I ∧ l = [105, 110, 102]) ∨ (x = W + I ∧ l = [45, 105, 110, 102]) ∨ (x = 0 ∧ l = [48]) ∨ (x = W ∧ l = [45, 48]) := by
  by_cases hs : x ∈ special
  · rcases textL_special hs with ⟨e, t⟩ | ⟨e, t⟩ | ⟨e, t⟩ | ⟨e, t⟩ | ⟨e, t⟩ <;> (rw [t] at h; subst h; simp [e])
  · rw [textL_hex hs] at h
    exact absurd h.symm (hd _)
end Go.Proofs.YtfapajmbmgpipaaGreatDoor

