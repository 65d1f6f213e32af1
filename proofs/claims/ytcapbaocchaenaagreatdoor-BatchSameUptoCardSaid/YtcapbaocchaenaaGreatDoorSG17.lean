import Derived.Test.YtcapbaocchaenaaGreatDoorSG16
import Derived.Test.YtcapbaocchaenaaGreatDoorSG6
import Derived.Test.YtcapbaocchaenaaGreatDoorSG14
/- The walk of the code's Bytes of an event. -/
namespace Go.Proofs.YtcapbaocchaenaaGreatDoor
open Go.RowKit Fl
attribute [local go_sem] run_store_func run_store_nilFunc

/-- The functions that write the fields' forms. -/
def fwF (i : Nat) : FuncId := if i = 0 then 125 else if i = 1 then 126 else if i = 2 then 127 else if i = 3 then 128 else if i = 4 then 129 else 130

theorem enters_fw (i : Nat) (args : Array Value) (W : World) : (callFunc (fwF i) args).run Tryz.prog W = .ok (.enter (fwF i) args) W := by
  unfold fwF
  repeat' split
  · exact enters_of Tryz.func125 (by kernel_rfl) rfl args W
  · exact enters_of Tryz.func126 (by kernel_rfl) rfl args W
  · exact enters_of Tryz.func127 (by kernel_rfl) rfl args W
  · exact enters_of Tryz.func128 (by kernel_rfl) rfl args W
  · exact enters_of Tryz.func129 (by kernel_rfl) rfl args W
  · exact enters_of Tryz.func130 (by kernel_rfl) rfl args W

theorem shape_fields (s : ByteArray) (a : Option Addr) (m : Nat) (w : World) : (Instr.field 93 (.agg #[.string s, .slice a m m]) 1).run Tryz.prog w = .ok (.slice a m m) w := by kernel_rfl

theorem fields_len (k : Int) : (evFields k).length ≤ 6 := by
  unfold evFields
  repeat' split
  all_goals simp

abbrev fw6 (B : Nat) : Array Value := #[capV 125 B, capV 126 B, capV 127 B, capV 128 B, capV 129 B, capV 130 B]
theorem fw6_get (B : Nat) (i : Nat) (hi : i < 6) : (fw6 B)[i]? = some (capV (fwF i) B) := by
  match i, hi with
  | 0, _ => rfl
  | 1, _ => rfl
  | 2, _ => rfl
  | 3, _ => rfl
  | 4, _ => rfl
  | 5, _ => rfl

theorem row_ne {w : World} {base n : Nat} {v : Value} {xs : List Value} {A : Nat} {cs : Array Value} {t : TypeId} {m : Nat × Nat} (h : w.ownsRow base 5 1 v n xs) (hA : w.heap[A]? = some (.cells cs t m)) (ht : t ≠ 5) : v.ownBlock ≠ some A := by
  intro e
  obtain ⟨_, h0 | ⟨g, cap, cur, hv, _, hh, _⟩⟩ := h
  · rw [h0.1] at e; cases e
  · rw [hv] at e
    have e' : g = A := by simpa [Value.ownBlock] using e
    subst e'
    rw [hA] at hh
    cases hh
    exact ht rfl
theorem grown_keep {w w' : World} {r : Option Nat} {A : Nat} {o : Obj} (h : w.grownBy w' r) (hA : w.heap[A]? = some o) (hne : r ≠ some A) : w'.heap[A]? = some o := by
  obtain ⟨_, _, _, _, hk⟩ := h
  exact (hk A (Array.getElem?_eq_some_iff.1 hA).1 (fun e => hne e.symm)).trans hA

set_option maxRecDepth 100000 in
set_option maxHeartbeats 25600000 in
theorem bytes_core (k : Int) (id : Nat) (n : Int) (t : Nat) (nm tx : List Nat) (vk vn : Int) (vf : Nat) (vs : List Nat) (a : Option Addr) (len cap : Nat) (w : World)
    (pc : Nat → List Nat) (hk : 0 ≤ k ∧ k ≤ 11) (hpl : ∀ i ∈ evFields k, (pc i).length ≤ 100000000 ∧ ∀ c ∈ pc i, c < 256)
    (hv : ∀ W, Below w.heap.size w W → Calls Tryz.prog 57 #[.agg (evC k id n t nm tx vk vn vf vs a len cap)] W fun e w' => e = .returned (.bool true) ∧ Below W.heap.size W w')
    (hp : ∀ i, i ∈ evFields k → ∀ (B : Nat) (W : World), Below w.heap.size w W → W.heap[B]? = some (.cells (evC k id n t nm tx vk vn vf vs a len cap) 45 (0, 0)) → Calls Tryz.prog (fwF i) #[.pointer (some ⟨B, 0, none⟩)] W (NewBytes W (pc i))) :
    Calls Tryz.prog 53 #[.agg (evC k id n t nm tx vk vn vf vs a len cap)] w fun e w' => ∃ u, e = .returned (.tuple #[u, .bool true]) ∧ OwnBytes w w' u (form 1 ++ form k.toNat ++ ((evFields k).map pc).flatten) := by
  have Hv := Lib.hid hv
  have Hp := Lib.hid hp
  have Hpl := Lib.hid hpl
  clear hv hp hpl
  go_enter Tryz.func53, Tryz.ntmps53
  go_wp2_with fail
  obtain ⟨wa, hwa⟩ : ∃ wa, wa = w.alloc (.cells (evC k id n t nm tx vk vn vf vs a len cap) 45) := ⟨_, rfl⟩
  have hE0 : wa.heap[w.heap.size]? = some (.cells (evC k id n t nm tx vk vn vf vs a len cap) 45 (0, 0)) := by rw [hwa]; exact heap_alloc_new _ _
  have Hwa := Lib.hid (show Below w.heap.size w wa by rw [hwa]; exact (Below.refl _ _).alloc (Nat.le_refl _) _)
  rw [← hwa]
  have HE0 := Lib.hid hE0
  clear hwa hE0
  refine (Hv.out _ Hwa.out).mono ?_
  rintro e w1 ⟨rfl, hb1⟩
  have hE1 := (hb1.block _ (Array.getElem?_eq_some_iff.1 HE0.out).1).trans HE0.out
  have Hb1 := Lib.hid (Hwa.out.trans (hb1.mono Hwa.out.size))
  have HE1 := Lib.hid hE1
  clear hb1 hE1
  obtain ⟨kk, rfl⟩ : ∃ kk : Nat, k = (kk : Int) := ⟨k.toNat, by omega⟩
  have hk11 : kk ≤ 11 := by omega
  have hwk : IntKind.u64.wrap (kk : Int) = (kk : Int) := by rw [IntKind.wrap_u64]; omega
  have HU1 := Lib.hid (fun W => (show Calls Tryz.prog 22 #[.int .u64 1] W (NewBytes W (form 1)) from uint_any 1 W (by omega)))
  have HU2 := Lib.hid (fun W => uint_any kk W (by omega))
  have HK := Lib.hid (fun W (hW : Below w1.heap.size w1 W) => (box11 ((hW.block _ (Array.getElem?_eq_some_iff.1 HE1.out).1).trans HE1.out)).1)
  have Hl1 := Lib.hid (form_len (x := 1) (by omega))
  have Hl2 := Lib.hid (form_len (x := kk) (by omega))
  go_wp2_with fail
  go_region_held3 (fun W => W.cell? ⟨w.heap.size, 0, none⟩ = some (.int .i64 (kk : Int)))
    (first | exact HK.out _ ((Below.refl _ _).drew) | exact HK.out _ hb2 | exact HK.out _ hb3 | exact HK.out _ hb4)
    (first
      | (refine step_append_bytes rfl (.tmp 11) (.tmp 15) rfl w1.heap.size v2 (form 1) (by simp [Act.eval]) hr2 p3 (form kk).length cp3 (form kk) (by simp [Act.eval]) hB3 (by have := Hl1.out; have := Hl2.out; omega) hb3.size (by have := form_pos kk; omega) ?_
         intro g4 cap4 w4 hr4 hgr4 hlie4
         have hb4 : Below w1.heap.size w1 w4 := hb3.grown hgr4 hb3.size (fun k hk => (hr2.lt k hk).1))
      | (go_at_call 22; (with_reducible refine (HU1.out _).mono ?_); rintro e w2 ⟨v2, rfl, hr20, hb20⟩
         have hb2 : Below w1.heap.size w1 w2 := ((Below.refl _ _).drew).trans hb20
         have hr2 := own_base hr20 (Nat.le_refl w1.heap.size)
         clear hr20 hb20)
      | (go_at_call 22; (with_reducible refine (HU2.out _).mono ?_); rintro e w3 ⟨v3, rfl, hr3, hb30⟩
         have hb3 : Below w1.heap.size w1 w3 := hb2.trans (hb30.mono hb2.size)
         replace hr2 := own_below hr2 hb30
         obtain ⟨p3, cp3, rfl, hB3⟩ := own_slice hr3 (form_byte kk)
         clear hr3 hb30))
  have hr5 := own_base hr4 Hb1.out.size
  have hb5 := Hb1.out.trans (hb4.mono Hb1.out.size)
  have hE5 := (hb4.block _ (Array.getElem?_eq_some_iff.1 HE1.out).1).trans HE1.out
  have hL : (form 1).length + (form kk).length = (form 1 ++ form kk).length := by rw [List.length_append]
  have Hlen0 := Lib.hid (show (form 1 ++ form kk).length ≤ 20 from by rw [List.length_append]; have := Hl1.out; have := Hl2.out; omega)
  have Hpos0 := Lib.hid (show 0 < (form 1 ++ form kk).length from by rw [List.length_append]; have := form_pos kk; omega)
  have Hlb := Lib.hid (show ∀ c ∈ form 1 ++ form kk, c < 256 from fun c hc => (List.mem_append.1 hc).elim (form_byte 1 c) (form_byte kk c))
  rw [hL]
  clear hL hr2 hB3 hb2 hb3 hb4 hr4 hgr4 hlie4 hwk
  generalize hLe : form 1 ++ form kk = L at *
  have HLe := Lib.hid hLe
  clear hLe
  have Hr5 := Lib.hid hr5
  have Hb5 := Lib.hid hb5
  have HE5 := Lib.hid hE5
  have hE5' := box11 hE5
  obtain ⟨g0, g1, g2, g3, g4', g5, g6, g7, g8, g9, g10⟩ := hE5'
  have HF := Lib.hid (forms_six (kk : Int) id n t nm tx vk vn vf vs a len cap w4)
  unfold sixEnd at HF
  clear hr5 hb5 hE5
  go_wp2_with fail
  refine HF.out.mono ?_
  rintro e w6 ⟨hb6, hE6, rfl⟩
  have HB6 := Lib.hid (Hb5.out.trans (hb6.mono Hb5.out.size))
  have HE0 := Lib.hid ((hb6.block _ (Array.getElem?_eq_some_iff.1 HE5.out).1).trans HE5.out)
  have HE6 := Lib.hid hE6
  have Hr6 := Lib.hid (own_below Hr5.out hb6)
  have hal7 := (Below.refl w6.heap.size w6).alloc (Nat.le_refl _) (.cells (fw6 w4.heap.size) 116)
  have hq0 := cell_below hal7 (box11 HE0.out).1
  have Hal7 := Lib.hid hal7
  clear hb6 hE6 g0 g1 g2 g3 g4' g5 g6 g7 g8 g9 g10 hal7
  unfold fw6 capV at hq0
  go_wp2_with fail
  obtain ⟨w7, hw7⟩ : ∃ w7, w7 = w6.alloc (.cells (fw6 w4.heap.size) 116) := ⟨_, rfl⟩
  rw [← hw7] at Hal7
  rw [show w6.alloc (.cells #[Value.func (Fn.func 125) #[] #[Value.pointer (some { block := w4.heap.size, off := 0 })], Value.func (Fn.func 126) #[] #[Value.pointer (some { block := w4.heap.size, off := 0 })], Value.func (Fn.func 127) #[] #[Value.pointer (some { block := w4.heap.size, off := 0 })], Value.func (Fn.func 128) #[] #[Value.pointer (some { block := w4.heap.size, off := 0 })], Value.func (Fn.func 129) #[] #[Value.pointer (some { block := w4.heap.size, off := 0 })], Value.func (Fn.func 130) #[] #[Value.pointer (some { block := w4.heap.size, off := 0 })]] 116) = w7 from hw7.symm]
  have HA7 := Lib.hid (show w7.heap[w6.heap.size]? = some (.cells (fw6 w4.heap.size) 116 (0, 0)) by rw [hw7]; exact heap_alloc_new _ _)
  have HE7 := Lib.hid ((Hal7.out.block _ (Array.getElem?_eq_some_iff.1 HE6.out).1).trans HE6.out)
  have Hr7 := Lib.hid (own_below Hr6.out Hal7.out)
  have HB7 := Lib.hid (HB6.out.trans (Hal7.out.mono HB6.out.size))
  have HS := Lib.hid (shape_any (kk : Int) w7)
  unfold ShapeEnd at HS
  clear hw7 hq0
  refine HS.out.mono ?_
  rintro e w8 ⟨hb8, a1, rfl, hf8⟩
  have hA8 := (hb8.block _ (Array.getElem?_eq_some_iff.1 HA7.out).1).trans HA7.out
  have hE8 := (hb8.block _ (Array.getElem?_eq_some_iff.1 HE7.out).1).trans HE7.out
  have hr8 := own_below Hr7.out hb8
  have hB8 := HB7.out.trans (hb8.mono HB7.out.size)
  have HFS := Lib.hid (show evFields (kk : Int) = [] ∨ ∃ b, a1 = some ⟨b, 0, none⟩ ∧ w8.heap[b]? = some (.cells ((evFields (kk : Int)).map fun (i : Nat) => Value.int .i64 (i : Int)).toArray 3 (0, 0)) from hf8.imp (fun h => h) (fun ⟨b, e1, _, e3⟩ => ⟨b, e1, e3⟩))
  have HLT := Lib.hid (fun j (hj : j < (evFields (kk : Int)).length) => evFields_lt (kk : Int) _ (List.getElem_mem hj))
  have HM := Lib.hid (fun j (hj : j < (evFields (kk : Int)).length) => (List.getElem_mem hj : (evFields (kk : Int))[j] ∈ evFields (kk : Int)))
  have Hlen := Lib.hid (fields_len (kk : Int))
  have hsf := shape_fields (str (evName (kk : Int))) a1 (evFields (kk : Int)).length w8
  have HA8 := Lib.hid hA8
  have HE8 := Lib.hid hE8
  have Hr8 := Lib.hid hr8
  have HB8 := Lib.hid hB8
  have Hfe := Lib.hid (show ∃ fs, fs = evFields (kk : Int) from ⟨_, rfl⟩)
  obtain ⟨fs, hfs⟩ := Hfe.out
  have Hfs := Lib.hid hfs
  clear Hfe hb8 hf8 hA8 hE8 hr8 hB8
  rw [← hfs] at HFS HLT HM Hlen hsf
  rw [← hfs]
  clear hfs
  have Hp := Lib.hid (show ∀ i, i ∈ fs → ∀ (B : Nat) (W : World), Below w.heap.size w W → W.heap[B]? = some (.cells (evC (kk : Int) id n t nm tx vk vn vf vs a len cap) 45 (0, 0)) → Calls Tryz.prog (fwF i) #[.pointer (some ⟨B, 0, none⟩)] W (NewBytes W (pc i)) from by rw [Hfs.out]; exact Hp.out)
  have Hpl := Lib.hid (show ∀ i ∈ fs, (pc i).length ≤ 100000000 ∧ ∀ c ∈ pc i, c < 256 from by rw [Hfs.out]; exact Hpl.out)
  have Hres := Lib.hid (show L ++ ((evFields (kk : Int)).map pc).flatten = L ++ (fs.map pc).flatten from by rw [Hfs.out])
  generalize evC (kk : Int) id n t nm tx vk vn vf vs a len cap = X at *
  go_wp2
  go_loopw [4, 7, 24] (fun t4 t7 t24 wr => ∃ j : Nat, j ≤ fs.length ∧ t24 = .int .i64 (j : Int) ∧ wr.ownsRow w.heap.size 5 1 t4 (L ++ ((fs.take j).map pc).flatten).length (u8s (L ++ ((fs.take j).map pc).flatten)) ∧ (L ++ ((fs.take j).map pc).flatten).length ≤ 20 + j * 100000000 ∧ wr.heap[w6.heap.size]? = some (.cells (fw6 w4.heap.size) 116 (0, 0)) ∧ wr.heap[w4.heap.size]? = some (.cells X 45 (0, 0)) ∧ Below w.heap.size w wr ∧ (fs = [] ∨ ∃ b, a1 = some ⟨b, 0, none⟩ ∧ wr.heap[b]? = some (.cells (fs.map fun (i : Nat) => Value.int .i64 (i : Int)).toArray 3 (0, 0)))) (fun _ _ i _ => fs.length - (intOf i).toNat)
  case atStart =>
    exact ⟨0, Nat.zero_le _, rfl, by simpa using Hr8.out, by simpa using Hlen0.out, HA8.out, HE8.out, HB8.out, HFS.out⟩
  case round =>
    obtain ⟨j, hj, rfl, hr, hn, hA, hE, hb, hfs⟩ := hrel
    by_cases hlt : j < fs.length
    · obtain ⟨bF, rfl, hF⟩ := hfs.resolve_left (by intro e; rw [e] at hlt; simp at hlt)
      have hx6 := HLT.out j hlt
      have hm := HM.out j hlt
      obtain ⟨x, hx⟩ : ∃ x, x = fs[j] := ⟨_, rfl⟩
      have hc : wr.cell? ⟨bF, j, none⟩ = some (.int .i64 (x : Int)) := by
        rw [cell_of_row _ _ _ _ _ (0, 0) hF, hx]
        simp [hlt]
      have Htake := Lib.hid (show L ++ ((fs.take (j + 1)).map pc).flatten = (L ++ ((fs.take j).map pc).flatten) ++ pc x from by rw [hx, List.take_succ_eq_append_getElem hlt, List.map_append, List.flatten_append, List.append_assoc]; simp)
      rw [← hx] at hx6 hm
      have hpx := Hpl.out x hm
      have hca : wr.cell? ⟨w6.heap.size, x, none⟩ = some (capV (fwF x) w4.heap.size) := by rw [cell_of_row _ _ _ _ _ (0, 0) hA]; exact fw6_get _ _ hx6
      have hent := enters_fw x
      have HC := Lib.hid (Hp.out x hm w4.heap.size wr hb hE)
      obtain ⟨acc, hacc⟩ : ∃ acc, acc = L ++ ((fs.take j).map pc).flatten := ⟨_, rfl⟩
      rw [← hacc] at hr hn Htake
      have hl6 : fs.length ≤ 6 := Hlen.out
      have Hn := Lib.hid hn
      have Hlt := Lib.hid hlt
      have Hb := Lib.hid hb
      have Hr := Lib.hid hr
      have Hkp := Lib.hid (And.intro hA (And.intro hE hF))
      have hxi : (x : Int) < 6 := by omega
      have hji : (j : Int) < (fs.length : Int) := by omega
      have hj6 : (j : Int) < 6 := by omega
      have Hpx := Lib.hid hpx
      generalize fwF x = fx at *
      clear hx hlt hr hn hA hE hb hfs hF hacc hpx hx6 hm
      go_wp2_with fail
      refine HC.out.mono ?_
      rintro e wy ⟨vy, rfl, hry, hby⟩
      obtain ⟨py, cpy, rfl, hBy⟩ := own_slice hry Hpx.out.2
      have HBy := Lib.hid hBy
      have Hry := Lib.hid (own_below Hr.out hby)
      have Hbz := Lib.hid (Hb.out.trans (hby.mono Hb.out.size))
      have Hkq := Lib.hid (And.intro ((hby.block _ (Array.getElem?_eq_some_iff.1 Hkp.out.1).1).trans Hkp.out.1) (And.intro ((hby.block _ (Array.getElem?_eq_some_iff.1 Hkp.out.2.1).1).trans Hkp.out.2.1) ((hby.block _ (Array.getElem?_eq_some_iff.1 Hkp.out.2.2).1).trans Hkp.out.2.2)))
      clear hry hby hBy
      go_wp2_with (at_builtin; refine wpList_append_bytes _ rfl _ _ 28 rfl w.heap.size 5 Tryz.underlying28 info_u8 _ _ _ rfl Hry.out _ _ _ _ rfl HBy.out (by have := Hn.out; have := Hpx.out.1; omega) Hbz.out.size ?_; intro v' w9 g1 g2)
      have Hg1 := Lib.hid (show w9.ownsRow w.heap.size 5 1 v' (L ++ ((fs.take (j + 1)).map pc).flatten).length (u8s (L ++ ((fs.take (j + 1)).map pc).flatten)) from by
        rw [Htake.out, List.length_append]; exact g1)
      have Hg2 := Lib.hid (show Below w.heap.size w w9 from Hbz.out.grown g2 Hbz.out.size (fun k hk => (Hry.out.lt k hk).1))
      have Hk9 := Lib.hid (And.intro (grown_keep g2 Hkq.out.1 (row_ne Hry.out Hkq.out.1 (by decide))) (And.intro (grown_keep g2 Hkq.out.2.1 (row_ne Hry.out Hkq.out.2.1 (by decide))) (grown_keep g2 Hkq.out.2.2 (row_ne Hry.out Hkq.out.2.2 (by decide)))))
      have Hn9 := Lib.hid (show (L ++ ((fs.take (j + 1)).map pc).flatten).length ≤ 20 + (j + 1) * 100000000 from by
        rw [Htake.out, List.length_append]; have := Hn.out; have := Hpx.out.1; omega)
      clear g1 g2
      go_wp2
      go_roundw
      case rel => exact ⟨j + 1, Hlt.out, by go_num, Hg1.out, Hn9.out, Hk9.out.1, Hk9.out.2.1, Hg2.out, .inr ⟨_, rfl, Hk9.out.2.2⟩⟩
      case measure => simp [intOf]; have := Hlt.out; omega
    · obtain rfl : j = fs.length := by omega
      rw [List.take_length] at hr
      have Hr := Lib.hid hr
      have Hb := Lib.hid hb
      have hji : ¬ ((fs.length : Int) < (fs.length : Int)) := by omega
      clear hr hn hA hE hb hfs hlt
      go_wp2
      refine bodyPost_ret (v := .tuple #[u4, .bool true]) (by simp [results, Tryz.results53, go_sem, *]) rfl ?_
      refine ⟨_, rfl, ?_, Hb.out⟩
      have e : form 1 ++ (form kk ++ (List.map pc (evFields (kk : Int))).flatten) = L ++ (fs.map pc).flatten := by rw [← List.append_assoc, HLe.out, Hfs.out]
      rw [e]
      exact Hr.out
end Go.Proofs.YtcapbaocchaenaaGreatDoor

