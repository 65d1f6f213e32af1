/- The walks of a disk's onFile; a change of a file, whatever it does. -/
import Derived.Test.YtdnbjpfapfnpaaaDkO1
import Derived.Test.YtdnbjpfapfnpaaaDkU
import Derived.Deep.RegionHeld
import Derived.Outline
import Derived.Laws.EntriesVeiled
namespace Go.Proofs.Ytdnbjpfapfnpaaa
open Go.RowKit Go.Maps Go.Shelf

set_option maxRecDepth 100000 in
set_option maxHeartbeats 3200000 in
theorem onfile_any (n : List UInt8) (k : Nat) (caps : Array Value) (w : World) :
    Calls Try.prog 31 #[encStr n, .func (.func k) #[] caps] w fun e w' => e = .returned (.agg #[encStr n, .func (.func 46) #[] #[.pointer (some ⟨w.heap.size, 0, none⟩)]]) ∧
      Below w.heap.size w w' ∧ w'.cell? ⟨w.heap.size, 0, none⟩ = some (.func (.func k) #[] caps) ∧ w.heap.size < w'.heap.size := by
  have hb := ((Below.refl w.heap.size w).alloc (Nat.le_refl _) (.cells #[.func (.func k) #[] caps] 72)).alloc (by simp) (.cells #[encStr n, .func (.func 46) #[] #[.pointer (some ⟨w.heap.size, 0, none⟩)]] 74)
  have Hb := Lib.hid hb
  have hc : ((w.alloc (.cells #[.func (.func k) #[] caps] 72)).alloc (.cells #[encStr n, .func (.func 46) #[] #[.pointer (some ⟨w.heap.size, 0, none⟩)]] 74)).cell? ⟨w.heap.size, 0, none⟩ = some (.func (.func k) #[] caps) :=
    (Chg.alloc (fun _ => False) _ _).cell (cell_of_row _ _ _ _ _ (0, 0) (heap_alloc_new _ _)) (fun h => h)
  have Hc := Lib.hid hc
  have Hsz := Lib.hid (show w.heap.size < ((w.alloc (.cells #[.func (.func k) #[] caps] 72)).alloc (.cells #[encStr n, .func (.func 46) #[] #[.pointer (some ⟨w.heap.size, 0, none⟩)]] 74)).heap.size from by simp; omega)
  clear hb hc
  go_enter Try.func31, Try.ntmps31
  go_wp2
  refine bodyPost_ret (v := .agg #[encStr n, .func (.func 46) #[] #[.pointer (some ⟨w.heap.size, 0, none⟩)]]) (by simp [results, Try.results31, go_sem]) rfl ⟨rfl, Hb.out, Hc.out, Hsz.out⟩

set_option maxRecDepth 100000 in
set_option maxHeartbeats 3200000 in
theorem onfile1_any (x : Option FW) (b k : Nat) (caps : Array Value) (w : World) (hent : ∀ args w, (callFunc k args).run Try.prog w = .ok (.enter k args) w) (hc : w.cell? ⟨b, 0, none⟩ = some (.func (.func k) #[] caps)) (Q : Ending → World → Prop)
    (H6 : x = none → Q (.returned (.int .i64 6)) w) (HF : ∀ y, x = some y → Calls Try.prog k (#[.pointer (some ⟨y.blk, 0, none⟩)] ++ caps) w fun e w' => (∃ v, e = .returned v) ∧ Q e w') :
    Calls Try.prog 46 #[fileV x, .pointer (some ⟨b, 0, none⟩)] w fun e w' => (∃ v, e = .returned v) ∧ Q e w' := by
  cases x with
  | none =>
    have H := Lib.hid (H6 rfl)
    clear H6 HF
    unfold fileV
    go_enter Try.func46, Try.ntmps46
    go_wp2
    go_ret
    exact ⟨⟨_, rfl⟩, H.out⟩
  | some y =>
    have H := Lib.hid (HF y rfl)
    clear H6 HF
    unfold fileV
    go_enter Try.func46, Try.ntmps46
    go_wp2_with fail
    refine H.out.mono ?_
    rintro e w4 ⟨⟨v, rfl⟩, hq⟩
    have Hq := Lib.hid hq
    clear hq
    go_wp2
    go_ret
    exact ⟨⟨_, rfl⟩, Hq.out⟩
end Go.Proofs.Ytdnbjpfapfnpaaa
