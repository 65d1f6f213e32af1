/- Contracts of library functions, laid at this program: each is an instance of a theorem of the library. No condition but what each states. -/
import Derived.Shelf.SlicesE.Reverse
import Derived.Shelf.SlSorted.IsSorted
import Derived.Ground.SlgnProg
import Derived.Ground.SlsoProg
import Derived.Test.YtdflfimclgapnaaProg
namespace Go.Proofs
open Go.Shelf
def Try.revB_ren : Go.Shelf.Ren := ⟨fun | 35 => 17 | n => n, fun | 22 => 38 | 23 => 5 | 3 => 3 | 4 => 4 | 0 => 0 | n => n, fun | n => n⟩
theorem Try.revB : Go.Proofs.SlLaysE.n35 Try.prog Try.revB_ren := {
  mixed := by kernel_rfl
  f35 := ⟨Try.f17.name, by decide, Try.func17.trans (congrArg some (by kernel_rfl))⟩
  t0 := Try.underlying0
  a0 := Try.isAgg0
  z0 := Try.sizeOf0
  v0 := Try.zeroValue0
  t3 := Try.underlying3
  a3 := Try.isAgg3
  z3 := Try.sizeOf3
  v3 := Try.zeroValue3
  t4 := Try.underlying4
  a4 := Try.isAgg4
  z4 := Try.sizeOf4
  v4 := Try.zeroValue4
  t22 := Try.underlying38
  a22 := Try.isAgg38
  z22 := Try.sizeOf38
  v22 := Try.zeroValue38
  a23 := Try.isAgg5
  z23 := Try.sizeOf5 }
def Try.isSortedI_ren : Go.Shelf.Ren := ⟨fun | 10 => 15 | 18 => 22 | 24 => 26 | n => n, fun | 22 => 30 | 24 => 3 | 4 => 4 | 3 => 3 | 0 => 0 | n => n, fun | n => n⟩
theorem Try.isSortedI : Go.Proofs.SlLaysO.n10 Try.prog Try.isSortedI_ren := {
  mixed := by kernel_rfl
  f10 := ⟨Try.f15.name, by decide, Try.func15.trans (congrArg some (by kernel_rfl))⟩
  f18 := ⟨Try.f22.name, by decide, Try.func22.trans (congrArg some (by kernel_rfl))⟩
  f24 := ⟨Try.f26.name, by decide, Try.func26.trans (congrArg some (by kernel_rfl))⟩
  t0 := Try.underlying0
  a0 := Try.isAgg0
  z0 := Try.sizeOf0
  v0 := Try.zeroValue0
  t3 := Try.underlying3
  a3 := Try.isAgg3
  z3 := Try.sizeOf3
  v3 := Try.zeroValue3
  t4 := Try.underlying4
  a4 := Try.isAgg4
  z4 := Try.sizeOf4
  v4 := Try.zeroValue4
  t22 := Try.underlying30
  a22 := Try.isAgg30
  z22 := Try.sizeOf30
  v22 := Try.zeroValue30
  t24 := Try.underlying3
  a24 := Try.isAgg3
  z24 := Try.sizeOf3
  v24 := Try.zeroValue3 }
end Go.Proofs
namespace Go.Proofs
open Go.RowKit Go.Sort Go.Shelf
theorem Try.reverse_bytes (blk off cap : Nat) (zs : List Nat) (w : World) (hH : Holds (fun x : Nat => Value.int .u8 (x : Int)) w blk off zs.toArray) (hsz : zs.length ≤ 9223372036854775807) :
    Calls Try.prog 17 #[.slice (some ⟨blk, off, none⟩) zs.length cap] w fun e w' => e = .returned (.tuple #[]) ∧ ∃ n, w' = putRow (fun x : Nat => Value.int .u8 (x : Int)) (Sort.ahead w n) blk off zs.reverse.toArray :=
  AnyE.slices_Reverse Try.revB _ (fun _ => rfl) blk off cap zs w hH hsz

theorem Try.isSorted_ints (blk off cap : Nat) (d : Array Int) (w : World) (hc : ∀ i, i < d.size → w.cell? ⟨blk, off + i, none⟩ = some (Value.int .i64 d[i]!)) (hsz : d.size < 4611686018427387904) :
    Calls Try.prog 15 #[.slice (some ⟨blk, off, none⟩) d.size cap] w fun e w' => e = .returned (.bool (Lib.downOK (fun x y => decide (x < y)) d (d.size - 1))) ∧ ∃ q, w' = w.drewN q :=
  AnyO.slices_IsSorted_int Try.isSortedI blk off cap d w hc hsz

theorem Try.isSorted_none (p : Option Addr) (cap : Nat) (w : World) :
    Calls Try.prog 15 #[.slice p 0 cap] w fun e w' => e = .returned (.bool true) ∧ w' = w :=
  AnyO.slices_IsSorted_int_none Try.isSortedI p cap w
end Go.Proofs
