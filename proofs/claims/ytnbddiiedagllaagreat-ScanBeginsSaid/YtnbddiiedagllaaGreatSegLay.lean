/- Contracts of library functions, laid at this program: each is an instance of a theorem of the library. No condition but what each states. -/
import Derived.Shelf.SlicesE.Reverse
import Derived.Ground.SlgnProg
import Derived.Test.YtnbddiiedagllaaGreatProg
namespace Go.Proofs
open Go.Shelf
def Tryz.revB_ren : Go.Shelf.Ren := ⟨fun | 35 => 96 | n => n, fun | 22 => 58 | 23 => 5 | 3 => 3 | 4 => 4 | 0 => 0 | n => n, fun | n => n⟩
theorem Tryz.revB : Go.Proofs.SlLaysE.n35 Tryz.prog Tryz.revB_ren := {
  mixed := by kernel_rfl
  f35 := ⟨Tryz.f96.name, by decide, Tryz.func96.trans (congrArg some (by kernel_rfl))⟩
  t0 := Tryz.underlying0
  a0 := Tryz.isAgg0
  z0 := Tryz.sizeOf0
  v0 := Tryz.zeroValue0
  t3 := Tryz.underlying3
  a3 := Tryz.isAgg3
  z3 := Tryz.sizeOf3
  v3 := Tryz.zeroValue3
  t4 := Tryz.underlying4
  a4 := Tryz.isAgg4
  z4 := Tryz.sizeOf4
  v4 := Tryz.zeroValue4
  t22 := Tryz.underlying58
  a22 := Tryz.isAgg58
  z22 := Tryz.sizeOf58
  v22 := Tryz.zeroValue58
  a23 := Tryz.isAgg5
  z23 := Tryz.sizeOf5 }
end Go.Proofs
namespace Go.Proofs
open Go.RowKit Go.Sort Go.Shelf
theorem Tryz.reverse_bytes (blk off cap : Nat) (zs : List Nat) (w : World) (hH : Holds (fun x : Nat => Value.int .u8 (x : Int)) w blk off zs.toArray) (hsz : zs.length ≤ 9223372036854775807) :
    Calls Tryz.prog 96 #[.slice (some ⟨blk, off, none⟩) zs.length cap] w fun e w' => e = .returned (.tuple #[]) ∧ ∃ n, w' = putRow (fun x : Nat => Value.int .u8 (x : Int)) (Sort.ahead w n) blk off zs.reverse.toArray :=
  AnyE.slices_Reverse Tryz.revB _ (fun _ => rfl) blk off cap zs w hH hsz
end Go.Proofs
