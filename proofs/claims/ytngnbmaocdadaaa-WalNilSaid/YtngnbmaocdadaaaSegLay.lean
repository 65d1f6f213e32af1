/- Contracts of library functions, laid at this program: each is an instance of a theorem of the library. No condition but what each states. -/
import Derived.Shelf.SlicesE.Reverse
import Derived.Ground.SlgnProg
import Derived.Test.YtngnbmaocdadaaaProg
namespace Go.Proofs
open Go.Shelf
def Try.revB_ren : Go.Shelf.Ren := ⟨fun | 35 => 57 | n => n, fun | 22 => 22 | 23 => 5 | 3 => 3 | 4 => 4 | 0 => 0 | n => n, fun | n => n⟩
theorem Try.revB : Go.Proofs.SlLaysE.n35 Try.prog Try.revB_ren := {
  mixed := by kernel_rfl
  f35 := ⟨Try.f57.name, by decide, Try.func57.trans (congrArg some (by kernel_rfl))⟩
  t0 := Try.underlying0
  a0 := Try.isAgg0
  z0 := Try.sizeOf0
  v0 := Try.zeroValue0
  t3 := Try.underlying3
  a3 := Try.isAgg3
  z3 := Try.sizeOf3
  v3 := Try.zeroValue3
  t4 := Try.underlying4
  a4 := Try.isAgg4
  z4 := Try.sizeOf4
  v4 := Try.zeroValue4
  t22 := Try.underlying22
  a22 := Try.isAgg22
  z22 := Try.sizeOf22
  v22 := Try.zeroValue22
  a23 := Try.isAgg5
  z23 := Try.sizeOf5 }
end Go.Proofs
namespace Go.Proofs
open Go.RowKit Go.Sort Go.Shelf
theorem Try.reverse_bytes (blk off cap : Nat) (zs : List Nat) (w : World) (hH : Holds (fun x : Nat => Value.int .u8 (x : Int)) w blk off zs.toArray) (hsz : zs.length ≤ 9223372036854775807) :
    Calls Try.prog 57 #[.slice (some ⟨blk, off, none⟩) zs.length cap] w fun e w' => e = .returned (.tuple #[]) ∧ ∃ n, w' = putRow (fun x : Nat => Value.int .u8 (x : Int)) (Sort.ahead w n) blk off zs.reverse.toArray :=
  AnyE.slices_Reverse Try.revB _ (fun _ => rfl) blk off cap zs w hH hsz
end Go.Proofs
