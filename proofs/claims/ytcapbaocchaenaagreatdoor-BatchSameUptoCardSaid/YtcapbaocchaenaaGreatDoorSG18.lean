import Derived.Test.YtcapbaocchaenaaGreatDoorSG15
import Derived.Test.YtcapbaocchaenaaGreatDoorSG1
import Derived.Test.YtcapbaocchaenaaGreatDoorSG14
import Derived.Laws.IdiomStrings
import Derived.Test.YtcapbaocchaenaaGreatDoorSG8
/- The walk of the reference's form and Bytes. -/
namespace Go.Proofs.YtcapbaocchaenaaGreatDoor
open Go.RowKit Go.Shelf Fl

theorem preL_map : ∀ l : List V, preV.preL l = l.flatMap preV
  | [] => rfl
  | v :: r => by rw [preV.preL, List.flatMap_cons, preL_map r]

def formsV (l : List V) : List Nat := l.flatMap formV

theorem formV_is (v : V) : formV v = pieceV v ++ formsV v.l := by
  obtain ⟨k, n, f, s, l⟩ := v
  unfold formV formsV
  rw [preV, List.flatMap_cons, preL_map, List.flatMap_assoc]
  rfl

/-- Bytes are bytes, in all texts. -/
theorem pieceV_byte {v : V} (hs : ∀ c ∈ v.s, c < 256) : ∀ c ∈ pieceV v, c < 256 := by
  intro c hc
  rcases List.mem_append.1 hc with h | h
  · exact form_byte _ c h
  · exact contF_byte hs c h

theorem be8_len (x : Nat) : (be8 x).length = 8 := by simp [be8]

end Go.Proofs.YtcapbaocchaenaaGreatDoor

/- The walk of the reference's form of lists, and its Bytes. -/
namespace Go.Proofs.YtcapbaocchaenaaGreatDoor
open Go.RowKit Go.Shelf Fl

mutual
theorem formV_byte : ∀ (v : V) (w : World) (x : Array Value), VIn w v x → ∀ c ∈ formV v, c < 256
  | .mk k n f s l, w, x, h, c, hc => by
    rw [formV_is] at hc
    rw [VIn] at h
    obtain ⟨_, _, _, h4, _, a, cap, _, _, _, h9⟩ := h
    rcases List.mem_append.1 hc with e | e
    · exact pieceV_byte (v := .mk k n f s l) h4 c e
    · rcases h9 with h9 | ⟨b, o, _, hv⟩
      · change c ∈ formsV l at e
        rw [h9] at e; cases e
      · exact formsV_byte l w b o hv c e
theorem formsV_byte : ∀ (l : List V) (w : World) (b o : Nat), VsIn w l b o → ∀ c ∈ formsV l, c < 256
  | [], _, _, _, _, c, hc => by cases hc
  | v :: r, w, b, o, h, c, hc => by
    rw [VsIn] at h
    obtain ⟨⟨x, _, _, hv⟩, hr⟩ := h
    have hc : c ∈ formV v ++ formsV r := hc
    rcases List.mem_append.1 hc with e | e
    · exact formV_byte v w x hv c e
    · exact formsV_byte r w b (o + 5) hr c e
end

end Go.Proofs.YtcapbaocchaenaaGreatDoor

