/- The walk of the statement BinKeeps: it returns true whatever the bytes are. -/
import Derived.Test.YtjkpcpoplpgecaaBinOnly
import Derived.Test.YtjkpcpoplpgecaaU8Row
namespace Go.Proofs.Ytjkpcpoplpgecaa
open Go.RowKit

theorem readN_nil : readN [] false = (0, [], false) := rfl
theorem readB_nil : readB [] false = ([], [], false) := rfl

theorem nUint (w : World) : Calls Try.prog 18 #[.pointer none] w fun e w' => e = .returned (.int .u64 0) ∧ Below w.heap.size w w' := by
  refine (mUint _ _ [] false w _ (orNone_none w) (rd_new w)).mono ?_
  rintro e w' ⟨rfl, hE⟩
  exact ⟨rfl, below_new hE⟩

theorem nInt (w : World) : Calls Try.prog 20 #[.pointer none] w fun e w' => e = .returned (.int .i64 0) ∧ Below w.heap.size w w' := by
  refine (mInt _ _ [] false w _ (orNone_none w) (rd_new w)).mono ?_
  rintro e w' ⟨rfl, hE⟩
  exact ⟨ret_i64 rfl, below_new hE⟩

/-- No bytes. -/
def NoneEnd (w : World) (e : Ending) (w' : World) : Prop := ∃ p cp, e = .returned (.slice p 0 cp) ∧ Below w.heap.size w w'

theorem noneEnd {w w' : World} {r : List Nat × List Nat × Bool} {e : Ending} (h : GiveEnd (w.alloc (.cells #[.slice none 0 0, .bool false] 60)) w.heap.size r e w') (hr : r.1 = []) : NoneEnd w e w' := by
  obtain ⟨p, m, cp, rfl, hB, hE⟩ := h
  rw [hr] at hB
  obtain rfl : m = 0 := by have := hB.len; simpa using this.symm
  exact ⟨p, cp, rfl, below_new hE⟩

theorem nBytes (w : World) : Calls Try.prog 22 #[.pointer none] w (NoneEnd w) :=
  (mBytes _ _ [] false w _ (orNone_none w) (rd_new w) (by simp)).mono fun _ _ h => noneEnd h rfl

theorem nTake (w : World) : Calls Try.prog 25 #[.pointer none, .int .i64 0] w (NoneEnd w) :=
  (mTake _ _ [] false w _ (orNone_none w) (rd_new w) 0 (by omega) (by omega) (by simp)).mono fun _ _ h => noneEnd h rfl

theorem nText (w : World) : Calls Try.prog 24 #[.pointer none] w fun e w' => e = .returned (.string ⟨#[]⟩) ∧ Below w.heap.size w w' := by
  refine (mText _ _ [] false w _ (orNone_none w) (rd_new w)).mono ?_
  rintro e w' ⟨rfl, hE⟩
  exact ⟨rfl, below_new hE⟩

theorem nLeft (w : World) : Calls Try.prog 27 #[.pointer none] w fun e w' => e = .returned (.int .i64 0) ∧ Below w.heap.size w w' := by
  refine (mLeft _ _ [] false w _ (orNone_none w) (rd_new w)).mono ?_
  rintro e w' ⟨rfl, rfl⟩
  exact ⟨rfl, (Below.refl _ _).alloc (Nat.le_refl _) _⟩

theorem nOk (w : World) : Calls Try.prog 28 #[.pointer none] w fun e w' => e = .returned (.bool false) ∧ Below w.heap.size w w' := by
  refine (mOk _ _ [] false w _ (orNone_none w) (rd_new w)).mono ?_
  rintro e w' ⟨rfl, rfl⟩
  exact ⟨rfl, (Below.refl _ _).alloc (Nat.le_refl _) _⟩

def KeepRel (w4 : World) (go n : Nat) (i : Value) (wr : World) : Prop := ∃ k : Nat, k ≤ n ∧ i = .int .i64 k ∧ (0 < n → U8Row wr go n) ∧ w4.grownBy wr (some go)

theorem below_only {w w1 w2 : World} {go : Nat} (hb : Below w.heap.size w w1) (hg : w.heap.size ≤ go) (h : w1.grownBy w2 (some go)) : Below w.heap.size w w2 := hb.grown h hb.size (fun k hk => by cases hk; exact hg)

theorem takeN_all {l : List Nat} {n : Nat} (h : l.length = n) : takeN l true (n : Int) = (l, [], true) := by
  unfold takeN
  rw [if_pos ⟨rfl, by omega, by omega⟩, Int.toNat_natCast, ← h, List.take_length, List.drop_length]

set_option maxRecDepth 100000 in
set_option maxHeartbeats 3200000 in
theorem binKeeps_any (a : Option Addr) (n cap : Nat) (l : List Nat) (w : World) (hl : Bytes w a n cap l) :
    Calls Try.prog 7 #[.slice a n cap] w fun e w' => e = .returned (.bool true) ∧ Below w.heap.size w w' := by
  have HB := Lib.hid hl
  clear hl
  by_cases hn : n ≤ 300
  · have hbel : Below w.heap.size w (w.alloc (.cells #[] 5)) := (Below.refl _ _).alloc (Nat.le_refl _) _
    have hown0 : (w.alloc (.cells #[] 5)).ownsRow w.heap.size 5 1 (.slice (some ⟨w.heap.size, 0, none⟩) 0 0) 0 (u8s []) := World.ownsRow_made w #[] 0 (Nat.le_refl _) (Nat.zero_le _) rfl
    have Hown0 := Lib.hid hown0
    have HBa := Lib.hid (HB.out.grow hbel)
    clear hown0
    go_enter Try.func7, Try.ntmps7
    go_wp2_with (at_builtin; refine wpList_append_bytes _ rfl _ _ 23 rfl w.heap.size 5 Try.underlying23 info_u8 _ _ _ rfl Hown0.out a n cap l rfl HBa.out (by omega) hbel.size ?_; intro v1 w1 g1 g2)
    have hw1 : Below w.heap.size w w1 := hbel.grown g2 hbel.size (fun k hk => (Hown0.out.lt k hk).1)
    have hs1 : w.heap.size < w1.heap.size := by have := g2.size; simp at this; omega
    have g1' : w1.ownsRow w.heap.size 5 1 v1 n (u8s l) := by simpa using g1
    obtain ⟨go, p, cp, rfl, hgo1, hgo2, hrow⟩ := own_place g1' hs1
    have HO := Lib.hid (bytes_of_own g1' HB.out.byte)
    have Hrow := Lib.hid hrow
    clear g1 g1' g2 hrow HBa
    go_wp2_with fail
    refine (new_far p n cp l w1 HO.out (by omega)).mono ?_
    rintro e w2 ⟨g, rfl, hg, hR, hb2⟩
    have hw2 := hw1.trans (hb2.mono hw1.size)
    have hg2 : g < w2.heap.size := by obtain ⟨_, _, _, h, _⟩ := hR; exact (Array.getElem?_eq_some_iff.1 h).1
    have HR := Lib.hid hR
    clear hR
    go_wp2_with fail
    refine (bytesF_any p n cp l w2 (HO.out.grow hb2) (by omega)).mono ?_
    rintro e w3 ⟨v3, rfl, hown3, hb3⟩
    have hw3 := hw2.trans (hb3.mono hw2.size)
    have hown3 : w3.ownsRow w2.heap.size 5 1 v3 (formB l).length (u8s (formB l)) := hown3
    obtain ⟨p3, c3, rfl, _⟩ := own_slice hown3 (formB_byte HB.out.byte)
    have HF := Lib.hid hown3
    have HR3 := Lib.hid (HR.out.below hb3)
    have hb13 : Below w1.heap.size w1 w3 := hb2.trans (hb3.mono hb2.size)
    have Hrow3 := Lib.hid (fun h : 0 < n => (Hrow.out h).2.below hb13)
    have hgg : go < g := by omega
    have hgo3 : go < w2.heap.size := by omega
    clear hown3 hb3 hb13 HR hb2
    go_wp2_with fail
    go_loopw [23] (fun i wr => KeepRel w3 go n i wr) (fun i _ => n - (intOf i).toNat)
    case atStart => exact ⟨0, Nat.zero_le _, rfl, Hrow3.out, only_refl _ _⟩
    case round =>
      obtain ⟨k, hk, rfl, hr, hgr⟩ := hrel
      have Hr := Lib.hid hr
      clear hr
      by_cases hlt : k < n
      · have hp := (Hrow.out (by omega)).1
        subst hp
        have hrow := Hr.out (by omega)
        obtain ⟨z, hz⟩ := hrow.cell hlt
        have hf := hrow.frozen k
        have Hrow4 := Lib.hid hrow
        clear hrow
        go_wp2
        go_roundw
        case rel => exact ⟨k + 1, hlt, by go_num, fun _ => Hrow4.out.set k _, only_set hgr k _⟩
        case measure => simp [intOf]; omega
      · obtain rfl : k = n := by omega
        have hwr : Below w.heap.size w wr := below_only hw3 hgo1 hgr
        have HRr := Lib.hid (HR3.out.keep hgr hgo2 hgg)
        have HFr := Lib.hid (own_keep HF.out hgr hgo3)
        have hlen : l.length ≤ 1000000 := by rw [HB.out.len]; omega
        clear hgr
        go_wp2_with fail
        refine (mTake _ g l true wr wr (orNone_some g wr) HRr.out.rd (k : Int) (by omega) (by omega) hlen).mono ?_
        intro e w4 h4
        rw [takeN_all HB.out.len] at h4
        obtain ⟨p4, m4, c4, rfl, hB4, hE4⟩ := h4
        have hw4 := below_rd hwr (Nat.le_trans hw1.size hg) hE4
        have HF4 := Lib.hid (own_keep HFr.out hE4.2 hg2)
        have HB4 := Lib.hid hB4
        clear hB4 hE4
        go_wp2_with fail
        refine (equal_yes _ _ _ _ _ _ l w4 HB4.out (HB.out.grow hw4)).mono ?_
        rintro e w5 ⟨rfl, hb5⟩
        have hw5 := hw4.trans (hb5.mono hw4.size)
        have HF5 := Lib.hid (own_below HF4.out hb5)
        clear hb5
        go_wp2_with fail
        refine (rbytesF_any a k cap l w5 (HB.out.grow hw5) (by omega)).mono ?_
        rintro e w6 ⟨v6, rfl, hown6, hb6⟩
        have hw6 := hw5.trans (hb6.mono hw5.size)
        obtain ⟨p6, c6, rfl, hB6⟩ := own_slice hown6 (formB_byte HB.out.byte)
        have HB6 := Lib.hid hB6
        have HF6 := Lib.hid (bytes_of_own (own_below HF5.out hb6) (formB_byte HB.out.byte))
        clear hB6 hown6 hb6
        go_wp2_with fail
        refine (equal_yes _ _ _ _ _ _ (formB l) w6 HF6.out HB6.out).mono ?_
        rintro e w7 ⟨rfl, hb7⟩
        have hw7 := hw6.trans (hb7.mono hw6.size)
        clear hb7
        go_wp2_with fail
        refine (alive_any w7).mono ?_
        rintro e w8 ⟨rfl, hb8⟩
        have hw8 := hw7.trans (hb8.mono hw7.size)
        go_wp2_with fail
        refine (nUint w8).mono ?_
        rintro e w9 ⟨rfl, hb9⟩
        have hw9 := hw8.trans (hb9.mono hw8.size)
        go_wp2_with fail
        refine (nInt w9).mono ?_
        rintro e w10 ⟨rfl, hb10⟩
        have hw10 := hw9.trans (hb10.mono hw9.size)
        go_wp2_with fail
        refine (nBytes w10).mono ?_
        rintro e w11 ⟨p11, c11, rfl, hb11⟩
        have hw11 := hw10.trans (hb11.mono hw10.size)
        go_wp2_with fail
        refine (nText w11).mono ?_
        rintro e w12 ⟨rfl, hb12⟩
        have hw12 := hw11.trans (hb12.mono hw11.size)
        go_wp2_with fail
        refine (nTake w12).mono ?_
        rintro e w13 ⟨p13, c13, rfl, hb13⟩
        have hw13 := hw12.trans (hb13.mono hw12.size)
        go_wp2_with fail
        refine (nLeft w13).mono ?_
        rintro e w14 ⟨rfl, hb14⟩
        have hw14 := hw13.trans (hb14.mono hw13.size)
        go_wp2_with fail
        refine (nOk w14).mono ?_
        rintro e w15 ⟨rfl, hb15⟩
        have hw15 := hw14.trans (hb15.mono hw14.size)
        go_wp2_with fail
        refine (mDone_none w15).mono ?_
        rintro e w16 ⟨rfl, hb16⟩
        go_wp2
        go_ret
        exact ⟨rfl, hw15.trans (hb16.mono hw15.size)⟩
  · have hn' : (300 : Int) < (n : Int) := by omega
    go_enter Try.func7, Try.ntmps7
    go_wp2_with ((with_reducible refine (alive_any _).mono ?_); rintro e w1 ⟨rfl, hb1⟩)
    go_ret
    exact ⟨rfl, hb1⟩
end Go.Proofs.Ytjkpcpoplpgecaa
