/- The statement ScanNil answers true. -/
import Derived.Test.YtehjgkkcpiblcaaGreatHScanNilJ2
import Derived.Test.YtehjgkkcpiblcaaGreatHScanNilJ3
namespace Go.Proofs.YtehjgkkcpiblcaaGreat
open Go.RowKit Go.Maps Go.Shelf

attribute [local go_sem ↓] Go.wp_at_zero Go.wp_at_succ

theorem armed_down (n : List UInt8) (M : DM) : (createM n (armM 1 M)).1.down = true := by
  have h : (failM (armM 1 M)).down = true := by
    unfold failM
    by_cases h1 : (armM 1 M).down = true
    · rw [if_pos h1]; exact h1
    · rw [if_neg h1, if_pos (show (armM 1 M).plan = 1 from rfl)]
  unfold createM chgM
  rw [if_pos h]
  exact h

theorem found_nil (w : World) : Calls Tryz.prog 85 #[.pointer none] w (FoundEnd (fun x z _ => x = fd0 ∧ z = 1) w) :=
  (find_nil w).mono fun _ _ ⟨he, hb⟩ => ⟨fd0, 1, he, ⟨rfl, rfl⟩, hb⟩

theorem found_down {w0 : World} {X : Nat → Prop} {w : World} {d : Nat} {M : DM} (hO : Own w0 X w d M) (hd : M.down = true) : Calls Tryz.prog 85 #[.pointer (some ⟨d, 0, none⟩)] w (FoundEnd (fun x z _ => x = fd0 ∧ z = 10) w) :=
  (find_down hO hd).mono fun _ _ ⟨he, hb⟩ => ⟨fd0, 10, he, ⟨rfl, rfl⟩, hb⟩

theorem look_fd {v : Value} {w : World} {k : Int} (h : Calls Tryz.prog 85 #[v] w (FoundEnd (fun x z _ => x = fd0 ∧ z = k) w)) :
    Calls Tryz.prog 36 #[v] w fun e w' => e = .returned (.tuple #[.slice none 0 0, .int .i64 k]) ∧ Below w.heap.size w w' :=
  (look_of (fun _ _ _ _ h _ => h) h).mono fun _ _ ⟨x, z, he, ⟨hx, hz⟩, hb⟩ => ⟨by rw [he, hx, hz]; rfl, hb⟩

theorem torn_fd {v : Value} {w : World} {k : Int} (h : Calls Tryz.prog 85 #[v] w (FoundEnd (fun x z _ => x = fd0 ∧ z = k) w)) :
    Calls Tryz.prog 38 #[v] w fun e w' => e = .returned (.int .i64 0) ∧ Below w.heap.size w w' :=
  (torn_of h).mono fun _ _ ⟨x, z, _, he, ⟨hx, _⟩, hb⟩ => ⟨by rw [he, hx]; rfl, hb⟩

set_option maxRecDepth 100000 in
set_option maxHeartbeats 6400000 in
theorem scanNil_any (p : Option Addr) (n c : Nat) (l : List FI) (w : World) (hl : FIs w p n c l) :
    Calls Tryz.prog 11 #[.slice p n c] w fun e w' => e = .returned (.bool true) ∧ Below w.heap.size w w' := by
  have HF := Lib.hid (fun W (h : Below w.heap.size w W) => files_any 100000 p n c l W (by decide) (by decide) (hl.grow h))
  clear hl
  go_enter Tryz.func11, Tryz.ntmps11
  go_wp2_with fail
  refine (HF.out w (Below.refl _ _)).mono ?_
  rintro e w1 ⟨d, a1, n1, c1, R1, hb1, hE⟩
  have Hb1 := Lib.hid hb1
  clear hb1
  rcases hE with ⟨M, rfl⟩ | ⟨rfl, hY⟩
  · unfold refV
    go_wp2_with fail
    refine (salive_any _).mono ?_
    rintro e w2 ⟨rfl, hb2⟩
    have Hb2 := Lib.hid ((Hb1.out.alloc Hb1.out.size _).trans (hb2.mono (Hb1.out.alloc Hb1.out.size _).size))
    clear hb2
    go_wp2
    go_ret
    exact ⟨rfl, Hb2.out⟩
  · obtain ⟨_, _, hnt, X, hO, _, _⟩ := hY
    unfold refV
    have HA := Lib.hid (fun W (h : Below w1.heap.size w1 W) => own_arm (hO.below h) 1 (by decide) (by decide))
    have Hfl := Lib.hid (show (filesF l (newM 100000) l.length).fs.length < 1000000 by have := hnt.small.files; omega)
    clear hO hnt
    generalize filesF l (newM 100000) l.length = M at *
    go_wp2_with fail
    refine (HA.out _ ((Below.refl _ _).alloc (Nat.le_refl _) _)).mono ?_
    rintro e w2 ⟨⟨v2, rfl⟩, hO2, _, _, _⟩
    have HC := Lib.hid (own_create hO2 [120] (by decide) Hfl.out)
    clear hO2
    go_wp2_with fail
    refine HC.out.mono ?_
    rintro e w3 ⟨rfl, hO3, _, _, _⟩
    have hd := armed_down [120] M
    generalize createM [120] (armM 1 M) = r at *
    have Hb3 := Lib.hid hO3.base
    have HD := Lib.hid (fun W (h : Below w3.heap.size w3 W) => found_down (hO3.below h) hd)
    clear hO3 hd
    go_wp2_with fail
    refine (look_fd (found_nil _)).mono ?_
    rintro e w4 ⟨rfl, hb4⟩
    have Hb4 := Lib.hid hb4
    clear hb4
    go_wp2_with fail
    refine (sopen_code (z0 := 1) (by decide) (fun _ _ _ h => h.2) (found_nil _)).mono ?_
    rintro e w5 ⟨rfl, hb5⟩
    have Hb5 := Lib.hid (Hb4.out.trans (hb5.mono Hb4.out.size))
    clear hb5
    go_wp2_with fail
    refine (look_fd (HD.out _ Hb5.out)).mono ?_
    rintro e w6 ⟨rfl, hb6⟩
    have Hb6 := Lib.hid (Hb5.out.trans (hb6.mono Hb5.out.size))
    clear hb6
    go_wp2_with fail
    refine (sopen_code (z0 := 10) (by decide) (fun _ _ _ h => h.2) (HD.out _ Hb6.out)).mono ?_
    rintro e w7 ⟨rfl, hb7⟩
    have Hb7 := Lib.hid (Hb6.out.trans (hb7.mono Hb6.out.size))
    clear hb7
    go_wp2_with fail
    refine (salive_any _).mono ?_
    rintro e w8 ⟨rfl, hb8⟩
    have Hb8 := Lib.hid (Hb7.out.trans (hb8.mono Hb7.out.size))
    clear hb8
    go_wp2_with fail
    refine (torn_fd (found_nil _)).mono ?_
    rintro e w9 ⟨rfl, hb9⟩
    have Hb9 := Lib.hid (Hb8.out.trans (hb9.mono Hb8.out.size))
    clear hb9
    go_wp2_with fail
    refine (torn_fd (HD.out _ Hb9.out)).mono ?_
    rintro e w10 ⟨rfl, hb10⟩
    have Hb10 := Lib.hid (Hb9.out.trans (hb10.mono Hb9.out.size))
    clear hb10
    go_wp2
    go_ret
    exact ⟨rfl, Hb3.out.trans (Hb10.out.mono Hb3.out.size)⟩
end Go.Proofs.YtehjgkkcpiblcaaGreat
