import Derived.Test.YtcapbaocchaenaaGreatDoorSF8
/- The walk of the reference's right and Valid. -/
namespace Go.Proofs.YtcapbaocchaenaaGreatDoor
open Go.RowKit Fl

set_option maxRecDepth 100000 in
set_option maxHeartbeats 6400000 in
theorem right_zero (v : V) (x : Array Value) (w : World) (h : VIn w v x) :
    Calls Tryz.prog 106 #[.agg x, .int .i64 0] w fun e w' => e = .returned (.bool (rightN 0 v)) ∧ Below w.heap.size w w' := by
  obtain ⟨k, n, f, s, l⟩ := v
  obtain ⟨hk, hn, hf, hs, hss, a, cap, rfl, hcap, hmax, _⟩ := h.parts
  change VIn w (V.mk k n f s l) (cells5 k n f s a l.length cap) at h
  change l.length ≤ cap at hcap
  change f < 18446744073709551616 at hf
  have HB := Lib.hid (fun w => rbits_any f w hf)
  have hb := (Below.refl w.heap.size w).alloc (Nat.le_refl _) (.cells (cells5 k n f s a l.length cap) 43)
  have Hb := Lib.hid hb
  have HV := Lib.hid (h.below hb)
  have hc4 : (w.alloc (.cells #[.int .i64 k, .int .i64 n, .float .f64 f, .string (str s), .slice a l.length cap] 43)).cell? ⟨w.heap.size, 4, none⟩ = some (.slice a l.length cap) := box_cell w (cells5 k n f s a l.length cap) 43 4
  have hc0 : (w.alloc (.cells #[.int .i64 k, .int .i64 n, .float .f64 f, .string (str s), .slice a l.length cap] 43)).cell? ⟨w.heap.size, 0, none⟩ = some (.int .i64 k) := box_cell w (cells5 k n f s a l.length cap) 43 0
  clear h hn hf hs hss
  change Calls _ _ #[.agg #[.int .i64 k, .int .i64 n, .float .f64 f, .string (str s), .slice a l.length cap], _] _ _
  by_cases hkk1 : k = 1
  · have hkk := hkk1
    clear hkk1
    have hk2 : ¬ k = 2 := by omega
    have hk3 : ¬ k = 3 := by omega
    have hk4 : ¬ k = 4 := by omega
    by_cases q2 : bitsB f = 0
    · have df : (((bitsB f : Nat) : Int) != 0) = false := by rw [q2]; rfl
      by_cases q3 : s = []
      · have ds : (str s).toList.isEmpty = true := by
          rw [str_list, q3]; rfl
        by_cases q4 : l = []
        · have hlp : ¬ 0 < l.length := by
            rw [q4]; simp
          have dl : decide (0 < l.length) = false := decide_eq_false hlp
          have hfo : FieldsOk (V.mk k n f s l) := ⟨.inl hkk, .inr q2, .inr q3, .inr q4⟩
          have Hf := Lib.hid (rightN_plain (t := 0) hfo hk4 (show 0 ≤ k ∧ k ≤ 4 by omega))
          generalize bitsB f = bf at *
          clear hfo
          subst hkk
          try clear q1
          try clear q2
          try clear q3
          try clear q4
          try clear hk1
          try clear hk2
          try clear hk3
          try clear hk4
          try clear hkk1
          try clear hkk2
          try clear hkk3
          try clear hkk4
          go_enter Tryz.func106, Tryz.ntmps106
          go_wp2_with ((with_reducible refine (HB.out _).mono ?_); rintro e w' ⟨rfl, rfl⟩)
          refine wp_loop_rounds 1 ?_
          rw [rounds_succ]
          go_wp2
          go_ret
          exact ⟨ret_bool Hf.out.symm, hb⟩
        · have hlp : 0 < l.length := by
            cases l with | nil => exact absurd rfl q4 | cons _ _ => simp
          have dl : decide (0 < l.length) = true := decide_eq_true hlp
          have Hf := Lib.hid (rightN_fields (t := 0) (v := V.mk k n f s l) (fun h => (h.2.2.2).elim (fun e => hk4 e) q4))
          generalize bitsB f = bf at *
          subst hkk
          try clear q1
          try clear q2
          try clear q3
          try clear q4
          try clear hk1
          try clear hk2
          try clear hk3
          try clear hk4
          try clear hkk1
          try clear hkk2
          try clear hkk3
          try clear hkk4
          go_enter Tryz.func106, Tryz.ntmps106
          go_wp2_with ((with_reducible refine (HB.out _).mono ?_); rintro e w' ⟨rfl, rfl⟩)
          go_ret
          exact ⟨ret_bool Hf.out.symm, hb⟩
      · have ds : (str s).toList.isEmpty = false := by
          rw [str_list, List.isEmpty_eq_false_iff]
          simpa using q3
        have Hf := Lib.hid (rightN_fields (t := 0) (v := V.mk k n f s l) (fun h => (h.2.2.1).elim (fun e => hk3 e) q3))
        generalize bitsB f = bf at *
        subst hkk
        try clear q1
        try clear q2
        try clear q3
        try clear q4
        try clear hk1
        try clear hk2
        try clear hk3
        try clear hk4
        try clear hkk1
        try clear hkk2
        try clear hkk3
        try clear hkk4
        go_enter Tryz.func106, Tryz.ntmps106
        go_wp2_with ((with_reducible refine (HB.out _).mono ?_); rintro e w' ⟨rfl, rfl⟩)
        go_ret
        exact ⟨ret_bool Hf.out.symm, hb⟩
    · have df : (((bitsB f : Nat) : Int) != 0) = true := by rw [bne_iff_ne]; omega
      have Hf := Lib.hid (rightN_fields (t := 0) (v := V.mk k n f s l) (fun h => (h.2.1).elim (fun e => hk2 e) q2))
      generalize bitsB f = bf at *
      subst hkk
      try clear q1
      try clear q2
      try clear q3
      try clear q4
      try clear hk1
      try clear hk2
      try clear hk3
      try clear hk4
      try clear hkk1
      try clear hkk2
      try clear hkk3
      try clear hkk4
      go_enter Tryz.func106, Tryz.ntmps106
      go_wp2_with ((with_reducible refine (HB.out _).mono ?_); rintro e w' ⟨rfl, rfl⟩)
      go_ret
      exact ⟨ret_bool Hf.out.symm, hb⟩
  by_cases hkk2 : k = 2
  · have hkk := hkk2
    clear hkk2
    have hk1 : ¬ k = 1 := by omega
    have hk3 : ¬ k = 3 := by omega
    have hk4 : ¬ k = 4 := by omega
    by_cases q1 : n = 0
    · have dn : (n != 0) = false := by rw [q1]; rfl
      by_cases q3 : s = []
      · have ds : (str s).toList.isEmpty = true := by
          rw [str_list, q3]; rfl
        by_cases q4 : l = []
        · have hlp : ¬ 0 < l.length := by
            rw [q4]; simp
          have dl : decide (0 < l.length) = false := decide_eq_false hlp
          have hfo : FieldsOk (V.mk k n f s l) := ⟨.inr q1, .inl hkk, .inr q3, .inr q4⟩
          have Hf := Lib.hid (rightN_plain (t := 0) hfo hk4 (show 0 ≤ k ∧ k ≤ 4 by omega))
          generalize bitsB f = bf at *
          clear hfo
          subst hkk
          try clear q1
          try clear q2
          try clear q3
          try clear q4
          try clear hk1
          try clear hk2
          try clear hk3
          try clear hk4
          try clear hkk1
          try clear hkk2
          try clear hkk3
          try clear hkk4
          go_enter Tryz.func106, Tryz.ntmps106
          go_wp2_with ((with_reducible refine (HB.out _).mono ?_); rintro e w' ⟨rfl, rfl⟩)
          refine wp_loop_rounds 1 ?_
          rw [rounds_succ]
          go_wp2
          go_ret
          exact ⟨ret_bool Hf.out.symm, hb⟩
        · have hlp : 0 < l.length := by
            cases l with | nil => exact absurd rfl q4 | cons _ _ => simp
          have dl : decide (0 < l.length) = true := decide_eq_true hlp
          have Hf := Lib.hid (rightN_fields (t := 0) (v := V.mk k n f s l) (fun h => (h.2.2.2).elim (fun e => hk4 e) q4))
          generalize bitsB f = bf at *
          subst hkk
          try clear q1
          try clear q2
          try clear q3
          try clear q4
          try clear hk1
          try clear hk2
          try clear hk3
          try clear hk4
          try clear hkk1
          try clear hkk2
          try clear hkk3
          try clear hkk4
          go_enter Tryz.func106, Tryz.ntmps106
          go_wp2_with ((with_reducible refine (HB.out _).mono ?_); rintro e w' ⟨rfl, rfl⟩)
          go_ret
          exact ⟨ret_bool Hf.out.symm, hb⟩
      · have ds : (str s).toList.isEmpty = false := by
          rw [str_list, List.isEmpty_eq_false_iff]
          simpa using q3
        have Hf := Lib.hid (rightN_fields (t := 0) (v := V.mk k n f s l) (fun h => (h.2.2.1).elim (fun e => hk3 e) q3))
        generalize bitsB f = bf at *
        subst hkk
        try clear q1
        try clear q2
        try clear q3
        try clear q4
        try clear hk1
        try clear hk2
        try clear hk3
        try clear hk4
        try clear hkk1
        try clear hkk2
        try clear hkk3
        try clear hkk4
        go_enter Tryz.func106, Tryz.ntmps106
        go_wp2_with ((with_reducible refine (HB.out _).mono ?_); rintro e w' ⟨rfl, rfl⟩)
        go_ret
        exact ⟨ret_bool Hf.out.symm, hb⟩
    · have dn : (n != 0) = true := bne_iff_ne.2 q1
      have Hf := Lib.hid (rightN_fields (t := 0) (v := V.mk k n f s l) (fun h => (h.1).elim (fun e => hk1 e) q1))
      generalize bitsB f = bf at *
      subst hkk
      try clear q1
      try clear q2
      try clear q3
      try clear q4
      try clear hk1
      try clear hk2
      try clear hk3
      try clear hk4
      try clear hkk1
      try clear hkk2
      try clear hkk3
      try clear hkk4
      go_enter Tryz.func106, Tryz.ntmps106
      go_wp2_with ((with_reducible refine (HB.out _).mono ?_); rintro e w' ⟨rfl, rfl⟩)
      go_ret
      exact ⟨ret_bool Hf.out.symm, hb⟩
  by_cases hkk3 : k = 3
  · have hkk := hkk3
    clear hkk3
    have hk1 : ¬ k = 1 := by omega
    have hk2 : ¬ k = 2 := by omega
    have hk4 : ¬ k = 4 := by omega
    by_cases q1 : n = 0
    · have dn : (n != 0) = false := by rw [q1]; rfl
      by_cases q2 : bitsB f = 0
      · have df : (((bitsB f : Nat) : Int) != 0) = false := by rw [q2]; rfl
        by_cases q4 : l = []
        · have hlp : ¬ 0 < l.length := by
            rw [q4]; simp
          have dl : decide (0 < l.length) = false := decide_eq_false hlp
          have hfo : FieldsOk (V.mk k n f s l) := ⟨.inr q1, .inr q2, .inl hkk, .inr q4⟩
          have Hf := Lib.hid (rightN_plain (t := 0) hfo hk4 (show 0 ≤ k ∧ k ≤ 4 by omega))
          generalize bitsB f = bf at *
          clear hfo
          subst hkk
          try clear q1
          try clear q2
          try clear q3
          try clear q4
          try clear hk1
          try clear hk2
          try clear hk3
          try clear hk4
          try clear hkk1
          try clear hkk2
          try clear hkk3
          try clear hkk4
          go_enter Tryz.func106, Tryz.ntmps106
          go_wp2_with ((with_reducible refine (HB.out _).mono ?_); rintro e w' ⟨rfl, rfl⟩)
          refine wp_loop_rounds 1 ?_
          rw [rounds_succ]
          go_wp2
          go_ret
          exact ⟨ret_bool Hf.out.symm, hb⟩
        · have hlp : 0 < l.length := by
            cases l with | nil => exact absurd rfl q4 | cons _ _ => simp
          have dl : decide (0 < l.length) = true := decide_eq_true hlp
          have Hf := Lib.hid (rightN_fields (t := 0) (v := V.mk k n f s l) (fun h => (h.2.2.2).elim (fun e => hk4 e) q4))
          generalize bitsB f = bf at *
          subst hkk
          try clear q1
          try clear q2
          try clear q3
          try clear q4
          try clear hk1
          try clear hk2
          try clear hk3
          try clear hk4
          try clear hkk1
          try clear hkk2
          try clear hkk3
          try clear hkk4
          go_enter Tryz.func106, Tryz.ntmps106
          go_wp2_with ((with_reducible refine (HB.out _).mono ?_); rintro e w' ⟨rfl, rfl⟩)
          go_ret
          exact ⟨ret_bool Hf.out.symm, hb⟩
      · have df : (((bitsB f : Nat) : Int) != 0) = true := by rw [bne_iff_ne]; omega
        have Hf := Lib.hid (rightN_fields (t := 0) (v := V.mk k n f s l) (fun h => (h.2.1).elim (fun e => hk2 e) q2))
        generalize bitsB f = bf at *
        subst hkk
        try clear q1
        try clear q2
        try clear q3
        try clear q4
        try clear hk1
        try clear hk2
        try clear hk3
        try clear hk4
        try clear hkk1
        try clear hkk2
        try clear hkk3
        try clear hkk4
        go_enter Tryz.func106, Tryz.ntmps106
        go_wp2_with ((with_reducible refine (HB.out _).mono ?_); rintro e w' ⟨rfl, rfl⟩)
        go_ret
        exact ⟨ret_bool Hf.out.symm, hb⟩
    · have dn : (n != 0) = true := bne_iff_ne.2 q1
      have Hf := Lib.hid (rightN_fields (t := 0) (v := V.mk k n f s l) (fun h => (h.1).elim (fun e => hk1 e) q1))
      generalize bitsB f = bf at *
      subst hkk
      try clear q1
      try clear q2
      try clear q3
      try clear q4
      try clear hk1
      try clear hk2
      try clear hk3
      try clear hk4
      try clear hkk1
      try clear hkk2
      try clear hkk3
      try clear hkk4
      go_enter Tryz.func106, Tryz.ntmps106
      go_wp2_with ((with_reducible refine (HB.out _).mono ?_); rintro e w' ⟨rfl, rfl⟩)
      go_ret
      exact ⟨ret_bool Hf.out.symm, hb⟩
  by_cases hkk4 : k = 4
  · have hkk := hkk4
    clear hkk4
    have hk1 : ¬ k = 1 := by omega
    have hk2 : ¬ k = 2 := by omega
    have hk3 : ¬ k = 3 := by omega
    by_cases q1 : n = 0
    · have dn : (n != 0) = false := by rw [q1]; rfl
      by_cases q2 : bitsB f = 0
      · have df : (((bitsB f : Nat) : Int) != 0) = false := by rw [q2]; rfl
        by_cases q3 : s = []
        · have ds : (str s).toList.isEmpty = true := by
            rw [str_list, q3]; rfl
          have Hf := Lib.hid (show rightN 0 (V.mk k n f s l) = false from by unfold rightN; rw [decide_eq_false (show ¬ (V.mk k n f s l).kind ≠ 4 from fun h => h hkk), Bool.and_false, Bool.false_and])
          generalize bitsB f = bf at *
          subst hkk
          try clear q1
          try clear q2
          try clear q3
          try clear q4
          try clear hk1
          try clear hk2
          try clear hk3
          try clear hk4
          try clear hkk1
          try clear hkk2
          try clear hkk3
          try clear hkk4
          go_enter Tryz.func106, Tryz.ntmps106
          go_wp2_with ((with_reducible refine (HB.out _).mono ?_); rintro e w' ⟨rfl, rfl⟩)
          go_ret
          exact ⟨ret_bool Hf.out.symm, hb⟩
        · have ds : (str s).toList.isEmpty = false := by
            rw [str_list, List.isEmpty_eq_false_iff]
            simpa using q3
          have Hf := Lib.hid (rightN_fields (t := 0) (v := V.mk k n f s l) (fun h => (h.2.2.1).elim (fun e => hk3 e) q3))
          generalize bitsB f = bf at *
          subst hkk
          try clear q1
          try clear q2
          try clear q3
          try clear q4
          try clear hk1
          try clear hk2
          try clear hk3
          try clear hk4
          try clear hkk1
          try clear hkk2
          try clear hkk3
          try clear hkk4
          go_enter Tryz.func106, Tryz.ntmps106
          go_wp2_with ((with_reducible refine (HB.out _).mono ?_); rintro e w' ⟨rfl, rfl⟩)
          go_ret
          exact ⟨ret_bool Hf.out.symm, hb⟩
      · have df : (((bitsB f : Nat) : Int) != 0) = true := by rw [bne_iff_ne]; omega
        have Hf := Lib.hid (rightN_fields (t := 0) (v := V.mk k n f s l) (fun h => (h.2.1).elim (fun e => hk2 e) q2))
        generalize bitsB f = bf at *
        subst hkk
        try clear q1
        try clear q2
        try clear q3
        try clear q4
        try clear hk1
        try clear hk2
        try clear hk3
        try clear hk4
        try clear hkk1
        try clear hkk2
        try clear hkk3
        try clear hkk4
        go_enter Tryz.func106, Tryz.ntmps106
        go_wp2_with ((with_reducible refine (HB.out _).mono ?_); rintro e w' ⟨rfl, rfl⟩)
        go_ret
        exact ⟨ret_bool Hf.out.symm, hb⟩
    · have dn : (n != 0) = true := bne_iff_ne.2 q1
      have Hf := Lib.hid (rightN_fields (t := 0) (v := V.mk k n f s l) (fun h => (h.1).elim (fun e => hk1 e) q1))
      generalize bitsB f = bf at *
      subst hkk
      try clear q1
      try clear q2
      try clear q3
      try clear q4
      try clear hk1
      try clear hk2
      try clear hk3
      try clear hk4
      try clear hkk1
      try clear hkk2
      try clear hkk3
      try clear hkk4
      go_enter Tryz.func106, Tryz.ntmps106
      go_wp2_with ((with_reducible refine (HB.out _).mono ?_); rintro e w' ⟨rfl, rfl⟩)
      go_ret
      exact ⟨ret_bool Hf.out.symm, hb⟩
  have hk1 : ¬ k = 1 := hkk1
  have hk2 : ¬ k = 2 := hkk2
  have hk3 : ¬ k = 3 := hkk3
  have hk4 : ¬ k = 4 := hkk4
  have e1 : (k != 1) = true := bne_iff_ne.2 hk1
  have e2 : (k != 2) = true := bne_iff_ne.2 hk2
  have e3 : (k != 3) = true := bne_iff_ne.2 hk3
  have e4 : (k != 4) = true := bne_iff_ne.2 hk4
  have e5 : (k == 4) = false := beq_eq_false_iff_ne.2 hk4
  by_cases q1 : n = 0
  · have dn : (n != 0) = false := by rw [q1]; rfl
    by_cases q2 : bitsB f = 0
    · have df : (((bitsB f : Nat) : Int) != 0) = false := by rw [q2]; rfl
      by_cases q3 : s = []
      · have ds : (str s).toList.isEmpty = true := by
          rw [str_list, q3]; rfl
        by_cases q4 : l = []
        · have hlp : ¬ 0 < l.length := by
            rw [q4]; simp
          have dl : decide (0 < l.length) = false := decide_eq_false hlp
          have hfo : FieldsOk (V.mk k n f s l) := ⟨.inr q1, .inr q2, .inr q3, .inr q4⟩
          by_cases hz : k = 0
          · have Hf := Lib.hid (rightN_plain (t := 0) hfo hk4 (show 0 ≤ k ∧ k ≤ 4 by omega))
            generalize bitsB f = bf at *
            clear hfo
            subst hz
            try clear q1
            try clear q2
            try clear q3
            try clear q4
            try clear hk1
            try clear hk2
            try clear hk3
            try clear hk4
            try clear hkk1
            try clear hkk2
            try clear hkk3
            try clear hkk4
            go_enter Tryz.func106, Tryz.ntmps106
            go_wp2_with ((with_reducible refine (HB.out _).mono ?_); rintro e w' ⟨rfl, rfl⟩)
            refine wp_loop_rounds 1 ?_
            rw [rounds_succ]
            go_wp2
            go_ret
            exact ⟨ret_bool Hf.out.symm, hb⟩
          · have Hf := Lib.hid (rightN_kind (t := 0) (v := V.mk k n f s l) (show ¬ (0 ≤ k ∧ k ≤ 4) by omega))
            have e1 : (k != 1) = true := bne_iff_ne.2 hk1
            have e2 : (k != 2) = true := bne_iff_ne.2 hk2
            have e3 : (k != 3) = true := bne_iff_ne.2 hk3
            have e4 : (k != 4) = true := bne_iff_ne.2 hk4
            have e5 : (k == 4) = false := beq_eq_false_iff_ne.2 hk4
            generalize bitsB f = bf at *
            clear hfo
            rcases (show k < 0 ∨ 4 < k by omega) with hr | hr
            · have e6 : decide (0 ≤ k) = false := decide_eq_false (by omega)
              try clear q1
              try clear q2
              try clear q3
              try clear q4
              try clear hk1
              try clear hk2
              try clear hk3
              try clear hk4
              try clear hkk1
              try clear hkk2
              try clear hkk3
              try clear hkk4
              go_enter Tryz.func106, Tryz.ntmps106
              go_wp2_with ((with_reducible refine (HB.out _).mono ?_); rintro e w' ⟨rfl, rfl⟩)
              refine wp_loop_rounds 1 ?_
              rw [rounds_succ]
              go_wp2
              go_ret
              exact ⟨ret_bool Hf.out.symm, hb⟩
            · have e6 : decide (0 ≤ k) = true := decide_eq_true (by omega)
              have e7 : decide (k ≤ 4) = false := decide_eq_false (by omega)
              try clear q1
              try clear q2
              try clear q3
              try clear q4
              try clear hk1
              try clear hk2
              try clear hk3
              try clear hk4
              try clear hkk1
              try clear hkk2
              try clear hkk3
              try clear hkk4
              go_enter Tryz.func106, Tryz.ntmps106
              go_wp2_with ((with_reducible refine (HB.out _).mono ?_); rintro e w' ⟨rfl, rfl⟩)
              refine wp_loop_rounds 1 ?_
              rw [rounds_succ]
              go_wp2
              go_ret
              exact ⟨ret_bool Hf.out.symm, hb⟩
        · have hlp : 0 < l.length := by
            cases l with | nil => exact absurd rfl q4 | cons _ _ => simp
          have dl : decide (0 < l.length) = true := decide_eq_true hlp
          have Hf := Lib.hid (rightN_fields (t := 0) (v := V.mk k n f s l) (fun h => (h.2.2.2).elim (fun e => hk4 e) q4))
          generalize bitsB f = bf at *
          try clear q1
          try clear q2
          try clear q3
          try clear q4
          try clear hk1
          try clear hk2
          try clear hk3
          try clear hk4
          try clear hkk1
          try clear hkk2
          try clear hkk3
          try clear hkk4
          go_enter Tryz.func106, Tryz.ntmps106
          go_wp2_with ((with_reducible refine (HB.out _).mono ?_); rintro e w' ⟨rfl, rfl⟩)
          go_ret
          exact ⟨ret_bool Hf.out.symm, hb⟩
      · have ds : (str s).toList.isEmpty = false := by
          rw [str_list, List.isEmpty_eq_false_iff]
          simpa using q3
        have Hf := Lib.hid (rightN_fields (t := 0) (v := V.mk k n f s l) (fun h => (h.2.2.1).elim (fun e => hk3 e) q3))
        generalize bitsB f = bf at *
        try clear q1
        try clear q2
        try clear q3
        try clear q4
        try clear hk1
        try clear hk2
        try clear hk3
        try clear hk4
        try clear hkk1
        try clear hkk2
        try clear hkk3
        try clear hkk4
        go_enter Tryz.func106, Tryz.ntmps106
        go_wp2_with ((with_reducible refine (HB.out _).mono ?_); rintro e w' ⟨rfl, rfl⟩)
        go_ret
        exact ⟨ret_bool Hf.out.symm, hb⟩
    · have df : (((bitsB f : Nat) : Int) != 0) = true := by rw [bne_iff_ne]; omega
      have Hf := Lib.hid (rightN_fields (t := 0) (v := V.mk k n f s l) (fun h => (h.2.1).elim (fun e => hk2 e) q2))
      generalize bitsB f = bf at *
      try clear q1
      try clear q2
      try clear q3
      try clear q4
      try clear hk1
      try clear hk2
      try clear hk3
      try clear hk4
      try clear hkk1
      try clear hkk2
      try clear hkk3
      try clear hkk4
      go_enter Tryz.func106, Tryz.ntmps106
      go_wp2_with ((with_reducible refine (HB.out _).mono ?_); rintro e w' ⟨rfl, rfl⟩)
      go_ret
      exact ⟨ret_bool Hf.out.symm, hb⟩
  · have dn : (n != 0) = true := bne_iff_ne.2 q1
    have Hf := Lib.hid (rightN_fields (t := 0) (v := V.mk k n f s l) (fun h => (h.1).elim (fun e => hk1 e) q1))
    generalize bitsB f = bf at *
    try clear q1
    try clear q2
    try clear q3
    try clear q4
    try clear hk1
    try clear hk2
    try clear hk3
    try clear hk4
    try clear hkk1
    try clear hkk2
    try clear hkk3
    try clear hkk4
    go_enter Tryz.func106, Tryz.ntmps106
    go_wp2_with ((with_reducible refine (HB.out _).mono ?_); rintro e w' ⟨rfl, rfl⟩)
    go_ret
    exact ⟨ret_bool Hf.out.symm, hb⟩

set_option maxRecDepth 100000 in
set_option maxHeartbeats 6400000 in
theorem right_succ (t : Nat) (ht : t + 1 ≤ 1000) (ih : ∀ (v : V) (x : Array Value) (w : World), VIn w v x → Calls Tryz.prog 106 #[.agg x, .int .i64 (t : Int)] w fun e w' => e = .returned (.bool (rightN t v)) ∧ Below w.heap.size w w') (v : V) (x : Array Value) (w : World) (h : VIn w v x) :
    Calls Tryz.prog 106 #[.agg x, .int .i64 ((t + 1 : Nat) : Int)] w fun e w' => e = .returned (.bool (rightN (t + 1) v)) ∧ Below w.heap.size w w' := by
  have IH := Lib.hid ih
  obtain ⟨T, hT⟩ : ∃ T : Int, T = ((t + 1 : Nat) : Int) := ⟨_, rfl⟩
  have hT0 : (T == 0) = false := beq_eq_false_iff_ne.2 (by omega)
  have hT1 : T - 1 = (t : Int) := by omega
  have hT2 : 0 < T ∧ T ≤ 1000 := by omega
  rw [← hT]
  clear hT ih
  obtain ⟨k, n, f, s, l⟩ := v
  obtain ⟨hk, hn, hf, hs, hss, a, cap, rfl, hcap, hmax, _⟩ := h.parts
  change VIn w (V.mk k n f s l) (cells5 k n f s a l.length cap) at h
  change l.length ≤ cap at hcap
  change f < 18446744073709551616 at hf
  have HB := Lib.hid (fun w => rbits_any f w hf)
  have hb := (Below.refl w.heap.size w).alloc (Nat.le_refl _) (.cells (cells5 k n f s a l.length cap) 43)
  have Hb := Lib.hid hb
  have HV := Lib.hid (h.below hb)
  have hc4 : (w.alloc (.cells #[.int .i64 k, .int .i64 n, .float .f64 f, .string (str s), .slice a l.length cap] 43)).cell? ⟨w.heap.size, 4, none⟩ = some (.slice a l.length cap) := box_cell w (cells5 k n f s a l.length cap) 43 4
  have hc0 : (w.alloc (.cells #[.int .i64 k, .int .i64 n, .float .f64 f, .string (str s), .slice a l.length cap] 43)).cell? ⟨w.heap.size, 0, none⟩ = some (.int .i64 k) := box_cell w (cells5 k n f s a l.length cap) 43 0
  clear h hn hf hs hss
  change Calls _ _ #[.agg #[.int .i64 k, .int .i64 n, .float .f64 f, .string (str s), .slice a l.length cap], _] _ _
  by_cases hkk1 : k = 1
  · have hkk := hkk1
    clear hkk1
    have hk2 : ¬ k = 2 := by omega
    have hk3 : ¬ k = 3 := by omega
    have hk4 : ¬ k = 4 := by omega
    by_cases q2 : bitsB f = 0
    · have df : (((bitsB f : Nat) : Int) != 0) = false := by rw [q2]; rfl
      by_cases q3 : s = []
      · have ds : (str s).toList.isEmpty = true := by
          rw [str_list, q3]; rfl
        by_cases q4 : l = []
        · have hlp : ¬ 0 < l.length := by
            rw [q4]; simp
          have dl : decide (0 < l.length) = false := decide_eq_false hlp
          have hfo : FieldsOk (V.mk k n f s l) := ⟨.inl hkk, .inr q2, .inr q3, .inr q4⟩
          have Hf := Lib.hid (rightN_plain (t := t + 1) hfo hk4 (show 0 ≤ k ∧ k ≤ 4 by omega))
          generalize bitsB f = bf at *
          clear hfo
          subst hkk
          try clear q1
          try clear q2
          try clear q3
          try clear q4
          try clear hk1
          try clear hk2
          try clear hk3
          try clear hk4
          try clear hkk1
          try clear hkk2
          try clear hkk3
          try clear hkk4
          go_enter Tryz.func106, Tryz.ntmps106
          go_wp2_with ((with_reducible refine (HB.out _).mono ?_); rintro e w' ⟨rfl, rfl⟩)
          refine wp_loop_rounds 1 ?_
          rw [rounds_succ]
          go_wp2
          go_ret
          exact ⟨ret_bool Hf.out.symm, hb⟩
        · have hlp : 0 < l.length := by
            cases l with | nil => exact absurd rfl q4 | cons _ _ => simp
          have dl : decide (0 < l.length) = true := decide_eq_true hlp
          have Hf := Lib.hid (rightN_fields (t := t + 1) (v := V.mk k n f s l) (fun h => (h.2.2.2).elim (fun e => hk4 e) q4))
          generalize bitsB f = bf at *
          subst hkk
          try clear q1
          try clear q2
          try clear q3
          try clear q4
          try clear hk1
          try clear hk2
          try clear hk3
          try clear hk4
          try clear hkk1
          try clear hkk2
          try clear hkk3
          try clear hkk4
          go_enter Tryz.func106, Tryz.ntmps106
          go_wp2_with ((with_reducible refine (HB.out _).mono ?_); rintro e w' ⟨rfl, rfl⟩)
          go_ret
          exact ⟨ret_bool Hf.out.symm, hb⟩
      · have ds : (str s).toList.isEmpty = false := by
          rw [str_list, List.isEmpty_eq_false_iff]
          simpa using q3
        have Hf := Lib.hid (rightN_fields (t := t + 1) (v := V.mk k n f s l) (fun h => (h.2.2.1).elim (fun e => hk3 e) q3))
        generalize bitsB f = bf at *
        subst hkk
        try clear q1
        try clear q2
        try clear q3
        try clear q4
        try clear hk1
        try clear hk2
        try clear hk3
        try clear hk4
        try clear hkk1
        try clear hkk2
        try clear hkk3
        try clear hkk4
        go_enter Tryz.func106, Tryz.ntmps106
        go_wp2_with ((with_reducible refine (HB.out _).mono ?_); rintro e w' ⟨rfl, rfl⟩)
        go_ret
        exact ⟨ret_bool Hf.out.symm, hb⟩
    · have df : (((bitsB f : Nat) : Int) != 0) = true := by rw [bne_iff_ne]; omega
      have Hf := Lib.hid (rightN_fields (t := t + 1) (v := V.mk k n f s l) (fun h => (h.2.1).elim (fun e => hk2 e) q2))
      generalize bitsB f = bf at *
      subst hkk
      try clear q1
      try clear q2
      try clear q3
      try clear q4
      try clear hk1
      try clear hk2
      try clear hk3
      try clear hk4
      try clear hkk1
      try clear hkk2
      try clear hkk3
      try clear hkk4
      go_enter Tryz.func106, Tryz.ntmps106
      go_wp2_with ((with_reducible refine (HB.out _).mono ?_); rintro e w' ⟨rfl, rfl⟩)
      go_ret
      exact ⟨ret_bool Hf.out.symm, hb⟩
  by_cases hkk2 : k = 2
  · have hkk := hkk2
    clear hkk2
    have hk1 : ¬ k = 1 := by omega
    have hk3 : ¬ k = 3 := by omega
    have hk4 : ¬ k = 4 := by omega
    by_cases q1 : n = 0
    · have dn : (n != 0) = false := by rw [q1]; rfl
      by_cases q3 : s = []
      · have ds : (str s).toList.isEmpty = true := by
          rw [str_list, q3]; rfl
        by_cases q4 : l = []
        · have hlp : ¬ 0 < l.length := by
            rw [q4]; simp
          have dl : decide (0 < l.length) = false := decide_eq_false hlp
          have hfo : FieldsOk (V.mk k n f s l) := ⟨.inr q1, .inl hkk, .inr q3, .inr q4⟩
          have Hf := Lib.hid (rightN_plain (t := t + 1) hfo hk4 (show 0 ≤ k ∧ k ≤ 4 by omega))
          generalize bitsB f = bf at *
          clear hfo
          subst hkk
          try clear q1
          try clear q2
          try clear q3
          try clear q4
          try clear hk1
          try clear hk2
          try clear hk3
          try clear hk4
          try clear hkk1
          try clear hkk2
          try clear hkk3
          try clear hkk4
          go_enter Tryz.func106, Tryz.ntmps106
          go_wp2_with ((with_reducible refine (HB.out _).mono ?_); rintro e w' ⟨rfl, rfl⟩)
          refine wp_loop_rounds 1 ?_
          rw [rounds_succ]
          go_wp2
          go_ret
          exact ⟨ret_bool Hf.out.symm, hb⟩
        · have hlp : 0 < l.length := by
            cases l with | nil => exact absurd rfl q4 | cons _ _ => simp
          have dl : decide (0 < l.length) = true := decide_eq_true hlp
          have Hf := Lib.hid (rightN_fields (t := t + 1) (v := V.mk k n f s l) (fun h => (h.2.2.2).elim (fun e => hk4 e) q4))
          generalize bitsB f = bf at *
          subst hkk
          try clear q1
          try clear q2
          try clear q3
          try clear q4
          try clear hk1
          try clear hk2
          try clear hk3
          try clear hk4
          try clear hkk1
          try clear hkk2
          try clear hkk3
          try clear hkk4
          go_enter Tryz.func106, Tryz.ntmps106
          go_wp2_with ((with_reducible refine (HB.out _).mono ?_); rintro e w' ⟨rfl, rfl⟩)
          go_ret
          exact ⟨ret_bool Hf.out.symm, hb⟩
      · have ds : (str s).toList.isEmpty = false := by
          rw [str_list, List.isEmpty_eq_false_iff]
          simpa using q3
        have Hf := Lib.hid (rightN_fields (t := t + 1) (v := V.mk k n f s l) (fun h => (h.2.2.1).elim (fun e => hk3 e) q3))
        generalize bitsB f = bf at *
        subst hkk
        try clear q1
        try clear q2
        try clear q3
        try clear q4
        try clear hk1
        try clear hk2
        try clear hk3
        try clear hk4
        try clear hkk1
        try clear hkk2
        try clear hkk3
        try clear hkk4
        go_enter Tryz.func106, Tryz.ntmps106
        go_wp2_with ((with_reducible refine (HB.out _).mono ?_); rintro e w' ⟨rfl, rfl⟩)
        go_ret
        exact ⟨ret_bool Hf.out.symm, hb⟩
    · have dn : (n != 0) = true := bne_iff_ne.2 q1
      have Hf := Lib.hid (rightN_fields (t := t + 1) (v := V.mk k n f s l) (fun h => (h.1).elim (fun e => hk1 e) q1))
      generalize bitsB f = bf at *
      subst hkk
      try clear q1
      try clear q2
      try clear q3
      try clear q4
      try clear hk1
      try clear hk2
      try clear hk3
      try clear hk4
      try clear hkk1
      try clear hkk2
      try clear hkk3
      try clear hkk4
      go_enter Tryz.func106, Tryz.ntmps106
      go_wp2_with ((with_reducible refine (HB.out _).mono ?_); rintro e w' ⟨rfl, rfl⟩)
      go_ret
      exact ⟨ret_bool Hf.out.symm, hb⟩
  by_cases hkk3 : k = 3
  · have hkk := hkk3
    clear hkk3
    have hk1 : ¬ k = 1 := by omega
    have hk2 : ¬ k = 2 := by omega
    have hk4 : ¬ k = 4 := by omega
    by_cases q1 : n = 0
    · have dn : (n != 0) = false := by rw [q1]; rfl
      by_cases q2 : bitsB f = 0
      · have df : (((bitsB f : Nat) : Int) != 0) = false := by rw [q2]; rfl
        by_cases q4 : l = []
        · have hlp : ¬ 0 < l.length := by
            rw [q4]; simp
          have dl : decide (0 < l.length) = false := decide_eq_false hlp
          have hfo : FieldsOk (V.mk k n f s l) := ⟨.inr q1, .inr q2, .inl hkk, .inr q4⟩
          have Hf := Lib.hid (rightN_plain (t := t + 1) hfo hk4 (show 0 ≤ k ∧ k ≤ 4 by omega))
          generalize bitsB f = bf at *
          clear hfo
          subst hkk
          try clear q1
          try clear q2
          try clear q3
          try clear q4
          try clear hk1
          try clear hk2
          try clear hk3
          try clear hk4
          try clear hkk1
          try clear hkk2
          try clear hkk3
          try clear hkk4
          go_enter Tryz.func106, Tryz.ntmps106
          go_wp2_with ((with_reducible refine (HB.out _).mono ?_); rintro e w' ⟨rfl, rfl⟩)
          refine wp_loop_rounds 1 ?_
          rw [rounds_succ]
          go_wp2
          go_ret
          exact ⟨ret_bool Hf.out.symm, hb⟩
        · have hlp : 0 < l.length := by
            cases l with | nil => exact absurd rfl q4 | cons _ _ => simp
          have dl : decide (0 < l.length) = true := decide_eq_true hlp
          have Hf := Lib.hid (rightN_fields (t := t + 1) (v := V.mk k n f s l) (fun h => (h.2.2.2).elim (fun e => hk4 e) q4))
          generalize bitsB f = bf at *
          subst hkk
          try clear q1
          try clear q2
          try clear q3
          try clear q4
          try clear hk1
          try clear hk2
          try clear hk3
          try clear hk4
          try clear hkk1
          try clear hkk2
          try clear hkk3
          try clear hkk4
          go_enter Tryz.func106, Tryz.ntmps106
          go_wp2_with ((with_reducible refine (HB.out _).mono ?_); rintro e w' ⟨rfl, rfl⟩)
          go_ret
          exact ⟨ret_bool Hf.out.symm, hb⟩
      · have df : (((bitsB f : Nat) : Int) != 0) = true := by rw [bne_iff_ne]; omega
        have Hf := Lib.hid (rightN_fields (t := t + 1) (v := V.mk k n f s l) (fun h => (h.2.1).elim (fun e => hk2 e) q2))
        generalize bitsB f = bf at *
        subst hkk
        try clear q1
        try clear q2
        try clear q3
        try clear q4
        try clear hk1
        try clear hk2
        try clear hk3
        try clear hk4
        try clear hkk1
        try clear hkk2
        try clear hkk3
        try clear hkk4
        go_enter Tryz.func106, Tryz.ntmps106
        go_wp2_with ((with_reducible refine (HB.out _).mono ?_); rintro e w' ⟨rfl, rfl⟩)
        go_ret
        exact ⟨ret_bool Hf.out.symm, hb⟩
    · have dn : (n != 0) = true := bne_iff_ne.2 q1
      have Hf := Lib.hid (rightN_fields (t := t + 1) (v := V.mk k n f s l) (fun h => (h.1).elim (fun e => hk1 e) q1))
      generalize bitsB f = bf at *
      subst hkk
      try clear q1
      try clear q2
      try clear q3
      try clear q4
      try clear hk1
      try clear hk2
      try clear hk3
      try clear hk4
      try clear hkk1
      try clear hkk2
      try clear hkk3
      try clear hkk4
      go_enter Tryz.func106, Tryz.ntmps106
      go_wp2_with ((with_reducible refine (HB.out _).mono ?_); rintro e w' ⟨rfl, rfl⟩)
      go_ret
      exact ⟨ret_bool Hf.out.symm, hb⟩
  by_cases hkk4 : k = 4
  · have hkk := hkk4
    clear hkk4
    have hk1 : ¬ k = 1 := by omega
    have hk2 : ¬ k = 2 := by omega
    have hk3 : ¬ k = 3 := by omega
    by_cases q1 : n = 0
    · have dn : (n != 0) = false := by rw [q1]; rfl
      by_cases q2 : bitsB f = 0
      · have df : (((bitsB f : Nat) : Int) != 0) = false := by rw [q2]; rfl
        by_cases q3 : s = []
        · have ds : (str s).toList.isEmpty = true := by
            rw [str_list, q3]; rfl
          have hfo : FieldsOk (V.mk k n f s l) := ⟨.inr q1, .inr q2, .inr q3, .inl hkk⟩
          have Hall := Lib.hid (rightN_list (t := t) hfo hkk)
          generalize bitsB f = bf at *
          clear hfo
          subst hkk
          try clear q1
          try clear q2
          try clear q3
          try clear q4
          try clear hk1
          try clear hk2
          try clear hk3
          try clear hk4
          try clear hkk1
          try clear hkk2
          try clear hkk3
          try clear hkk4
          go_enter Tryz.func106, Tryz.ntmps106
          go_wp2_with ((with_reducible refine (HB.out _).mono ?_); rintro e w' ⟨rfl, rfl⟩)
          have hsz : (w.alloc (.cells #[.int .i64 4, .int .i64 n, .float .f64 f, .string (str s), .slice a l.length cap] 43)).heap.size = w.heap.size + 1 := by simp
          generalize w.alloc (.cells #[.int .i64 4, .int .i64 n, .float .f64 f, .string (str s), .slice a l.length cap] 43) = w1 at *
          go_loopw [5] (fun i wr => ∃ j : Nat, j ≤ l.length ∧ i = .int .i64 (j : Int) ∧ (∀ k u, k < j → l[k]? = some u → rightN t u = true) ∧ Below w1.heap.size w1 wr) (fun i _ => l.length - (intOf i).toNat)
          case atStart => exact ⟨0, Nat.zero_le _, rfl, fun k u hk _ => absurd hk (by omega), Below.refl _ _⟩
          case round =>
            obtain ⟨j, hj, rfl, hall, hbr⟩ := hrel
            have hcr : wr.cell? ⟨w.heap.size, 4, none⟩ = some (.slice a l.length cap) := by
              rw [hbr.cell (show w.heap.size < w1.heap.size by omega)]
              exact hc4
            have hcr0 : wr.cell? ⟨w.heap.size, 0, none⟩ = some (.int .i64 4) := by
              rw [hbr.cell (show w.heap.size < w1.heap.size by omega)]
              exact hc0
            have Hal := Lib.hid hall
            have Hbr := Lib.hid hbr
            by_cases hlt : j < l.length
            · obtain ⟨b, o, rfl, hvs⟩ := (HV.out.below hbr).list (by show l ≠ []; intro e; rw [e] at hlt; simp at hlt)
              change VsIn wr l b o at hvs
              obtain ⟨a', cap', hvy, c0, c1, c2, c3, c4⟩ := hvs.elem hlt
              obtain ⟨hget, _⟩ := get_mem hlt
              have HI := Lib.hid (IH.out _ _ wr hvy)
              have Hget := Lib.hid hget
              have Hlt := Lib.hid hlt
              have hji : (j : Int) < (l.length : Int) := by omega
              generalize l[j] = u at *
              clear hall hbr hvs hvy hget hlt
              go_wp2_with fail
              refine HI.out.mono ?_
              rintro e w2 ⟨rfl, hb2⟩
              have Hb2 := Lib.hid hb2
              clear hb2 c0 c1 c2 c3 c4 hcr hcr0 hc4 hc0
              cases hres : rightN t u with
              | false =>
                have Hres := Lib.hid hres
                have hbw : Below w.heap.size w w2 := (Hb.out.trans (Hbr.out.mono (by omega))).trans (Hb2.out.mono (by have := Hbr.out.size; omega))
                have Hf := Lib.hid (show rightN (t + 1) (V.mk 4 n f s l) = false from by
                  rw [Hall.out, List.all_eq_false]
                  exact ⟨u, List.mem_of_getElem? Hget.out, by rw [Hres.out]; simp⟩)
                clear hres
                go_wp2
                go_ret
                exact ⟨ret_bool Hf.out.symm, hbw⟩
              | true =>
                have Hres := Lib.hid hres
                have hbw : Below w1.heap.size w1 w2 := Hbr.out.trans (Hb2.out.mono Hbr.out.size)
                clear hres
                go_wp2
                go_roundw
                case rel =>
                  refine ⟨j + 1, Hlt.out, by go_num, fun k u' hk hu' => ?_, hbw⟩
                  rcases Nat.lt_or_eq_of_le (Nat.le_of_lt_succ hk) with h1 | h1
                  · exact Hal.out k u' h1 hu'
                  · rw [h1, Hget.out] at hu'
                    cases hu'
                    exact Hres.out
                case measure => simp [intOf]; have := Hlt.out; omega
            · have hbw : Below w.heap.size w wr := Hb.out.trans (hbr.mono (by omega))
              have Hf := Lib.hid (show rightN (t + 1) (V.mk 4 n f s l) = true from by
                rw [Hall.out, List.all_eq_true]
                intro u hu
                obtain ⟨k, hk, rfl⟩ := List.getElem_of_mem hu
                exact hall k _ (by show k < j; have : k < l.length := hk; omega) (List.getElem?_eq_getElem hk))
              have hji : ¬ ((j : Int) < (l.length : Int)) := by omega
              clear hall hbr hlt
              go_wp2
              go_ret
              exact ⟨ret_bool Hf.out.symm, hbw⟩
        · have ds : (str s).toList.isEmpty = false := by
            rw [str_list, List.isEmpty_eq_false_iff]
            simpa using q3
          have Hf := Lib.hid (rightN_fields (t := t + 1) (v := V.mk k n f s l) (fun h => (h.2.2.1).elim (fun e => hk3 e) q3))
          generalize bitsB f = bf at *
          subst hkk
          try clear q1
          try clear q2
          try clear q3
          try clear q4
          try clear hk1
          try clear hk2
          try clear hk3
          try clear hk4
          try clear hkk1
          try clear hkk2
          try clear hkk3
          try clear hkk4
          go_enter Tryz.func106, Tryz.ntmps106
          go_wp2_with ((with_reducible refine (HB.out _).mono ?_); rintro e w' ⟨rfl, rfl⟩)
          go_ret
          exact ⟨ret_bool Hf.out.symm, hb⟩
      · have df : (((bitsB f : Nat) : Int) != 0) = true := by rw [bne_iff_ne]; omega
        have Hf := Lib.hid (rightN_fields (t := t + 1) (v := V.mk k n f s l) (fun h => (h.2.1).elim (fun e => hk2 e) q2))
        generalize bitsB f = bf at *
        subst hkk
        try clear q1
        try clear q2
        try clear q3
        try clear q4
        try clear hk1
        try clear hk2
        try clear hk3
        try clear hk4
        try clear hkk1
        try clear hkk2
        try clear hkk3
        try clear hkk4
        go_enter Tryz.func106, Tryz.ntmps106
        go_wp2_with ((with_reducible refine (HB.out _).mono ?_); rintro e w' ⟨rfl, rfl⟩)
        go_ret
        exact ⟨ret_bool Hf.out.symm, hb⟩
    · have dn : (n != 0) = true := bne_iff_ne.2 q1
      have Hf := Lib.hid (rightN_fields (t := t + 1) (v := V.mk k n f s l) (fun h => (h.1).elim (fun e => hk1 e) q1))
      generalize bitsB f = bf at *
      subst hkk
      try clear q1
      try clear q2
      try clear q3
      try clear q4
      try clear hk1
      try clear hk2
      try clear hk3
      try clear hk4
      try clear hkk1
      try clear hkk2
      try clear hkk3
      try clear hkk4
      go_enter Tryz.func106, Tryz.ntmps106
      go_wp2_with ((with_reducible refine (HB.out _).mono ?_); rintro e w' ⟨rfl, rfl⟩)
      go_ret
      exact ⟨ret_bool Hf.out.symm, hb⟩
  have hk1 : ¬ k = 1 := hkk1
  have hk2 : ¬ k = 2 := hkk2
  have hk3 : ¬ k = 3 := hkk3
  have hk4 : ¬ k = 4 := hkk4
  have e1 : (k != 1) = true := bne_iff_ne.2 hk1
  have e2 : (k != 2) = true := bne_iff_ne.2 hk2
  have e3 : (k != 3) = true := bne_iff_ne.2 hk3
  have e4 : (k != 4) = true := bne_iff_ne.2 hk4
  have e5 : (k == 4) = false := beq_eq_false_iff_ne.2 hk4
  by_cases q1 : n = 0
  · have dn : (n != 0) = false := by rw [q1]; rfl
    by_cases q2 : bitsB f = 0
    · have df : (((bitsB f : Nat) : Int) != 0) = false := by rw [q2]; rfl
      by_cases q3 : s = []
      · have ds : (str s).toList.isEmpty = true := by
          rw [str_list, q3]; rfl
        by_cases q4 : l = []
        · have hlp : ¬ 0 < l.length := by
            rw [q4]; simp
          have dl : decide (0 < l.length) = false := decide_eq_false hlp
          have hfo : FieldsOk (V.mk k n f s l) := ⟨.inr q1, .inr q2, .inr q3, .inr q4⟩
          by_cases hz : k = 0
          · have Hf := Lib.hid (rightN_plain (t := t + 1) hfo hk4 (show 0 ≤ k ∧ k ≤ 4 by omega))
            generalize bitsB f = bf at *
            clear hfo
            subst hz
            try clear q1
            try clear q2
            try clear q3
            try clear q4
            try clear hk1
            try clear hk2
            try clear hk3
            try clear hk4
            try clear hkk1
            try clear hkk2
            try clear hkk3
            try clear hkk4
            go_enter Tryz.func106, Tryz.ntmps106
            go_wp2_with ((with_reducible refine (HB.out _).mono ?_); rintro e w' ⟨rfl, rfl⟩)
            refine wp_loop_rounds 1 ?_
            rw [rounds_succ]
            go_wp2
            go_ret
            exact ⟨ret_bool Hf.out.symm, hb⟩
          · have Hf := Lib.hid (rightN_kind (t := t + 1) (v := V.mk k n f s l) (show ¬ (0 ≤ k ∧ k ≤ 4) by omega))
            have e1 : (k != 1) = true := bne_iff_ne.2 hk1
            have e2 : (k != 2) = true := bne_iff_ne.2 hk2
            have e3 : (k != 3) = true := bne_iff_ne.2 hk3
            have e4 : (k != 4) = true := bne_iff_ne.2 hk4
            have e5 : (k == 4) = false := beq_eq_false_iff_ne.2 hk4
            generalize bitsB f = bf at *
            clear hfo
            rcases (show k < 0 ∨ 4 < k by omega) with hr | hr
            · have e6 : decide (0 ≤ k) = false := decide_eq_false (by omega)
              try clear q1
              try clear q2
              try clear q3
              try clear q4
              try clear hk1
              try clear hk2
              try clear hk3
              try clear hk4
              try clear hkk1
              try clear hkk2
              try clear hkk3
              try clear hkk4
              go_enter Tryz.func106, Tryz.ntmps106
              go_wp2_with ((with_reducible refine (HB.out _).mono ?_); rintro e w' ⟨rfl, rfl⟩)
              refine wp_loop_rounds 1 ?_
              rw [rounds_succ]
              go_wp2
              go_ret
              exact ⟨ret_bool Hf.out.symm, hb⟩
            · have e6 : decide (0 ≤ k) = true := decide_eq_true (by omega)
              have e7 : decide (k ≤ 4) = false := decide_eq_false (by omega)
              try clear q1
              try clear q2
              try clear q3
              try clear q4
              try clear hk1
              try clear hk2
              try clear hk3
              try clear hk4
              try clear hkk1
              try clear hkk2
              try clear hkk3
              try clear hkk4
              go_enter Tryz.func106, Tryz.ntmps106
              go_wp2_with ((with_reducible refine (HB.out _).mono ?_); rintro e w' ⟨rfl, rfl⟩)
              refine wp_loop_rounds 1 ?_
              rw [rounds_succ]
              go_wp2
              go_ret
              exact ⟨ret_bool Hf.out.symm, hb⟩
        · have hlp : 0 < l.length := by
            cases l with | nil => exact absurd rfl q4 | cons _ _ => simp
          have dl : decide (0 < l.length) = true := decide_eq_true hlp
          have Hf := Lib.hid (rightN_fields (t := t + 1) (v := V.mk k n f s l) (fun h => (h.2.2.2).elim (fun e => hk4 e) q4))
          generalize bitsB f = bf at *
          try clear q1
          try clear q2
          try clear q3
          try clear q4
          try clear hk1
          try clear hk2
          try clear hk3
          try clear hk4
          try clear hkk1
          try clear hkk2
          try clear hkk3
          try clear hkk4
          go_enter Tryz.func106, Tryz.ntmps106
          go_wp2_with ((with_reducible refine (HB.out _).mono ?_); rintro e w' ⟨rfl, rfl⟩)
          go_ret
          exact ⟨ret_bool Hf.out.symm, hb⟩
      · have ds : (str s).toList.isEmpty = false := by
          rw [str_list, List.isEmpty_eq_false_iff]
          simpa using q3
        have Hf := Lib.hid (rightN_fields (t := t + 1) (v := V.mk k n f s l) (fun h => (h.2.2.1).elim (fun e => hk3 e) q3))
        generalize bitsB f = bf at *
        try clear q1
        try clear q2
        try clear q3
        try clear q4
        try clear hk1
        try clear hk2
        try clear hk3
        try clear hk4
        try clear hkk1
        try clear hkk2
        try clear hkk3
        try clear hkk4
        go_enter Tryz.func106, Tryz.ntmps106
        go_wp2_with ((with_reducible refine (HB.out _).mono ?_); rintro e w' ⟨rfl, rfl⟩)
        go_ret
        exact ⟨ret_bool Hf.out.symm, hb⟩
    · have df : (((bitsB f : Nat) : Int) != 0) = true := by rw [bne_iff_ne]; omega
      have Hf := Lib.hid (rightN_fields (t := t + 1) (v := V.mk k n f s l) (fun h => (h.2.1).elim (fun e => hk2 e) q2))
      generalize bitsB f = bf at *
      try clear q1
      try clear q2
      try clear q3
      try clear q4
      try clear hk1
      try clear hk2
      try clear hk3
      try clear hk4
      try clear hkk1
      try clear hkk2
      try clear hkk3
      try clear hkk4
      go_enter Tryz.func106, Tryz.ntmps106
      go_wp2_with ((with_reducible refine (HB.out _).mono ?_); rintro e w' ⟨rfl, rfl⟩)
      go_ret
      exact ⟨ret_bool Hf.out.symm, hb⟩
  · have dn : (n != 0) = true := bne_iff_ne.2 q1
    have Hf := Lib.hid (rightN_fields (t := t + 1) (v := V.mk k n f s l) (fun h => (h.1).elim (fun e => hk1 e) q1))
    generalize bitsB f = bf at *
    try clear q1
    try clear q2
    try clear q3
    try clear q4
    try clear hk1
    try clear hk2
    try clear hk3
    try clear hk4
    try clear hkk1
    try clear hkk2
    try clear hkk3
    try clear hkk4
    go_enter Tryz.func106, Tryz.ntmps106
    go_wp2_with ((with_reducible refine (HB.out _).mono ?_); rintro e w' ⟨rfl, rfl⟩)
    go_ret
    exact ⟨ret_bool Hf.out.symm, hb⟩

theorem right_any (t : Nat) (ht : t ≤ 1000) : ∀ (v : V) (x : Array Value) (w : World), VIn w v x →
    Calls Tryz.prog 106 #[.agg x, .int .i64 (t : Int)] w fun e w' => e = .returned (.bool (rightN t v)) ∧ Below w.heap.size w w' := by
  induction t with
  | zero => exact fun v x w h => right_zero v x w h
  | succ t ih => exact fun v x w h => right_succ t ht (ih (by omega)) v x w h

theorem rvalid_any (v : V) (x : Array Value) (w : World) (h : VIn w v x) :
    Calls Tryz.prog 66 #[.agg x] w fun e w' => e = .returned (.bool (rightN 8 v)) ∧ Below w.heap.size w w' := by
  obtain ⟨_, _, _, _, _, a, cap, rfl, _, _, _⟩ := h.parts
  have hb := (Below.refl w.heap.size w).alloc (Nat.le_refl _) (.cells (cells5 v.kind v.n v.f v.s a v.l.length cap) 43)
  have H := Lib.hid (right_any 8 (by omega) v _ _ (h.below hb))
  have Hb := Lib.hid hb
  clear h hb
  generalize rightN 8 v = r at *
  change Calls _ _ #[.agg #[.int .i64 v.kind, .int .i64 v.n, .float .f64 v.f, .string (str v.s), .slice a v.l.length cap]] _ _
  go_enter Tryz.func66, Tryz.ntmps66
  go_wp2_with fail
  refine H.out.mono ?_
  rintro e w' ⟨rfl, hb⟩
  go_wp2
  go_ret
  exact ⟨rfl, Hb.out.trans (hb.mono Hb.out.size)⟩
end Go.Proofs.YtcapbaocchaenaaGreatDoor

