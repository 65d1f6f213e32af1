/- The walk of the reference's Do: names that are not there, or are. -/
import Derived.Test.YtdnbjpfapfnpaaaRfQ
namespace Go.Proofs.Ytdnbjpfapfnpaaa
open Go.RowKit Go.Maps Go.Shelf

set_option maxRecDepth 100000 in
set_option maxHeartbeats 6400000 in
theorem rdo_to {X : Nat → Prop} {w : World} {v : Value} {M : DM} (h : RefAt X w v M) (hX : ∀ b, X b → b < w.heap.size) (hA : Alive M) (nm to : List UInt8) (p : Option Addr) (l c2 : Nat) (hnml : nm.length ≤ 9223372036854775807) (hnm : named nm = true) (htol : to.length ≤ 9223372036854775807) (hto : named to = false) :
    Calls Try.prog 22 #[v, opV 4 nm to p l c2] w (DoEnd X w (failM M, 6)) := by
  obtain ⟨a, n, c, R, q, rfl, hR, hfs, hn, hwr, hmx, hq, hp1, hfd, HF0⟩ := do_start h hX hA 4 nm to p l c2
  have HF := Lib.hid HF0
  have HN := Lib.hid (show ∀ w, Calls Try.prog 40 #[.string ⟨nm.toArray⟩] w fun e w' => e = .returned (.bool true) ∧ w' = w from fun w => by rw [← hnm]; exact rnamed_any nm w hnml)
  have HT := Lib.hid (show ∀ w, Calls Try.prog 40 #[.string ⟨to.toArray⟩] w fun e w' => e = .returned (.bool false) ∧ w' = w from fun w => by rw [← hto]; exact rnamed_any to w htol)
  have HE := Lib.hid (show ∀ (w' : World), Below w.heap.size w w' → DoEnd X w (failM M, 6) (.returned (.tuple #[refV (M.room : Int) a n c q false, .int .i64 6])) w' from fun w' hb => by
    refine ⟨a, n, c, R, ?_, (hR.below hX hb).mono (fun _ _ => rfl) (fun b hx => ⟨.inl hx, Nat.lt_of_lt_of_le (hX b hx) hb.size⟩), ?_, hb⟩
    · rw [hA.eq, hq, ← hA.down]
    · rw [hA.eq]; exact hfs)
  have Hb := Lib.hid (doW_below w (M.room : Int) a n c q 4 nm to p l c2)
  have HC := Lib.hid (doW_cells w (M.room : Int) a n c q 4 nm to p l c2)
  clear hR hfs hX HF0 hq hA h
  unfold refV at HE HF
  unfold refV opV
  generalize (M.plan : Int) = pl at *
  generalize (M.room : Int) = ro at *
  go_enter Try.func22, Try.ntmps22
  go_wp2_with fail
  change Calls _ _ _ (doW w ro a n c q 4 nm to p l c2) _
  refine HF.out.mono ?_
  rintro e w2 ⟨hb2, h2⟩
  have hcs := (HC.out.below hb2).all
  have Hb2 := Lib.hid (Hb.out.trans (hb2.mono Hb.out.size))
  obtain ⟨z, rfl⟩ : ∃ z, e = .returned (.int .i64 z) := by
    rcases h2 with ⟨i, _, e, _⟩ | ⟨e, _⟩
    · exact ⟨_, e⟩
    · exact ⟨_, e⟩
  obtain ⟨⟨d0, d1, d2, d3⟩, ⟨o0, o1, o2, o3⟩, fd, fz, ⟨z0, z1, z2, z3⟩⟩ := hcs
  clear hb2 h2 hfd
  go_wp2_with fail
  refine (HN.out _).mono ?_
  rintro e w3 ⟨rfl, rfl⟩
  go_wp2_with fail
  refine (HT.out _).mono ?_
  rintro e w4 ⟨rfl, rfl⟩
  go_wp2_with fail
  (try simp only [Exit.inBlock, Exit.then])
  refine bodyPost_ret ?_ rfl (HE.out _ ?_)
  · rw [results_cell_tmp rfl]
    go_simp
  · repeat (first | exact Hb2.out | refine Below.setCell ?_ (by simp; try omega) _)

set_option maxRecDepth 100000 in
set_option maxHeartbeats 6400000 in
theorem rdo_no4 {X : Nat → Prop} {w : World} {v : Value} {M : DM} (h : RefAt X w v M) (hX : ∀ b, X b → b < w.heap.size) (hA : Alive M) (nm to : List UInt8) (p : Option Addr) (l c2 : Nat) (hnml : nm.length ≤ 9223372036854775807) (hnm : named nm = true) (htol : to.length ≤ 9223372036854775807) (hto : named to = true) (hno : findN F.n nm M.fs = none) :
    Calls Try.prog 22 #[v, opV 4 nm to p l c2] w (DoEnd X w (failM M, 6)) := by
  obtain ⟨a, n, c, R, q, rfl, hR, hfs, hn, hwr, hmx, hq, hp1, hfd, HF0⟩ := do_start h hX hA 4 nm to p l c2
  have HF := Lib.hid HF0
  have HN := Lib.hid (show ∀ w, Calls Try.prog 40 #[.string ⟨nm.toArray⟩] w fun e w' => e = .returned (.bool true) ∧ w' = w from fun w => by rw [← hnm]; exact rnamed_any nm w hnml)
  have HT := Lib.hid (show ∀ w, Calls Try.prog 40 #[.string ⟨to.toArray⟩] w fun e w' => e = .returned (.bool true) ∧ w' = w from fun w => by rw [← hto]; exact rnamed_any to w htol)
  have HE := Lib.hid (show ∀ (w' : World), Below w.heap.size w w' → DoEnd X w (failM M, 6) (.returned (.tuple #[refV (M.room : Int) a n c q false, .int .i64 6])) w' from fun w' hb => by
    refine ⟨a, n, c, R, ?_, (hR.below hX hb).mono (fun _ _ => rfl) (fun b hx => ⟨.inl hx, Nat.lt_of_lt_of_le (hX b hx) hb.size⟩), ?_, hb⟩
    · rw [hA.eq, hq, ← hA.down]
    · rw [hA.eq]; exact hfs)
  have Hb := Lib.hid (doW_below w (M.room : Int) a n c q 4 nm to p l c2)
  have HC := Lib.hid (doW_cells w (M.room : Int) a n c q 4 nm to p l c2)
  clear hR hfs hX HF0 hq hA h
  unfold refV at HE HF
  unfold refV opV
  generalize (M.plan : Int) = pl at *
  generalize (M.room : Int) = ro at *
  go_enter Try.func22, Try.ntmps22
  go_wp2_with fail
  change Calls _ _ _ (doW w ro a n c q 4 nm to p l c2) _
  refine HF.out.mono ?_
  rintro e w2 ⟨hb2, h2⟩
  have hcs := (HC.out.below hb2).all
  have Hb2 := Lib.hid (Hb.out.trans (hb2.mono Hb.out.size))
  obtain rfl : e = .returned (.int .i64 (-1)) := by
    rcases h2 with ⟨i, _, _, h⟩ | ⟨e, _⟩
    · rw [h] at hfd; rw [hno] at hfd; cases hfd
    · exact e
  obtain ⟨⟨d0, d1, d2, d3⟩, ⟨o0, o1, o2, o3⟩, fd, fz, ⟨z0, z1, z2, z3⟩⟩ := hcs
  clear hb2 h2 hfd
  go_wp2_with fail
  refine (HN.out _).mono ?_
  rintro e w3 ⟨rfl, rfl⟩
  go_wp2_with fail
  refine (HT.out _).mono ?_
  rintro e w4 ⟨rfl, rfl⟩
  go_wp2_with fail
  (try simp only [Exit.inBlock, Exit.then])
  refine bodyPost_ret ?_ rfl (HE.out _ ?_)
  · rw [results_cell_tmp rfl]
    go_simp
  · repeat (first | exact Hb2.out | refine Below.setCell ?_ (by simp; try omega) _)

set_option maxRecDepth 100000 in
set_option maxHeartbeats 6400000 in
theorem rdo_no2 {X : Nat → Prop} {w : World} {v : Value} {M : DM} (h : RefAt X w v M) (hX : ∀ b, X b → b < w.heap.size) (hA : Alive M) (nm to : List UInt8) (p : Option Addr) (l c2 : Nat) (hnml : nm.length ≤ 9223372036854775807) (hnm : named nm = true) (hno : findN F.n nm M.fs = none) :
    Calls Try.prog 22 #[v, opV 2 nm to p l c2] w (DoEnd X w (failM M, 6)) := by
  obtain ⟨a, n, c, R, q, rfl, hR, hfs, hn, hwr, hmx, hq, hp1, hfd, HF0⟩ := do_start h hX hA 2 nm to p l c2
  have HF := Lib.hid HF0
  have HN := Lib.hid (show ∀ w, Calls Try.prog 40 #[.string ⟨nm.toArray⟩] w fun e w' => e = .returned (.bool true) ∧ w' = w from fun w => by rw [← hnm]; exact rnamed_any nm w hnml)
  have HE := Lib.hid (show ∀ (w' : World), Below w.heap.size w w' → DoEnd X w (failM M, 6) (.returned (.tuple #[refV (M.room : Int) a n c q false, .int .i64 6])) w' from fun w' hb => by
    refine ⟨a, n, c, R, ?_, (hR.below hX hb).mono (fun _ _ => rfl) (fun b hx => ⟨.inl hx, Nat.lt_of_lt_of_le (hX b hx) hb.size⟩), ?_, hb⟩
    · rw [hA.eq, hq, ← hA.down]
    · rw [hA.eq]; exact hfs)
  have Hb := Lib.hid (doW_below w (M.room : Int) a n c q 2 nm to p l c2)
  have HC := Lib.hid (doW_cells w (M.room : Int) a n c q 2 nm to p l c2)
  clear hR hfs hX HF0 hq hA h
  unfold refV at HE HF
  unfold refV opV
  generalize (M.plan : Int) = pl at *
  generalize (M.room : Int) = ro at *
  go_enter Try.func22, Try.ntmps22
  go_wp2_with fail
  change Calls _ _ _ (doW w ro a n c q 2 nm to p l c2) _
  refine HF.out.mono ?_
  rintro e w2 ⟨hb2, h2⟩
  have hcs := (HC.out.below hb2).all
  have Hb2 := Lib.hid (Hb.out.trans (hb2.mono Hb.out.size))
  obtain rfl : e = .returned (.int .i64 (-1)) := by
    rcases h2 with ⟨i, _, _, h⟩ | ⟨e, _⟩
    · rw [h] at hfd; rw [hno] at hfd; cases hfd
    · exact e
  obtain ⟨⟨d0, d1, d2, d3⟩, ⟨o0, o1, o2, o3⟩, fd, fz, ⟨z0, z1, z2, z3⟩⟩ := hcs
  clear hb2 h2 hfd
  go_wp2_with fail
  refine (HN.out _).mono ?_
  rintro e w3 ⟨rfl, rfl⟩
  go_wp2_with fail
  (try simp only [Exit.inBlock, Exit.then])
  refine bodyPost_ret ?_ rfl (HE.out _ ?_)
  · rw [results_cell_tmp rfl]
    go_simp
  · repeat (first | exact Hb2.out | refine Below.setCell ?_ (by simp; try omega) _)

set_option maxRecDepth 100000 in
set_option maxHeartbeats 6400000 in
theorem rdo_no3 {X : Nat → Prop} {w : World} {v : Value} {M : DM} (h : RefAt X w v M) (hX : ∀ b, X b → b < w.heap.size) (hA : Alive M) (nm to : List UInt8) (p : Option Addr) (l c2 : Nat) (hnml : nm.length ≤ 9223372036854775807) (hnm : named nm = true) (hno : findN F.n nm M.fs = none) :
    Calls Try.prog 22 #[v, opV 3 nm to p l c2] w (DoEnd X w (failM M, 6)) := by
  obtain ⟨a, n, c, R, q, rfl, hR, hfs, hn, hwr, hmx, hq, hp1, hfd, HF0⟩ := do_start h hX hA 3 nm to p l c2
  have HF := Lib.hid HF0
  have HN := Lib.hid (show ∀ w, Calls Try.prog 40 #[.string ⟨nm.toArray⟩] w fun e w' => e = .returned (.bool true) ∧ w' = w from fun w => by rw [← hnm]; exact rnamed_any nm w hnml)
  have HE := Lib.hid (show ∀ (w' : World), Below w.heap.size w w' → DoEnd X w (failM M, 6) (.returned (.tuple #[refV (M.room : Int) a n c q false, .int .i64 6])) w' from fun w' hb => by
    refine ⟨a, n, c, R, ?_, (hR.below hX hb).mono (fun _ _ => rfl) (fun b hx => ⟨.inl hx, Nat.lt_of_lt_of_le (hX b hx) hb.size⟩), ?_, hb⟩
    · rw [hA.eq, hq, ← hA.down]
    · rw [hA.eq]; exact hfs)
  have Hb := Lib.hid (doW_below w (M.room : Int) a n c q 3 nm to p l c2)
  have HC := Lib.hid (doW_cells w (M.room : Int) a n c q 3 nm to p l c2)
  clear hR hfs hX HF0 hq hA h
  unfold refV at HE HF
  unfold refV opV
  generalize (M.plan : Int) = pl at *
  generalize (M.room : Int) = ro at *
  go_enter Try.func22, Try.ntmps22
  go_wp2_with fail
  change Calls _ _ _ (doW w ro a n c q 3 nm to p l c2) _
  refine HF.out.mono ?_
  rintro e w2 ⟨hb2, h2⟩
  have hcs := (HC.out.below hb2).all
  have Hb2 := Lib.hid (Hb.out.trans (hb2.mono Hb.out.size))
  obtain rfl : e = .returned (.int .i64 (-1)) := by
    rcases h2 with ⟨i, _, _, h⟩ | ⟨e, _⟩
    · rw [h] at hfd; rw [hno] at hfd; cases hfd
    · exact e
  obtain ⟨⟨d0, d1, d2, d3⟩, ⟨o0, o1, o2, o3⟩, fd, fz, ⟨z0, z1, z2, z3⟩⟩ := hcs
  clear hb2 h2 hfd
  go_wp2_with fail
  refine (HN.out _).mono ?_
  rintro e w3 ⟨rfl, rfl⟩
  go_wp2_with fail
  (try simp only [Exit.inBlock, Exit.then])
  refine bodyPost_ret ?_ rfl (HE.out _ ?_)
  · rw [results_cell_tmp rfl]
    go_simp
  · repeat (first | exact Hb2.out | refine Below.setCell ?_ (by simp; try omega) _)

set_option maxRecDepth 100000 in
set_option maxHeartbeats 6400000 in
theorem rdo_no5 {X : Nat → Prop} {w : World} {v : Value} {M : DM} (h : RefAt X w v M) (hX : ∀ b, X b → b < w.heap.size) (hA : Alive M) (nm to : List UInt8) (p : Option Addr) (l c2 : Nat) (hnml : nm.length ≤ 9223372036854775807) (hnm : named nm = true) (hno : findN F.n nm M.fs = none) :
    Calls Try.prog 22 #[v, opV 5 nm to p l c2] w (DoEnd X w (failM M, 6)) := by
  obtain ⟨a, n, c, R, q, rfl, hR, hfs, hn, hwr, hmx, hq, hp1, hfd, HF0⟩ := do_start h hX hA 5 nm to p l c2
  have HF := Lib.hid HF0
  have HN := Lib.hid (show ∀ w, Calls Try.prog 40 #[.string ⟨nm.toArray⟩] w fun e w' => e = .returned (.bool true) ∧ w' = w from fun w => by rw [← hnm]; exact rnamed_any nm w hnml)
  have HE := Lib.hid (show ∀ (w' : World), Below w.heap.size w w' → DoEnd X w (failM M, 6) (.returned (.tuple #[refV (M.room : Int) a n c q false, .int .i64 6])) w' from fun w' hb => by
    refine ⟨a, n, c, R, ?_, (hR.below hX hb).mono (fun _ _ => rfl) (fun b hx => ⟨.inl hx, Nat.lt_of_lt_of_le (hX b hx) hb.size⟩), ?_, hb⟩
    · rw [hA.eq, hq, ← hA.down]
    · rw [hA.eq]; exact hfs)
  have Hb := Lib.hid (doW_below w (M.room : Int) a n c q 5 nm to p l c2)
  have HC := Lib.hid (doW_cells w (M.room : Int) a n c q 5 nm to p l c2)
  clear hR hfs hX HF0 hq hA h
  unfold refV at HE HF
  unfold refV opV
  generalize (M.plan : Int) = pl at *
  generalize (M.room : Int) = ro at *
  go_enter Try.func22, Try.ntmps22
  go_wp2_with fail
  change Calls _ _ _ (doW w ro a n c q 5 nm to p l c2) _
  refine HF.out.mono ?_
  rintro e w2 ⟨hb2, h2⟩
  have hcs := (HC.out.below hb2).all
  have Hb2 := Lib.hid (Hb.out.trans (hb2.mono Hb.out.size))
  obtain rfl : e = .returned (.int .i64 (-1)) := by
    rcases h2 with ⟨i, _, _, h⟩ | ⟨e, _⟩
    · rw [h] at hfd; rw [hno] at hfd; cases hfd
    · exact e
  obtain ⟨⟨d0, d1, d2, d3⟩, ⟨o0, o1, o2, o3⟩, fd, fz, ⟨z0, z1, z2, z3⟩⟩ := hcs
  clear hb2 h2 hfd
  go_wp2_with fail
  refine (HN.out _).mono ?_
  rintro e w3 ⟨rfl, rfl⟩
  go_wp2_with fail
  (try simp only [Exit.inBlock, Exit.then])
  refine bodyPost_ret ?_ rfl (HE.out _ ?_)
  · rw [results_cell_tmp rfl]
    go_simp
  · repeat (first | exact Hb2.out | refine Below.setCell ?_ (by simp; try omega) _)

set_option maxRecDepth 100000 in
set_option maxHeartbeats 6400000 in
theorem rdo_there {X : Nat → Prop} {w : World} {v : Value} {M : DM} (h : RefAt X w v M) (hX : ∀ b, X b → b < w.heap.size) (hA : Alive M) (nm to : List UInt8) (p : Option Addr) (l c2 : Nat) (hnml : nm.length ≤ 9223372036854775807) (hnm : named nm = true) (f : F) (hno : findN F.n nm M.fs = some f) :
    Calls Try.prog 22 #[v, opV 1 nm to p l c2] w (DoEnd X w (failM M, 7)) := by
  obtain ⟨a, n, c, R, q, rfl, hR, hfs, hn, hwr, hmx, hq, hp1, hfd, HF0⟩ := do_start h hX hA 1 nm to p l c2
  have HF := Lib.hid HF0
  have HN := Lib.hid (show ∀ w, Calls Try.prog 40 #[.string ⟨nm.toArray⟩] w fun e w' => e = .returned (.bool true) ∧ w' = w from fun w => by rw [← hnm]; exact rnamed_any nm w hnml)
  have HE := Lib.hid (show ∀ (w' : World), Below w.heap.size w w' → DoEnd X w (failM M, 7) (.returned (.tuple #[refV (M.room : Int) a n c q false, .int .i64 7])) w' from fun w' hb => by
    refine ⟨a, n, c, R, ?_, (hR.below hX hb).mono (fun _ _ => rfl) (fun b hx => ⟨.inl hx, Nat.lt_of_lt_of_le (hX b hx) hb.size⟩), ?_, hb⟩
    · rw [hA.eq, hq, ← hA.down]
    · rw [hA.eq]; exact hfs)
  have Hb := Lib.hid (doW_below w (M.room : Int) a n c q 1 nm to p l c2)
  have HC := Lib.hid (doW_cells w (M.room : Int) a n c q 1 nm to p l c2)
  clear hR hfs hX HF0 hq hA h
  unfold refV at HE HF
  unfold refV opV
  generalize (M.plan : Int) = pl at *
  generalize (M.room : Int) = ro at *
  go_enter Try.func22, Try.ntmps22
  go_wp2_with fail
  change Calls _ _ _ (doW w ro a n c q 1 nm to p l c2) _
  refine HF.out.mono ?_
  rintro e w2 ⟨hb2, h2⟩
  have hcs := (HC.out.below hb2).all
  have Hb2 := Lib.hid (Hb.out.trans (hb2.mono Hb.out.size))
  obtain ⟨z, rfl, hz⟩ : ∃ z : Nat, e = .returned (.int .i64 (z : Int)) ∧ 0 ≤ z := by
    rcases h2 with ⟨i, _, e, _⟩ | ⟨_, h⟩
    · exact ⟨i, e, Nat.zero_le _⟩
    · rw [h] at hfd; rw [hno] at hfd; cases hfd
  have hz0 : (0 : Int) ≤ (z : Int) := by omega
  have hz1 : ¬ (z : Int) < 0 := by omega
  obtain ⟨⟨d0, d1, d2, d3⟩, ⟨o0, o1, o2, o3⟩, fd, fz, ⟨z0, z1, z2, z3⟩⟩ := hcs
  clear hb2 h2 hfd
  go_wp2_with fail
  refine (HN.out _).mono ?_
  rintro e w3 ⟨rfl, rfl⟩
  go_wp2_with fail
  (try simp only [Exit.inBlock, Exit.then])
  refine bodyPost_ret ?_ rfl (HE.out _ ?_)
  · rw [results_cell_tmp rfl]
    go_simp
  · repeat (first | exact Hb2.out | refine Below.setCell ?_ (by simp; try omega) _)
end Go.Proofs.Ytdnbjpfapfnpaaa
