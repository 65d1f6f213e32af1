/- The walk of the statement SumBursts: it returns true whatever the bytes, the place and the change are. -/
import Derived.Test.YtpgnmphfhihffaaSeals
import Derived.Test.YtpgnmphfhihffaaBurstM
namespace Go.Proofs.Ytpgnmphfhihffaa
open Go.RowKit Crc

/-- A row that holds these bytes. -/
def NatRow (w : World) (g : Nat) (l : List Nat) : Prop := ∃ cur : Array Value, w.heap[g]? = some (.cells cur 5 (0, 0)) ∧ ∀ i, i < l.length → cur[i]? = some (.int .u8 (l.getD i 0 : Nat))

theorem NatRow.cell {w : World} {g i : Nat} {l : List Nat} (h : NatRow w g l) (hi : i < l.length) : w.cell? ⟨g, i, none⟩ = some (.int .u8 (l.getD i 0 : Nat)) := by
  obtain ⟨cur, hg, hc⟩ := h
  rw [cell_of_row w g i cur _ _ hg, hc i hi]

theorem NatRow.frozen {w : World} {g : Nat} {l : List Nat} (h : NatRow w g l) (i : Nat) : w.frozen? ⟨g, i, none⟩ = false := by
  obtain ⟨cur, hg, _⟩ := h
  simp [World.frozen?, hg]

theorem NatRow.set {w : World} {g : Nat} {l : List Nat} (h : NatRow w g l) (i x : Nat) : NatRow (w.setCell ⟨g, i, none⟩ (.int .u8 (x : Int))) g (l.set i x) := by
  obtain ⟨cur, hg, hc⟩ := h
  refine ⟨cur.setIfInBounds i (.int .u8 (x : Int)), ?_, fun j hj => ?_⟩
  · simp [World.setCell, Array.getElem?_modify, hg]
  · rw [List.length_set] at hj
    have hz := hc j hj
    have hlt : j < cur.size := (Array.getElem?_eq_some_iff.1 hz).1
    rw [Array.getElem?_setIfInBounds, List.getD_eq_getElem?_getD, List.getElem?_set]
    by_cases e : i = j
    · subst e
      simp [hlt, hj]
    · rw [if_neg e, if_neg e, hz, List.getD_eq_getElem?_getD]

theorem natRow_of_own {w : World} {base : Nat} {v : Value} {m : Nat} {l : List Nat} (h : w.ownsRow base 5 1 v m (u8s l)) (hm : 0 < m) : ∃ g cp, v = .slice (some ⟨g, 0, none⟩) m cp ∧ base ≤ g ∧ m ≤ cp ∧ cp ≤ 9223372036854775807 ∧ NatRow w g l := by
  have hlen : l.length = m := by have := h.1; simpa [u8s] using this
  rcases h.2 with ⟨_, h0⟩ | ⟨g, cap', cur, rfl, hbg, hg, hle, hcm, hsz, htake⟩
  · omega
  · refine ⟨g, cap', rfl, hbg, hle, hcm, cur, hg, fun i hi => ?_⟩
    have e1 : (u8s l)[i]? = some (.int .u8 (l.getD i 0 : Nat)) := by
      unfold u8s
      rw [List.getElem?_map, List.getElem?_eq_getElem (by omega), List.getD_eq_getElem?_getD, List.getElem?_eq_getElem (by omega)]; rfl
    rw [← htake, List.getElem?_take, if_pos (by omega)] at e1
    simpa using e1

theorem NatRow.bytes {w : World} {g cp : Nat} {l : List Nat} (h : NatRow w g l) (hb : ∀ x ∈ l, x < 256) (hle : l.length ≤ cp) (hc : cp ≤ 9223372036854775807) : Bytes w (some ⟨g, 0, none⟩) l.length cp l := by
  refine ⟨rfl, hle, hc, hb, fun h => (by cases h), fun _ => ⟨g, 0, rfl, fun i hi => ?_⟩⟩
  rw [Nat.zero_add]
  exact h.cell hi

def BurstRel (w : World) (g : Nat) (l : List Nat) (n c f E : Nat) (sm i : Value) (wr : World) : Prop :=
  ∃ (k : Nat) (lk : List Nat), k ≤ 32 ∧ f + k ≤ E ∧ i = .int .i64 k ∧ sm = .bool (decide (c % 2 ^ k = 0)) ∧ lk.length = n + 4 ∧ (∀ x ∈ lk, x < 256) ∧ num lk = num (sealL l) ^^^ (2 ^ f * (c % 2 ^ k)) ∧
    (c % 2 ^ k = 0 → lk = sealL l) ∧ NatRow wr g lk ∧ Below w.heap.size w wr

theorem burst_start {w wr : World} {g n c f E : Nat} {l : List Nat} (hb : Below w.heap.size w wr) (hr : NatRow wr g (sealL l)) (hby : ∀ x ∈ l, x < 256) (hlen : (sealL l).length = n + 4) (hf : f ≤ E) :
    BurstRel w g l n c f E (.bool true) (.int .i64 0) wr :=
  ⟨0, sealL l, Nat.zero_le _, hf, rfl, by simp [Nat.mod_one], hlen, sealL_byte hby, by simp [Nat.mod_one], fun _ => rfl, hr, hb⟩

theorem burst_flip {w wr : World} {g n c f E k q b x : Nat} {l lk : List Nat} (hk : k < 32) (hfk : f + k < E) (hlen : lk.length = n + 4) (hby : ∀ x ∈ lk, x < 256) (hnum : num lk = num (sealL l) ^^^ (2 ^ f * (c % 2 ^ k)))
    (hr : NatRow wr g lk) (hbr : Below w.heap.size w wr) (hg : w.heap.size ≤ g) (hpos : f + k = 8 * q + b) (hb : b < 8) (hq : q < n + 4) (hx : x = lk.getD q 0) (hbit : c.testBit k = true) :
    BurstRel w g l n c f E (.bool false) (.int .i64 ((k : Int) + 1)) (wr.setCell ⟨g, q, none⟩ (.int .u8 (bits .xor .u8 (x : Int) (2 ^ b % 256)))) := by
  have hxb : x < 256 := by
    rw [hx, List.getD_eq_getElem?_getD, List.getElem?_eq_getElem (by omega)]
    exact hby _ (List.getElem_mem _)
  have h2b : 2 ^ b < 256 := Nat.pow_lt_pow_right (by omega) hb
  have e0 : (2 : Int) ^ b % 256 = ((2 ^ b : Nat) : Int) := by
    rw [Int.natCast_pow]
    have : (0 : Int) ≤ 2 ^ b ∧ (2 : Int) ^ b < 256 := by
      have h : ((2 ^ b : Nat) : Int) < 256 := by omega
      rw [Int.natCast_pow] at h
      exact ⟨Int.le_of_lt (Int.pow_pos (by omega)), h⟩
    exact Int.emod_eq_of_lt this.1 this.2
  rw [e0, u8_xor_nat x (2 ^ b) hxb h2b]
  have hne : ¬ c % 2 ^ (k + 1) = 0 := by
    intro h
    have := congrArg (fun z => z.testBit k) h
    simp [Nat.testBit_mod_two_pow, hbit] at this
  refine ⟨k + 1, lk.set q (x ^^^ 2 ^ b), hk, hfk, by go_num, (by rw [decide_eq_false hne]), by rw [List.length_set]; exact hlen, ?_, ?_, fun h => absurd h hne, hr.set q _, hbr.setCell hg _⟩
  · intro y hy
    rcases List.mem_or_eq_of_mem_set hy with h | rfl
    · exact hby y h
    · exact Nat.xor_lt_two_pow (n := 8) hxb h2b
  · rw [hx, num_set lk q (2 ^ b) (by omega), hnum, mod_succ_bit, if_pos hbit, pow_mul_xor, Nat.xor_assoc, ← Nat.pow_add, ← Nat.pow_add, hpos]

theorem burst_skip {w wr : World} {g n c f E k : Nat} {l lk : List Nat} (hk : k < 32) (hfk : f + k < E) (hlen : lk.length = n + 4) (hby : ∀ x ∈ lk, x < 256) (hnum : num lk = num (sealL l) ^^^ (2 ^ f * (c % 2 ^ k)))
    (hz : c % 2 ^ k = 0 → lk = sealL l) (hr : NatRow wr g lk) (hbr : Below w.heap.size w wr) (hbit : ¬ c.testBit k = true) :
    BurstRel w g l n c f E (.bool (decide (c % 2 ^ k = 0))) (.int .i64 ((k : Int) + 1)) wr := by
  have e : c % 2 ^ (k + 1) = c % 2 ^ k := by rw [mod_succ_bit, if_neg hbit, Nat.xor_zero]
  exact ⟨k + 1, lk, hk, hfk, by go_num, by rw [e], hlen, hby, by rw [e]; exact hnum, by rw [e]; exact hz, hr, hbr⟩

theorem num_sealL {b : List Nat} : num (sealL b) = num b ^^^ (2 ^ (8 * b.length) * inv (feedL 4294967295 b)) := by
  unfold sealL
  rw [num_append]
  congr 2
  exact num_four _

/-- What is inverted is not sealed. -/
theorem burst_end {n c f E k : Nat} {l lk : List Nat} (hl : ∀ x ∈ l, x < 256) (hn : l.length = n) (hk : k ≤ 32) (hfk : f + k ≤ E) (hE : 8 * n ≤ f ∨ E = 8 * n) (hlen : lk.length = n + 4) (hby : ∀ x ∈ lk, x < 256) (hnum : num lk = num (sealL l) ^^^ (2 ^ f * (c % 2 ^ k)))
    (h0 : ¬ c % 2 ^ k = 0) : ∀ b, sealL b ≠ lk := by
  intro b hb
  have hlb : b.length = l.length := by have := sealL_len b; rw [hb, hlen] at this; omega
  have hxk : c % 2 ^ k < 2 ^ k := Nat.mod_lt _ (Nat.two_pow_pos _)
  have h32 : 2 ^ k ≤ 2 ^ 32 := Nat.pow_le_pow_right (by omega) hk
  refine burst (f := f) (x := c % 2 ^ k) hl (fun x hx => hby x (by rw [← hb]; exact List.mem_append_left _ hx)) hlb h0 (Nat.lt_of_lt_of_le hxk h32) ?_ ?_
  · rcases hE with h | h
    · exact .inr (by omega)
    · left
      have h1 : 2 ^ f * (c % 2 ^ k) < 2 ^ f * 2 ^ k := Nat.mul_lt_mul_of_pos_left hxk (Nat.two_pow_pos _)
      rw [← Nat.pow_add] at h1
      exact Nat.lt_of_lt_of_le h1 (Nat.pow_le_pow_right (by omega) (by omega))
  · have e1 : num (sealL b) = num lk := by rw [hb]
    rw [hnum, num_sealL, num_sealL, hlb] at e1
    exact e1

theorem open_burst (a : Option Addr) (n cap : Nat) (l : List Nat) (w : World) (hl : Bytes w a n cap l) (hm : n ≤ 100000000000000) (hno : ∀ b, sealL b ≠ l) :
    Calls Try.prog 18 #[.slice a n cap] w fun e w' => e = .returned (.tuple #[.slice none 0 0, .bool false]) ∧ Below w.heap.size w w' := by
  refine (open_any a n cap l w hl hm).mono ?_
  rintro e w' ⟨hb, ⟨x, hx, _⟩ | ⟨_, rfl⟩⟩
  · exact absurd hx (hno x)
  · exact ⟨rfl, hb⟩

theorem bit_eq {c k : Nat} (hc : c < 4294967296) : bits .and .u32 ((c : Int) / 2 ^ k) 1 = ((c / 2 ^ k % 2 : Nat) : Int) := by
  have e : (c : Int) / 2 ^ k = ((c / 2 ^ k : Nat) : Int) := by simp
  have h : c / 2 ^ k < 4294967296 := Nat.lt_of_le_of_lt (Nat.div_le_self _ _) hc
  rw [e, ← Crc.and1]
  exact u32_and_nat _ 1 h (by omega)
theorem bit_yes {c k : Nat} (hc : c < 4294967296) (h : c.testBit k = true) : (bits .and .u32 ((c : Int) / 2 ^ k) 1 == 1) = true := by
  rw [Nat.testBit_eq_decide_div_mod_eq] at h
  rw [bit_eq hc, of_decide_eq_true h]; rfl
theorem bit_no {c k : Nat} (hc : c < 4294967296) (h : ¬ c.testBit k = true) : (bits .and .u32 ((c : Int) / 2 ^ k) 1 == 1) = false := by
  rw [Nat.testBit_eq_decide_div_mod_eq, decide_eq_true_eq] at h
  rw [bit_eq hc, show c / 2 ^ k % 2 = 0 by omega]; rfl

theorem alive_end {w w0 : World} (hw0 : Below w.heap.size w w0) {w1 : World} (h : Below w0.heap.size w0 w1) : Below w.heap.size w w1 := hw0.trans (h.mono hw0.size)

set_option maxHeartbeats 1600000 in
theorem sumBursts_any (a : Option Addr) (n cap : Nat) (l : List Nat) (t c : Nat) (w : World) (hl : Bytes w a n cap l) (ht : t < 65536) (hc : c < 4294967296) :
    Calls Try.prog 7 #[.slice a n cap, .int .u16 (t : Int), .int .u32 (c : Int)] w fun e w' => e = .returned (.bool true) ∧ Below w.heap.size w w' := by
  have HB := Lib.hid hl
  clear hl
  go_enter Try.func7, Try.ntmps7
  go_wp2_with fail
  refine (few_any _ 1 1 [l] _ (parts_one HB.out _)).mono ?_
  rintro e w0 ⟨⟨b, rfl, hb⟩, rfl⟩
  have hw0 : Below w.heap.size w (w.alloc (.cells #[.slice a n cap] 28)) := (Below.refl _ _).alloc (Nat.le_refl _) _
  generalize w.alloc (.cells #[.slice a n cap] 28) = w0 at *
  have Hb := Lib.hid hb
  clear hb
  cases b
  · go_wp2_with ((with_reducible refine (alive_any _).mono ?_); rintro e w1 ⟨rfl, hb1⟩)
    go_ret
    exact ⟨rfl, alive_end hw0 hb1⟩
  by_cases hc0 : c = 0
  · subst hc0
    go_wp2_with ((with_reducible refine (alive_any _).mono ?_); rintro e w1 ⟨rfl, hb1⟩)
    go_ret
    exact ⟨rfl, alive_end hw0 hb1⟩
  · obtain ⟨hm, h60⟩ := Hb.out rfl
    have hfl := mins_flat hm
    have hn : n ≤ 1500 := by rw [← HB.out.len]; simpa using hfl
    have hcb : ((c : Int) == 0) = false := by rw [beq_eq_false_iff_ne]; omega
    clear hm h60 hfl
    go_wp2_with fail
    refine (rseal_any a n cap l w0 (HB.out.grow hw0) (by omega)).mono ?_
    rintro e w2 ⟨v, rfl, hown, hb2⟩
    have hw2 : Below w.heap.size w w2 := hw0.trans (hb2.mono hw0.size)
    rw [sealL_len, HB.out.len] at hown
    obtain ⟨g, cs, rfl, hg, hcs, hcm, hrow⟩ := natRow_of_own hown (by omega)
    have hg' : w.heap.size ≤ g := Nat.le_trans hw0.size hg
    have Hrow := Lib.hid hrow
    clear hown hrow hb2 hg
    obtain ⟨f, hfe⟩ : ∃ f, f = t % (8 * (n + 4)) := ⟨_, rfl⟩
    have hf : ((t : Int) % (8 * ((n : Int) + 4))) = (f : Int) := by
      have h8 : ((8 * (n + 4) : Nat) : Int) = 8 * ((n : Int) + 4) := by omega
      rw [hfe, Int.natCast_emod, h8]
    have hf8 : f < 8 * (n + 4) := by rw [hfe]; exact Nat.mod_lt _ (by omega)
    have Hfe := Lib.hid hfe
    clear hfe
    by_cases hge : 8 * n ≤ f
    · have hgi : 8 * (n : Int) ≤ (f : Int) := by omega
      go_wp2_with fail
      rw [hf]
      rw [show (8 * ((n : Int) + 4)) = ((8 * n + 32 : Nat) : Int) by omega]
      obtain ⟨E, hE⟩ : ∃ E, E = 8 * n + 32 := ⟨_, rfl⟩
      rw [← hE]
      have hEn : 8 * n ≤ f ∨ E = 8 * n := .inl hge
      have HE := Lib.hid hEn
      have hfE : f < E := by omega
      have hE32 : E ≤ 8 * n + 32 := by omega
      clear hE hEn hf hgi hge
      go_loopw [10, 11] (fun sm i wr => BurstRel w g l n c f E sm i wr) (fun _ i _ => 32 - (intOf i).toNat)
      case atStart => exact burst_start hw2 Hrow.out HB.out.byte (by rw [sealL_len, HB.out.len]) (by omega)
      case round =>
        obtain ⟨k, lk, hk, hfk, rfl, rfl, hlen, hby, hnum, hz, hr, hbr⟩ := hrel
        have Hlen := Lib.hid hlen
        have Hby := Lib.hid hby
        have Hnum := Lib.hid hnum
        have Hz := Lib.hid hz
        have Hr := Lib.hid hr
        clear hlen hby hnum hz hr
        by_cases hlt : k < 32 ∧ f + k < E
        · obtain ⟨h1, h2⟩ := hlt
          obtain ⟨p, hp⟩ : ∃ p, p = f + k := ⟨_, rfl⟩
          have hpi : (f : Int) + (k : Int) = (p : Int) := by omega
          have h2i : (p : Int) < (E : Int) := by omega
          have h2p : p ≤ 20000 := by omega
          have hq8 : p / 8 < n + 4 := by omega
          obtain ⟨q, hq⟩ : ∃ q, q = p / 8 := ⟨_, rfl⟩
          obtain ⟨b, hb⟩ : ∃ b, b = p % 8 := ⟨_, rfl⟩
          have hqi : (p : Int) / 8 = (q : Int) := by omega
          have hbi : (p : Int) % 8 = (b : Int) := by omega
          have hb8 : b < 8 := by omega
          have hqn : q < n + 4 := by omega
          have hqni : (q : Int) < (n : Int) + 4 := by omega
          have Hpos := Lib.hid (show f + k = 8 * q + b by omega)
          clear hp hq hb hq8
          have hcell := Hr.out.cell (i := q) (by rw [Hlen.out]; exact hqn)
          have hfr := Hr.out.frozen q
          have hxb : lk.getD q 0 < 256 := by
            rw [List.getD_eq_getElem?_getD, List.getElem?_eq_getElem (by rw [Hlen.out]; exact hqn)]
            exact Hby.out _ (List.getElem_mem _)
          obtain ⟨x, hx⟩ : ∃ x, x = lk.getD q 0 := ⟨_, rfl⟩
          rw [← hx] at hcell hxb
          have Hx := Lib.hid hx
          clear hx
          by_cases hbit : c.testBit k = true
          · have hbt := bit_yes hc hbit
            go_wp2_with fail
            go_roundw
            case rel => exact burst_flip h1 h2 Hlen.out Hby.out Hnum.out Hr.out hbr hg' Hpos.out hb8 hqn Hx.out hbit
            case measure => simp [intOf]; omega
          · have hbt := bit_no hc hbit
            go_wp2_with fail
            go_roundw
            case rel => exact burst_skip h1 h2 Hlen.out Hby.out Hnum.out Hz.out Hr.out hbr hbit
            case measure => simp [intOf]; omega
        · have hex : ¬ ((k : Int) < 32 ∧ (f : Int) + (k : Int) < (E : Int)) := by omega
          have hBy : Bytes wr (some ⟨g, 0, none⟩) (n + 4) cs lk := by
            have := Hr.out.bytes Hby.out (by rw [Hlen.out]; exact hcs) hcm
            rwa [Hlen.out] at this
          have HBy := Lib.hid hBy
          clear hBy
          by_cases h0 : c % 2 ^ k = 0
          · have HBs := Lib.hid (Hz.out h0 ▸ HBy.out)
            have hd : decide (c % 2 ^ k = 0) = true := decide_eq_true h0
            have H0 := Lib.hid h0
            clear h0
            go_wp2_with fail
            all_goals
              refine (open_sealed _ _ _ l wr HBs.out (by omega)).mono ?_
              rintro e w4 ⟨u, nu, cu, rfl, _, hb4⟩
              go_wp2_with fail
              refine (alive_any _).mono ?_
              rintro e w5 ⟨rfl, hb5⟩
              go_wp2
              go_ret
              exact ⟨rfl, alive_end (alive_end hbr hb4) hb5⟩
          · have hno := Lib.hid (burst_end HB.out.byte HB.out.len hk hfk HE.out Hlen.out Hby.out Hnum.out h0)
            have hd : decide (c % 2 ^ k = 0) = false := decide_eq_false h0
            have H0 := Lib.hid h0
            clear h0
            go_wp2_with fail
            all_goals
              refine (open_burst _ _ _ lk wr HBy.out (by omega) hno.out).mono ?_
              rintro e w4 ⟨rfl, hb4⟩
              go_wp2_with fail
              refine (alive_any _).mono ?_
              rintro e w5 ⟨rfl, hb5⟩
              go_wp2
              go_ret
              exact ⟨rfl, alive_end (alive_end hbr hb4) hb5⟩
    · have hgi : (f : Int) < 8 * (n : Int) := by omega
      go_wp2_with fail
      rw [hf]
      rw [show (8 * (n : Int)) = ((8 * n : Nat) : Int) by omega]
      obtain ⟨E, hE⟩ : ∃ E, E = 8 * n := ⟨_, rfl⟩
      rw [← hE]
      rw [show decide ((E : Int) ≤ (f : Int)) = false from decide_eq_false (by omega)]
      have hEn : 8 * n ≤ f ∨ E = 8 * n := .inr hE
      have HE := Lib.hid hEn
      have hfE : f < E := by omega
      have hE32 : E ≤ 8 * n + 32 := by omega
      clear hE hEn hf hgi hge
      go_loopw [10, 11] (fun sm i wr => BurstRel w g l n c f E sm i wr) (fun _ i _ => 32 - (intOf i).toNat)
      case atStart => exact burst_start hw2 Hrow.out HB.out.byte (by rw [sealL_len, HB.out.len]) (by omega)
      case round =>
        obtain ⟨k, lk, hk, hfk, rfl, rfl, hlen, hby, hnum, hz, hr, hbr⟩ := hrel
        have Hlen := Lib.hid hlen
        have Hby := Lib.hid hby
        have Hnum := Lib.hid hnum
        have Hz := Lib.hid hz
        have Hr := Lib.hid hr
        clear hlen hby hnum hz hr
        by_cases hlt : k < 32 ∧ f + k < E
        · obtain ⟨h1, h2⟩ := hlt
          obtain ⟨p, hp⟩ : ∃ p, p = f + k := ⟨_, rfl⟩
          have hpi : (f : Int) + (k : Int) = (p : Int) := by omega
          have h2i : (p : Int) < (E : Int) := by omega
          have h2p : p ≤ 20000 := by omega
          have hq8 : p / 8 < n + 4 := by omega
          obtain ⟨q, hq⟩ : ∃ q, q = p / 8 := ⟨_, rfl⟩
          obtain ⟨b, hb⟩ : ∃ b, b = p % 8 := ⟨_, rfl⟩
          have hqi : (p : Int) / 8 = (q : Int) := by omega
          have hbi : (p : Int) % 8 = (b : Int) := by omega
          have hb8 : b < 8 := by omega
          have hqn : q < n + 4 := by omega
          have hqni : (q : Int) < (n : Int) + 4 := by omega
          have Hpos := Lib.hid (show f + k = 8 * q + b by omega)
          clear hp hq hb hq8
          have hcell := Hr.out.cell (i := q) (by rw [Hlen.out]; exact hqn)
          have hfr := Hr.out.frozen q
          have hxb : lk.getD q 0 < 256 := by
            rw [List.getD_eq_getElem?_getD, List.getElem?_eq_getElem (by rw [Hlen.out]; exact hqn)]
            exact Hby.out _ (List.getElem_mem _)
          obtain ⟨x, hx⟩ : ∃ x, x = lk.getD q 0 := ⟨_, rfl⟩
          rw [← hx] at hcell hxb
          have Hx := Lib.hid hx
          clear hx
          by_cases hbit : c.testBit k = true
          · have hbt := bit_yes hc hbit
            go_wp2_with fail
            go_roundw
            case rel => exact burst_flip h1 h2 Hlen.out Hby.out Hnum.out Hr.out hbr hg' Hpos.out hb8 hqn Hx.out hbit
            case measure => simp [intOf]; omega
          · have hbt := bit_no hc hbit
            go_wp2_with fail
            go_roundw
            case rel => exact burst_skip h1 h2 Hlen.out Hby.out Hnum.out Hz.out Hr.out hbr hbit
            case measure => simp [intOf]; omega
        · have hex : ¬ ((k : Int) < 32 ∧ (f : Int) + (k : Int) < (E : Int)) := by omega
          have hBy : Bytes wr (some ⟨g, 0, none⟩) (n + 4) cs lk := by
            have := Hr.out.bytes Hby.out (by rw [Hlen.out]; exact hcs) hcm
            rwa [Hlen.out] at this
          have HBy := Lib.hid hBy
          clear hBy
          by_cases h0 : c % 2 ^ k = 0
          · have HBs := Lib.hid (Hz.out h0 ▸ HBy.out)
            have hd : decide (c % 2 ^ k = 0) = true := decide_eq_true h0
            have H0 := Lib.hid h0
            clear h0
            go_wp2_with fail
            all_goals
              refine (open_sealed _ _ _ l wr HBs.out (by omega)).mono ?_
              rintro e w4 ⟨u, nu, cu, rfl, _, hb4⟩
              go_wp2_with fail
              refine (alive_any _).mono ?_
              rintro e w5 ⟨rfl, hb5⟩
              go_wp2
              go_ret
              exact ⟨rfl, alive_end (alive_end hbr hb4) hb5⟩
          · have hno := Lib.hid (burst_end HB.out.byte HB.out.len hk hfk HE.out Hlen.out Hby.out Hnum.out h0)
            have hd : decide (c % 2 ^ k = 0) = false := decide_eq_false h0
            have H0 := Lib.hid h0
            clear h0
            go_wp2_with fail
            all_goals
              refine (open_burst _ _ _ lk wr HBy.out (by omega) hno.out).mono ?_
              rintro e w4 ⟨rfl, hb4⟩
              go_wp2_with fail
              refine (alive_any _).mono ?_
              rintro e w5 ⟨rfl, hb5⟩
              go_wp2
              go_ret
              exact ⟨rfl, alive_end (alive_end hbr hb4) hb5⟩
end Go.Proofs.Ytpgnmphfhihffaa
