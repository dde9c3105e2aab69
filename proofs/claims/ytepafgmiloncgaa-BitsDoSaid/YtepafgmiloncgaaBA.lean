/- Contracts: limit, Trim, Bits, Const. -/
import Derived.Test.YtepafgmiloncgaaT
import Derived.Test.YtepafgmiloncgaaMA
namespace Go.Proofs.Ytepafgmiloncgaa
open Go.RowKit Go.Lib Go.Maps
set_option maxRecDepth 100000

/-- The width that counts. -/
def lim (w : Int) : Nat := if w < 1 then 1 else if 16 < w then 16 else w.toNat
theorem lim_pos (w : Int) : 1 ≤ lim w ∧ lim w ≤ 16 := by unfold lim; split <;> (try split) <;> omega
theorem lim_of {w : Nat} (h : 1 ≤ w ∧ w ≤ 16) : lim (w : Int) = w := by unfold lim; split <;> (try split) <;> omega
theorem lim_min (x : Int) : (if 16 < (if x < 1 then 1 else x) then (16 : Int) else (if x < 1 then 1 else x)) = ((lim x : Nat) : Int) := by unfold lim; split <;> split <;> omega
/-- limit -/
theorem limit_any (x : Int) (w : World) : Calls Try.prog 34 #[.int .i64 x] w fun e w' => e = .returned (.int .i64 (lim x : Nat)) ∧ w = w' := by
  by_cases h1 : x < 1
  · have h : ((lim x : Nat) : Int) = 1 := by unfold lim; rw [if_pos h1]; rfl
    rw [h]; clear h
    go_enter Try.func34, Try.ntmps34
    go_wp2
    go_ret
    exact ⟨rfl, rfl⟩
  · by_cases h2 : 16 < x
    · have h : ((lim x : Nat) : Int) = 16 := by unfold lim; rw [if_neg h1, if_pos h2]; rfl
      rw [h]; clear h
      have h3 : 1 ≤ x := by omega
      go_enter Try.func34, Try.ntmps34
      go_wp2
      go_ret
      exact ⟨rfl, rfl⟩
    · have h : ((lim x : Nat) : Int) = x := by unfold lim; rw [if_neg h1, if_neg h2]; omega
      rw [h]; clear h
      have h3 : 1 ≤ x := by omega
      have h4 : x ≤ 16 := by omega
      go_enter Try.func34, Try.ntmps34
      go_wp2
      go_ret
      exact ⟨rfl, rfl⟩
theorem shl_shr {k : Nat} (h : 1 ≤ k ∧ k ≤ 16) (x : Int) : wrap64 (x * 2 ^ (64 - k)) / 2 ^ (64 - k) = trm k x := by
  have : k = 1 ∨ k = 2 ∨ k = 3 ∨ k = 4 ∨ k = 5 ∨ k = 6 ∨ k = 7 ∨ k = 8 ∨ k = 9 ∨ k = 10 ∨ k = 11 ∨ k = 12 ∨ k = 13 ∨ k = 14 ∨ k = 15 ∨ k = 16 := by omega
  rcases this with rfl | rfl | rfl | rfl | rfl | rfl | rfl | rfl | rfl | rfl | rfl | rfl | rfl | rfl | rfl | rfl <;> (unfold trm Int.bmod wrap64; simp; omega)
/-- Trim -/
theorem trim_any (x y : Int) (w : World) : Calls Try.prog 25 #[.int .i64 x, .int .i64 y] w fun e w' => e = .returned (.int .i64 (trm (lim y) x)) ∧ w = w' := by
  have HL := Lib.hid (limit_any y w)
  have hp := lim_pos y
  generalize lim y = k at *
  rw [← shl_shr hp x]
  go_enter Try.func25, Try.ntmps25
  go_wp2_with (go_at_call 34; refine HL.out.mono ?_; rintro e w' ⟨rfl, rfl⟩)
  go_ret
  exact ⟨rfl, rfl⟩
theorem make_ints (n : Nat) (hn : n ≤ 1000000) (w : World) : (Instr.makeSlice 26 (.int .i64 ((n : Nat) : Int)) (.int .i64 ((n : Nat) : Int))).run Try.prog w = .ok (.slice (some ⟨w.heap.size, 0, none⟩) n n) (w.alloc (.cells (madeCells #[.int .i64 0] n) 3)) :=
  run_make_row' 26 3 (.int .i64 0) 8 Try.underlying26 (by kernel_rfl) rfl .i64 .i64 n (by omega) (by omega) w
/-- A number's bit. -/
def bit (n : Int) (i : Nat) : Bool := decide (n / 2 ^ i % 2 = 1)
theorem and_one (x : Int) : bits .and .i64 x 1 = x % 2 := by
  show IntKind.i64.wrap ((BitVec.ofInt 64 x &&& BitVec.ofInt 64 1).toNat : Int) = _
  rw [BitVec.toNat_and, show (BitVec.ofInt 64 1).toNat = 1 from rfl, Nat.and_one_is_mod, BitVec.toNat_ofInt]
  rw [IntWalk.i64_in _ (by omega)]
  omega
theorem bit_eq (n : Int) (i : Nat) : (bits .and .i64 (n / 2 ^ i) 1 == 1) = bit n i := by
  rw [and_one]
  unfold bit
  rw [Bool.eq_iff_iff]
  simp
theorem un_bit (n : Int) : ∀ w, ((un (bit n) w : Nat) : Int) = n % ((2 ^ w : Nat) : Int)
  | 0 => by simp [un]
  | w + 1 => by
    have ih := un_bit n w
    have hp := two_pow_pos w
    have e : ((2 ^ (w + 1) : Nat) : Int) = ((2 ^ w : Nat) : Int) * 2 := by rw [Nat.pow_succ, Int.natCast_mul]; rfl
    have e3 : (2 : Int) ^ w = ((2 ^ w : Nat) : Int) := by simp
    have hu : un (bit n) (w + 1) = un (bit n) w + (bit n w).toNat * 2 ^ w := rfl
    have hb : bit n w = decide (n / ((2 ^ w : Nat) : Int) % 2 = 1) := by unfold bit; rw [e3]
    rw [e, hu, hb]
    generalize un (bit n) w = u at *
    generalize 2 ^ w = P at *
    clear e e3 hu hb
    have h0 := Int.mul_ediv_add_emod n P
    have h1 := Int.emod_nonneg n (b := (P : Int)) (by omega)
    have h2 := Int.emod_lt_of_pos n hp
    generalize n / (P : Int) = q at *
    have hq : q = 2 * (q / 2) + q % 2 := by omega
    have hm : (P : Int) * q = (P : Int) * 2 * (q / 2) + (P : Int) * (q % 2) := by rw [Int.mul_assoc, ← Int.mul_add, ← hq]
    have hn : n = (P : Int) * (q % 2) + n % (P : Int) + (P : Int) * 2 * (q / 2) := by omega
    generalize n % (P : Int) = r at *
    rw [hn, Int.add_mul_emod_self_left]
    rcases Int.emod_two_eq q with h | h
    · rw [h]; simp; rw [Int.emod_eq_of_lt (by omega) (by omega)]; exact ih
    · rw [h]; simp; rw [Int.emod_eq_of_lt (by omega) (by omega)]; omega
theorem sg_bit (n : Int) (w : Nat) : sg (bit n) w = trm w n := trm_of (by rw [un_bit, Int.emod_emod])
set_option maxHeartbeats 1000000 in
/-- Bits -/
theorem bits_any (n x : Int) (w : World) : Calls Try.prog 15 #[.int .i64 n, .int .i64 x] w fun e w' => ∃ a c, e = .returned (.slice a (lim x) c) ∧ Hid (Frs 4 w w' (.slice a (lim x) c) (lim x) (fun j => .bool (bit n j))) := by
  have HL := Lib.hid (limit_any x w)
  have hp := lim_pos x
  generalize lim x = m at *
  have hmk := fun W => make_bools m (by omega) W
  have HR0 := Lib.hid (show (w.alloc (.cells (madeCells #[.bool false] m) 4)).rowIs w.heap.size 4 m (fun j => .bool (decide (j < 0) && bit n j)) from World.rowIs.congr (World.rowIs_made w (.bool false) m 4) fun j _ => by simp)
  have HB0 := Lib.hid ((Below.refl w.heap.size w).alloc (Nat.le_refl _) (.cells (madeCells #[.bool false] m) 4))
  go_enter Try.func15, Try.ntmps15
  go_wp2_with (go_at_call 34; refine HL.out.mono ?_; rintro e w' ⟨rfl, rfl⟩)
  go_loopw [12] (fun i wr => ∃ k : Nat, k ≤ m ∧ i = .int .i64 k ∧ Hid (Below w.heap.size w wr) ∧ Hid (wr.rowIs w.heap.size 4 m (fun j => .bool (decide (j < k) && bit n j)))) (fun i _ => m - (intOf i).toNat)
  case atStart => exact ⟨0, Nat.zero_le _, rfl, HB0, HR0⟩
  case round =>
    obtain ⟨k, hk, rfl, HB, HR⟩ := hrel
    by_cases hlt : k < m
    · have hltI : (k : Int) < (m : Int) := by omega
      have cr := HR.out.cell hlt
      have fr := HR.out.frozen k
      have hbit := bit_eq n k
      have HRN := Lib.hid (show (wr.setCell ⟨w.heap.size, k, none⟩ (.bool (bit n k))).rowIs w.heap.size 4 m (fun j => .bool (decide (j < k + 1) && bit n j)) from World.rowIs.congr (HR.out.set k (.bool (bit n k))) fun j hj => by
        by_cases e : j = k
        · subst e; simp
        · rw [if_neg e]
          by_cases e2 : j < k
          · simp [e2, show j < k + 1 by omega]
          · simp [e2, show ¬ j < k + 1 by omega])
      have HBN := Lib.hid (HB.out.setCell (p := ⟨w.heap.size, k, none⟩) (Nat.le_refl _) (.bool (bit n k)))
      go_wp2
      refine ⟨⟨k + 1, by omega, by go_num, HBN, HRN⟩, ?_⟩
      simp [intOf]; omega
    · obtain rfl : k = m := by omega
      have hltI : ¬ (k : Int) < (k : Int) := by omega
      clear hlt
      go_wp2
      go_ret
      exact ⟨_, _, rfl, Lib.hid ⟨.inr ⟨w.heap.size, k, _, rfl, Nat.le_refl _, by unfold maxLen; omega, by rw [Nat.mul_one]; exact HR.out, fun j hj => by simp [show j < k by omega]⟩, HB.out, fun b e => by injection e with e; simp at e; omega⟩⟩
set_option maxHeartbeats 1000000 in
/-- Const -/
theorem const_any (n x : Int) (w : World) : Calls Try.prog 23 #[.int .i64 n, .int .i64 x] w fun e w' => ∃ b, e = .returned (.slice (some ⟨b, 0, none⟩) (lim x) (lim x)) ∧ Hid (Below w.heap.size w w' ∧ w.heap.size ≤ b ∧ w'.rowIs b 3 (lim x) (fun j => .int .i64 ((bit n j).toNat : Nat))) := by
  have HL := Lib.hid (limit_any x w)
  have hp := lim_pos x
  generalize lim x = m at *
  have hmk := fun W => make_ints m (by omega) W
  have HR0 := Lib.hid (show (w.alloc (.cells (madeCells #[.int .i64 0] m) 3)).rowIs w.heap.size 3 m (fun j => .int .i64 ((decide (j < 0) && bit n j).toNat : Nat)) from World.rowIs.congr (World.rowIs_made w (.int .i64 0) m 3) fun j _ => by simp)
  have HB0 := Lib.hid ((Below.refl w.heap.size w).alloc (Nat.le_refl _) (.cells (madeCells #[.int .i64 0] m) 3))
  go_enter Try.func23, Try.ntmps23
  go_wp2_with (go_at_call 34; refine HL.out.mono ?_; rintro e w' ⟨rfl, rfl⟩)
  go_loopw [12] (fun i wr => ∃ k : Nat, k ≤ m ∧ i = .int .i64 k ∧ Hid (Below w.heap.size w wr) ∧ Hid (wr.rowIs w.heap.size 3 m (fun j => .int .i64 ((decide (j < k) && bit n j).toNat : Nat)))) (fun i _ => m - (intOf i).toNat)
  case atStart => exact ⟨0, Nat.zero_le _, rfl, HB0, HR0⟩
  case round =>
    obtain ⟨k, hk, rfl, HB, HR⟩ := hrel
    by_cases hlt : k < m
    · have hltI : (k : Int) < (m : Int) := by omega
      have cr := HR.out.cell hlt
      have fr := HR.out.frozen k
      have hbit := bit_eq n k
      by_cases hb : bit n k = true
      · rw [hb] at hbit
        have HRN := Lib.hid (show (wr.setCell ⟨w.heap.size, k, none⟩ (.int .i64 1)).rowIs w.heap.size 3 m (fun j => .int .i64 ((decide (j < k + 1) && bit n j).toNat : Nat)) from World.rowIs.congr (HR.out.set k (.int .i64 1)) fun j hj => by
          by_cases e : j = k
          · subst e; simp [hb]
          · rw [if_neg e]
            by_cases e2 : j < k
            · simp [e2, show j < k + 1 by omega]
            · simp [e2, show ¬ j < k + 1 by omega])
        have HBN := Lib.hid (HB.out.setCell (p := ⟨w.heap.size, k, none⟩) (Nat.le_refl _) (.int .i64 1))
        clear hb
        go_wp2
        go_roundw
        case rel => exact ⟨k + 1, by omega, by go_num, HBN, HRN⟩
        case measure => simp [intOf]; omega
      · rw [Bool.not_eq_true] at hb
        rw [hb] at hbit
        have HRN := Lib.hid (show wr.rowIs w.heap.size 3 m (fun j => .int .i64 ((decide (j < k + 1) && bit n j).toNat : Nat)) from World.rowIs.congr HR.out fun j hj => by
          by_cases e : j = k
          · subst e; simp [hb]
          · by_cases e2 : j < k
            · simp [e2, show j < k + 1 by omega]
            · simp [e2, show ¬ j < k + 1 by omega])
        clear hb
        go_wp2
        go_roundw
        case rel => exact ⟨k + 1, by omega, by go_num, HB, HRN⟩
        case measure => simp [intOf]; omega
    · obtain rfl : k = m := by omega
      have hltI : ¬ (k : Int) < (k : Int) := by omega
      clear hlt
      go_wp2
      go_ret
      exact ⟨_, rfl, Lib.hid ⟨HB.out, Nat.le_refl _, World.rowIs.congr HR.out fun j hj => by simp [hj]⟩⟩
theorem or_pow {u i : Nat} (hu : u < 2 ^ i) (hi : i < 16) : bits .or .i64 (u : Int) (2 ^ i) = ((u + 2 ^ i : Nat) : Int) := by
  have hp : 2 ^ i ≤ 2 ^ 15 := Nat.pow_le_pow_right (by omega) (by omega)
  have h1 : (BitVec.ofInt 64 (u : Int)).toNat = u := by
    rw [BitVec.ofInt_natCast, BitVec.toNat_ofNat]; exact Nat.mod_eq_of_lt (by omega)
  have h2 : (BitVec.ofInt 64 ((2 ^ i : Nat) : Int)).toNat = 2 ^ i := by
    rw [BitVec.ofInt_natCast, BitVec.toNat_ofNat]; exact Nat.mod_eq_of_lt (by omega)
  have h3 : (2 : Int) ^ i = ((2 ^ i : Nat) : Int) := by simp
  show IntKind.i64.wrap ((BitVec.ofInt 64 (u : Int) ||| BitVec.ofInt 64 (2 ^ i)).toNat : Int) = _
  rw [h3, BitVec.toNat_or, h1, h2]
  have h4 := Nat.two_pow_add_eq_or_of_lt hu 1
  rw [Nat.mul_one] at h4
  rw [Nat.or_comm, ← h4, Nat.add_comm]
  exact IntWalk.i64_in _ (by omega)
set_option maxHeartbeats 1000000 in
/-- Value -/
theorem value_is {w : World} {a : Option Addr} {n c : Nat} {f : Nat → Bool} (h : HasB w a n f) (hn : n ≤ 1000000) : Calls Try.prog 17 #[.slice a n c] w fun e w' => e = .returned (.int .i64 (trm (lim (min n 16 : Nat)) (un f (min n 16)))) ∧ w = w' := by
  obtain ⟨m, hm⟩ : ∃ m, m = min n 16 := ⟨_, rfl⟩
  rw [← hm]
  have hm1 : m ≤ n ∧ m ≤ 16 := by omega
  have hmin : (if 16 < (n : Int) then (16 : Int) else (n : Int)) = (m : Int) := by rw [hm]; split <;> omega
  have hmin2 : (if 16 < n then (16 : Int) else (n : Int)) = (m : Int) := by rw [hm]; split <;> omega
  have hmin3 : (if n ≤ 16 then (n : Int) else 16) = (m : Int) := by rw [hm]; split <;> omega
  have hmin4 : (if (n : Int) ≤ 16 then (n : Int) else 16) = (m : Int) := by rw [hm]; split <;> omega
  have HT := Lib.hid (trim_any (un f m) m w)
  have H := Lib.hid h
  clear hm h
  go_enter Try.func17, Try.ntmps17
  go_wp2
  go_loopw [4, 10] (fun u i wr => ∃ k : Nat, k ≤ m ∧ u = .int .i64 (un f k : Nat) ∧ i = .int .i64 k ∧ w = wr) (fun _ i _ => m - (intOf i).toNat)
  case atStart => exact ⟨0, Nat.zero_le _, rfl, rfl, rfl⟩
  case round =>
    obtain ⟨k, hk, rfl, rfl, rfl⟩ := hrel
    by_cases hlt : k < m
    · have hltI : (k : Int) < (m : Int) := by omega
      rcases H.out with e | ⟨b, off, rfl, _, hc⟩
      · omega
      have xc := hc k (by omega)
      have hu := un_lt f k
      have ho := or_pow hu (show k < 16 by omega)
      have hpow : wrap64 ((2 : Int) ^ k) = 2 ^ k := by
        have h3 : (2 : Int) ^ k = ((2 ^ k : Nat) : Int) := by simp
        have hp : 2 ^ k ≤ 2 ^ 15 := Nat.pow_le_pow_right (by omega) (by omega)
        rw [h3]; unfold wrap64; omega
      have HS := Lib.hid (show un f (k + 1) = un f k + (f k).toNat * 2 ^ k from rfl)
      have hkn : (k : Int) < (n : Int) := by omega
      clear hc hu
      cases hf : f k with
      | true =>
        rw [hf] at xc HS
        have HS2 := Lib.hid (show ((un f k : Nat) : Int) + 2 ^ k = ((un f (k + 1) : Nat) : Int) by rw [HS.out]; simp)
        go_wp2
        go_roundw
        case rel => exact ⟨k + 1, by omega, by rw [HS2.out], by go_num, trivial⟩
        case measure => simp [intOf]; omega
      | false =>
        rw [hf] at xc HS
        have HS2 := Lib.hid (show ((un f k : Nat) : Int) = ((un f (k + 1) : Nat) : Int) by rw [HS.out]; simp)
        go_wp2
        go_roundw
        case rel => exact ⟨k + 1, by omega, by rw [HS2.out], by go_num, trivial⟩
        case measure => simp [intOf]; omega
    · obtain rfl : k = m := by omega
      have hltI : ¬ (k : Int) < (k : Int) := by omega
      clear hlt
      go_wp2_with (go_at_call 25; refine HT.out.mono ?_; rintro e w' ⟨rfl, rfl⟩)
      go_ret
      exact ⟨rfl, rfl⟩
/-- Value, of a vector's bits. -/
theorem value_any' {w : World} {a : Option Addr} {n c : Nat} {f : Nat → Bool} (h : HasB w a n f) (hn : 1 ≤ n ∧ n ≤ 16) : Calls Try.prog 17 #[.slice a n c] w fun e w' => e = .returned (.int .i64 (sg f n)) ∧ w = w' := by
  have := value_is (c := c) h (by omega)
  rw [show min n 16 = n by omega, lim_of hn] at this
  exact this
end Go.Proofs.Ytepafgmiloncgaa
