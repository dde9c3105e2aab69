/- Contracts: the answers' Do. -/
import Derived.Test.YtepafgmiloncgaaBN
namespace Go.Proofs.Ytepafgmiloncgaa
open Go.RowKit Go.Lib Go.Maps
set_option maxRecDepth 100000

/-- One of five. -/
def dop : Nat → Int → Int → Int
  | 0, a, b => a + b
  | 1, a, b => a - b
  | 2, a, b => a * b
  | 3, a, b => quo a b
  | _, a, b => rmd a b
theorem quo_pp {X Y : Nat} (hY : 0 < Y) : quo (X : Int) (Y : Int) = ((X / Y : Nat) : Int) ∧ rmd (X : Int) (Y : Int) = ((X % Y : Nat) : Int) := by
  have h0 : ¬ (Y : Int) = 0 := by omega
  have h1 : ¬ (X : Int) < 0 := by omega
  have h2 : ¬ (Y : Int) < 0 := by omega
  have n1 : (X : Int).natAbs = X := by omega
  have n2 : (Y : Int).natAbs = Y := by omega
  unfold quo rmd
  rw [n1, n2, if_neg h0, if_neg h0, if_neg h1, decide_eq_false h1, decide_eq_false h2]
  exact ⟨rfl, rfl⟩
theorem quo_pn {X Y : Nat} (hY : 0 < Y) : quo (X : Int) (-(Y : Int)) = -((X / Y : Nat) : Int) ∧ rmd (X : Int) (-(Y : Int)) = ((X % Y : Nat) : Int) := by
  have h0 : ¬ (-(Y : Int)) = 0 := by omega
  have h1 : ¬ (X : Int) < 0 := by omega
  have h2 : (-(Y : Int)) < 0 := by omega
  have n1 : (X : Int).natAbs = X := by omega
  have n2 : (-(Y : Int)).natAbs = Y := by omega
  unfold quo rmd
  rw [n1, n2, if_neg h0, if_neg h0, if_neg h1, decide_eq_false h1, decide_eq_true h2]
  exact ⟨rfl, rfl⟩
theorem quo_np {X Y : Nat} (hX : 0 < X) (hY : 0 < Y) : quo (-(X : Int)) (Y : Int) = -((X / Y : Nat) : Int) ∧ rmd (-(X : Int)) (Y : Int) = -((X % Y : Nat) : Int) := by
  have h0 : ¬ (Y : Int) = 0 := by omega
  have h1 : (-(X : Int)) < 0 := by omega
  have h2 : ¬ (Y : Int) < 0 := by omega
  have n1 : (-(X : Int)).natAbs = X := by omega
  have n2 : (Y : Int).natAbs = Y := by omega
  unfold quo rmd
  rw [n1, n2, if_neg h0, if_neg h0, if_pos h1, decide_eq_true h1, decide_eq_false h2]
  exact ⟨rfl, rfl⟩
theorem quo_nn {X Y : Nat} (hX : 0 < X) (hY : 0 < Y) : quo (-(X : Int)) (-(Y : Int)) = ((X / Y : Nat) : Int) ∧ rmd (-(X : Int)) (-(Y : Int)) = -((X % Y : Nat) : Int) := by
  have h0 : ¬ (-(Y : Int)) = 0 := by omega
  have h1 : (-(X : Int)) < 0 := by omega
  have h2 : (-(Y : Int)) < 0 := by omega
  have n1 : (-(X : Int)).natAbs = X := by omega
  have n2 : (-(Y : Int)).natAbs = Y := by omega
  unfold quo rmd
  rw [n1, n2, if_neg h0, if_neg h0, if_pos h1, decide_eq_true h1, decide_eq_true h2]
  exact ⟨rfl, rfl⟩
theorem rdo_add (a b : Int) (ha : -32768 ≤ a ∧ a ≤ 32767) (hb : -32768 ≤ b ∧ b ≤ 32767) (k : Nat) (hk : 1 ≤ k ∧ k ≤ 16) (w : World) : Calls Try.prog 19 #[.int .i64 0, .int .i64 a, .int .i64 b, .int .i64 (k : Nat)] w fun e w' => e = .returned (.int .i64 (trm k (a + b))) ∧ w = w' := by
  have HT := Lib.hid (rtrim_in (a + b) (by omega) k hk w)
  go_enter Try.func19, Try.ntmps19
  go_wp2_with (go_at_call 14; refine HT.out.mono ?_; rintro e w' ⟨rfl, rfl⟩)
  go_ret
  exact ⟨rfl, rfl⟩
theorem rdo_sub (a b : Int) (ha : -32768 ≤ a ∧ a ≤ 32767) (hb : -32768 ≤ b ∧ b ≤ 32767) (k : Nat) (hk : 1 ≤ k ∧ k ≤ 16) (w : World) : Calls Try.prog 19 #[.int .i64 1, .int .i64 a, .int .i64 b, .int .i64 (k : Nat)] w fun e w' => e = .returned (.int .i64 (trm k (a - b))) ∧ w = w' := by
  have HT := Lib.hid (rtrim_in (a - b) (by omega) k hk w)
  go_enter Try.func19, Try.ntmps19
  go_wp2_with (go_at_call 14; refine HT.out.mono ?_; rintro e w' ⟨rfl, rfl⟩)
  go_ret
  exact ⟨rfl, rfl⟩
theorem mul_small {a b : Int} (ha : -32768 ≤ a ∧ a ≤ 32767) (hb : -32768 ≤ b ∧ b ≤ 32767) : -1073741824 ≤ a * b ∧ a * b ≤ 1073741824 := by
  have h : (a * b).natAbs ≤ 32768 * 32768 := by rw [Int.natAbs_mul]; exact Nat.mul_le_mul (by omega) (by omega)
  omega
theorem rdo_mul (a b : Int) (ha : -32768 ≤ a ∧ a ≤ 32767) (hb : -32768 ≤ b ∧ b ≤ 32767) (k : Nat) (hk : 1 ≤ k ∧ k ≤ 16) (w : World) : Calls Try.prog 19 #[.int .i64 2, .int .i64 a, .int .i64 b, .int .i64 (k : Nat)] w fun e w' => e = .returned (.int .i64 (trm k (a * b))) ∧ w = w' := by
  have hm := mul_small ha hb
  have HT := Lib.hid (rtrim_in (a * b) (by omega) k hk w)
  have hw1 : wrap64 (a * b) = a * b := by unfold wrap64; omega
  go_enter Try.func19, Try.ntmps19
  go_wp2_with (go_at_call 14; refine HT.out.mono ?_; rintro e w' ⟨rfl, rfl⟩)
  go_ret
  exact ⟨rfl, rfl⟩
theorem rdo_quo0 (a : Int) (k : Nat) (w : World) : Calls Try.prog 19 #[.int .i64 3, .int .i64 a, .int .i64 0, .int .i64 (k : Nat)] w fun e w' => e = .returned (.int .i64 0) ∧ w = w' := by
  go_enter Try.func19, Try.ntmps19
  go_wp2
  go_ret
  exact ⟨rfl, rfl⟩
set_option maxHeartbeats 1000000 in
theorem rdo_quo_pp (X Y : Nat) (hX' : X ≤ 32768) (hY : 0 < Y) (hY' : Y ≤ 32768) (k : Nat) (hk : 1 ≤ k ∧ k ≤ 16) (w : World) : Calls Try.prog 19 #[.int .i64 3, .int .i64 (X : Int), .int .i64 (Y : Int), .int .i64 (k : Nat)] w fun e w' => e = .returned (.int .i64 (trm k (quo (X : Int) (Y : Int)))) ∧ w = w' := by
  have HV := Lib.hid (show ∀ K : Nat, K = X / Y → trm k (quo (X : Int) (Y : Int)) = trm k ((K : Int)) from fun K h => by rw [h, (quo_pp hY).1])
  have HT := Lib.hid (show ∀ K : Nat, K ≤ X → Calls Try.prog 14 #[.int .i64 ((K : Int)), .int .i64 (k : Nat)] w fun e w' => e = .returned (.int .i64 (trm k ((K : Int)))) ∧ w = w' from fun K h => rtrim_in _ (by omega) k hk w)
  have sx : ¬ (X : Int) < 0 := by omega
  have sxd : decide ((X : Int) < 0) = false := by simp <;> omega
  have sy : ¬ (Y : Int) < 0 := by omega
  have syd : decide ((Y : Int) < 0) = false := by simp <;> omega
  have sy0 : ¬ (Y : Int) = 0 := by omega
  have sy0b : ((Y : Int) == 0) = false := by simp <;> omega
  go_enter Try.func19, Try.ntmps19
  go_wp2
  go_loopw [11, 12] (fun q r wr => ∃ K R : Nat, q = .int .i64 (K : Nat) ∧ r = .int .i64 (R : Nat) ∧ R ≤ X ∧ Hid (Y * K + R = X) ∧ w = wr) (fun _ r _ => (intOf r).toNat)
  case atStart => exact ⟨0, X, rfl, rfl, Nat.le_refl _, Lib.hid (by simp), rfl⟩
  case round =>
    obtain ⟨K, R, rfl, rfl, hR, HK, rfl⟩ := hrel
    have hKX : K ≤ X := by
      have h1 : 1 * K ≤ Y * K := Nat.mul_le_mul_right _ hY
      have := HK.out
      omega
    by_cases hlt : Y ≤ R
    · have hltI : (Y : Int) ≤ (R : Int) := by omega
      have HKN := Lib.hid (show Y * (K + 1) + (R - Y) = X by have := HK.out; rw [Nat.mul_add]; omega)
      go_wp2
      go_roundw
      case rel => exact ⟨K + 1, R - Y, by go_num, by go_num, by omega, HKN, trivial⟩
      case measure => simp [intOf]; omega
    · have hltI : ¬ (Y : Int) ≤ (R : Int) := by omega
      have HZ := Lib.hid (show K = X / Y ∧ R = X % Y by
        have h := HK.out
        rw [← h]
        exact ⟨by rw [Nat.mul_add_div hY, Nat.div_eq_of_lt (by omega)]; rfl, by rw [Nat.mul_add_mod, Nat.mod_eq_of_lt (by omega)]⟩)
      have HTT := Lib.hid (HT.out K (by omega))
      have HVV := Lib.hid (HV.out K HZ.out.1)
      go_wp2_with (go_at_call 14; refine HTT.out.mono ?_; rintro e w' ⟨rfl, rfl⟩)
      go_ret
      exact ⟨by rw [HVV.out]; rfl, rfl⟩
set_option maxHeartbeats 1000000 in
theorem rdo_quo_pn (X Y : Nat) (hX' : X ≤ 32768) (hY : 0 < Y) (hY' : Y ≤ 32768) (k : Nat) (hk : 1 ≤ k ∧ k ≤ 16) (w : World) : Calls Try.prog 19 #[.int .i64 3, .int .i64 (X : Int), .int .i64 (-(Y : Int)), .int .i64 (k : Nat)] w fun e w' => e = .returned (.int .i64 (trm k (quo (X : Int) (-(Y : Int))))) ∧ w = w' := by
  have HV := Lib.hid (show ∀ K : Nat, K = X / Y → trm k (quo (X : Int) (-(Y : Int))) = trm k (-(K : Int)) from fun K h => by rw [h, (quo_pn hY).1])
  have HT := Lib.hid (show ∀ K : Nat, K ≤ X → Calls Try.prog 14 #[.int .i64 (-(K : Int)), .int .i64 (k : Nat)] w fun e w' => e = .returned (.int .i64 (trm k (-(K : Int)))) ∧ w = w' from fun K h => rtrim_in _ (by omega) k hk w)
  have sx : ¬ (X : Int) < 0 := by omega
  have sxd : decide ((X : Int) < 0) = false := by simp <;> omega
  have sy : -(Y : Int) < 0 := by omega
  have syd : decide (-(Y : Int) < 0) = true := by simp <;> omega
  have sy0 : ¬ -(Y : Int) = 0 := by omega
  have sy0b : (-(Y : Int) == 0) = false := by simp <;> omega
  go_enter Try.func19, Try.ntmps19
  go_wp2
  go_loopw [11, 12] (fun q r wr => ∃ K R : Nat, q = .int .i64 (K : Nat) ∧ r = .int .i64 (R : Nat) ∧ R ≤ X ∧ Hid (Y * K + R = X) ∧ w = wr) (fun _ r _ => (intOf r).toNat)
  case atStart => exact ⟨0, X, rfl, rfl, Nat.le_refl _, Lib.hid (by simp), rfl⟩
  case round =>
    obtain ⟨K, R, rfl, rfl, hR, HK, rfl⟩ := hrel
    have hKX : K ≤ X := by
      have h1 : 1 * K ≤ Y * K := Nat.mul_le_mul_right _ hY
      have := HK.out
      omega
    by_cases hlt : Y ≤ R
    · have hltI : (Y : Int) ≤ (R : Int) := by omega
      have HKN := Lib.hid (show Y * (K + 1) + (R - Y) = X by have := HK.out; rw [Nat.mul_add]; omega)
      go_wp2
      go_roundw
      case rel => exact ⟨K + 1, R - Y, by go_num, by go_num, by omega, HKN, trivial⟩
      case measure => simp [intOf]; omega
    · have hltI : ¬ (Y : Int) ≤ (R : Int) := by omega
      have HZ := Lib.hid (show K = X / Y ∧ R = X % Y by
        have h := HK.out
        rw [← h]
        exact ⟨by rw [Nat.mul_add_div hY, Nat.div_eq_of_lt (by omega)]; rfl, by rw [Nat.mul_add_mod, Nat.mod_eq_of_lt (by omega)]⟩)
      have HTT := Lib.hid (HT.out K (by omega))
      have HVV := Lib.hid (HV.out K HZ.out.1)
      go_wp2_with (go_at_call 14; refine HTT.out.mono ?_; rintro e w' ⟨rfl, rfl⟩)
      go_ret
      exact ⟨by rw [HVV.out]; rfl, rfl⟩
set_option maxHeartbeats 1000000 in
theorem rdo_quo_np (X Y : Nat) (hX : 0 < X) (hX' : X ≤ 32768) (hY : 0 < Y) (hY' : Y ≤ 32768) (k : Nat) (hk : 1 ≤ k ∧ k ≤ 16) (w : World) : Calls Try.prog 19 #[.int .i64 3, .int .i64 (-(X : Int)), .int .i64 (Y : Int), .int .i64 (k : Nat)] w fun e w' => e = .returned (.int .i64 (trm k (quo (-(X : Int)) (Y : Int)))) ∧ w = w' := by
  have HV := Lib.hid (show ∀ K : Nat, K = X / Y → trm k (quo (-(X : Int)) (Y : Int)) = trm k (-(K : Int)) from fun K h => by rw [h, (quo_np hX hY).1])
  have HT := Lib.hid (show ∀ K : Nat, K ≤ X → Calls Try.prog 14 #[.int .i64 (-(K : Int)), .int .i64 (k : Nat)] w fun e w' => e = .returned (.int .i64 (trm k (-(K : Int)))) ∧ w = w' from fun K h => rtrim_in _ (by omega) k hk w)
  have sx : -(X : Int) < 0 := by omega
  have sxd : decide (-(X : Int) < 0) = true := by simp <;> omega
  have sy : ¬ (Y : Int) < 0 := by omega
  have syd : decide ((Y : Int) < 0) = false := by simp <;> omega
  have sy0 : ¬ (Y : Int) = 0 := by omega
  have sy0b : ((Y : Int) == 0) = false := by simp <;> omega
  go_enter Try.func19, Try.ntmps19
  go_wp2
  go_loopw [11, 12] (fun q r wr => ∃ K R : Nat, q = .int .i64 (K : Nat) ∧ r = .int .i64 (R : Nat) ∧ R ≤ X ∧ Hid (Y * K + R = X) ∧ w = wr) (fun _ r _ => (intOf r).toNat)
  case atStart => exact ⟨0, X, rfl, rfl, Nat.le_refl _, Lib.hid (by simp), rfl⟩
  case round =>
    obtain ⟨K, R, rfl, rfl, hR, HK, rfl⟩ := hrel
    have hKX : K ≤ X := by
      have h1 : 1 * K ≤ Y * K := Nat.mul_le_mul_right _ hY
      have := HK.out
      omega
    by_cases hlt : Y ≤ R
    · have hltI : (Y : Int) ≤ (R : Int) := by omega
      have HKN := Lib.hid (show Y * (K + 1) + (R - Y) = X by have := HK.out; rw [Nat.mul_add]; omega)
      go_wp2
      go_roundw
      case rel => exact ⟨K + 1, R - Y, by go_num, by go_num, by omega, HKN, trivial⟩
      case measure => simp [intOf]; omega
    · have hltI : ¬ (Y : Int) ≤ (R : Int) := by omega
      have HZ := Lib.hid (show K = X / Y ∧ R = X % Y by
        have h := HK.out
        rw [← h]
        exact ⟨by rw [Nat.mul_add_div hY, Nat.div_eq_of_lt (by omega)]; rfl, by rw [Nat.mul_add_mod, Nat.mod_eq_of_lt (by omega)]⟩)
      have HTT := Lib.hid (HT.out K (by omega))
      have HVV := Lib.hid (HV.out K HZ.out.1)
      go_wp2_with (go_at_call 14; refine HTT.out.mono ?_; rintro e w' ⟨rfl, rfl⟩)
      go_ret
      exact ⟨by rw [HVV.out]; rfl, rfl⟩
set_option maxHeartbeats 1000000 in
theorem rdo_quo_nn (X Y : Nat) (hX : 0 < X) (hX' : X ≤ 32768) (hY : 0 < Y) (hY' : Y ≤ 32768) (k : Nat) (hk : 1 ≤ k ∧ k ≤ 16) (w : World) : Calls Try.prog 19 #[.int .i64 3, .int .i64 (-(X : Int)), .int .i64 (-(Y : Int)), .int .i64 (k : Nat)] w fun e w' => e = .returned (.int .i64 (trm k (quo (-(X : Int)) (-(Y : Int))))) ∧ w = w' := by
  have HV := Lib.hid (show ∀ K : Nat, K = X / Y → trm k (quo (-(X : Int)) (-(Y : Int))) = trm k ((K : Int)) from fun K h => by rw [h, (quo_nn hX hY).1])
  have HT := Lib.hid (show ∀ K : Nat, K ≤ X → Calls Try.prog 14 #[.int .i64 ((K : Int)), .int .i64 (k : Nat)] w fun e w' => e = .returned (.int .i64 (trm k ((K : Int)))) ∧ w = w' from fun K h => rtrim_in _ (by omega) k hk w)
  have sx : -(X : Int) < 0 := by omega
  have sxd : decide (-(X : Int) < 0) = true := by simp <;> omega
  have sy : -(Y : Int) < 0 := by omega
  have syd : decide (-(Y : Int) < 0) = true := by simp <;> omega
  have sy0 : ¬ -(Y : Int) = 0 := by omega
  have sy0b : (-(Y : Int) == 0) = false := by simp <;> omega
  go_enter Try.func19, Try.ntmps19
  go_wp2
  go_loopw [11, 12] (fun q r wr => ∃ K R : Nat, q = .int .i64 (K : Nat) ∧ r = .int .i64 (R : Nat) ∧ R ≤ X ∧ Hid (Y * K + R = X) ∧ w = wr) (fun _ r _ => (intOf r).toNat)
  case atStart => exact ⟨0, X, rfl, rfl, Nat.le_refl _, Lib.hid (by simp), rfl⟩
  case round =>
    obtain ⟨K, R, rfl, rfl, hR, HK, rfl⟩ := hrel
    have hKX : K ≤ X := by
      have h1 : 1 * K ≤ Y * K := Nat.mul_le_mul_right _ hY
      have := HK.out
      omega
    by_cases hlt : Y ≤ R
    · have hltI : (Y : Int) ≤ (R : Int) := by omega
      have HKN := Lib.hid (show Y * (K + 1) + (R - Y) = X by have := HK.out; rw [Nat.mul_add]; omega)
      go_wp2
      go_roundw
      case rel => exact ⟨K + 1, R - Y, by go_num, by go_num, by omega, HKN, trivial⟩
      case measure => simp [intOf]; omega
    · have hltI : ¬ (Y : Int) ≤ (R : Int) := by omega
      have HZ := Lib.hid (show K = X / Y ∧ R = X % Y by
        have h := HK.out
        rw [← h]
        exact ⟨by rw [Nat.mul_add_div hY, Nat.div_eq_of_lt (by omega)]; rfl, by rw [Nat.mul_add_mod, Nat.mod_eq_of_lt (by omega)]⟩)
      have HTT := Lib.hid (HT.out K (by omega))
      have HVV := Lib.hid (HV.out K HZ.out.1)
      go_wp2_with (go_at_call 14; refine HTT.out.mono ?_; rintro e w' ⟨rfl, rfl⟩)
      go_ret
      exact ⟨by rw [HVV.out]; rfl, rfl⟩
theorem rdo_rmd0 (a : Int) (k : Nat) (w : World) : Calls Try.prog 19 #[.int .i64 4, .int .i64 a, .int .i64 0, .int .i64 (k : Nat)] w fun e w' => e = .returned (.int .i64 0) ∧ w = w' := by
  go_enter Try.func19, Try.ntmps19
  go_wp2
  go_ret
  exact ⟨rfl, rfl⟩
set_option maxHeartbeats 1000000 in
theorem rdo_rmd_pp (X Y : Nat) (hX' : X ≤ 32768) (hY : 0 < Y) (hY' : Y ≤ 32768) (k : Nat) (hk : 1 ≤ k ∧ k ≤ 16) (w : World) : Calls Try.prog 19 #[.int .i64 4, .int .i64 (X : Int), .int .i64 (Y : Int), .int .i64 (k : Nat)] w fun e w' => e = .returned (.int .i64 (trm k (rmd (X : Int) (Y : Int)))) ∧ w = w' := by
  have HV := Lib.hid (show ∀ R : Nat, R = X % Y → trm k (rmd (X : Int) (Y : Int)) = trm k ((R : Int)) from fun R h => by rw [h, (quo_pp hY).2])
  have HT := Lib.hid (show ∀ R : Nat, R ≤ X → Calls Try.prog 14 #[.int .i64 ((R : Int)), .int .i64 (k : Nat)] w fun e w' => e = .returned (.int .i64 (trm k ((R : Int)))) ∧ w = w' from fun R h => rtrim_in _ (by omega) k hk w)
  have sx : ¬ (X : Int) < 0 := by omega
  have sxd : decide ((X : Int) < 0) = false := by simp <;> omega
  have sy : ¬ (Y : Int) < 0 := by omega
  have syd : decide ((Y : Int) < 0) = false := by simp <;> omega
  have sy0 : ¬ (Y : Int) = 0 := by omega
  have sy0b : ((Y : Int) == 0) = false := by simp <;> omega
  go_enter Try.func19, Try.ntmps19
  go_wp2
  go_loopw [11, 12] (fun q r wr => ∃ K R : Nat, q = .int .i64 (K : Nat) ∧ r = .int .i64 (R : Nat) ∧ R ≤ X ∧ Hid (Y * K + R = X) ∧ w = wr) (fun _ r _ => (intOf r).toNat)
  case atStart => exact ⟨0, X, rfl, rfl, Nat.le_refl _, Lib.hid (by simp), rfl⟩
  case round =>
    obtain ⟨K, R, rfl, rfl, hR, HK, rfl⟩ := hrel
    have hKX : K ≤ X := by
      have h1 : 1 * K ≤ Y * K := Nat.mul_le_mul_right _ hY
      have := HK.out
      omega
    by_cases hlt : Y ≤ R
    · have hltI : (Y : Int) ≤ (R : Int) := by omega
      have HKN := Lib.hid (show Y * (K + 1) + (R - Y) = X by have := HK.out; rw [Nat.mul_add]; omega)
      go_wp2
      go_roundw
      case rel => exact ⟨K + 1, R - Y, by go_num, by go_num, by omega, HKN, trivial⟩
      case measure => simp [intOf]; omega
    · have hltI : ¬ (Y : Int) ≤ (R : Int) := by omega
      have HZ := Lib.hid (show K = X / Y ∧ R = X % Y by
        have h := HK.out
        rw [← h]
        exact ⟨by rw [Nat.mul_add_div hY, Nat.div_eq_of_lt (by omega)]; rfl, by rw [Nat.mul_add_mod, Nat.mod_eq_of_lt (by omega)]⟩)
      have HTT := Lib.hid (HT.out R (by omega))
      have HVV := Lib.hid (HV.out R HZ.out.2)
      go_wp2_with (go_at_call 14; refine HTT.out.mono ?_; rintro e w' ⟨rfl, rfl⟩)
      go_ret
      exact ⟨by rw [HVV.out]; rfl, rfl⟩
set_option maxHeartbeats 1000000 in
theorem rdo_rmd_pn (X Y : Nat) (hX' : X ≤ 32768) (hY : 0 < Y) (hY' : Y ≤ 32768) (k : Nat) (hk : 1 ≤ k ∧ k ≤ 16) (w : World) : Calls Try.prog 19 #[.int .i64 4, .int .i64 (X : Int), .int .i64 (-(Y : Int)), .int .i64 (k : Nat)] w fun e w' => e = .returned (.int .i64 (trm k (rmd (X : Int) (-(Y : Int))))) ∧ w = w' := by
  have HV := Lib.hid (show ∀ R : Nat, R = X % Y → trm k (rmd (X : Int) (-(Y : Int))) = trm k ((R : Int)) from fun R h => by rw [h, (quo_pn hY).2])
  have HT := Lib.hid (show ∀ R : Nat, R ≤ X → Calls Try.prog 14 #[.int .i64 ((R : Int)), .int .i64 (k : Nat)] w fun e w' => e = .returned (.int .i64 (trm k ((R : Int)))) ∧ w = w' from fun R h => rtrim_in _ (by omega) k hk w)
  have sx : ¬ (X : Int) < 0 := by omega
  have sxd : decide ((X : Int) < 0) = false := by simp <;> omega
  have sy : -(Y : Int) < 0 := by omega
  have syd : decide (-(Y : Int) < 0) = true := by simp <;> omega
  have sy0 : ¬ -(Y : Int) = 0 := by omega
  have sy0b : (-(Y : Int) == 0) = false := by simp <;> omega
  go_enter Try.func19, Try.ntmps19
  go_wp2
  go_loopw [11, 12] (fun q r wr => ∃ K R : Nat, q = .int .i64 (K : Nat) ∧ r = .int .i64 (R : Nat) ∧ R ≤ X ∧ Hid (Y * K + R = X) ∧ w = wr) (fun _ r _ => (intOf r).toNat)
  case atStart => exact ⟨0, X, rfl, rfl, Nat.le_refl _, Lib.hid (by simp), rfl⟩
  case round =>
    obtain ⟨K, R, rfl, rfl, hR, HK, rfl⟩ := hrel
    have hKX : K ≤ X := by
      have h1 : 1 * K ≤ Y * K := Nat.mul_le_mul_right _ hY
      have := HK.out
      omega
    by_cases hlt : Y ≤ R
    · have hltI : (Y : Int) ≤ (R : Int) := by omega
      have HKN := Lib.hid (show Y * (K + 1) + (R - Y) = X by have := HK.out; rw [Nat.mul_add]; omega)
      go_wp2
      go_roundw
      case rel => exact ⟨K + 1, R - Y, by go_num, by go_num, by omega, HKN, trivial⟩
      case measure => simp [intOf]; omega
    · have hltI : ¬ (Y : Int) ≤ (R : Int) := by omega
      have HZ := Lib.hid (show K = X / Y ∧ R = X % Y by
        have h := HK.out
        rw [← h]
        exact ⟨by rw [Nat.mul_add_div hY, Nat.div_eq_of_lt (by omega)]; rfl, by rw [Nat.mul_add_mod, Nat.mod_eq_of_lt (by omega)]⟩)
      have HTT := Lib.hid (HT.out R (by omega))
      have HVV := Lib.hid (HV.out R HZ.out.2)
      go_wp2_with (go_at_call 14; refine HTT.out.mono ?_; rintro e w' ⟨rfl, rfl⟩)
      go_ret
      exact ⟨by rw [HVV.out]; rfl, rfl⟩
set_option maxHeartbeats 1000000 in
theorem rdo_rmd_np (X Y : Nat) (hX : 0 < X) (hX' : X ≤ 32768) (hY : 0 < Y) (hY' : Y ≤ 32768) (k : Nat) (hk : 1 ≤ k ∧ k ≤ 16) (w : World) : Calls Try.prog 19 #[.int .i64 4, .int .i64 (-(X : Int)), .int .i64 (Y : Int), .int .i64 (k : Nat)] w fun e w' => e = .returned (.int .i64 (trm k (rmd (-(X : Int)) (Y : Int)))) ∧ w = w' := by
  have HV := Lib.hid (show ∀ R : Nat, R = X % Y → trm k (rmd (-(X : Int)) (Y : Int)) = trm k (-(R : Int)) from fun R h => by rw [h, (quo_np hX hY).2])
  have HT := Lib.hid (show ∀ R : Nat, R ≤ X → Calls Try.prog 14 #[.int .i64 (-(R : Int)), .int .i64 (k : Nat)] w fun e w' => e = .returned (.int .i64 (trm k (-(R : Int)))) ∧ w = w' from fun R h => rtrim_in _ (by omega) k hk w)
  have sx : -(X : Int) < 0 := by omega
  have sxd : decide (-(X : Int) < 0) = true := by simp <;> omega
  have sy : ¬ (Y : Int) < 0 := by omega
  have syd : decide ((Y : Int) < 0) = false := by simp <;> omega
  have sy0 : ¬ (Y : Int) = 0 := by omega
  have sy0b : ((Y : Int) == 0) = false := by simp <;> omega
  go_enter Try.func19, Try.ntmps19
  go_wp2
  go_loopw [11, 12] (fun q r wr => ∃ K R : Nat, q = .int .i64 (K : Nat) ∧ r = .int .i64 (R : Nat) ∧ R ≤ X ∧ Hid (Y * K + R = X) ∧ w = wr) (fun _ r _ => (intOf r).toNat)
  case atStart => exact ⟨0, X, rfl, rfl, Nat.le_refl _, Lib.hid (by simp), rfl⟩
  case round =>
    obtain ⟨K, R, rfl, rfl, hR, HK, rfl⟩ := hrel
    have hKX : K ≤ X := by
      have h1 : 1 * K ≤ Y * K := Nat.mul_le_mul_right _ hY
      have := HK.out
      omega
    by_cases hlt : Y ≤ R
    · have hltI : (Y : Int) ≤ (R : Int) := by omega
      have HKN := Lib.hid (show Y * (K + 1) + (R - Y) = X by have := HK.out; rw [Nat.mul_add]; omega)
      go_wp2
      go_roundw
      case rel => exact ⟨K + 1, R - Y, by go_num, by go_num, by omega, HKN, trivial⟩
      case measure => simp [intOf]; omega
    · have hltI : ¬ (Y : Int) ≤ (R : Int) := by omega
      have HZ := Lib.hid (show K = X / Y ∧ R = X % Y by
        have h := HK.out
        rw [← h]
        exact ⟨by rw [Nat.mul_add_div hY, Nat.div_eq_of_lt (by omega)]; rfl, by rw [Nat.mul_add_mod, Nat.mod_eq_of_lt (by omega)]⟩)
      have HTT := Lib.hid (HT.out R (by omega))
      have HVV := Lib.hid (HV.out R HZ.out.2)
      go_wp2_with (go_at_call 14; refine HTT.out.mono ?_; rintro e w' ⟨rfl, rfl⟩)
      go_ret
      exact ⟨by rw [HVV.out]; rfl, rfl⟩
set_option maxHeartbeats 1000000 in
theorem rdo_rmd_nn (X Y : Nat) (hX : 0 < X) (hX' : X ≤ 32768) (hY : 0 < Y) (hY' : Y ≤ 32768) (k : Nat) (hk : 1 ≤ k ∧ k ≤ 16) (w : World) : Calls Try.prog 19 #[.int .i64 4, .int .i64 (-(X : Int)), .int .i64 (-(Y : Int)), .int .i64 (k : Nat)] w fun e w' => e = .returned (.int .i64 (trm k (rmd (-(X : Int)) (-(Y : Int))))) ∧ w = w' := by
  have HV := Lib.hid (show ∀ R : Nat, R = X % Y → trm k (rmd (-(X : Int)) (-(Y : Int))) = trm k (-(R : Int)) from fun R h => by rw [h, (quo_nn hX hY).2])
  have HT := Lib.hid (show ∀ R : Nat, R ≤ X → Calls Try.prog 14 #[.int .i64 (-(R : Int)), .int .i64 (k : Nat)] w fun e w' => e = .returned (.int .i64 (trm k (-(R : Int)))) ∧ w = w' from fun R h => rtrim_in _ (by omega) k hk w)
  have sx : -(X : Int) < 0 := by omega
  have sxd : decide (-(X : Int) < 0) = true := by simp <;> omega
  have sy : -(Y : Int) < 0 := by omega
  have syd : decide (-(Y : Int) < 0) = true := by simp <;> omega
  have sy0 : ¬ -(Y : Int) = 0 := by omega
  have sy0b : (-(Y : Int) == 0) = false := by simp <;> omega
  go_enter Try.func19, Try.ntmps19
  go_wp2
  go_loopw [11, 12] (fun q r wr => ∃ K R : Nat, q = .int .i64 (K : Nat) ∧ r = .int .i64 (R : Nat) ∧ R ≤ X ∧ Hid (Y * K + R = X) ∧ w = wr) (fun _ r _ => (intOf r).toNat)
  case atStart => exact ⟨0, X, rfl, rfl, Nat.le_refl _, Lib.hid (by simp), rfl⟩
  case round =>
    obtain ⟨K, R, rfl, rfl, hR, HK, rfl⟩ := hrel
    have hKX : K ≤ X := by
      have h1 : 1 * K ≤ Y * K := Nat.mul_le_mul_right _ hY
      have := HK.out
      omega
    by_cases hlt : Y ≤ R
    · have hltI : (Y : Int) ≤ (R : Int) := by omega
      have HKN := Lib.hid (show Y * (K + 1) + (R - Y) = X by have := HK.out; rw [Nat.mul_add]; omega)
      go_wp2
      go_roundw
      case rel => exact ⟨K + 1, R - Y, by go_num, by go_num, by omega, HKN, trivial⟩
      case measure => simp [intOf]; omega
    · have hltI : ¬ (Y : Int) ≤ (R : Int) := by omega
      have HZ := Lib.hid (show K = X / Y ∧ R = X % Y by
        have h := HK.out
        rw [← h]
        exact ⟨by rw [Nat.mul_add_div hY, Nat.div_eq_of_lt (by omega)]; rfl, by rw [Nat.mul_add_mod, Nat.mod_eq_of_lt (by omega)]⟩)
      have HTT := Lib.hid (HT.out R (by omega))
      have HVV := Lib.hid (HV.out R HZ.out.2)
      go_wp2_with (go_at_call 14; refine HTT.out.mono ?_; rintro e w' ⟨rfl, rfl⟩)
      go_ret
      exact ⟨by rw [HVV.out]; rfl, rfl⟩
theorem nat_of (a : Int) : (∃ X : Nat, a = (X : Int)) ∨ ∃ X : Nat, 0 < X ∧ a = -(X : Int) := by
  by_cases h : a < 0
  · exact .inr ⟨a.natAbs, by omega, by omega⟩
  · exact .inl ⟨a.natAbs, by omega⟩
/-- The answers' Do -/
theorem rdo_any (op : Nat) (hop : op < 5) (a b : Int) (ha : -32768 ≤ a ∧ a ≤ 32767) (hb : -32768 ≤ b ∧ b ≤ 32767) (k : Nat) (hk : 1 ≤ k ∧ k ≤ 16) (w : World) : Calls Try.prog 19 #[.int .i64 (op : Nat), .int .i64 a, .int .i64 b, .int .i64 (k : Nat)] w fun e w' => e = .returned (.int .i64 (trm k (dop op a b))) ∧ w = w' := by
  have h : op = 0 ∨ op = 1 ∨ op = 2 ∨ op = 3 ∨ op = 4 := by omega
  rcases h with rfl | rfl | rfl | rfl | rfl
  · exact rdo_add a b ha hb k hk w
  · exact rdo_sub a b ha hb k hk w
  · exact rdo_mul a b ha hb k hk w
  · by_cases hb0 : b = 0
    · subst hb0
      have := rdo_quo0 a k w
      rw [show dop 3 a 0 = 0 by show quo a 0 = 0; unfold quo; rw [if_pos rfl], trm_zero (by omega)]
      exact this
    · rcases nat_of a with ⟨X, rfl⟩ | ⟨X, hX, rfl⟩ <;> rcases nat_of b with ⟨Y, rfl⟩ | ⟨Y, hY, rfl⟩
      · exact rdo_quo_pp X Y (by omega) (by omega) (by omega) k hk w
      · exact rdo_quo_pn X Y (by omega) (by omega) (by omega) k hk w
      · exact rdo_quo_np X Y hX (by omega) (by omega) (by omega) k hk w
      · exact rdo_quo_nn X Y hX (by omega) (by omega) (by omega) k hk w
  · by_cases hb0 : b = 0
    · subst hb0
      have := rdo_rmd0 a k w
      rw [show dop 4 a 0 = 0 by show rmd a 0 = 0; unfold rmd; rw [if_pos rfl], trm_zero (by omega)]
      exact this
    · rcases nat_of a with ⟨X, rfl⟩ | ⟨X, hX, rfl⟩ <;> rcases nat_of b with ⟨Y, rfl⟩ | ⟨Y, hY, rfl⟩
      · exact rdo_rmd_pp X Y (by omega) (by omega) (by omega) k hk w
      · exact rdo_rmd_pn X Y (by omega) (by omega) (by omega) k hk w
      · exact rdo_rmd_np X Y hX (by omega) (by omega) (by omega) k hk w
      · exact rdo_rmd_nn X Y hX (by omega) (by omega) (by omega) k hk w
end Go.Proofs.Ytepafgmiloncgaa
