/- Contracts: Inputs; the answers' Trim. -/
import Derived.Test.YtepafgmiloncgaaBL
import Derived.Test.YtepafgmiloncgaaMF
namespace Go.Proofs.Ytepafgmiloncgaa
open Go.RowKit Go.Lib Go.Maps
set_option maxRecDepth 100000

section
variable {w w1 w2 : World} {G M b : Nat} {v iv v1 iv1 v2 iv2 : Value} {s s1 s2 : Gr} {f f' : Nat → Nat}
set_option maxHeartbeats 1000000 in
/-- Inputs -/
theorem inputsv_any {p : Nat} (hG : Gm w G M v iv (sIn p)) (hs : p ≤ 80000) (x : Int) :
    Calls Try.prog 13 #[.pointer (some ⟨G, 0, none⟩), .int .i64 x] w fun e w' => ∃ (b : Nat) (v' iv' : Value), e = .returned (.slice (some ⟨b, 0, none⟩) (lim x) (lim x)) ∧ Hid (GmT G M w v iv w' v' iv' (sIn (p + lim x))) ∧ Hid (Nv w w' (Bg G M v' iv') b (lim x) (fun j => 2 * (p + j + 1))) := by
  have HL := Lib.hid (limit_any x w)
  have hp := lim_pos x
  generalize lim x = m at *
  have hmk := fun W => make_ints m (by omega) W
  have HT0 := Lib.hid (hG.refl.below ((Below.refl w.heap.size w).alloc (Nat.le_refl _) (.cells (madeCells #[.int .i64 0] m) 3)))
  have HN0 := Lib.hid (show Nv w (w.alloc (.cells (madeCells #[.int .i64 0] m) 3)) (Bg G M v iv) w.heap.size m (fun j => if j < 0 then 2 * (p + j + 1) else 0) from ⟨Nat.le_refl _, fun e => absurd (hG.lt e) (by omega), World.rowIs.congr (World.rowIs_made w (.int .i64 0) m 3) fun j _ => by simp⟩)
  clear hG
  go_enter Try.func13, Try.ntmps13
  go_wp2_with (go_at_call 34; refine HL.out.mono ?_; rintro e w' ⟨rfl, rfl⟩)
  go_loopw [12] (fun i wr => ∃ (k : Nat) (v' iv' : Value), k ≤ m ∧ i = .int .i64 k ∧ Hid (GmT G M w v iv wr v' iv' (sIn (p + k))) ∧ Hid (Nv w wr (Bg G M v' iv') w.heap.size m (fun j => if j < k then 2 * (p + j + 1) else 0))) (fun i _ => m - (intOf i).toNat)
  case atStart => exact ⟨0, v, iv, Nat.zero_le _, rfl, HT0, HN0⟩
  case round =>
    obtain ⟨k, v', iv', hk, rfl, HT, HN⟩ := hrel
    by_cases hlt : k < m
    · have hltI : (k : Int) < (m : Int) := by omega
      obtain ⟨E, hE⟩ : ∃ E, E = 2 * (p + k + 1) := ⟨_, rfl⟩
      have HI := Lib.hid (show Calls Try.prog 27 #[.pointer (some ⟨G, 0, none⟩)] wr fun e w3 => ∃ (v3 iv3 : Value), e = .returned (.int .i64 (E : Nat)) ∧ (∃ y, w3.cell? ⟨w.heap.size, k, none⟩ = some y) ∧ w3.frozen? ⟨w.heap.size, k, none⟩ = false ∧ Hid (GmT G M w v iv (w3.setCell ⟨w.heap.size, k, none⟩ (.int .i64 (E : Nat))) v3 iv3 (sIn (p + (k + 1)))) ∧ Hid (Nv w (w3.setCell ⟨w.heap.size, k, none⟩ (.int .i64 (E : Nat))) (Bg G M v3 iv3) w.heap.size m (fun j => if j < k + 1 then 2 * (p + j + 1) else 0)) from by
        refine (input_any HT.out.gm (by show p + k ≤ _; omega)).mono fun e w3 ⟨he, v3, iv3, T⟩ => ?_
        have T' := T.out
        rw [sIn_add] at T'
        have NN := HN.out.next T'
        refine ⟨v3, iv3, by rw [he, hE]; rfl, ⟨_, NN.row.cell hlt⟩, NN.row.frozen k, Lib.hid ((HT.out.trans T').setNew (p := ⟨w.heap.size, k, none⟩) NN.nb NN.new _), Lib.hid ((NN.set k E).congr fun j hj => ?_)⟩
        by_cases e : j = k
        · subst e; rw [if_pos rfl, if_pos (by omega), hE]
        · rw [if_neg e]
          by_cases e2 : j < k
          · rw [if_pos e2, if_pos (by omega)]
          · rw [if_neg e2, if_neg (by omega)])
      clear hE
      go_wp2_with (go_at_call 27; refine HI.out.mono ?_; rintro e w3 ⟨v3, iv3, rfl, ⟨y, y1⟩, y2, T3, N3⟩)
      go_roundw
      case rel => exact ⟨k + 1, v3, iv3, by omega, by go_num, T3, N3⟩
      case measure => simp [intOf]; omega
    · obtain rfl : k = m := by omega
      have hltI : ¬ (k : Int) < (k : Int) := by omega
      clear hlt
      go_wp2_with fail
      go_ret
      have HNN := Lib.hid (show Nv w wr (Bg G M v' iv') w.heap.size k (fun j => 2 * (p + j + 1)) from HN.out.congr fun j hj => if_pos hj)
      first | exact ⟨_, v', iv', rfl, HT, HNN⟩ | exact ⟨_, rfl, v', iv', HT, HNN⟩
end
/-- What the answers' Trim makes of a remainder. -/
theorem trim_math {k : Nat} (hk : 1 ≤ k ∧ k ≤ 16) {P : Nat} (hP : P = 2 ^ k) (x r : Int) (hr : r = Int.tmod x (P : Int)) :
    (-(P : Int) < r ∧ r < (P : Int)) ∧ (r < 0 → (P : Int) / 2 ≤ r + P → trm k x = r) ∧ (r < 0 → r + P < (P : Int) / 2 → trm k x = r + P) ∧ (0 ≤ r → (P : Int) / 2 ≤ r → trm k x = r - P) ∧ (0 ≤ r → r < (P : Int) / 2 → trm k x = r) := by
  have hp : 0 < P := by rw [hP]; exact Nat.two_pow_pos k
  have h2 : P = 2 * 2 ^ (k - 1) := by rw [hP]; obtain ⟨j, rfl⟩ : ∃ j, k = j + 1 := ⟨k - 1, by omega⟩; rw [Nat.pow_succ]; simp; omega
  have hb : -(P : Int) < r ∧ r < (P : Int) := by
    subst hr
    have h := Int.tmod_lt_of_pos x (show (0 : Int) < (P : Int) by omega)
    have h' := Int.lt_tmod_of_pos x (show (0 : Int) < (P : Int) by omega)
    exact ⟨h', h⟩
  have hm : r % ((2 ^ k : Nat) : Int) = x % ((2 ^ k : Nat) : Int) := by
    rw [hr, hP]
    have h := Int.mul_tdiv_add_tmod x ((2 ^ k : Nat) : Int)
    conv => rhs; rw [← h]
    rw [Int.mul_add_emod_self_left]
  have e1 : trm k x = trm k r := trm_of hm.symm
  have e2 : trm k x = trm k (r + P) := by rw [e1]; exact trm_of (by rw [hP, Int.add_emod_right])
  have half : (P : Int) / 2 = ((2 ^ (k - 1) : Nat) : Int) := by rw [h2]; omega
  refine ⟨hb, fun h h' => ?_, fun h h' => ?_, fun h h' => ?_, fun h h' => ?_⟩
  · rw [e2, trm_cases hk.1 (by omega) (by rw [← hP]; omega), if_neg (by omega), ← hP]; omega
  · rw [e2, trm_cases hk.1 (by omega) (by rw [← hP]; omega), if_pos (by omega)]
  · rw [e1, trm_cases hk.1 (by omega) (by rw [← hP]; omega), if_neg (by omega), ← hP]
  · rw [e1, trm_cases hk.1 (by omega) (by rw [← hP]; omega), if_pos (by omega)]
set_option maxHeartbeats 2000000 in
theorem rtrim_in (x : Int) (hx : -9223372036854775808 ≤ x ∧ x ≤ 9223372036854775807) (k : Nat) (hk : 1 ≤ k ∧ k ≤ 16) (w : World) : Calls Try.prog 14 #[.int .i64 x, .int .i64 (k : Nat)] w fun e w' => e = .returned (.int .i64 (trm k x)) ∧ w = w' := by
  have i1 : ¬ (k : Int) < 1 := by omega
  have i2 : ¬ 16 < (k : Int) := by omega
  have hk1 : 1 ≤ k ∧ k ≤ 16 := by omega
  have HM := Lib.hid (fun (P : Nat) (h : P = 2 ^ k) => trim_math hk1 h x (Int.tmod x (P : Int)) rfl)
  have HQ := Lib.hid (show ∀ P : Nat, P = 2 ^ k → 2 ≤ P ∧ P ≤ 65536 from fun P h => by
    have h1 : 2 ^ 1 ≤ 2 ^ k := Nat.pow_le_pow_right (by omega) hk1.1
    have h2 : 2 ^ k ≤ 2 ^ 16 := Nat.pow_le_pow_right (by omega) hk1.2
    omega)
  go_enter Try.func14, Try.ntmps14
  go_wp2
  go_loopw [5, 6] (fun q i wr => ∃ j P : Nat, j ≤ k ∧ P = 2 ^ j ∧ q = .int .i64 (P : Nat) ∧ i = .int .i64 (j : Nat) ∧ w = wr) (fun _ i _ => k - (intOf i).toNat)
  case atStart => exact ⟨0, 1, Nat.zero_le _, rfl, rfl, rfl, rfl⟩
  case round =>
    obtain ⟨j, P, hj, hP, rfl, rfl, rfl⟩ := hrel
    by_cases hlt : j < k
    · have hltI : (j : Int) < (k : Int) := by omega
      have HP := Lib.hid (show P * 2 = 2 ^ (j + 1) by rw [hP, Nat.pow_succ])
      have hPb : P ≤ 65536 := by have : 2 ^ j ≤ 2 ^ 16 := Nat.pow_le_pow_right (by omega) (by omega); omega
      clear hP
      go_wp2
      go_roundw
      case rel => exact ⟨j + 1, P * 2, by omega, HP.out, by go_num, by go_num, trivial⟩
      case measure => simp [intOf]; omega
    · obtain rfl : j = k := by omega
      have hltI : ¬ (j : Int) < (j : Int) := by omega
      obtain ⟨hb, m1, m2, m3, m4⟩ := HM.out P hP
      have hPb := HQ.out P hP
      obtain ⟨r, hr⟩ : ∃ r, r = Int.tmod x (P : Int) := ⟨_, rfl⟩
      have hr' : Int.tmod x (P : Int) = r := hr.symm
      rw [hr'] at hb m1 m2 m3 m4
      have hne : ¬ (P : Int) = 0 := by omega
      have hdv : Int.tdiv (P : Int) 2 = (P : Int) / 2 := Int.tdiv_eq_ediv_of_nonneg (by omega)
      clear hlt hP HM HQ hr
      by_cases h1 : r < 0
      · by_cases h2 : (P : Int) / 2 ≤ r + P
        · have HF := Lib.hid (m1 (by omega) (by omega))
          clear m1 m2 m3 m4
          go_wp2
          go_ret
          exact ⟨by (have h := HF.out; first | (rw [h]; rfl) | (rw [hk] at h; rw [h]; rfl)), rfl⟩
        · have HF := Lib.hid (m2 (by omega) (by omega))
          clear m1 m2 m3 m4
          go_wp2
          go_ret
          exact ⟨by (have h := HF.out; first | (rw [h]; rfl) | (rw [hk] at h; rw [h]; rfl)), rfl⟩
      · by_cases h2 : (P : Int) / 2 ≤ r
        · have HF := Lib.hid (m3 (by omega) (by omega))
          clear m1 m2 m3 m4
          go_wp2
          go_ret
          exact ⟨by (have h := HF.out; first | (rw [h]; rfl) | (rw [hk] at h; rw [h]; rfl)), rfl⟩
        · have HF := Lib.hid (m4 (by omega) (by omega))
          clear m1 m2 m3 m4
          go_wp2
          go_ret
          exact ⟨by (have h := HF.out; first | (rw [h]; rfl) | (rw [hk] at h; rw [h]; rfl)), rfl⟩
set_option maxHeartbeats 2000000 in
theorem rtrim_low (x : Int) (hx : -9223372036854775808 ≤ x ∧ x ≤ 9223372036854775807) (y : Int) (hy : y < 1) (w : World) : Calls Try.prog 14 #[.int .i64 x, .int .i64 y] w fun e w' => e = .returned (.int .i64 (trm 1 x)) ∧ w = w' := by
  obtain ⟨k, hk⟩ : ∃ k : Nat, k = 1 := ⟨_, rfl⟩
  rw [show trm 1 x = trm k x by rw [hk]]
  have hk1 : 1 ≤ k ∧ k ≤ 16 := by omega
  have HM := Lib.hid (fun (P : Nat) (h : P = 2 ^ k) => trim_math hk1 h x (Int.tmod x (P : Int)) rfl)
  have HQ := Lib.hid (show ∀ P : Nat, P = 2 ^ k → 2 ≤ P ∧ P ≤ 65536 from fun P h => by
    have h1 : 2 ^ 1 ≤ 2 ^ k := Nat.pow_le_pow_right (by omega) hk1.1
    have h2 : 2 ^ k ≤ 2 ^ 16 := Nat.pow_le_pow_right (by omega) hk1.2
    omega)
  go_enter Try.func14, Try.ntmps14
  go_wp2
  go_loopw [5, 6] (fun q i wr => ∃ j P : Nat, j ≤ k ∧ P = 2 ^ j ∧ q = .int .i64 (P : Nat) ∧ i = .int .i64 (j : Nat) ∧ w = wr) (fun _ i _ => k - (intOf i).toNat)
  case atStart => exact ⟨0, 1, Nat.zero_le _, rfl, rfl, rfl, rfl⟩
  case round =>
    obtain ⟨j, P, hj, hP, rfl, rfl, rfl⟩ := hrel
    by_cases hlt : j < k
    · have hltI : (j : Int) < 1 := by omega
      have HP := Lib.hid (show P * 2 = 2 ^ (j + 1) by rw [hP, Nat.pow_succ])
      have hPb : P ≤ 65536 := by have : 2 ^ j ≤ 2 ^ 16 := Nat.pow_le_pow_right (by omega) (by omega); omega
      clear hP
      go_wp2
      go_roundw
      case rel => exact ⟨j + 1, P * 2, by omega, HP.out, by go_num, by go_num, trivial⟩
      case measure => simp [intOf]; omega
    · obtain rfl : j = k := by omega
      have hltI : ¬ (j : Int) < 1 := by omega
      obtain ⟨hb, m1, m2, m3, m4⟩ := HM.out P hP
      have hPb := HQ.out P hP
      obtain ⟨r, hr⟩ : ∃ r, r = Int.tmod x (P : Int) := ⟨_, rfl⟩
      have hr' : Int.tmod x (P : Int) = r := hr.symm
      rw [hr'] at hb m1 m2 m3 m4
      have hne : ¬ (P : Int) = 0 := by omega
      have hdv : Int.tdiv (P : Int) 2 = (P : Int) / 2 := Int.tdiv_eq_ediv_of_nonneg (by omega)
      clear hlt hP HM HQ hr
      by_cases h1 : r < 0
      · by_cases h2 : (P : Int) / 2 ≤ r + P
        · have HF := Lib.hid (m1 (by omega) (by omega))
          clear m1 m2 m3 m4
          go_wp2
          go_ret
          exact ⟨by (have h := HF.out; first | (rw [h]; rfl) | (rw [hk] at h; rw [h]; rfl)), rfl⟩
        · have HF := Lib.hid (m2 (by omega) (by omega))
          clear m1 m2 m3 m4
          go_wp2
          go_ret
          exact ⟨by (have h := HF.out; first | (rw [h]; rfl) | (rw [hk] at h; rw [h]; rfl)), rfl⟩
      · by_cases h2 : (P : Int) / 2 ≤ r
        · have HF := Lib.hid (m3 (by omega) (by omega))
          clear m1 m2 m3 m4
          go_wp2
          go_ret
          exact ⟨by (have h := HF.out; first | (rw [h]; rfl) | (rw [hk] at h; rw [h]; rfl)), rfl⟩
        · have HF := Lib.hid (m4 (by omega) (by omega))
          clear m1 m2 m3 m4
          go_wp2
          go_ret
          exact ⟨by (have h := HF.out; first | (rw [h]; rfl) | (rw [hk] at h; rw [h]; rfl)), rfl⟩
set_option maxHeartbeats 2000000 in
theorem rtrim_high (x : Int) (hx : -9223372036854775808 ≤ x ∧ x ≤ 9223372036854775807) (y : Int) (hy : 16 < y) (w : World) : Calls Try.prog 14 #[.int .i64 x, .int .i64 y] w fun e w' => e = .returned (.int .i64 (trm 16 x)) ∧ w = w' := by
  obtain ⟨k, hk⟩ : ∃ k : Nat, k = 16 := ⟨_, rfl⟩
  have hy1 : 1 ≤ y := by omega
  rw [show trm 16 x = trm k x by rw [hk]]
  have hk1 : 1 ≤ k ∧ k ≤ 16 := by omega
  have HM := Lib.hid (fun (P : Nat) (h : P = 2 ^ k) => trim_math hk1 h x (Int.tmod x (P : Int)) rfl)
  have HQ := Lib.hid (show ∀ P : Nat, P = 2 ^ k → 2 ≤ P ∧ P ≤ 65536 from fun P h => by
    have h1 : 2 ^ 1 ≤ 2 ^ k := Nat.pow_le_pow_right (by omega) hk1.1
    have h2 : 2 ^ k ≤ 2 ^ 16 := Nat.pow_le_pow_right (by omega) hk1.2
    omega)
  go_enter Try.func14, Try.ntmps14
  go_wp2
  go_loopw [5, 6] (fun q i wr => ∃ j P : Nat, j ≤ k ∧ P = 2 ^ j ∧ q = .int .i64 (P : Nat) ∧ i = .int .i64 (j : Nat) ∧ w = wr) (fun _ i _ => k - (intOf i).toNat)
  case atStart => exact ⟨0, 1, Nat.zero_le _, rfl, rfl, rfl, rfl⟩
  case round =>
    obtain ⟨j, P, hj, hP, rfl, rfl, rfl⟩ := hrel
    by_cases hlt : j < k
    · have hltI : (j : Int) < 16 := by omega
      have HP := Lib.hid (show P * 2 = 2 ^ (j + 1) by rw [hP, Nat.pow_succ])
      have hPb : P ≤ 65536 := by have : 2 ^ j ≤ 2 ^ 16 := Nat.pow_le_pow_right (by omega) (by omega); omega
      clear hP
      go_wp2
      go_roundw
      case rel => exact ⟨j + 1, P * 2, by omega, HP.out, by go_num, by go_num, trivial⟩
      case measure => simp [intOf]; omega
    · obtain rfl : j = k := by omega
      have hltI : ¬ (j : Int) < 16 := by omega
      obtain ⟨hb, m1, m2, m3, m4⟩ := HM.out P hP
      have hPb := HQ.out P hP
      obtain ⟨r, hr⟩ : ∃ r, r = Int.tmod x (P : Int) := ⟨_, rfl⟩
      have hr' : Int.tmod x (P : Int) = r := hr.symm
      rw [hr'] at hb m1 m2 m3 m4
      have hne : ¬ (P : Int) = 0 := by omega
      have hdv : Int.tdiv (P : Int) 2 = (P : Int) / 2 := Int.tdiv_eq_ediv_of_nonneg (by omega)
      clear hlt hP HM HQ hr
      by_cases h1 : r < 0
      · by_cases h2 : (P : Int) / 2 ≤ r + P
        · have HF := Lib.hid (m1 (by omega) (by omega))
          clear m1 m2 m3 m4
          go_wp2
          go_ret
          exact ⟨by (have h := HF.out; first | (rw [h]; rfl) | (rw [hk] at h; rw [h]; rfl)), rfl⟩
        · have HF := Lib.hid (m2 (by omega) (by omega))
          clear m1 m2 m3 m4
          go_wp2
          go_ret
          exact ⟨by (have h := HF.out; first | (rw [h]; rfl) | (rw [hk] at h; rw [h]; rfl)), rfl⟩
      · by_cases h2 : (P : Int) / 2 ≤ r
        · have HF := Lib.hid (m3 (by omega) (by omega))
          clear m1 m2 m3 m4
          go_wp2
          go_ret
          exact ⟨by (have h := HF.out; first | (rw [h]; rfl) | (rw [hk] at h; rw [h]; rfl)), rfl⟩
        · have HF := Lib.hid (m4 (by omega) (by omega))
          clear m1 m2 m3 m4
          go_wp2
          go_ret
          exact ⟨by (have h := HF.out; first | (rw [h]; rfl) | (rw [hk] at h; rw [h]; rfl)), rfl⟩
/-- The answers' Trim -/
theorem rtrim_any (x : Int) (hx : -9223372036854775808 ≤ x ∧ x ≤ 9223372036854775807) (y : Int) (w : World) : Calls Try.prog 14 #[.int .i64 x, .int .i64 y] w fun e w' => e = .returned (.int .i64 (trm (lim y) x)) ∧ w = w' := by
  by_cases h1 : y < 1
  · rw [show lim y = 1 by unfold lim; rw [if_pos h1]]; exact rtrim_low x hx y h1 w
  · by_cases h2 : 16 < y
    · rw [show lim y = 16 by unfold lim; rw [if_neg h1, if_pos h2]]; exact rtrim_high x hx y h2 w
    · have e : ((lim y : Nat) : Int) = y := by unfold lim; rw [if_neg h1, if_neg h2]; omega
      have := rtrim_in x hx (lim y) (lim_pos y) w
      rw [e] at this
      exact this
end Go.Proofs.Ytepafgmiloncgaa
