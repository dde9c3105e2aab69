/- Mathematics: numbers of several bits. -/
import Derived.Test.YtepafgmiloncgaaA
namespace Go.Proofs.Ytepafgmiloncgaa

/-- The number of the first k bits, without a sign. -/
def un (v : Nat → Bool) : Nat → Nat
  | 0 => 0
  | k + 1 => un v k + (v k).toNat * 2 ^ k
theorem un_lt (v : Nat → Bool) : ∀ k, un v k < 2 ^ k
  | 0 => by simp [un]
  | k + 1 => by
    have := un_lt v k
    unfold un
    rw [Nat.pow_succ]
    cases v k
    · simp; omega
    · simp; omega
theorem un_congr {v u : Nat → Bool} : ∀ {k}, (∀ i, i < k → v i = u i) → un v k = un u k
  | 0, _ => rfl
  | k + 1, h => by unfold un; rw [un_congr fun i hi => h i (by omega), h k (by omega)]
theorem un_inj {v u : Nat → Bool} : ∀ {k}, un v k = un u k → ∀ i, i < k → v i = u i
  | 0, _, i, hi => by omega
  | k + 1, h, i, hi => by
    have h1 := un_lt v k
    have h2 := un_lt u k
    unfold un at h
    have e : v k = u k := by
      cases hv : v k <;> cases hu : u k <;> simp [hv, hu] at h <;> first | rfl | omega
    rw [e] at h
    by_cases ei : i = k
    · rw [ei, e]
    · exact un_inj (k := k) (by omega) i (by omega)
theorem un_false (k : Nat) : un (fun _ => false) k = 0 := by
  induction k with
  | zero => rfl
  | succ k ih => unfold un; rw [ih]; simp
theorem un_zero {v : Nat → Bool} {k : Nat} (h : ∀ i, i < k → v i = false) : un v k = 0 := by rw [un_congr h, un_false]
theorem un_eq_zero {v : Nat → Bool} {k : Nat} : un v k = 0 ↔ ∀ i, i < k → v i = false := by
  refine ⟨fun h i hi => ?_, un_zero⟩
  rw [← un_false k] at h
  exact un_inj h i hi
/-- The inverse. -/
theorem un_not (v : Nat → Bool) : ∀ k, un (fun i => !v i) k + un v k + 1 = 2 ^ k
  | 0 => rfl
  | k + 1 => by
    have := un_not v k
    unfold un
    rw [Nat.pow_succ]
    cases v k <;> simp <;> omega
/-- A bit ahead of the others. -/
theorem un_cons (v : Nat → Bool) : ∀ k, un v (k + 1) = (v 0).toNat + 2 * un (fun i => v (i + 1)) k
  | 0 => by simp [un]
  | k + 1 => by
    rw [show un v (k + 1 + 1) = un v (k + 1) + (v (k + 1)).toNat * 2 ^ (k + 1) from rfl, un_cons v k, show un (fun i => v (i + 1)) (k + 1) = un (fun i => v (i + 1)) k + (v (k + 1)).toNat * 2 ^ k from rfl, Nat.pow_succ]
    cases v (k + 1) <;> simp <;> omega
/-- The upper bits, as a number. -/
theorem un_split (v : Nat → Bool) (k : Nat) : ∀ m, un v (k + m) = un v k + 2 ^ k * un (fun i => v (k + i)) m
  | 0 => by simp [un]
  | m + 1 => by
    rw [show un v (k + (m + 1)) = un v (k + m) + (v (k + m)).toNat * 2 ^ (k + m) from rfl, un_split v k m, show un (fun i => v (k + i)) (m + 1) = un (fun i => v (k + i)) m + (v (k + m)).toNat * 2 ^ m from rfl, Nat.mul_add, Nat.pow_add]
    cases v (k + m) <;> simp <;> omega

/-- The number of w bits that differs by a multiple of 2 ^ w. -/
def trm (w : Nat) (x : Int) : Int := Int.bmod x (2 ^ w)
/-- The number of w bits with its sign. -/
def sg (v : Nat → Bool) (w : Nat) : Int := trm w (un v w)
theorem trm_of {w : Nat} {x y : Int} (h : x % ((2 ^ w : Nat) : Int) = y % ((2 ^ w : Nat) : Int)) : trm w x = trm w y := by
  unfold trm Int.bmod; rw [h]
theorem trm_emod (w : Nat) (x : Int) : trm w x % ((2 ^ w : Nat) : Int) = x % ((2 ^ w : Nat) : Int) := Int.bmod_emod
theorem sg_emod (v : Nat → Bool) (w : Nat) : sg v w % ((2 ^ w : Nat) : Int) = (un v w : Int) % ((2 ^ w : Nat) : Int) := trm_emod _ _
theorem two_pow_pos (w : Nat) : (0 : Int) < ((2 ^ w : Nat) : Int) := by have : 0 < 2 ^ w := Nat.two_pow_pos w; omega
theorem trm_cases {w : Nat} (hw : 0 < w) {x : Int} (h0 : 0 ≤ x) (h1 : x < ((2 ^ w : Nat) : Int)) : trm w x = if x < ((2 ^ (w - 1) : Nat) : Int) then x else x - ((2 ^ w : Nat) : Int) := by
  have e : 2 ^ w = 2 * 2 ^ (w - 1) := by obtain ⟨k, rfl⟩ : ∃ k, w = k + 1 := ⟨w - 1, by omega⟩; rw [Nat.pow_succ]; simp; omega
  unfold trm Int.bmod
  rw [Int.emod_eq_of_lt h0 h1]
  have e2 : (((2 ^ w : Nat) : Int) + 1) / 2 = ((2 ^ (w - 1) : Nat) : Int) := by rw [e]; omega
  simp only [e2]
theorem sg_eq {v : Nat → Bool} {w : Nat} (hw : 0 < w) : sg v w = (un v w : Int) - (if v (w - 1) then ((2 ^ w : Nat) : Int) else 0) := by
  obtain ⟨k, rfl⟩ : ∃ k, w = k + 1 := ⟨w - 1, by omega⟩
  have h1 := un_lt v (k + 1)
  have h2 := un_lt v k
  unfold sg
  rw [trm_cases (by omega) (by omega) (by omega)]
  have e : un v (k + 1) = un v k + (v k).toNat * 2 ^ k := rfl
  simp only [Nat.add_sub_cancel]
  cases hv : v k
  · rw [hv] at e; simp at e
    rw [if_pos (by omega)]; simp
  · rw [hv] at e; simp at e
    rw [if_neg (by omega)]; simp
theorem trm_range {w : Nat} (hw : 0 < w) (x : Int) : -((2 ^ (w - 1) : Nat) : Int) ≤ trm w x ∧ trm w x < ((2 ^ (w - 1) : Nat) : Int) := by
  have e : 2 ^ w = 2 * 2 ^ (w - 1) := by obtain ⟨k, rfl⟩ : ∃ k, w = k + 1 := ⟨w - 1, by omega⟩; rw [Nat.pow_succ]; simp; omega
  have hp := two_pow_pos w
  have h : trm w x = trm w (x % ((2 ^ w : Nat) : Int)) := trm_of (by rw [Int.emod_emod])
  rw [h, trm_cases hw (Int.emod_nonneg _ (by omega)) (Int.emod_lt_of_pos _ hp)]
  have h1 := Int.emod_nonneg x (b := ((2 ^ w : Nat) : Int)) (by omega)
  have h2 := Int.emod_lt_of_pos x hp
  split <;> omega
/-- What fits stays. -/
theorem trm_fit {w : Nat} (hw : 0 < w) {x : Int} (h0 : -((2 ^ (w - 1) : Nat) : Int) ≤ x) (h1 : x < ((2 ^ (w - 1) : Nat) : Int)) : trm w x = x := by
  have e : 2 ^ w = 2 * 2 ^ (w - 1) := by obtain ⟨k, rfl⟩ : ∃ k, w = k + 1 := ⟨w - 1, by omega⟩; rw [Nat.pow_succ]; simp; omega
  by_cases hx : 0 ≤ x
  · rw [trm_cases hw hx (by omega), if_pos h1]
  · have h : trm w x = trm w (x + ((2 ^ w : Nat) : Int)) := trm_of (by rw [Int.add_emod_right])
    rw [h, trm_cases hw (by omega) (by omega), if_neg (by omega)]; omega
theorem sg_range (v : Nat → Bool) {w : Nat} (hw : 0 < w) : -((2 ^ (w - 1) : Nat) : Int) ≤ sg v w ∧ sg v w < ((2 ^ (w - 1) : Nat) : Int) := trm_range hw _
theorem sg_inj {v u : Nat → Bool} {w : Nat} (h : sg v w = sg u w) : un v w = un u w := by
  have h1 := sg_emod v w
  rw [h, sg_emod u w, Int.emod_eq_of_lt (by omega) (by have := un_lt u w; omega), Int.emod_eq_of_lt (by omega) (by have := un_lt v w; omega)] at h1
  omega
theorem sg_congr {v u : Nat → Bool} {w : Nat} (h : ∀ i, i < w → v i = u i) : sg v w = sg u w := by unfold sg; rw [un_congr h]
theorem sg_eq_iff {v u : Nat → Bool} {w : Nat} : sg v w = sg u w ↔ ∀ i, i < w → v i = u i := ⟨fun h => un_inj (sg_inj h), sg_congr⟩
theorem sg_zero_iff {v : Nat → Bool} {w : Nat} (hw : 0 < w) : sg v w = 0 ↔ un v w = 0 := by
  constructor
  · intro h
    have h2 : sg (fun _ => false) w = 0 := by unfold sg; rw [un_false]; exact trm_fit hw (by have := Nat.two_pow_pos (w - 1); omega) (by have := Nat.two_pow_pos (w - 1); omega)
    rw [← h2] at h
    rw [sg_inj h, un_false]
  · intro h
    unfold sg; rw [h]; exact trm_fit hw (by have := Nat.two_pow_pos (w - 1); omega) (by have := Nat.two_pow_pos (w - 1); omega)
theorem trm_add {w : Nat} {x y x' y' : Int} (hx : x % ((2 ^ w : Nat) : Int) = x' % ((2 ^ w : Nat) : Int)) (hy : y % ((2 ^ w : Nat) : Int) = y' % ((2 ^ w : Nat) : Int)) : (x + y) % ((2 ^ w : Nat) : Int) = (x' + y') % ((2 ^ w : Nat) : Int) := by
  rw [Int.add_emod, hx, hy, ← Int.add_emod]
theorem trm_sub {w : Nat} {x y x' y' : Int} (hx : x % ((2 ^ w : Nat) : Int) = x' % ((2 ^ w : Nat) : Int)) (hy : y % ((2 ^ w : Nat) : Int) = y' % ((2 ^ w : Nat) : Int)) : (x - y) % ((2 ^ w : Nat) : Int) = (x' - y') % ((2 ^ w : Nat) : Int) := by
  rw [Int.sub_emod, hx, hy, ← Int.sub_emod]
theorem trm_mul {w : Nat} {x y x' y' : Int} (hx : x % ((2 ^ w : Nat) : Int) = x' % ((2 ^ w : Nat) : Int)) (hy : y % ((2 ^ w : Nat) : Int) = y' % ((2 ^ w : Nat) : Int)) : (x * y) % ((2 ^ w : Nat) : Int) = (x' * y') % ((2 ^ w : Nat) : Int) := by
  rw [Int.mul_emod, hx, hy, ← Int.mul_emod]

/-- A sum with a carry in and out. -/
theorem sum_sg {v a b : Nat → Bool} {w : Nat} {c : Nat} (h : un v w + 2 ^ w * c = un a w + un b w) : sg v w = trm w (sg a w + sg b w) := by
  refine trm_of ?_
  rw [trm_add (sg_emod a w) (sg_emod b w)]
  have : (un v w : Int) = (un a w : Int) + (un b w : Int) - ((2 ^ w : Nat) : Int) * (c : Int) := by rw [← Int.natCast_mul]; omega
  rw [this, Int.sub_mul_emod_self_left]
/-- A difference. -/
theorem dif_sg {v a b : Nat → Bool} {w : Nat} {c : Nat} (h : un v w + 2 ^ w * c = un a w + un (fun i => !b i) w + 1) : sg v w = trm w (sg a w - sg b w) := by
  refine trm_of ?_
  rw [trm_sub (sg_emod a w) (sg_emod b w)]
  have h2 := un_not b w
  have : (un v w : Int) = (un a w : Int) - (un b w : Int) - ((2 ^ w : Nat) : Int) * ((c : Int) - 1) := by rw [Int.mul_sub, ← Int.natCast_mul]; omega
  rw [this, Int.sub_mul_emod_self_left]
/-- .. without signs. -/
theorem dif_un {v a b : Nat → Bool} {w : Nat} {c : Bool} (h : un v w + 2 ^ w * c.toNat = un a w + un (fun i => !b i) w + 1) : c = decide (un b w ≤ un a w) ∧ (un b w ≤ un a w → un v w = un a w - un b w) := by
  have h2 := un_not b w
  have h3 := un_lt v w
  have h4 := un_lt a w
  cases c
  · simp at h
    exact ⟨by symm; rw [decide_eq_false_iff_not]; omega, fun _ => by omega⟩
  · simp at h
    exact ⟨by symm; rw [decide_eq_true_iff]; omega, fun _ => by omega⟩
end Go.Proofs.Ytepafgmiloncgaa
