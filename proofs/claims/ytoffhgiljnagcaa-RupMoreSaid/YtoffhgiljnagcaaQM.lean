/- The law: more clauses: what is let go. -/
import Derived.Test.YtoffhgiljnagcaaQK
namespace Go.Proofs.Ytoffhgiljnagcaa
open Go.RowKit Go.Lib
set_option maxRecDepth 100000

set_option maxHeartbeats 4000000 in
theorem more_out (W : World) (a0 a1 a2 : Option Addr) (n0 c0 n1 c1 n2 c2 : Nat) (R : Nat → Row) (f1 : Nat → Int)
    (hS : ∀ w1, Below W.heap.size W w1 → Calls Try.prog 9 #[.slice a0 n0 c0, .int .i64 30, .int .i64 100000] w1 fun e w' => e = .returned (.bool (small R n0 30)) ∧ w1 = w')
    (hRt : n1 ≤ 12 → ∀ w1, Below W.heap.size W w1 → Calls Try.prog 16 #[.slice a1 n1 c1] w1 fun e w' => e = .returned (.bool (litF f1 n1)) ∧ w1 = w')
    (h : small R n0 30 = false ∨ 12 < n1 ∨ 12 < n2 ∨ litF f1 n1 = false) :
    Calls Try.prog 6 #[.slice a0 n0 c0, .slice a1 n1 c1, .slice a2 n2 c2] W fun e w' => e = .returned (.bool true) ∧ Below W.heap.size W w' := by
  have HA := Lib.hid (awake_at (W := W))
  have HS := Lib.hid hS
  clear hS
  have HB0 := Lib.hid (Below.refl W.heap.size W)
  cases hs : small R n0 30
  · rw [hs] at HS
    go_enter Try.func6, Try.ntmps6
    go_wp2_with (first
      | (go_at_call 8; refine (HA.out _ HB1.out).mono ?_; rintro e w2 ⟨rfl, HB2⟩)
      | (go_at_call 8; refine (HA.out _ HB0.out).mono ?_; rintro e w1 ⟨rfl, HB1⟩)
      | (go_at_call 9; refine (HS.out _ HB1.out).mono ?_; rintro e w' ⟨rfl, rfl⟩))
    go_ret
    exact ⟨rfl, HB2.out⟩
  · rw [hs] at HS
    by_cases h1 : 12 < n1
    · have h1I : (12 : Int) < (n1 : Int) := by omega
      go_enter Try.func6, Try.ntmps6
      go_wp2_with (first
        | (go_at_call 8; refine (HA.out _ HB1.out).mono ?_; rintro e w2 ⟨rfl, HB2⟩)
        | (go_at_call 8; refine (HA.out _ HB0.out).mono ?_; rintro e w1 ⟨rfl, HB1⟩)
        | (go_at_call 9; refine (HS.out _ HB1.out).mono ?_; rintro e w' ⟨rfl, rfl⟩))
      go_ret
      exact ⟨rfl, HB2.out⟩
    · have h1I : ¬ (12 : Int) < (n1 : Int) := by omega
      by_cases h2 : 12 < n2
      · have h2I : (12 : Int) < (n2 : Int) := by omega
        go_enter Try.func6, Try.ntmps6
        go_wp2_with (first
          | (go_at_call 8; refine (HA.out _ HB1.out).mono ?_; rintro e w2 ⟨rfl, HB2⟩)
          | (go_at_call 8; refine (HA.out _ HB0.out).mono ?_; rintro e w1 ⟨rfl, HB1⟩)
          | (go_at_call 9; refine (HS.out _ HB1.out).mono ?_; rintro e w' ⟨rfl, rfl⟩))
        go_ret
        exact ⟨rfl, HB2.out⟩
      · have h2I : ¬ (12 : Int) < (n2 : Int) := by omega
        have h3 : litF f1 n1 = false := by
          rcases h with h | h | h | h
          · rw [hs] at h; cases h
          · omega
          · omega
          · exact h
        rw [h3] at hRt
        have HRT := Lib.hid (hRt (by omega))
        clear hRt h3 h
        go_enter Try.func6, Try.ntmps6
        go_wp2_with (first
          | (go_at_call 8; refine (HA.out _ HB1.out).mono ?_; rintro e w2 ⟨rfl, HB2⟩)
          | (go_at_call 8; refine (HA.out _ HB0.out).mono ?_; rintro e w1 ⟨rfl, HB1⟩)
          | (go_at_call 9; refine (HS.out _ HB1.out).mono ?_; rintro e w' ⟨rfl, rfl⟩)
          | (go_at_call 16; refine (HRT.out _ HB1.out).mono ?_; rintro e w' ⟨rfl, rfl⟩))
        go_ret
        exact ⟨rfl, HB2.out⟩

end Go.Proofs.Ytoffhgiljnagcaa
