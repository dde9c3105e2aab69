/- Contracts: edge, awake. -/
import Derived.Test.YtfdopgohopibkaaT
namespace Go.Proofs.Ytfdopgohopibkaa
open Go.RowKit Go.Lib Go.Maps
set_option maxRecDepth 100000

/-- The edge that a number picks. -/
def pick (g : Nat → Nat) (len X : Nat) : Nat := if X % 2 = 1 then nt (g (X / 2 % len)) else g (X / 2 % len)
section
variable {w : World}
/-- edge, of a number from 0 on -/
theorem edge_nat {a : Option Addr} {len c : Nat} {g : Nat → Nat} (he : HasE w (fun _ => False) a len g) (hl : 0 < len) (hlen : len ≤ 1000000) (hg : ∀ j, j < len → g j ≤ 1000000) (X : Nat) (hX : X ≤ 9223372036854775807) :
    Calls Try.prog 11 #[.slice a len c, .int .i64 X] w fun e w' => e = .returned (.int .i64 (pick g len X : Nat)) ∧ w = w' := by
  have hJ : X / 2 % len < len := Nat.mod_lt _ hl
  rcases he with e | ⟨b, off, rfl, hb, _, hc⟩
  · omega
  have xc := hc _ hJ
  have hgJ := hg _ hJ
  have HN := Lib.hid (not_any (g (X / 2 % len)) (by omega) w)
  clear hc hg
  unfold pick
  generalize g (X / 2 % len) = e at *
  have q1 : (X : Int) / 2 % (len : Int) = ((X / 2 % len : Nat) : Int) := by rw [Int.natCast_emod, Int.natCast_ediv]; rfl
  by_cases h1 : X % 2 = 1
  · rw [if_pos h1]
    have b1 : ((X : Int) % 2 == 1) = true := by rw [beq_iff_eq]; omega
    have h1I : (X : Int) % 2 = 1 := by omega
    clear h1
    generalize X / 2 % len = J at *
    go_enter Try.func11, Try.ntmps11
    go_wp2_with (go_at_call 26; refine HN.out.mono ?_; rintro e w' ⟨rfl, rfl⟩)
    go_ret
    exact ⟨rfl, rfl⟩
  · rw [if_neg h1]
    have b1 : ((X : Int) % 2 == 1) = false := by rw [beq_eq_false_iff_ne]; omega
    have h1I : ¬ (X : Int) % 2 = 1 := by omega
    clear h1
    generalize X / 2 % len = J at *
    go_enter Try.func11, Try.ntmps11
    go_wp2_with (go_at_call 26; refine HN.out.mono ?_; rintro e w' ⟨rfl, rfl⟩)
    go_ret
    exact ⟨rfl, rfl⟩
/-- edge, of a number below 0 -/
theorem edge_neg {a : Option Addr} {len c : Nat} (x : Int) (hx : x < 0) :
    Calls Try.prog 11 #[.slice a len c, .int .i64 x] w fun e w' => e = .returned (.int .i64 x) ∧ w = w' := by
  go_enter Try.func11, Try.ntmps11
  go_wp2
  go_ret
  exact ⟨rfl, rfl⟩
set_option maxHeartbeats 1000000 in
/-- awake -/
theorem awake_any (w : World) : Calls Try.prog 9 #[] w fun e w' => e = .returned (.bool true) ∧ Below w.heap.size w w' := by
  have HN := Lib.hid (new_any w)
  have HI := Lib.hid (show ∀ w1 G M v iv, Gm w1 G M v iv s0 → Calls Try.prog 12 #[.pointer (some ⟨G, 0, none⟩)] w1 fun e w' => e = .returned (.int .i64 2) ∧ ∃ v' iv', Hid (GmT G M w1 v iv w' v' iv' (s0.add none)) from fun w1 G M v iv g => input_any g (by show 0 ≤ _; omega))
  have HA := Lib.hid (show ∀ w1 G M v iv (y : Nat), y < 4 → y ≠ 2 → Gm w1 G M v iv (s0.add none) → Calls Try.prog 14 #[.pointer (some ⟨G, 0, none⟩), .int .i64 2, .int .i64 y] w1 fun e w' => e = .returned (.int .i64 (if y = 1 then 2 else 0)) ∧ ∃ v' iv', Hid (GmT G M w1 v iv w' v' iv' (s0.add none)) from fun w1 G M v iv y hy h2 g => by
    have h := and_in g (by show 1 ≤ _; omega) 2 y (by show 2 < 2 * 2; omega) (by show y < 2 * 2; omega)
    have e : andN (s0.add none) 2 y = (if y = 1 then 2 else 0, s0.add none) := by
      have : y = 0 ∨ y = 1 ∨ y = 3 := by omega
      rcases this with rfl | rfl | rfl <;> rfl
    rw [e] at h
    refine h.mono fun e w' ⟨h1, h2⟩ => ⟨?_, h2⟩
    rw [h1]
    show Ending.returned (.int .i64 ((if y = 1 then 2 else 0 : Nat) : Int)) = _
    split <;> rfl)
  have HA1 := Lib.hid (show ∀ w1 G M v iv, Gm w1 G M v iv (s0.add none) → Calls Try.prog 14 #[.pointer (some ⟨G, 0, none⟩), .int .i64 2, .int .i64 1] w1 fun e w' => e = .returned (.int .i64 2) ∧ ∃ v' iv', Hid (GmT G M w1 v iv w' v' iv' (s0.add none)) from fun w1 G M v iv g => HA.out w1 G M v iv 1 (by omega) (by omega) g)
  have HA3 := Lib.hid (show ∀ w1 G M v iv, Gm w1 G M v iv (s0.add none) → Calls Try.prog 14 #[.pointer (some ⟨G, 0, none⟩), .int .i64 2, .int .i64 3] w1 fun e w' => e = .returned (.int .i64 0) ∧ ∃ v' iv', Hid (GmT G M w1 v iv w' v' iv' (s0.add none)) from fun w1 G M v iv g => HA.out w1 G M v iv 3 (by omega) (by omega) g)
  have HNo := Lib.hid (show ∀ W, Calls Try.prog 26 #[.int .i64 2] W fun r w' => r = .returned (.int .i64 3) ∧ W = w' from fun W => not_any 2 (by omega) W)
  have HM := Lib.hid (show ∀ w1 G M v iv, Gm w1 G M v iv (s0.add none) → Calls Try.prog 16 #[.pointer (some ⟨G, 0, none⟩)] w1 fun e w' => e = .returned (.int .i64 2) ∧ w1 = w' from fun w1 G M v iv g => nodes_any g (by show 1 ≤ _; omega))
  go_enter Try.func9, Try.ntmps9
  go_wp2_with (first
    | (go_at_call 10; refine HN.out.mono ?_; rintro e w1 ⟨G, M, v, iv, rfl, H1⟩)
    | (go_at_call 12; refine (HI.out _ _ _ _ _ H1.out.gm).mono ?_; rintro e w2 ⟨rfl, v2, iv2, H2⟩)
    | (go_at_call 26; refine (HNo.out _).mono ?_; rintro e w' ⟨rfl, rfl⟩)
    | (go_at_call 14; (with_reducible refine (HA3.out _ _ _ _ _ H3.out.gm).mono ?_); rintro e w4 ⟨rfl, v4, iv4, H4⟩)
    | (go_at_call 14; (with_reducible refine (HA1.out _ _ _ _ _ H2.out.gm).mono ?_); rintro e w3 ⟨rfl, v3, iv3, H3⟩)
    | (go_at_call 16; refine (HM.out _ _ _ _ _ H4.out.gm).mono ?_; rintro e w' ⟨rfl, rfl⟩))
  go_ret
  exact ⟨rfl, (((H1.out.next H2.out).next H3.out).next H4.out).bel⟩
end
end Go.Proofs.Ytfdopgohopibkaa
