/- The laws' helpers: at. -/
import Derived.Test.YtpniffcojmlboaaW
namespace Go.Proofs.Ytpniffcojmlboaa
open Go.RowKit Go.Lib Go.Maps
set_option maxRecDepth 100000

/-- The edge that a number picks. -/
def pick (g : Nat → Nat) (len X : Nat) : Nat := if X % 2 = 1 then nt (g (X / 2 % len)) else g (X / 2 % len)
theorem pick_lt {g : Nat → Nat} {len m X : Nat} (hl : 0 < len) (h : ∀ j, j < len → g j < 2 * (m + 1)) : pick g len X < 2 * (m + 1) := by
  unfold pick
  have := h _ (Nat.mod_lt (X / 2) hl)
  split
  · exact nt_lt this
  · exact this
/-- From 0 on. -/
def z0 (x : Int) : Nat := x.toNat
variable {w : World}
/-- at, of a number from 0 on -/
theorem at_nat {a : Option Addr} {len c : Nat} {g : Nat → Nat} (he : HasE w (fun _ => False) a len g) (hl : 0 < len) (hlen : len ≤ 1000000) (hg : ∀ j, j < len → g j ≤ 1000000) (X : Nat) (hX : X ≤ 9223372036854775807) :
    Calls Try.prog 24 #[.slice a len c, .int .i64 X] w fun e w' => e = .returned (.int .i64 (pick g len X : Nat)) ∧ w = w' := by
  have hJ : X / 2 % len < len := Nat.mod_lt _ hl
  rcases he with e | ⟨b, off, rfl, hb, _, hc⟩
  · omega
  have xc := hc _ hJ
  have hgJ := hg _ hJ
  have HN := Lib.hid (not_any (g (X / 2 % len)) (by omega) w)
  have hX0 : ¬ (X : Int) < 0 := by omega
  clear hc hg
  unfold pick
  generalize g (X / 2 % len) = e at *
  have q1 : (X : Int) / 2 % (len : Int) = ((X / 2 % len : Nat) : Int) := by rw [Int.natCast_emod, Int.natCast_ediv]; rfl
  by_cases h1 : X % 2 = 1
  · rw [if_pos h1]
    have b1 : ((X : Int) % 2 == 1) = true := by rw [beq_iff_eq]; omega
    have h1I : (X : Int) % 2 = 1 := by omega
    clear h1
    generalize X / 2 % len = J at *
    go_enter Try.func24, Try.ntmps24
    go_wp2_with (go_at_call 22; refine HN.out.mono ?_; rintro e w1 ⟨rfl, rfl⟩)
    go_ret
    exact ⟨rfl, rfl⟩
  · rw [if_neg h1]
    have b1 : ((X : Int) % 2 == 1) = false := by rw [beq_eq_false_iff_ne]; omega
    have h1I : ¬ (X : Int) % 2 = 1 := by omega
    clear h1
    generalize X / 2 % len = J at *
    go_enter Try.func24, Try.ntmps24
    go_wp2_with (go_at_call 22; refine HN.out.mono ?_; rintro e w1 ⟨rfl, rfl⟩)
    go_ret
    exact ⟨rfl, rfl⟩
/-- at, of a number below 0 -/
theorem at_neg {a : Option Addr} {len c : Nat} {g : Nat → Nat} (he : HasE w (fun _ => False) a len g) (hl : 0 < len) (hlen : len ≤ 1000000) (x : Int) (hx : x < 0) :
    Calls Try.prog 24 #[.slice a len c, .int .i64 x] w fun e w' => e = .returned (.int .i64 (pick g len 0 : Nat)) ∧ w = w' := by
  rcases he with e | ⟨b, off, rfl, hb, _, hc⟩
  · omega
  have xc := hc 0 hl
  have hp : pick g len 0 = g 0 := by unfold pick; rw [if_neg (by omega), Nat.zero_div, Nat.zero_mod]
  rw [hp]
  rw [Nat.add_zero] at xc
  clear hc hp
  generalize g 0 = e at *
  have hl0 : (0 : Int) < (len : Int) := by omega
  have hl1 : ¬ (len : Int) = 0 := by omega
  go_enter Try.func24, Try.ntmps24
  go_wp2
  go_ret
  exact ⟨rfl, rfl⟩
/-- at -/
theorem at_any {a : Option Addr} {len c : Nat} {g : Nat → Nat} (he : HasE w (fun _ => False) a len g) (hl : 0 < len) (hlen : len ≤ 1000000) (hg : ∀ j, j < len → g j ≤ 1000000) (x : Int) (hX : x ≤ 9223372036854775807) :
    Calls Try.prog 24 #[.slice a len c, .int .i64 x] w fun e w' => e = .returned (.int .i64 (pick g len (z0 x) : Nat)) ∧ w = w' := by
  by_cases hx : x < 0
  · rw [show z0 x = 0 by unfold z0; omega]
    exact at_neg he hl hlen x hx
  · have := at_nat (c := c) he hl hlen hg (z0 x) (by unfold z0; omega)
    rwa [show ((z0 x : Nat) : Int) = x by unfold z0; omega] at this
end Go.Proofs.Ytpniffcojmlboaa
