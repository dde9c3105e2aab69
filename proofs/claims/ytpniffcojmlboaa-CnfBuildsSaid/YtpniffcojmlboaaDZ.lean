/- The law CnfBuilds, of any two lists. -/
import Derived.Test.YtpniffcojmlboaaEK
namespace Go.Proofs.Ytpniffcojmlboaa
open Go.RowKit Go.Lib Go.Maps
set_option maxRecDepth 100000

set_option maxHeartbeats 2000000 in
theorem builds_long (a0 : Option Addr) (n0 c0 : Nat) (a1 : Option Addr) (n1 c1 : Nat) (w : World) (h : 25 < n0 ∨ 60 < n1) (hn0 : n0 ≤ 9223372036854775807) (hn1 : n1 ≤ 9223372036854775807) :
    Calls Try.prog 3 #[.slice a0 n0 c0, .slice a1 n1 c1] w (laws w) := by
  have HA := Lib.hid awake_any
  have Hn0 := Lib.hid hn0
  have Hn1 := Lib.hid hn1
  clear hn0 hn1
  by_cases h0 : 25 < n0
  · have hnI : (25 : Int) < (n0 : Int) := by omega
    clear h h0
    go_enter Try.func3, Try.ntmps3
    go_wp2_with (first
      | (go_at_call 6; have := HB1; refine (HA.out _).mono ?_; rintro e w2 ⟨rfl, hb2⟩; have HB2 := Lib.hid (HB1.out.trans (hb2.mono HB1.out.size)); clear hb2)
      | (go_at_call 6; refine (HA.out _).mono ?_; rintro e w1 ⟨rfl, hb1⟩; have HB1 := Lib.hid hb1; clear hb1))
    go_ret
    exact ⟨rfl, HB2.out⟩
  · have hnJ : (60 : Int) < (n1 : Int) := by omega
    have hnI : ¬ (25 : Int) < (n0 : Int) := by omega
    clear h h0
    go_enter Try.func3, Try.ntmps3
    go_wp2_with (first
      | (go_at_call 6; have := HB1; refine (HA.out _).mono ?_; rintro e w2 ⟨rfl, hb2⟩; have HB2 := Lib.hid (HB1.out.trans (hb2.mono HB1.out.size)); clear hb2)
      | (go_at_call 6; refine (HA.out _).mono ?_; rintro e w1 ⟨rfl, hb1⟩; have HB1 := Lib.hid hb1; clear hb1))
    go_ret
    exact ⟨rfl, HB2.out⟩
theorem builds_any (a0 : Option Addr) (n0 c0 : Nat) (f : (Nat → Int) × (Nat → Int) × (Nat → Int) × (Nat → Int)) (a1 : Option Addr) (n1 c1 : Nat) (g : Nat → Bool) (w : World) (hA0 : Acts w a0 n0 f.1 f.2.1 f.2.2.1 f.2.2.2) (hn0 : n0 ≤ 9223372036854775807) (hA1 : HasB w a1 n1 g) (hn1 : n1 ≤ 9223372036854775807) :
    Calls Try.prog 3 #[.slice a0 n0 c0, .slice a1 n1 c1] w (laws w) := by
  by_cases h : n0 ≤ 25 ∧ n1 ≤ 60
  · exact builds_walk a0 n0 c0 _ _ _ _ a1 n1 c1 _ w h.1 h.2 hA0 hA1
  · exact builds_long a0 n0 c0 a1 n1 c1 w (by omega) hn0 hn1
end Go.Proofs.Ytpniffcojmlboaa
