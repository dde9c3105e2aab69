/- Contracts: the answers' Model, Brute. -/
import Derived.Test.YtoffhgiljnagcaaTA
import Derived.Test.YtoffhgiljnagcaaRS
namespace Go.Proofs.Ytoffhgiljnagcaa
open Go.RowKit Go.Lib
set_option maxRecDepth 100000

def ModPost (vars : Nat) (w : World) (e : Ending) (w' : World) : Prop :=
  ∃ (a : Option Addr) (c : Nat) (g : Nat → Bool), e = .returned (.slice a vars c) ∧ Hid (HasB w' a vars g) ∧ Hid (Below w.heap.size w w')
theorem frs_bool {W w : World} {v : Value} {n : Nat} {b : Bool} (h : ∃ g : Nat → Bool, Frs 4 W w v (n + 1) (snV (fun j => .bool (g j)) n (.bool b))) : ∃ g : Nat → Bool, Frs 4 W w v (n + 1) (fun j => .bool (g j)) := by
  obtain ⟨g, h⟩ := h
  refine ⟨fun j => if j < n then g j else b, h.congr fun j hj => ?_⟩
  simp only [snV]
  split <;> rfl

set_option maxHeartbeats 4000000 in
theorem refModel_any (x : Int) (vars : Nat) (w : World) (hv : vars ≤ 1000) : Calls Try.prog 28 #[.int .i64 x, .int .i64 vars] w (ModPost vars w) := by
  go_enter Try.func28, Try.ntmps28
  go_wp2
  go_loopw [0, 5, 6] (fun z s v wr => ∃ (y : Int) (k : Nat) (a : Option Addr) (c : Nat), k ≤ vars ∧ z = .int .i64 y ∧ s = .slice a k c ∧ v = .int .i64 k ∧ Hid (∃ g : Nat → Bool, Frs 4 w wr (.slice a k c) k (fun j => .bool (g j)))) (fun _ _ v _ => vars - (intOf v).toNat)
  case atStart => exact ⟨x, 0, none, 0, Nat.zero_le _, rfl, rfl, rfl, Lib.hid ⟨fun _ => false, Frs.nil (Below.refl _ _) _⟩⟩
  case round =>
    obtain ⟨y, k, a, c, hk, rfl, rfl, rfl, HF⟩ := hrel
    by_cases hlt : k < vars
    · obtain ⟨g, hg⟩ := HF.out
      have HG := Lib.hid hg
      clear hg HF
      go_wp2_with (at_builtin; refine Frs.app1 elemBool HG (Below.refl _ _) _ rfl (by unfold maxLen; omega) (by omega) rfl _ _ rfl rfl rfl ?_; intro a' c' w' HF')
      go_roundw
      case rel => exact ⟨_, k + 1, a', c', by omega, rfl, rfl, by go_num, Lib.hid (frs_bool ⟨g, HF'.out⟩)⟩
      case measure => simp [intOf]; omega
    · obtain rfl : k = vars := by omega
      have hltI : ¬ (k : Int) < (k : Int) := by omega
      clear hlt
      obtain ⟨g, hg⟩ := HF.out
      have HG := Lib.hid hg
      clear hg HF
      go_wp2
      go_ret
      exact ⟨a, c, g, rfl, Lib.hid (HG.out.hasB fun _ _ => rfl), Lib.hid HG.out.bel⟩

def BruPost (R : Nat → Row) (n : Nat) (w : World) (e : Ending) (w' : World) : Prop :=
  ∃ b : Bool, e = .returned (.bool b) ∧ Hid (b = true → ∃ g, allR R n g 8 = true) ∧ Hid (Below w.heap.size w w')

set_option maxHeartbeats 4000000 in
theorem refBrute_any (a0 : Option Addr) (n c0 : Nat) (R : Nat → Row) (w : World) (hn : n ≤ 1000) (hR : ∀ j, j < n → (R j).n ≤ 1000) (hr : Rws w a0 n R) : Calls Try.prog 13 #[.slice a0 n c0, .int .i64 8] w (BruPost R n w) := by
  have HM := Lib.hid (show ∀ (x : Int) (w' : World), Calls Try.prog 28 #[.int .i64 x, .int .i64 8] w' (ModPost 8 w') from fun x w' => refModel_any x 8 w' (by omega))
  have HA := Lib.hid (fun (w' : World) (a : Option Addr) (c : Nat) (g : Nat → Bool) (hb : Below w.heap.size w w') (hg : HasB w' a 8 g) => refAll_any a0 n c0 R a 8 c g w' (by omega) (fun j hj => by have := hR j hj; omega) (by omega) (hr.below hb) hg)
  clear hr hR
  go_enter Try.func13, Try.ntmps13
  go_wp2
  go_loopw [5] (fun v wr => ∃ (k : Nat), k ≤ 256 ∧ v = .int .i64 k ∧ Hid (Below w.heap.size w wr)) (fun v _ => 256 - (intOf v).toNat)
  case atStart => exact ⟨0, by omega, rfl, Lib.hid (Below.refl _ _)⟩
  case round =>
    obtain ⟨k, hk, rfl, HB⟩ := hrel
    by_cases hlt : k < 256
    · have hltI : (k : Int) < 256 := by omega
      go_wp2_with (first
        | (go_at_call 28; refine (HM.out _ _).mono ?_; rintro e w2 ⟨a, c, g, rfl, H2, H3⟩; have HB2 := Lib.hid (HB.out.trans (H3.out.mono HB.out.size)))
        | (go_at_call 17; refine (HA.out w2 a c g HB2.out H2.out).mono ?_; rintro e w' ⟨rfl, rfl⟩))
      · go_ret
        exact ⟨true, rfl, Lib.hid fun _ => ⟨g, by assumption⟩, HB2⟩
      · go_roundw
        case rel => exact ⟨k + 1, by omega, by go_num, HB2⟩
        case measure => simp [intOf]; omega
    · obtain rfl : k = 256 := by omega
      go_wp2
      go_ret
      exact ⟨false, rfl, Lib.hid fun h => by simp at h, HB⟩
end Go.Proofs.Ytoffhgiljnagcaa
