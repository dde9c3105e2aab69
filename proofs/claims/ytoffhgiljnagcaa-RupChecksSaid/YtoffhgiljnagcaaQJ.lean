/- The law: models. -/
import Derived.Test.YtoffhgiljnagcaaQG
import Derived.Test.YtoffhgiljnagcaaQH
import Derived.Test.YtoffhgiljnagcaaRV
namespace Go.Proofs.Ytoffhgiljnagcaa
open Go.RowKit Go.Lib
set_option maxRecDepth 100000

theorem litR_succ (R : Nat → Row) (k : Nat) : litR R (k + 1) = (litR R k && litF (R k).f (R k).n) := by
  simp [litR, List.range_succ]
theorem assF_succ (f : Nat → Int) (k : Nat) (g : Nat → Bool) (m : Nat) : assF f (k + 1) g m = (assF f k g m && hv g m (f k)) := by
  simp [assF, List.range_succ]
theorem hv_lit {g : Nat → Bool} {k : Nat} {x : Int} (h : hv g k x = true) : lit x = true := by
  unfold hv at h; simp at h; exact h.1
theorem models_same (R : Nat → Row) (n : Nat) (g : Nat → Bool) (k : Nat) (f : Nat → Int) (m : Nat) : (litR R n && allR R n g k && assF f m g k) = (litF f m && allR R n g k && litR R n && assF f m g k) := by
  cases hA : assF f m g k
  · simp
  · have : litF f m = true := litF_iff.2 fun j hj => hv_lit (assF_iff.1 hA j hj)
    rw [this]
    cases litR R n <;> cases allR R n g k <;> rfl

theorem and_step : ∀ p q r x : Bool, x = (p && q) → (x = true → r = (p && (q && r))) ∧ (x = false → false = (p && (q && r))) := by decide
theorem awake_at {W : World} (w1 : World) (hb : Below W.heap.size W w1) : Calls Try.prog 8 #[] w1 fun e w' => e = .returned (.bool true) ∧ Hid (Below W.heap.size W w') :=
  (awake_any w1).mono fun _ _ ⟨h1, h2⟩ => ⟨h1, Lib.hid (hb.trans (h2.mono hb.size))⟩

set_option maxHeartbeats 4000000 in
theorem models_out (W : World) (a0 a1 a2 : Option Addr) (n0 c0 n1 c1 n2 c2 : Nat) (R : Nat → Row)
    (hS : ∀ w1, Below W.heap.size W w1 → Calls Try.prog 9 #[.slice a0 n0 c0, .int .i64 40, .int .i64 100000] w1 fun e w' => e = .returned (.bool (small R n0 40)) ∧ w1 = w')
    (h : small R n0 40 = false ∨ 60 < n1 ∨ 20 < n2) :
    Calls Try.prog 5 #[.slice a0 n0 c0, .slice a1 n1 c1, .slice a2 n2 c2] W fun e w' => e = .returned (.bool true) ∧ Below W.heap.size W w' := by
  have HA := Lib.hid (awake_at (W := W))
  have HS := Lib.hid hS
  clear hS
  have HB0 := Lib.hid (Below.refl W.heap.size W)
  cases hs : small R n0 40
  · rw [hs] at HS
    go_enter Try.func5, Try.ntmps5
    go_wp2_with (first
      | (go_at_call 8; refine (HA.out _ HB1.out).mono ?_; rintro e w2 ⟨rfl, HB2⟩)
      | (go_at_call 8; refine (HA.out _ HB0.out).mono ?_; rintro e w1 ⟨rfl, HB1⟩)
      | (go_at_call 9; refine (HS.out _ HB1.out).mono ?_; rintro e w' ⟨rfl, rfl⟩))
    go_ret
    exact ⟨rfl, HB2.out⟩
  · rw [hs] at HS
    by_cases h1 : 60 < n1
    · have h1I : (60 : Int) < (n1 : Int) := by omega
      go_enter Try.func5, Try.ntmps5
      go_wp2_with (first
        | (go_at_call 8; refine (HA.out _ HB1.out).mono ?_; rintro e w2 ⟨rfl, HB2⟩)
        | (go_at_call 8; refine (HA.out _ HB0.out).mono ?_; rintro e w1 ⟨rfl, HB1⟩)
        | (go_at_call 9; refine (HS.out _ HB1.out).mono ?_; rintro e w' ⟨rfl, rfl⟩))
      go_ret
      exact ⟨rfl, HB2.out⟩
    · have h1I : ¬ (60 : Int) < (n1 : Int) := by omega
      have h2I : (20 : Int) < (n2 : Int) := by
        rcases h with h | h | h
        · rw [hs] at h; cases h
        · omega
        · omega
      go_enter Try.func5, Try.ntmps5
      go_wp2_with (first
        | (go_at_call 8; refine (HA.out _ HB1.out).mono ?_; rintro e w2 ⟨rfl, HB2⟩)
        | (go_at_call 8; refine (HA.out _ HB0.out).mono ?_; rintro e w1 ⟨rfl, HB1⟩)
        | (go_at_call 9; refine (HS.out _ HB1.out).mono ?_; rintro e w' ⟨rfl, rfl⟩))
      go_ret
      exact ⟨rfl, HB2.out⟩

set_option maxHeartbeats 8000000 in
theorem models_in (W : World) (a0 a1 a2 : Option Addr) (n0 c0 n1 c1 n2 c2 : Nat) (R : Nat → Row) (g : Nat → Bool) (f : Nat → Int)
    (hS : ∀ w1, Below W.heap.size W w1 → Calls Try.prog 9 #[.slice a0 n0 c0, .int .i64 40, .int .i64 100000] w1 fun e w' => e = .returned (.bool (small R n0 40)) ∧ w1 = w')
    (hs : small R n0 40 = true) (h1 : n1 ≤ 60) (h2 : n2 ≤ 20) (hc2 : n2 ≤ c2) (hr : Rws W a0 n0 R) (hg : HasB W a1 n1 g) (hf : Has W a2 n2 f) :
    Calls Try.prog 5 #[.slice a0 n0 c0, .slice a1 n1 c1, .slice a2 n2 c2] W fun e w' => e = .returned (.bool true) ∧ Below W.heap.size W w' := by
  obtain ⟨hn0, hR⟩ := small_iff.1 hs
  have HA := Lib.hid (awake_at (W := W))
  rw [hs] at hS
  have HS := Lib.hid hS
  have HB0 := Lib.hid (Below.refl W.heap.size W)
  have HRG := Lib.hid (show ∀ w1, Below W.heap.size W w1 → Calls Try.prog 16 #[.slice a2 n2 c2] w1 fun e w' => e = .returned (.bool (litF f n2)) ∧ w1 = w' from fun w1 hb => refRight_any a2 n2 c2 f w1 (by omega) (hf.below hb))
  have HAL := Lib.hid (show ∀ w1, Below W.heap.size W w1 → Calls Try.prog 17 #[.slice a0 n0 c0, .slice a1 n1 c1] w1 fun e w' => e = .returned (.bool (allR R n0 g n1)) ∧ w1 = w' from fun w1 hb => refAll_any a0 n0 c0 R a1 n1 c1 g w1 (by omega) (fun j hj => by have := hR j hj; omega) (by omega) (hr.below hb) (hg.below hb))
  have HMO := Lib.hid (show ∀ w1, Below W.heap.size W w1 → Calls Try.prog 19 #[.slice a0 n0 c0, .slice a1 n1 c1, .slice a2 n2 c2] w1 fun e w' => e = .returned (.bool (litR R n0 && allR R n0 g n1 && assF f n2 g n1)) ∧ Hid (Below W.heap.size W w') from fun w1 hb => (model_any a0 n0 c0 R a1 n1 c1 g a2 n2 c2 f w1 (by omega) (fun j hj => by have := hR j hj; omega) (by omega) (by omega) (hr.below hb) (hg.below hb) (hf.below hb)).mono fun _ _ ⟨h1, h2⟩ => ⟨h1, Lib.hid (hb.trans (h2.mono hb.size))⟩)
  have HR := Lib.hid (And.intro hR (And.intro hr (And.intro hg hf)))
  clear hS hr hg hf hR
  have h1I : decide ((60 : Int) < (n1 : Int)) = false := decide_eq_false (by omega)
  have h2I : decide ((20 : Int) < (n2 : Int)) = false := decide_eq_false (by omega)
  have h1J : ¬ (60 : Int) < (n1 : Int) := by omega
  have h2J : ¬ (20 : Int) < (n2 : Int) := by omega
  cases hx : litF f n2
  all_goals
    rw [hx] at HRG
    go_enter Try.func5, Try.ntmps5
    go_wp2_with (first
      | (go_at_call 8; refine (HA.out _ HB0.out).mono ?_; rintro e w1 ⟨rfl, HB1⟩)
      | (go_at_call 9; refine (HS.out _ HB1.out).mono ?_; rintro e w' ⟨rfl, rfl⟩)
      | (go_at_call 16; refine (HRG.out _ HB1.out).mono ?_; rintro e w' ⟨rfl, rfl⟩)
      | (go_at_call 17; refine (HAL.out _ HB1.out).mono ?_; rintro e w' ⟨rfl, rfl⟩))
    go_loop [7, 8] (fun b v => ∃ (k : Nat) (x : Bool), k ≤ n0 ∧ v = .int .i64 k ∧ b = .bool x ∧ Hid (x = (litF f n2 && allR R n0 g n1 && litR R k))) (fun _ v => n0 - (intOf v).toNat)
    case atStart => exact ⟨0, _, Nat.zero_le _, rfl, rfl, Lib.hid (by rw [hx]; simp [litR])⟩
    case round =>
      obtain ⟨k, x, hk, rfl, rfl, HX⟩ := hrel
      by_cases hlt : k < n0
      · have hltI : (k : Int) < (n0 : Int) := by omega
        rcases HR.out.2.1 with h0 | ⟨b, off, rfl, hbl, hc⟩
        · omega
        obtain ⟨hcell, hHas⟩ := hc k hlt
        have xc : w1.cell? ⟨b, off + k, none⟩ = some (.slice (R k).a (R k).n (R k).c) := (HB1.out.cell (p := ⟨b, off + k, none⟩) hbl).trans hcell
        have HRK := Lib.hid (refRight_any (R k).a (R k).n (R k).c (R k).f w1 (by have := HR.out.1 k hlt; omega) (hHas.below HB1.out))
        have HN := Lib.hid (show (x = true → litF (R k).f (R k).n = (litF f n2 && allR R n0 g n1 && litR R (k + 1))) ∧ (x = false → false = (litF f n2 && allR R n0 g n1 && litR R (k + 1))) from by
          rw [litR_succ]
          exact and_step _ _ _ _ HX.out)
        clear hc hcell hHas hbl HX
        cases x
        all_goals
          go_wp2_with (go_at_call 16; refine HRK.out.mono ?_; rintro e w' ⟨rfl, rfl⟩)
          go_round
          case rel => exact ⟨k + 1, _, by omega, by go_num, rfl, Lib.hid (by first | exact HN.out.1 rfl | exact HN.out.1 trivial | exact HN.out.2 rfl | exact HN.out.2 trivial)⟩
          case measure => simp [intOf]; omega
      · have hq : ¬ (k : Int) < (n0 : Int) := by omega
        obtain rfl : k = n0 := by omega
        go_wp2
        go_loop [7, 9] (fun b v => ∃ (t : Nat) (y : Bool), t ≤ n2 ∧ v = .int .i64 t ∧ b = .bool y ∧ Hid (y = (litF f n2 && allR R k g n1 && litR R k && assF f t g n1))) (fun _ v => n2 - (intOf v).toNat)
        case atStart => exact ⟨0, _, Nat.zero_le _, rfl, rfl, Lib.hid (by rw [HX.out]; simp [assF])⟩
        case round =>
          obtain ⟨t, y, ht, rfl, rfl, HY⟩ := hrel
          by_cases hlt : t < n2
          · have hltI : (t : Int) < (n2 : Int) := by omega
            rcases HR.out.2.2.2 with h0 | ⟨b, off, rfl, hbl, hc⟩
            · omega
            have HH := Lib.hid (fun cc => refHolds_any (some ⟨b, off + t, none⟩) 1 cc (fun _ => f t) a1 n1 c1 g w1 (by omega) (by omega) (.inr ⟨b, off + t, rfl, Nat.lt_of_lt_of_le hbl HB1.out.size, fun j hj => by
              obtain rfl : j = 0 := by omega
              exact (HB1.out.cell (p := ⟨b, off + t, none⟩) hbl).trans (hc t hlt)⟩) (HR.out.2.2.1.below HB1.out))
            rw [holds_one] at HH
            have HN := Lib.hid (show (y = true → hv g n1 (f t) = (litF f n2 && allR R k g n1 && litR R k && assF f (t + 1) g n1)) ∧ (y = false → false = (litF f n2 && allR R k g n1 && litR R k && assF f (t + 1) g n1)) from by
              rw [assF_succ]
              exact and_step _ _ _ _ HY.out)
            clear hc hbl HY
            cases y
            all_goals
              go_wp2_with (go_at_call 18; refine (HH.out _).mono ?_; rintro e w' ⟨rfl, rfl⟩)
              go_round
              case rel => exact ⟨t + 1, _, by omega, by go_num, rfl, Lib.hid (by first | exact HN.out.1 rfl | exact HN.out.1 trivial | exact HN.out.2 rfl | exact HN.out.2 trivial)⟩
              case measure => simp [intOf]; omega
          · have hq : ¬ (t : Int) < (n2 : Int) := by omega
            obtain rfl : t = n2 := by omega
            have HE := Lib.hid (models_same R k g n1 f t)
            go_wp2_with (go_at_call 19; refine (HMO.out _ HB1.out).mono ?_; rintro e w' ⟨rfl, HB3⟩)
            go_ret
            exact ⟨ret_bool (by rw [HE.out, HY.out]; simp), HB3.out⟩
theorem models_any (a0 a1 a2 : Option Addr) (n0 c0 n1 c1 n2 c2 : Nat) (R : Nat → Row) (g : Nat → Bool) (f : Nat → Int) (W : World) (hn0 : n0 ≤ 9223372036854775807) (hnc : n0 ≤ c0) (hc0 : c0 ≤ 9223372036854775807) (hR : ∀ j, j < n0 → (R j).n ≤ 9223372036854775807) (hc2 : n2 ≤ c2) (hr : Rws W a0 n0 R) (hg : HasB W a1 n1 g) (hf : Has W a2 n2 f) :
    Calls Try.prog 5 #[.slice a0 n0 c0, .slice a1 n1 c1, .slice a2 n2 c2] W fun e w' => e = .returned (.bool true) ∧ Below W.heap.size W w' := by
  have hS : ∀ w1, Below W.heap.size W w1 → Calls Try.prog 9 #[.slice a0 n0 c0, .int .i64 40, .int .i64 100000] w1 fun e w' => e = .returned (.bool (small R n0 40)) ∧ w1 = w' := fun w1 hb =>
    small_any a0 n0 c0 R 40 100000 (by omega) w1 hn0 (by omega) hnc hc0 hR (hr.below hb)
  by_cases h : small R n0 40 = false ∨ 60 < n1 ∨ 20 < n2
  · exact models_out W a0 a1 a2 n0 c0 n1 c1 n2 c2 R hS h
  · have h' : small R n0 40 = true := by
      cases e : small R n0 40
      · exact absurd (.inl e) h
      · rfl
    exact models_in W a0 a1 a2 n0 c0 n1 c1 n2 c2 R g f hS h' (by omega) (by omega) hc2 hr hg hf
end Go.Proofs.Ytoffhgiljnagcaa
