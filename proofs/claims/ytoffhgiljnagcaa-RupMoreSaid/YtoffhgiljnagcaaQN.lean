/- The law: more clauses. -/
import Derived.Test.YtoffhgiljnagcaaQM
namespace Go.Proofs.Ytoffhgiljnagcaa
open Go.RowKit Go.Lib
set_option maxRecDepth 100000

set_option maxHeartbeats 8000000 in
theorem more_in (W : World) (a0 a1 a2 : Option Addr) (n0 c0 n1 c1 n2 c2 : Nat) (R : Nat → Row) (f1 f2 : Nat → Int)
    (hS : ∀ w1, Below W.heap.size W w1 → Calls Try.prog 9 #[.slice a0 n0 c0, .int .i64 30, .int .i64 100000] w1 fun e w' => e = .returned (.bool (small R n0 30)) ∧ w1 = w')
    (hs : small R n0 30 = true) (h1 : n1 ≤ 12) (h2 : n2 ≤ 12) (hl1 : litF f1 n1 = true) (hr : Rws W a0 n0 R) (hnil : a0 = none → n0 = 0 ∧ c0 = 0) (hf1 : Has W a1 n1 f1) (hf2 : Has W a2 n2 f2) :
    Calls Try.prog 6 #[.slice a0 n0 c0, .slice a1 n1 c1, .slice a2 n2 c2] W fun e w' => e = .returned (.bool true) ∧ Below W.heap.size W w' := by
  obtain ⟨hn0, hR⟩ := small_iff.1 hs
  have HA := Lib.hid (awake_at (W := W))
  rw [hs] at hS
  have HS := Lib.hid hS
  have HB0 := Lib.hid (Below.refl W.heap.size W)
  have hRH : ∀ j, j < n0 → Has W (R j).a (R j).n (R j).f := fun j hj => by
    rcases hr with h0 | ⟨b, off, _, _, hc⟩
    · omega
    · exact (hc j hj).2
  have HRG := Lib.hid (show ∀ w1, Below W.heap.size W w1 → Calls Try.prog 16 #[.slice a1 n1 c1] w1 fun e w' => e = .returned (.bool true) ∧ w1 = w' from fun w1 hb => by
    have := refRight_any a1 n1 c1 f1 w1 (by omega) (hf1.below hb)
    rw [hl1] at this; exact this)
  have HSRC := Lib.hid (show ∀ w1 o, Below W.heap.size W w1 → RwsSrc (w1.alloc o) a0 n0 c0 R from fun w1 o hb => rws_src (hr.below (hb.alloc hb.size o)) hnil)
  have HTWO := Lib.hid (fun w2 w3 v3 av cv H => @more_two W w2 w3 v3 av n0 cv R a1 n1 c1 f1 H hRH hf1)
  have hRs : ∀ j, j < n0 + 1 → (snR R n0 ⟨a1, n1, c1, f1⟩ j).n ≤ 1000 := fun j hj => by
    by_cases h : j < n0
    · rw [snR_lt h]; have := hR j h; omega
    · obtain rfl : j = n0 := by omega
      rw [snR_at]; show n1 ≤ 1000; omega
  have hfa : ∀ (a' : Option Addr) (n' c' : Nat) (f' : Nat → Int), Has W a' n' f' → n' ≤ 12 → (litR (snR R n0 ⟨a1, n1, c1, f1⟩) (n0 + 1) = true ∧ litF f' n' = true ∧ Conf (RowC (snR R n0 ⟨a1, n1, c1, f1⟩) (n0 + 1)) (Den f' n')) → ∀ w3 a c, Hid (Rws w3 a (n0 + 1) (snR R n0 ⟨a1, n1, c1, f1⟩) ∧ Below W.heap.size W w3) → Calls Try.prog 10 #[.slice a (n0 + 1) c, .slice a' n' c'] w3 fun e w' => e = .returned (.bool true) ∧ Hid (Rws w' a (n0 + 1) (snR R n0 ⟨a1, n1, c1, f1⟩) ∧ Below W.heap.size W w') := fun a' n' c' f' hf' hn' hx w3 a c H =>
    (follows_any a (n0 + 1) c _ a' n' c' f' w3 (by omega) hRs (by omega) H.out.1 (hf'.below H.out.2)).mono fun e w' ⟨b, h1, h2, h3⟩ => ⟨by rw [h1, h2.2 hx], Lib.hid ⟨H.out.1.below h3, H.out.2.trans (h3.mono H.out.2.size)⟩⟩
  have HFO := Lib.hid (show ∀ w3 (a : Option Addr) , Hid (Rws w3 a (n0 + 1) (snR R n0 ⟨a1, n1, c1, f1⟩) ∧ Below W.heap.size W w3) → Calls Try.prog 10 #[.slice a0 n0 c0, .slice a2 n2 c2] w3 fun e w' => ∃ b : Bool, e = .returned (.bool b) ∧ (b = true → litR (snR R n0 ⟨a1, n1, c1, f1⟩) (n0 + 1) = true ∧ litF f2 n2 = true ∧ Conf (RowC (snR R n0 ⟨a1, n1, c1, f1⟩) (n0 + 1)) (Den f2 n2)) ∧ Hid (Rws w' a (n0 + 1) (snR R n0 ⟨a1, n1, c1, f1⟩) ∧ Below W.heap.size W w') from fun w3 a H =>
    (follows_any a0 n0 c0 R a2 n2 c2 f2 w3 (by omega) (fun j hj => by have := hR j hj; omega) (by omega) (hr.below H.out.2) (hf2.below H.out.2)).mono fun e w' ⟨b, h1, h2, h3⟩ => ⟨b, h1, fun hb => by
      obtain ⟨x1, x2, x3⟩ := h2.1 hb
      refine ⟨?_, x2, x3.mono (fun c => rowC_sn) fun _ h => h⟩
      rw [litR_sn, x1]; exact hl1, Lib.hid ⟨H.out.1.below h3, H.out.2.trans (h3.mono H.out.2.size)⟩⟩)
  have HF2 := Lib.hid (hfa a2 n2 c2 f2 hf2 h2)
  have HF1 := Lib.hid (show litR R n0 = true → _ from fun hx => hfa a1 n1 c1 f1 hf1 h1 ⟨by rw [litR_sn, hx]; exact hl1, hl1, more_conf R n0 ⟨a1, n1, c1, f1⟩⟩)
  clear hfa
  have HR := Lib.hid (And.intro hR (And.intro hr (And.intro hf1 hf2)))
  clear hS hr hf1 hf2 hR hRH hRs hnil
  obtain ⟨i23, hi23, hz23, hs23, hb23⟩ := info_parts info23
  have h1I : ¬ (12 : Int) < (n1 : Int) := by omega
  have h2I : ¬ (12 : Int) < (n2 : Int) := by omega
  have h1J : decide ((12 : Int) < (n1 : Int)) = false := decide_eq_false h1I
  have h2J : decide ((12 : Int) < (n2 : Int)) = false := decide_eq_false h2I
  go_enter Try.func6, Try.ntmps6
  go_wp2_with (first
    | (go_at_call 8; refine (HA.out _ HB0.out).mono ?_; rintro e w1 ⟨rfl, HB1⟩)
    | (go_at_call 9; refine (HS.out _ HB1.out).mono ?_; rintro e w' ⟨rfl, rfl⟩)
    | (go_at_call 16; refine (HRG.out _ HB1.out).mono ?_; rintro e w' ⟨rfl, rfl⟩)
    | (at_builtin; refine wpList_append_src (P := Try.prog) rfl _ _ 22 rfl 0 23 i23 (.slice none 0 0) 1 24 Try.underlying22 hi23 hz23 hs23 hb23 rfl (by decide) (.slice (some ⟨w1.heap.size, 0, none⟩) 0 0) 0 [] rfl (owns_empty w1 23) a0 n0 c0 (lst (rwV R) n0) rfl (HSRC.out w1 _ HB1.out) (by unfold maxLen; omega) (by omega) (Nat.zero_le _) ?_; intro v2 w2 g1 g2 g3; obtain ⟨av, cv, rfl, H1⟩ := more_one HB1.out g1 g2 g3; clear g1 g2 g3)
    | (at_builtin; refine more_step (by omega) HTWO H1 rfl _ _ rfl rfl rfl ?_; intro aw cw w3 H2)
    | (go_at_call 10; refine (HF2.out (HX.out (by assumption)) _ _ _ H3).mono ?_; rintro e w4 ⟨rfl, H3⟩)
    | (go_at_call 10; refine (HFO.out _ _ H2).mono ?_; rintro e w4 ⟨b, rfl, hb1, H3⟩; have HX := Lib.hid hb1; clear hb1))
  all_goals
    go_loop [8] (fun v => ∃ (k : Nat), k ≤ n0 ∧ v = .int .i64 k ∧ Hid (litR R k = true)) (fun v => n0 - (intOf v).toNat)
    case atStart => exact ⟨0, Nat.zero_le _, rfl, Lib.hid (by simp [litR])⟩
    case round =>
      obtain ⟨k, hk, rfl, HX'⟩ := hrel
      by_cases hlt : k < n0
      · have hltI : (k : Int) < (n0 : Int) := by omega
        rcases HR.out.2.1 with h0 | ⟨b', off, rfl, hbl, hc⟩
        · omega
        obtain ⟨hcell, hHas⟩ := hc k hlt
        have xc : w4.cell? ⟨b', off + k, none⟩ = some (.slice (R k).a (R k).n (R k).c) := (H3.out.2.cell (p := ⟨b', off + k, none⟩) hbl).trans hcell
        have HRK := Lib.hid (refRight_any (R k).a (R k).n (R k).c (R k).f w4 (by have := HR.out.1 k hlt; omega) (hHas.below H3.out.2))
        have HN := Lib.hid (show litF (R k).f (R k).n = true → litR R (k + 1) = true from fun h => by rw [litR_succ, HX'.out, h]; rfl)
        clear hc hcell hHas hbl HX'
        cases hq : litF (R k).f (R k).n
        · rw [hq] at HRK
          go_wp2_with (go_at_call 16; refine HRK.out.mono ?_; rintro e w' ⟨rfl, rfl⟩)
          go_ret
          exact ⟨rfl, H3.out.2⟩
        · rw [hq] at HRK HN
          go_wp2_with (go_at_call 16; refine HRK.out.mono ?_; rintro e w' ⟨rfl, rfl⟩)
          go_round
          case rel => exact ⟨k + 1, by omega, by go_num, Lib.hid (by first | exact HN.out rfl | exact HN.out trivial)⟩
          case measure => simp [intOf]; omega
      · have hq : ¬ (k : Int) < (n0 : Int) := by omega
        obtain rfl : k = n0 := by omega
        go_wp2_with (go_at_call 10; refine (HF1.out HX'.out _ _ _ H3).mono ?_; rintro e w5 ⟨rfl, H5⟩)
        go_ret
        exact ⟨rfl, H5.out.2⟩
end Go.Proofs.Ytoffhgiljnagcaa
