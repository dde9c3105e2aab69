/- The answers' And. -/
import Derived.Test.YtfdopgohopibkaaC
namespace Go.Proofs.Ytfdopgohopibkaa
open Go.RowKit Go.Lib Go.Maps
set_option maxRecDepth 100000

/-- A node's three cells. -/
theorem Rg.node {w : World} {G g n c : Nat} {s : Gr} (h : Rg w G (.slice (some ⟨g, 0, none⟩) n c) s) {i : Nat} (hi : i < s.n) :
    (s.L i = none ∧ w.cell? ⟨g, i * 3, none⟩ = some (.bool true)) ∨ ∃ a b, s.L i = some (a, b) ∧ w.cell? ⟨g, i * 3, none⟩ = some (.bool false) ∧ w.cell? ⟨g, i * 3 + 1, none⟩ = some (.int .i64 a) ∧ w.cell? ⟨g, i * 3 + 2, none⟩ = some (.int .i64 b) := by
  have h0 := h.sl.cell (j := i * 3) (by omega)
  have h1 := h.sl.cell (j := i * 3 + 1) (by omega)
  have h2 := h.sl.cell (j := i * 3 + 2) (by omega)
  unfold ndV at h0 h1 h2
  rw [show i * 3 / 3 = i by omega] at h0
  rw [show (i * 3 + 1) / 3 = i by omega] at h1
  rw [show (i * 3 + 2) / 3 = i by omega] at h2
  cases e : s.L i with
  | none =>
    rw [e] at h0
    refine .inl ⟨rfl, ?_⟩
    rw [h0]; simp
  | some x =>
    obtain ⟨a, b⟩ := x
    rw [e] at h0 h1 h2
    refine .inr ⟨a, b, rfl, ?_, ?_, ?_⟩
    · rw [h0]; simp
    · rw [h1]; simp only; rw [if_neg (by omega), if_pos (by omega)]
    · rw [h2]; simp only; rw [if_neg (by omega), if_neg (by omega)]

set_option maxHeartbeats 1000000 in
theorem rand_lt {w : World} {G : Nat} {v : Value} {s : Gr} (h : Rg w G v s) (hn : s.n ≤ 100000) (x y : Int) (f0 : edg s.n x < edg s.n y) :
    Calls Try.prog 15 #[.pointer (some ⟨G, 0, none⟩), .int .i64 x, .int .i64 y] w fun e w' => e = .returned (.int .i64 ((andS s (edg s.n x) (edg s.n y)).1 : Nat)) ∧ ∃ v', Hid (RgT G w v w' v' (andS s (edg s.n x) (edg s.n y)).2) := by
  have HE := Lib.hid (redge_any h hn)
  have HT0 := Lib.hid (Rg.refl h)
  have hq := edg_lt s.n y
  have hp := edg_lt s.n x
  have H := Lib.hid h
  obtain ⟨va, c, rfl, _, _⟩ := h.sl.shape
  have hc := h.hd.cell (i := 0) (by omega)
  clear h
  have f1 : ¬ edg s.n y < edg s.n x := by omega
  have HN := Lib.hid (rnot_any (edg s.n x) (by omega) w)
  generalize hr : andS s (edg s.n x) (edg s.n y) = r
  unfold andS at hr
  by_cases h0 : edg s.n x = 0
  · rw [if_pos (.inl h0)] at hr; subst hr
    have f3 : 0 < edg s.n y := by omega
    have f4 : ¬ edg s.n y < 0 := by omega
    clear hp hq
    go_enter Try.func15, Try.ntmps15
    go_wp2_with (first
        | (go_at_call 31; refine (HE.out _).mono ?_; rintro e w' ⟨rfl, rfl⟩)
        | (go_at_call 28; refine HN.out.mono ?_; rintro e w' ⟨rfl, rfl⟩))
    go_ret
    exact ⟨rfl, _, HT0⟩
  · have h0I : ¬ ((edg s.n x : Nat) : Int) = 0 := by omega
    by_cases h1 : edg s.n y = nt (edg s.n x)
    · rw [if_pos (.inr h1)] at hr; subst hr
      have h1I : ((edg s.n y : Nat) : Int) = ((nt (edg s.n x) : Nat) : Int) := by rw [h1]
      clear h1 hp hq h0
      go_enter Try.func15, Try.ntmps15
      go_wp2_with (first
        | (go_at_call 31; refine (HE.out _).mono ?_; rintro e w' ⟨rfl, rfl⟩)
        | (go_at_call 28; refine HN.out.mono ?_; rintro e w' ⟨rfl, rfl⟩))
      go_ret
      exact ⟨rfl, _, HT0⟩
    · have h1I : ¬ ((edg s.n y : Nat) : Int) = ((nt (edg s.n x) : Nat) : Int) := by omega
      rw [if_neg (by omega)] at hr
      by_cases h2 : edg s.n x = 1
      · rw [if_pos (.inl h2)] at hr; subst hr
        have h2I : ((edg s.n x : Nat) : Int) = 1 := by omega
        have f3 : 1 < edg s.n y := by omega
        have f4 : ¬ edg s.n y < 1 := by omega
        have f5 : ¬ edg s.n y = 0 := by rw [h2] at h1; exact h1
        have HN := Lib.hid (show Calls Try.prog 28 #[.int .i64 1] w fun r w' => r = .returned (.int .i64 0) ∧ w = w' from rnot_any 1 (by omega) w)
        clear h1 hp hq h0 h0I h1I h2I f0 f1
        go_enter Try.func15, Try.ntmps15
        go_wp2_with (first
        | (go_at_call 31; refine (HE.out _).mono ?_; rintro e w' ⟨rfl, rfl⟩)
        | (go_at_call 28; refine HN.out.mono ?_; rintro e w' ⟨rfl, rfl⟩))
        go_ret
        exact ⟨rfl, _, HT0⟩
      · have h2I : ¬ ((edg s.n x : Nat) : Int) = 1 := by omega
        have h3I : ¬ ((edg s.n x : Nat) : Int) = ((edg s.n y : Nat) : Int) := by omega
        rw [if_neg (by omega)] at hr
        have HR := Lib.hid hr
        have b0 : (((edg s.n x : Nat) : Int) == 0) = false := by simpa using h0
        have b1 : (((edg s.n y : Nat) : Int) == ((nt (edg s.n x) : Nat) : Int)) = false := by rw [beq_eq_false_iff_ne]; exact h1I
        have b2 : (((edg s.n x : Nat) : Int) == 1) = false := by rw [beq_eq_false_iff_ne]; exact h2I
        have b3 : (((edg s.n x : Nat) : Int) == ((edg s.n y : Nat) : Int)) = false := by rw [beq_eq_false_iff_ne]; exact h3I
        clear h1 hp hq h0 h2 hr
        go_enter Try.func15, Try.ntmps15
        go_wp2_with (first
        | (go_at_call 31; refine (HE.out _).mono ?_; rintro e w' ⟨rfl, rfl⟩)
        | (go_at_call 28; refine HN.out.mono ?_; rintro e w' ⟨rfl, rfl⟩))
        go_loop [9] (fun v => ∃ i : Nat, i ≤ s.n ∧ v = .int .i64 i ∧ Hid (∀ j, j < i → s.L j ≠ some (edg s.n x, edg s.n y))) (fun v => s.n - (intOf v).toNat)
        case atStart => exact ⟨0, Nat.zero_le _, rfl, Lib.hid fun j h => absurd h (Nat.not_lt_zero _)⟩
        case round =>
          obtain ⟨i, hi, rfl, HI⟩ := hrel
          by_cases hlt : i < s.n
          · have hltI : (i : Int) < (s.n : Int) := by omega
            obtain ⟨g, c', e, _, _, hg⟩ := H.out.sl.pos (by omega)
            injection e with e1 e2 e3
            subst e1 e3
            have HNx := Lib.hid (show s.L i ≠ some (edg s.n x, edg s.n y) → ∀ j, j < i + 1 → s.L j ≠ some (edg s.n x, edg s.n y) from fun hne j hj => by
              by_cases e : j = i
              · subst e; exact hne
              · exact HI.out j (by omega))
            rcases H.out.node hlt with ⟨hl, c0⟩ | ⟨a', b', hl, c0, c1, c2⟩
            · have HN2 := Lib.hid (HNx.out (by rw [hl]; intro h; cases h))
              clear hl
              go_wp2
              go_round
              case rel => exact ⟨i + 1, by omega, by go_num, HN2⟩
              case measure => simp [intOf]; omega
            · by_cases ha : a' = edg s.n x
              · have haI : (a' : Int) = ((edg s.n x : Nat) : Int) := by omega
                by_cases hb : b' = edg s.n y
                · have hbI : (b' : Int) = ((edg s.n y : Nat) : Int) := by omega
                  have HF := Lib.hid (fnd_first hlt (by rw [hl, ha, hb]) HI.out)
                  clear hl ha hb
                  go_wp2
                  go_ret
                  have hr := HR.out
                  rw [HF.out] at hr
                  subst hr
                  exact ⟨ret_int (by simp only; omega), _, HT0⟩
                · have hbI : ¬ (b' : Int) = ((edg s.n y : Nat) : Int) := by omega
                  have HN2 := Lib.hid (HNx.out (by rw [hl]; intro h; injection h with h; injection h with _ h; exact hb h))
                  clear hl ha hb
                  go_wp2
                  go_round
                  case rel => exact ⟨i + 1, by omega, by go_num, HN2⟩
                  case measure => simp [intOf]; omega
              · have haI : ¬ (a' : Int) = ((edg s.n x : Nat) : Int) := by omega
                have HN2 := Lib.hid (HNx.out (by rw [hl]; intro h; injection h with h; injection h with h _; exact ha h))
                clear hl ha
                go_wp2
                go_round
                case rel => exact ⟨i + 1, by omega, by go_num, HN2⟩
                case measure => simp [intOf]; omega
          · obtain rfl : i = s.n := by omega
            have hltI : ¬ (s.n : Int) < (s.n : Int) := by omega
            have HF := Lib.hid (fnd_none.2 HI.out)
            clear hlt
            go_wp2_with (at_builtin; refine Rg.app H (some (edg s.n x, edg s.n y)) hn rfl rfl _ _ rfl rfl rfl ?_; intro a1 c1 w1 H1; have hc1 := H1.out.hd.cell (i := 0) (by omega); have hf1 := H1.out.hd.frozen 0; have H2 := Lib.hid H1.out.store; have hc2 := H2.out.rg.hd.cell (i := 0) (by omega))
            go_ret
            have hr := HR.out
            rw [HF.out] at hr
            subst hr
            exact ⟨ret_int (by simp only; omega), _, H2⟩
set_option maxHeartbeats 1000000 in
theorem rand_gt {w : World} {G : Nat} {v : Value} {s : Gr} (h : Rg w G v s) (hn : s.n ≤ 100000) (x y : Int) (f0 : edg s.n y < edg s.n x) :
    Calls Try.prog 15 #[.pointer (some ⟨G, 0, none⟩), .int .i64 x, .int .i64 y] w fun e w' => e = .returned (.int .i64 ((andS s (edg s.n y) (edg s.n x)).1 : Nat)) ∧ ∃ v', Hid (RgT G w v w' v' (andS s (edg s.n y) (edg s.n x)).2) := by
  have HE := Lib.hid (redge_any h hn)
  have HT0 := Lib.hid (Rg.refl h)
  have hq := edg_lt s.n y
  have hp := edg_lt s.n x
  have H := Lib.hid h
  obtain ⟨va, c, rfl, _, _⟩ := h.sl.shape
  have hc := h.hd.cell (i := 0) (by omega)
  clear h
  have f1 : ¬ edg s.n x < edg s.n y := by omega
  have HN := Lib.hid (rnot_any (edg s.n y) (by omega) w)
  generalize hr : andS s (edg s.n y) (edg s.n x) = r
  unfold andS at hr
  by_cases h0 : edg s.n y = 0
  · rw [if_pos (.inl h0)] at hr; subst hr
    have f3 : 0 < edg s.n x := by omega
    have f4 : ¬ edg s.n x < 0 := by omega
    clear hp hq
    go_enter Try.func15, Try.ntmps15
    go_wp2_with (first
        | (go_at_call 31; refine (HE.out _).mono ?_; rintro e w' ⟨rfl, rfl⟩)
        | (go_at_call 28; refine HN.out.mono ?_; rintro e w' ⟨rfl, rfl⟩))
    go_ret
    exact ⟨rfl, _, HT0⟩
  · have h0I : ¬ ((edg s.n y : Nat) : Int) = 0 := by omega
    by_cases h1 : edg s.n x = nt (edg s.n y)
    · rw [if_pos (.inr h1)] at hr; subst hr
      have h1I : ((edg s.n x : Nat) : Int) = ((nt (edg s.n y) : Nat) : Int) := by rw [h1]
      clear h1 hp hq h0
      go_enter Try.func15, Try.ntmps15
      go_wp2_with (first
        | (go_at_call 31; refine (HE.out _).mono ?_; rintro e w' ⟨rfl, rfl⟩)
        | (go_at_call 28; refine HN.out.mono ?_; rintro e w' ⟨rfl, rfl⟩))
      go_ret
      exact ⟨rfl, _, HT0⟩
    · have h1I : ¬ ((edg s.n x : Nat) : Int) = ((nt (edg s.n y) : Nat) : Int) := by omega
      rw [if_neg (by omega)] at hr
      by_cases h2 : edg s.n y = 1
      · rw [if_pos (.inl h2)] at hr; subst hr
        have h2I : ((edg s.n y : Nat) : Int) = 1 := by omega
        have f3 : 1 < edg s.n x := by omega
        have f4 : ¬ edg s.n x < 1 := by omega
        have f5 : ¬ edg s.n x = 0 := by rw [h2] at h1; exact h1
        have HN := Lib.hid (show Calls Try.prog 28 #[.int .i64 1] w fun r w' => r = .returned (.int .i64 0) ∧ w = w' from rnot_any 1 (by omega) w)
        clear h1 hp hq h0 h0I h1I h2I f0 f1
        go_enter Try.func15, Try.ntmps15
        go_wp2_with (first
        | (go_at_call 31; refine (HE.out _).mono ?_; rintro e w' ⟨rfl, rfl⟩)
        | (go_at_call 28; refine HN.out.mono ?_; rintro e w' ⟨rfl, rfl⟩))
        go_ret
        exact ⟨rfl, _, HT0⟩
      · have h2I : ¬ ((edg s.n y : Nat) : Int) = 1 := by omega
        have h3I : ¬ ((edg s.n y : Nat) : Int) = ((edg s.n x : Nat) : Int) := by omega
        rw [if_neg (by omega)] at hr
        have HR := Lib.hid hr
        have b0 : (((edg s.n y : Nat) : Int) == 0) = false := by simpa using h0
        have b1 : (((edg s.n x : Nat) : Int) == ((nt (edg s.n y) : Nat) : Int)) = false := by rw [beq_eq_false_iff_ne]; exact h1I
        have b2 : (((edg s.n y : Nat) : Int) == 1) = false := by rw [beq_eq_false_iff_ne]; exact h2I
        have b3 : (((edg s.n y : Nat) : Int) == ((edg s.n x : Nat) : Int)) = false := by rw [beq_eq_false_iff_ne]; exact h3I
        clear h1 hp hq h0 h2 hr
        go_enter Try.func15, Try.ntmps15
        go_wp2_with (first
        | (go_at_call 31; refine (HE.out _).mono ?_; rintro e w' ⟨rfl, rfl⟩)
        | (go_at_call 28; refine HN.out.mono ?_; rintro e w' ⟨rfl, rfl⟩))
        go_loop [9] (fun v => ∃ i : Nat, i ≤ s.n ∧ v = .int .i64 i ∧ Hid (∀ j, j < i → s.L j ≠ some (edg s.n y, edg s.n x))) (fun v => s.n - (intOf v).toNat)
        case atStart => exact ⟨0, Nat.zero_le _, rfl, Lib.hid fun j h => absurd h (Nat.not_lt_zero _)⟩
        case round =>
          obtain ⟨i, hi, rfl, HI⟩ := hrel
          by_cases hlt : i < s.n
          · have hltI : (i : Int) < (s.n : Int) := by omega
            obtain ⟨g, c', e, _, _, hg⟩ := H.out.sl.pos (by omega)
            injection e with e1 e2 e3
            subst e1 e3
            have HNx := Lib.hid (show s.L i ≠ some (edg s.n y, edg s.n x) → ∀ j, j < i + 1 → s.L j ≠ some (edg s.n y, edg s.n x) from fun hne j hj => by
              by_cases e : j = i
              · subst e; exact hne
              · exact HI.out j (by omega))
            rcases H.out.node hlt with ⟨hl, c0⟩ | ⟨a', b', hl, c0, c1, c2⟩
            · have HN2 := Lib.hid (HNx.out (by rw [hl]; intro h; cases h))
              clear hl
              go_wp2
              go_round
              case rel => exact ⟨i + 1, by omega, by go_num, HN2⟩
              case measure => simp [intOf]; omega
            · by_cases ha : a' = edg s.n y
              · have haI : (a' : Int) = ((edg s.n y : Nat) : Int) := by omega
                by_cases hb : b' = edg s.n x
                · have hbI : (b' : Int) = ((edg s.n x : Nat) : Int) := by omega
                  have HF := Lib.hid (fnd_first hlt (by rw [hl, ha, hb]) HI.out)
                  clear hl ha hb
                  go_wp2
                  go_ret
                  have hr := HR.out
                  rw [HF.out] at hr
                  subst hr
                  exact ⟨ret_int (by simp only; omega), _, HT0⟩
                · have hbI : ¬ (b' : Int) = ((edg s.n x : Nat) : Int) := by omega
                  have HN2 := Lib.hid (HNx.out (by rw [hl]; intro h; injection h with h; injection h with _ h; exact hb h))
                  clear hl ha hb
                  go_wp2
                  go_round
                  case rel => exact ⟨i + 1, by omega, by go_num, HN2⟩
                  case measure => simp [intOf]; omega
              · have haI : ¬ (a' : Int) = ((edg s.n y : Nat) : Int) := by omega
                have HN2 := Lib.hid (HNx.out (by rw [hl]; intro h; injection h with h; injection h with h _; exact ha h))
                clear hl ha
                go_wp2
                go_round
                case rel => exact ⟨i + 1, by omega, by go_num, HN2⟩
                case measure => simp [intOf]; omega
          · obtain rfl : i = s.n := by omega
            have hltI : ¬ (s.n : Int) < (s.n : Int) := by omega
            have HF := Lib.hid (fnd_none.2 HI.out)
            clear hlt
            go_wp2_with (at_builtin; refine Rg.app H (some (edg s.n y, edg s.n x)) hn rfl rfl _ _ rfl rfl rfl ?_; intro a1 c1 w1 H1; have hc1 := H1.out.hd.cell (i := 0) (by omega); have hf1 := H1.out.hd.frozen 0; have H2 := Lib.hid H1.out.store; have hc2 := H2.out.rg.hd.cell (i := 0) (by omega))
            go_ret
            have hr := HR.out
            rw [HF.out] at hr
            subst hr
            exact ⟨ret_int (by simp only; omega), _, H2⟩
end Go.Proofs.Ytfdopgohopibkaa
