/- The answers' And, at any two edges. -/
import Derived.Test.YtfdopgohopibkaaE
namespace Go.Proofs.Ytfdopgohopibkaa
open Go.RowKit Go.Lib Go.Maps
set_option maxRecDepth 100000

set_option maxHeartbeats 1000000 in
theorem rand_eq {w : World} {G : Nat} {v : Value} {s : Gr} (h : Rg w G v s) (hn : s.n ≤ 100000) (x y : Int) (f0 : edg s.n x = edg s.n y) :
    Calls Try.prog 15 #[.pointer (some ⟨G, 0, none⟩), .int .i64 x, .int .i64 y] w fun e w' => e = .returned (.int .i64 ((andS s (edg s.n x) (edg s.n x)).1 : Nat)) ∧ ∃ v', Hid (RgT G w v w' v' (andS s (edg s.n x) (edg s.n x)).2) := by
  have hp := edg_lt s.n x
  have HE := Lib.hid (redge_any h hn x)
  have HE2 := Lib.hid (show Calls Try.prog 31 #[.pointer (some ⟨G, 0, none⟩), .int .i64 y] w fun e w' => e = .returned (.int .i64 (edg s.n x : Nat)) ∧ w = w' from f0 ▸ redge_any h hn y)
  have HEA := Lib.hid (show ∀ z, z = x ∨ z = y → Calls Try.prog 31 #[.pointer (some ⟨G, 0, none⟩), .int .i64 z] w fun e w' => e = .returned (.int .i64 (edg s.n x : Nat)) ∧ w = w' from fun z hz => by
    rcases hz with rfl | rfl
    · exact HE.out
    · exact HE2.out)
  have HT0 := Lib.hid (Rg.refl h)
  clear h HE HE2 f0
  generalize edg s.n x = a at *
  have HN := Lib.hid (rnot_any a (by omega) w)
  have f1 : ¬ a < a := by omega
  generalize hr : andS s a a = r
  unfold andS at hr
  by_cases h0 : a = 0
  · rw [if_pos (.inl h0)] at hr; subst hr
    clear hp
    have h0I : (a : Int) = 0 := by omega
    go_enter Try.func15, Try.ntmps15
    go_wp2_with (go_at_call 31; refine (HEA.out _ (by first | exact .inl rfl | exact .inr rfl)).mono ?_; rintro e w' ⟨rfl, rfl⟩)
    go_ret
    exact ⟨rfl, _, HT0⟩
  · have hne : ¬ a = nt a := by unfold nt; split <;> omega
    rw [if_neg (by omega), if_pos (.inr rfl)] at hr; subst hr
    have b0 : ((a : Int) == 0) = false := by rw [beq_eq_false_iff_ne]; omega
    have b1 : ((a : Int) == ((nt a : Nat) : Int)) = false := by rw [beq_eq_false_iff_ne]; omega
    have h0I : ¬ (a : Int) = 0 := by omega
    have h1I : ¬ (a : Int) = ((nt a : Nat) : Int) := by omega
    clear hp h0 hne
    go_enter Try.func15, Try.ntmps15
    go_wp2_with (first
      | (go_at_call 31; refine (HEA.out _ (by first | exact .inl rfl | exact .inr rfl)).mono ?_; rintro e w' ⟨rfl, rfl⟩)
      | (go_at_call 28; refine HN.out.mono ?_; rintro e w' ⟨rfl, rfl⟩))
    all_goals
      go_ret
      first
        | exact ⟨rfl, _, HT0⟩
        | exact ⟨ret_int (by omega), _, HT0⟩

/-- And -/
theorem rand_any {w : World} {G : Nat} {v : Value} {s : Gr} (h : Rg w G v s) (hn : s.n ≤ 100000) (x y : Int) :
    Calls Try.prog 15 #[.pointer (some ⟨G, 0, none⟩), .int .i64 x, .int .i64 y] w fun e w' => e = .returned (.int .i64 ((andI s x y).1 : Nat)) ∧ ∃ v', Hid (RgT G w v w' v' (andI s x y).2) := by
  unfold andI andN
  rcases Nat.lt_trichotomy (edg s.n x) (edg s.n y) with e | e | e
  · rw [Nat.min_eq_left (by omega), Nat.max_eq_right (by omega)]; exact rand_lt h hn x y e
  · rw [← e, Nat.min_self, Nat.max_self]; exact rand_eq h hn x y e
  · rw [Nat.min_eq_right (by omega), Nat.max_eq_left (by omega)]; exact rand_gt h hn x y e
end Go.Proofs.Ytfdopgohopibkaa
