/- Contracts: And. -/
import Derived.Test.YtpniffcojmlboaaL
import Derived.Deep.QuietTactic
import Derived.BigQuiet
namespace Go.Proofs.Ytpniffcojmlboaa
open Go.RowKit Go.Lib Go.Maps
set_option maxRecDepth 100000

theorem GmT.drewN {G M : Nat} {w w1 : World} {v iv v1 iv1 : Value} {s : Gr} (h : GmT G M w v iv w1 v1 iv1 s) (q : Nat) : GmT G M w v iv (w1.drewN q) v1 iv1 s :=
  ⟨h.gm.of_block fun _ _ => rfl, h.fr.drewN q, h.own⟩
theorem pair_cells {w w2 : World} {x y : Value} (hk : w2.heap[w.heap.size]? = (w.alloc (.cells #[x, y] 75)).heap[w.heap.size]?) : w2.cell? ⟨w.heap.size, 0, none⟩ = some x ∧ w2.cell? ⟨w.heap.size, 1, none⟩ = some y := by
  have h1 := two_at w w.heap.size (x := x) (y := y) (t := 75) (w' := w.alloc (.cells #[x, y] 75)) rfl rfl
  have e : ∀ j, w2.cell? ⟨w.heap.size, j, none⟩ = (w.alloc (.cells #[x, y] 75)).cell? ⟨w.heap.size, j, none⟩ := fun j => World.cell?_of_block (w := w.alloc (.cells #[x, y] 75)) (w' := w2) hk
  rw [e, e]
  exact ⟨h1 0 x rfl, by simp⟩
theorem nt_sym {a b : Nat} : a = nt b ↔ b = nt a := ⟨fun e => by rw [e, nt_nt], fun e => by rw [e, nt_nt]⟩
set_option maxHeartbeats 2000000 in
/-- And -/
theorem and_any {w : World} {G M : Nat} {v iv : Value} {s : Gr} (h : Gm w G M v iv s) (hn : s.n ≤ 100000) (x y : Int) (hx : x ≤ 1000000) (hy : y ≤ 1000000) :
    Calls Try.prog 23 #[.pointer (some ⟨G, 0, none⟩), .int .i64 x, .int .i64 y] w fun e w' => e = .returned (.int .i64 ((andN s (edg s.n x) (edg s.n y)).1 : Nat)) ∧ ∃ v' iv', Hid (GmT G M w v iv w' v' iv' (andN s (edg s.n x) (edg s.n y)).2) := by
  have HE := Lib.hid (fun x hx => own_any h hn x hx)
  have HX := Lib.hid hx
  have HY := Lib.hid hy
  have hp := edg_lt s.n x
  have hq := edg_lt s.n y
  unfold andN
  obtain ⟨lo, hlo⟩ : ∃ lo, lo = min (edg s.n x) (edg s.n y) := ⟨_, rfl⟩
  obtain ⟨hi, hhi⟩ : ∃ hi, hi = max (edg s.n x) (edg s.n y) := ⟨_, rfl⟩
  rw [← hlo, ← hhi]
  have hmin : (if edg s.n y < edg s.n x then ((edg s.n y : Nat) : Int) else ((edg s.n x : Nat) : Int)) = (lo : Int) := by split <;> omega
  have hmax : (if edg s.n x < edg s.n y then ((edg s.n y : Nat) : Int) else ((edg s.n x : Nat) : Int)) = (hi : Int) := by split <;> omega
  have hle : lo ≤ hi := by omega
  have hlt : hi < 2 * (s.n + 1) := by omega
  clear hlo hhi hp hq
  have HI := Lib.hid (andS_is (I := fun _ => false) h.ok hle hlt).ok
  obtain ⟨w1, hw1⟩ : ∃ w1, w1 = w.alloc (.cells #[.int .i64 lo, .int .i64 hi] 75) := ⟨_, rfl⟩
  have hb1 : Below w.heap.size w w1 := hw1 ▸ (Below.refl _ w).alloc (Nat.le_refl _) _
  have H1 := Lib.hid (h.below hb1)
  have HT := Lib.hid (h.refl.below hb1)
  have HNot := Lib.hid (show ∀ W, Calls Try.prog 22 #[.int .i64 hi] W fun r w' => r = .returned (.int .i64 (nt hi)) ∧ w' = W from fun W => (not_any hi (by omega) W).mono fun e w' ⟨he, hw⟩ => ⟨he, hw.symm⟩)
  have c1 := h.cell1
  have hG := h.hd.lt
  clear hx hy
  have HB := Lib.hid (fun b e => h.lt (b := b) e)
  have HTd := Lib.hid (show ∀ a b, GmT G M w v iv (((w.alloc (.cells #[.int .i64 lo, .int .i64 hi] 75)).drewN a).drewN b) v iv s from fun a b => hw1 ▸ (HT.out.drewN a).drewN b)
  have HTd1 := Lib.hid (show ∀ a, GmT G M w v iv ((w.alloc (.cells #[.int .i64 lo, .int .i64 hi] 75)).drewN a) v iv s from fun a => hw1 ▸ HT.out.drewN a)
  clear h
  generalize hr : andS s lo hi = r at HI
  unfold andS at hr
  by_cases h0 : lo = 0
  · rw [if_pos (.inl h0)] at hr; subst hr
    have b0 : ((lo : Int) == 0) = true := by rw [beq_iff_eq]; omega
    clear h0
    go_enter Try.func23, Try.ntmps23
    go_wp2_with (go_at_call 36; refine (HE.out _ (by first | exact HX.out | exact HY.out)).mono ?_; rintro e w' ⟨rfl, rfl⟩)
    go_ret
    exact ⟨rfl, _, _, hw1 ▸ HT⟩
  · have b0 : ((lo : Int) == 0) = false := by rw [beq_eq_false_iff_ne]; omega
    by_cases h1 : lo = nt hi
    · rw [if_pos (.inr (nt_sym.1 h1))] at hr; subst hr
      have b1 : ((lo : Int) == ((nt hi : Nat) : Int)) = true := by rw [beq_iff_eq]; omega
      clear h0 h1
      go_enter Try.func23, Try.ntmps23
      go_wp2_with (go_at_call 36; refine (HE.out _ (by first | exact HX.out | exact HY.out)).mono ?_; rintro e w' ⟨rfl, rfl⟩)
      go_quiet ((go_at_call 22; exact Calls.quiet_of_same (HNot.out _)))
      go_wp2
      go_ret
      exact ⟨rfl, _, _, Lib.hid (hw1 ▸ HT.out.drewN nq)⟩
    · have b1 : ((lo : Int) == ((nt hi : Nat) : Int)) = false := by rw [beq_eq_false_iff_ne]; omega
      rw [if_neg (fun e => e.elim h0 fun e => h1 (nt_sym.2 e))] at hr
      by_cases h2 : lo = 1
      · rw [if_pos (.inl h2)] at hr; subst hr
        have b2 : ((lo : Int) == 1) = true := by rw [beq_iff_eq]; omega
        clear h0 h1 h2
        go_enter Try.func23, Try.ntmps23
        go_wp2_with (go_at_call 36; refine (HE.out _ (by first | exact HX.out | exact HY.out)).mono ?_; rintro e w' ⟨rfl, rfl⟩)
        go_quiet ((go_at_call 22; exact Calls.quiet_of_same (HNot.out _)))
        go_wp2
        go_ret
        exact ⟨rfl, _, _, Lib.hid (hw1 ▸ HT.out.drewN nq)⟩
      · have b2 : ((lo : Int) == 1) = false := by rw [beq_eq_false_iff_ne]; omega
        by_cases h3 : lo = hi
        · rw [if_pos (.inr h3)] at hr; subst hr
          have b3 : ((lo : Int) == (hi : Int)) = true := by rw [beq_iff_eq]; omega
          clear h0 h1 h2 h3
          go_enter Try.func23, Try.ntmps23
          go_wp2_with (go_at_call 36; refine (HE.out _ (by first | exact HX.out | exact HY.out)).mono ?_; rintro e w' ⟨rfl, rfl⟩)
          go_quiet ((go_at_call 22; exact Calls.quiet_of_same (HNot.out _)))
          go_wp2
          go_ret
          exact ⟨rfl, _, _, Lib.hid (hw1 ▸ HT.out.drewN nq)⟩
        · have b3 : ((lo : Int) == (hi : Int)) = false := by rw [beq_eq_false_iff_ne]; omega
          rw [if_neg (fun e => e.elim h2 h3)] at hr
          have HL := H1.out.mp.look (a := lo) (b := hi) (by omega) (by omega)
          cases hf : fnd s.L lo hi s.n with
          | some i =>
            rw [hf] at hr; subst hr
            have hrun : ∀ q, (Instr.lookup 71 (.map (some M)) (pr lo hi) true).run Try.prog ((w.alloc (.cells #[.int .i64 lo, .int .i64 hi] 75)).drewN q) = .ok (.tuple #[.int .i64 ((2 * (i + 1) : Nat) : Int), .bool true]) ((w.alloc (.cells #[.int .i64 lo, .int .i64 hi] 75)).drewN q) := fun q => HL.1 i hf _ (by rw [hw1]; rfl)
            clear h0 h1 h2 h3 HL hf
            go_enter Try.func23, Try.ntmps23
            go_wp2_with (go_at_call 36; refine (HE.out _ (by first | exact HX.out | exact HY.out)).mono ?_; rintro e w' ⟨rfl, rfl⟩)
            go_quiet ((go_at_call 22; exact Calls.quiet_of_same (HNot.out _)))
            go_wp2
            go_quiet (fail)
            go_wp2
            go_ret
            exact ⟨ret_int (by omega), _, _, Lib.hid (HTd.out _ _)⟩
          | none =>
            rw [hf] at hr; subst hr
            obtain ⟨c, hrun0⟩ := HL.2 hf
            have hrun : ∀ q, (Instr.lookup 71 (.map (some M)) (pr lo hi) true).run Try.prog ((w.alloc (.cells #[.int .i64 lo, .int .i64 hi] 75)).drewN q) = .ok (.tuple #[.int .i64 c, .bool false]) ((w.alloc (.cells #[.int .i64 lo, .int .i64 hi] 75)).drewN q) := fun q => hrun0 _ (by rw [hw1]; rfl)
            have HG := Lib.hid (show ∀ a, Calls Try.prog 39 #[.pointer (some ⟨G, 0, none⟩), pr lo hi] ((w.alloc (.cells #[.int .i64 lo, .int .i64 hi] 75)).drewN a) fun e w' => e = .returned (.tuple #[.int .i64 (2 * ((s.n : Int) + 1)), .bool true]) ∧ ∃ v', Hid (GhT G M ((w.alloc (.cells #[.int .i64 lo, .int .i64 hi] 75)).drewN a) v iv w' v' iv s (some (lo, hi))) from fun a => grow_any (HTd1.out a).gm hn (some (lo, hi)))
            have HS := Lib.hid (show ∀ w2 v2 a, GhT G M ((w.alloc (.cells #[.int .i64 lo, .int .i64 hi] 75)).drewN a) v iv w2 v2 iv s (some (lo, hi)) → ∃ w3, (Instr.mapUpdate 71 (.map (some M)) (pr lo hi) (.int .i64 (2 * ((s.n : Int) + 1)))).run Try.prog w2.drew = .ok () w3 ∧ w2.cell? ⟨G, 1, none⟩ = some (.map (some M)) ∧ w2.cell? ⟨w.heap.size, 0, none⟩ = some (.int .i64 lo) ∧ w2.cell? ⟨w.heap.size, 1, none⟩ = some (.int .i64 hi) ∧ Hid (GmT G M w v iv w3 v2 iv (s.add (some (lo, hi)))) from fun w2 v2 a T => by
              obtain ⟨w3, r, m3, g3⟩ := PMap.store (w := w2.drew) (T.gh.mp.of_block rfl) hn (a := lo) (b := hi) (by omega) (by omega) hf
              obtain ⟨p1, p2⟩ := pair_cells (w := w) (w2 := w2) (x := .int .i64 lo) (y := .int .i64 hi) (T.fr.block w.heap.size (by show w.heap.size < (w.alloc (.cells #[.int .i64 lo, .int .i64 hi] 75)).heap.size; simp) fun e => absurd (HB.out _ e) (by omega))
              exact ⟨w3, r, T.gh.hd.cell (i := 1) (by omega), p1, p2, Lib.hid ((HTd1.out a).trans (GhT.and T m3 (grown_same g3 rfl rfl rfl rfl) HI.out))⟩)
            clear h0 h1 h2 h3 HL hf hrun0 hn
            go_enter Try.func23, Try.ntmps23
            go_wp2_with (go_at_call 36; refine (HE.out _ (by first | exact HX.out | exact HY.out)).mono ?_; rintro e w' ⟨rfl, rfl⟩)
            go_quiet ((go_at_call 22; exact Calls.quiet_of_same (HNot.out _)))
            go_wp2
            go_quiet (fail)
            go_wp2_with (go_at_call 39; refine (HG.out _).mono ?_; rintro e w2 ⟨rfl, v2, T2⟩; obtain ⟨w3, r3, q1, q2, q3, HF⟩ := HS.out _ _ _ T2.out)
            go_region
            all_goals
              go_wp2
              go_ret
              exact ⟨ret_int (by omega), _, _, HF⟩
end Go.Proofs.Ytpniffcojmlboaa
