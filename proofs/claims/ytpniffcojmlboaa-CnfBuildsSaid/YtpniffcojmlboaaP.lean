/- Contracts: Node. -/
import Derived.Test.YtpniffcojmlboaaO
namespace Go.Proofs.Ytpniffcojmlboaa
open Go.RowKit Go.Lib Go.Maps
set_option maxRecDepth 100000

/-- What a number's node is: the and of two edges, or none. -/
def ndO (s : Gr) (k : Int) : Option (Nat × Nat) := if 1 ≤ k ∧ k ≤ (s.n : Int) then s.L (k.toNat - 1) else none
def ndT (o : Option (Nat × Nat)) : Value := .tuple #[.int .i64 ((px o).1 : Nat), .int .i64 ((px o).2 : Nat), .bool o.isSome]
theorem bel_drewN {B : Nat} {a w : World} (h : Below B a w) (q : Nat) : Below B a (w.drewN q) := ⟨h.os, h.tape, h.output, h.size, h.block⟩
section
variable {w : World} {G M : Nat} {v iv : Value} {s : Gr}
set_option maxHeartbeats 1000000 in
/-- Node -/
theorem node_any (h : Gm w G M v iv s) (hn : s.n ≤ 100000) (k : Int) (hk : k ≤ 1000000) :
    Calls Try.prog 21 #[.pointer (some ⟨G, 0, none⟩), .int .i64 k] w fun e w' => e = .returned (ndT (ndO s k)) ∧ Below w.heap.size w w' := by
  have HN := Lib.hid (nodes_any h hn)
  by_cases h1 : k < 0
  · have e : ndO s k = none := if_neg (by omega)
    rw [e]; clear e
    go_enter Try.func21, Try.ntmps21
    go_wp2
    go_ret3
    exact ⟨rfl, Below.refl _ _⟩
  · by_cases h2 : (s.n : Int) + 1 ≤ k
    · have e : ndO s k = none := if_neg (by omega)
      rw [e]; clear e
      go_enter Try.func21, Try.ntmps21
      go_wp2_with (go_at_call 30; refine HN.out.mono ?_; rintro e w' ⟨rfl, rfl⟩)
      go_ret3
      exact ⟨rfl, Below.refl _ _⟩
    · obtain ⟨j, rfl⟩ : ∃ j : Nat, k = (j : Int) := ⟨k.toNat, by omega⟩
      obtain ⟨g, c, hv, _, _, hg⟩ := h.sl.pos (by omega)
      have c0 := h.cell0
      subst hv
      have x0 := h.sl.cell (j := j * 2) (by omega)
      have x1 := h.sl.cell (j := j * 2 + 1) (by omega)
      have hx : prV s.L (j * 2) = .int .i64 ((px (ndO s j)).1 : Nat) ∧ prV s.L (j * 2 + 1) = .int .i64 ((px (ndO s j)).2 : Nat) := by
        by_cases hj : j = 0
        · subst hj; simp [prV, ndO, px]
        · have e0 : ndO s j = s.L (j - 1) := by
            unfold ndO
            rw [if_pos (show 1 ≤ (j : Int) ∧ (j : Int) ≤ s.n by omega), show (j : Int).toNat - 1 = j - 1 by omega]
          unfold prV
          rw [e0, if_neg (show ¬ j * 2 < 2 by omega), if_neg (show ¬ j * 2 + 1 < 2 by omega), show j * 2 / 2 - 1 = j - 1 by omega, show (j * 2 + 1) / 2 - 1 = j - 1 by omega]
          cases s.L (j - 1) with
          | none => exact ⟨rfl, rfl⟩
          | some p =>
            obtain ⟨a, b⟩ := p
            simp only
            rw [if_pos (by omega), if_neg (by omega)]
            exact ⟨rfl, rfl⟩
      rw [hx.1] at x0
      rw [hx.2] at x1
      have hz : ndO s j = none ∨ ∃ a b, ndO s j = some (a, b) ∧ 2 ≤ a := by
        unfold ndO
        split
        · next hj =>
          cases e : s.L ((j : Int).toNat - 1) with
          | none => exact .inl rfl
          | some p =>
            obtain ⟨a, b⟩ := p
            exact .inr ⟨a, b, rfl, (h.ok _ (by omega) a b e).1⟩
        · exact .inl rfl
      have hlt : (j : Int) < (s.n : Int) + 1 := by omega
      clear hx h
      rcases hz with e | ⟨a, b, e, ha⟩
      · rw [e] at x0 x1 ⊢
        clear e
        replace x0 : w.cell? ⟨g, j * 2, none⟩ = some (.int .i64 0) := x0
        replace x1 : w.cell? ⟨g, j * 2 + 1, none⟩ = some (.int .i64 0) := x1
        go_enter Try.func21, Try.ntmps21
        go_wp2_with (go_at_call 30; refine HN.out.mono ?_; rintro e w' ⟨rfl, rfl⟩)
        go_quiet (fail)
        go_wp2
        go_ret3
        exact ⟨rfl, bel_drewN ((Below.refl _ w).alloc (Nat.le_refl _) _) _⟩
      · rw [e] at x0 x1 ⊢
        clear e
        replace x0 : w.cell? ⟨g, j * 2, none⟩ = some (.int .i64 (a : Nat)) := x0
        replace x1 : w.cell? ⟨g, j * 2 + 1, none⟩ = some (.int .i64 (b : Nat)) := x1
        have b0 : ((a : Int) == 0) = false := by rw [beq_eq_false_iff_ne]; omega
        clear ha
        go_enter Try.func21, Try.ntmps21
        go_wp2_with (go_at_call 30; refine HN.out.mono ?_; rintro e w' ⟨rfl, rfl⟩)
        go_quiet (fail)
        go_wp2
        go_ret3
        exact ⟨rfl, bel_drewN ((Below.refl _ w).alloc (Nat.le_refl _) _) _⟩
end
end Go.Proofs.Ytpniffcojmlboaa
