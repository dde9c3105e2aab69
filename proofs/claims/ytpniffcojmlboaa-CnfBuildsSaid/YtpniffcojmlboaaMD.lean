/- Mathematics: what CnfBuilds says of a graph. -/
import Derived.Test.YtpniffcojmlboaaMC
import Derived.Test.YtpniffcojmlboaaEG
namespace Go.Proofs.Ytpniffcojmlboaa

/-- A node's value. -/
def tbN (I : Nat → Bool) (s : Gr) (n : Nat) : Bool := val I s (2 * n)
theorem tbN_tab (I : Nat → Bool) (s : Gr) (n : Nat) : tbN I s n = tab I s.L s.n n := by
  unfold tbN val ed
  rw [show 2 * n / 2 = n by omega, show 2 * n % 2 = 0 by omega]
  simp
theorem tbN_zero (I : Nat → Bool) (s : Gr) : tbN I s 0 = false := val_zero I s
theorem ed_tbN (I : Nat → Bool) (s : Gr) (e : Nat) : ed (tbN I s) e = val I s e := by
  unfold ed
  rw [tbN_tab]; rfl
theorem tbN_ands (I : Nat → Bool) {s : Gr} (ok : s.Ok) : Ands s (tbN I s) := fun n a b hn e => by
  rw [ed_tbN, ed_tbN]
  have h := nd_lt ok hn e
  unfold nd at e
  by_cases k : n = 0
  · rw [if_pos k] at e; cases e
  · rw [if_neg k] at e
    obtain ⟨p, rfl⟩ : ∃ p, n = p + 1 := ⟨n - 1, by omega⟩
    exact val_and (by omega) e (by omega) (by omega)
theorem nin_spec {L : Nat → Option (Nat × Nat)} {j : Nat} : ∀ {k : Nat}, j < cnt L k → nin L k j < k ∧ L (nin L k j) = none ∧ cnt L (nin L k j) = j
  | 0, h => absurd h (Nat.not_lt_zero _)
  | k + 1, h => by
    unfold nin
    by_cases e : L k = none ∧ cnt L k = j
    · rw [if_pos e]; exact ⟨Nat.lt_succ_self _, e.1, e.2⟩
    · rw [if_neg e]
      have : j < cnt L k := by
        unfold cnt at h
        by_cases e2 : L k = none
        · rw [if_pos e2] at h
          have : cnt L k ≠ j := fun k' => e ⟨e2, k'⟩
          omega
        · rw [if_neg e2] at h; omega
      have := nin_spec this
      exact ⟨by omega, this.2⟩
/-- An input's value, where the variables have the nodes' values. -/
theorem inW_eq {I : Nat → Bool} {s : Gr} {V : List Nat} {f : Nat → Bool} (h : Vals V (tbN I s) f) {j : Nat} (hj : j < cnt s.L s.n) : inW s V V.length f j = (decide (nin s.L s.n j + 1 ∈ V) && I j) := by
  obtain ⟨h1, h2, h3⟩ := nin_spec hj
  unfold inW
  by_cases e : nin s.L s.n j + 1 ∈ V
  · rw [decide_eq_true e, Bool.true_and, Bool.true_and, decide_eq_true (vr_le V _), Bool.true_and]
    have hi : V.idxOf (nin s.L s.n j + 1) < V.length := List.idxOf_lt_length_of_mem e
    unfold vr
    rw [if_pos e, Nat.add_sub_cancel, h.at' _ hi, List.getElem_idxOf]
    unfold tbN
    rw [val_input h1 h2, h3]
  · rw [decide_eq_false e]; rfl
/-- What holds in the first loop, behind some rounds. -/
structure BP (s : Gr) (V : List Nat) (ls D C : List (List Int)) (some : Bool) : Prop where
  inv : MkI s (V, C)
  app : C = D ++ ls
  nil : some = true → ls = []
  len : C.length ≤ 3 * V.length
theorem BP.start (s : Gr) : BP s [0] [[-1]] [] [[-1]] false := ⟨MkI.start s, rfl, (fun h => by cases h), by simp⟩
theorem BP.step {s : Gr} {V : List Nat} {ls D C : List (List Int)} {b : Bool} (h : BP s V ls D C b) (ok : s.Ok) {n : Nat} (hn : n ≤ s.n) :
    (need s (V, C) n).1 = (need s (V, ls) n).1 ∧ BP s (need s (V, ls) n).1 [] (D ++ (need s (V, ls) n).2) (need s (V, C) n).2 true := by
  have h1 := need_pre s V D ls n
  rw [← h.app] at h1
  have hm := h.inv.need ok (st := (V, C)) hn
  have hl : (need s (V, C) n).2.length ≤ 3 * (need s (V, C) n).1.length :=
    (need_step ok (fun t => t.2.length ≤ 3 * t.1.length) (fun t n h hn e _ => by
      have h1 := put_len s t n
      have h2 : (put s t n).1.length = t.1.length + 1 := by simp [put]
      omega) n (V, C) hn h.len).1
  rw [h1] at hm hl
  refine ⟨by rw [h1], ?_⟩
  rw [h1]
  exact ⟨hm, by simp, fun _ => rfl, hl⟩
/-- All its literals are literals. -/
theorem MkI.lits {s : Gr} {V : List Nat} {C : List (List Int)} (h : MkI s (V, C)) (hV : V.length ≤ 100000) : ∀ c ∈ C, c.length ≤ 3 ∧ ∀ x ∈ c, x ≠ 0 ∧ -100000 ≤ x ∧ x ≤ 100000 := fun c hc => by
  rcases h.only c hc with rfl | ⟨n, a, b, h1, _, h3, h4, hcc⟩
  · refine ⟨by simp, fun x hx => ?_⟩
    simp at hx; subst hx; omega
  · have v1 := vr_pos.2 h1
    have v2 := vr_le V n
    have la := lit_abs (V := V) a
    have lb := lit_abs (V := V) b
    have na := lit_ne h3
    have nb := lit_ne h4
    simp only at v1 v2 na nb hcc
    rcases hcc with rfl | rfl | rfl
    · refine ⟨by simp, fun x hx => ?_⟩
      simp at hx; rcases hx with rfl | rfl <;> omega
    · refine ⟨by simp, fun x hx => ?_⟩
      simp at hx; rcases hx with rfl | rfl <;> omega
    · refine ⟨by simp, fun x hx => ?_⟩
      simp at hx; rcases hx with rfl | rfl | rfl <;> omega
end Go.Proofs.Ytpniffcojmlboaa
