/- What follows holds in each model; clauses of one literal each, as they are laid. -/
import Derived.Test.YtoffhgiljnagcaaTC
import Derived.Test.YtoffhgiljnagcaaTD
namespace Go.Proofs.Ytoffhgiljnagcaa
open Go.RowKit Go.Lib
set_option maxRecDepth 100000

theorem conf_sound {C : List Int → Prop} {so : Int → Prop} (h : Conf C so) {I : Int → Prop} (hI : ∀ l, I l → ¬ I (-l)) (hC : ∀ c, C c → ∃ l ∈ c, I l) : (∀ l, so l → I l) → False := by
  induction h with
  | clash l h1 h2 => exact fun h => hI l (h _ h1) (h _ h2)
  | none c hc hn =>
    intro h
    obtain ⟨l, hl, hi⟩ := hC c hc
    exact hI l hi (h _ (hn l hl))
  | unit c l hc hl hn _ ih =>
    intro h
    obtain ⟨l', hl', hi⟩ := hC c hc
    by_cases e : l' = l
    · subst e
      exact ih fun x hx => by
        rcases hx with rfl | hx
        · exact hi
        · exact h x hx
    · exact hI l' hi (h _ (hn l' hl' e))
theorem hv_neg {g : Nat → Bool} {k : Nat} {x : Int} (h : hv g k x = true) : ¬ hv g k (-x) = true := by
  unfold hv isM at *
  simp only [Bool.and_eq_true, beq_iff_eq] at h ⊢
  intro h2
  have hl := lit_iff.1 h.1
  have hav : av (-x) = av x := by unfold av; split <;> split <;> omega
  rw [hav] at h2
  have := h.2.symm.trans h2.2
  rw [decide_eq_decide] at this
  omega
/-- The rows of a list with others behind. -/
def apR (R : Nat → Row) (n : Nat) (R' : Nat → Row) (j : Nat) : Row := if j < n then R j else R' (j - n)
def onR (B : Nat → Nat) (f : Nat → Int) (j : Nat) : Row := ⟨some ⟨B j, 0, none⟩, 1, 1, fun _ => ng f j⟩
theorem no_model {R : Nat → Row} {n m : Nat} {f : Nat → Int} {B : Nat → Nat} (hf : litF f m = true) (hc : Conf (RowC R n) (Den f m)) (g : Nat → Bool) : ¬ allR (apR R n (onR B f)) (n + m) g 8 = true := by
  intro h
  rw [allR_iff] at h
  refine conf_sound hc (I := fun l => hv g 8 l = true) (fun l => hv_neg) (fun c hcc => ?_) fun l ⟨j, hj, e⟩ => ?_
  · obtain ⟨j, hj, rfl⟩ := hcc
    have := h j (by omega)
    rw [show apR R n (onR B f) j = R j from if_pos hj] at this
    obtain ⟨i, hi, hv⟩ := holdsF_iff.1 this
    exact ⟨_, lof_mem.2 ⟨i, hi, rfl⟩, hv⟩
  · have := h (n + j) (by omega)
    rw [show apR R n (onR B f) (n + j) = onR B f j from by rw [apR, if_neg (by omega), Nat.add_sub_cancel_left]] at this
    obtain ⟨i, hi, hv⟩ := holdsF_iff.1 this
    have hv : Go.Proofs.Ytoffhgiljnagcaa.hv g 8 (ng f j) = true := hv
    rw [ng_lit hf hj, ← e] at hv
    exact hv
/-- Clauses of one literal each. -/
structure Offs (W w : World) (v : Value) (k : Nat) (f : Nat → Int) (B : Nat → Nat) : Prop where
  fr : Frs 23 W w v k (fun j => .slice (some ⟨B j, 0, none⟩) 1 1)
  at' : ∀ j, j < k → B j < w.heap.size ∧ v.ownBlock ≠ some (B j) ∧ w.cell? ⟨B j, 0, none⟩ = some (.int .i64 (ng f j))
theorem Offs.nil {W w : World} (hb : Below W.heap.size W w) (f : Nat → Int) : Offs W w (.slice none 0 0) 0 f (fun _ => 0) := ⟨Frs.nil hb _, fun j h => absurd h (Nat.not_lt_zero _)⟩
theorem Offs.step {W w : World} {a1 : Option Addr} {c1 k : Nat} {f : Nat → Int} {B : Nat → Nat} (H : Hid (Offs W w (.slice a1 k c1) k f B)) (hk : k ≤ 1000)
    {ops : Array Oper} {rest : List Oper} {o : Oper} {a : Act} {Q : Exit → Act → World → Prop} (hgd : o.guard = none) (s x : Operand)
    (ho : o.op = .call { callee := .builtin .append, args := #[s, x], argTypes := #[22, 22] }) (hs : a.eval s = .slice a1 k c1) (hx : a.eval x = .slice (some ⟨w.heap.size + 1, 0, none⟩) 1 1)
    (K : ∀ a' c' w' B', Hid (Offs W w' (.slice a' (k + 1) c') (k + 1) f B') → wpList Try.prog ops Q rest (a.put o.dst (.slice a' (k + 1) c')) w') :
    wpList Try.prog ops Q (o :: rest) a ((w.alloc (.cells #[.int .i64 (ng f k)] 3)).alloc (.cells #[.slice (some ⟨w.heap.size, 0, none⟩) 1 1] 23)) := by
  have hb : Below w.heap.size w (w.alloc (.cells #[.int .i64 (ng f k)] 3)) := (Below.refl _ _).alloc (Nat.le_refl _) _
  refine Frs.appF (W := W) (w := w) (v := .slice a1 k c1) (n := k) (m := 1) (c := 1) (G := fun _ => .slice (some ⟨w.heap.size, 0, none⟩) 1 1) elemRow (Lib.hid H.out.fr) (hb.alloc hb.size _) (.inr ⟨_, rfl, fun j hj => ⟨?_, rfl⟩⟩) (by unfold maxLen; omega) (by omega) hgd s x ho hs hx fun a' c' w' HF => ?_
  · obtain rfl : j = 0 := by omega
    exact one_at (w.alloc (.cells #[.int .i64 (ng f k)] 3)) _ rfl (by simp) 0 _ rfl
  · obtain ⟨h1, h2, h3⟩ := HF.out
    refine K a' c' w' (fun j => if j < k then B j else w.heap.size) (Lib.hid ⟨h1.congr fun j hj => ?_, fun j hj => ?_⟩)
    · simp only [catV]
      split <;> rfl
    · have hsz := h2.size
      have hs0 : ((w.alloc (.cells #[.int .i64 (ng f k)] 3)).alloc (.cells #[.slice (some ⟨w.heap.size, 0, none⟩) 1 1] 23)).heap.size = w.heap.size + 2 := by simp
      rw [hs0] at hsz
      have hlt : ∀ b, (Value.slice a1 k c1).ownBlock = some b → b < w.heap.size := fun b e => H.out.fr.own.lt e
      by_cases hjk : j < k
      · obtain ⟨x1, x2, x3⟩ := H.out.at' j hjk
        simp only [if_pos hjk]
        refine ⟨by omega, ?_, ?_⟩
        · rcases h3 with e | e
          · rw [e]; exact x2
          · rw [e, hs0]; intro e2; have := Option.some.inj e2; omega
        · have hcell : w'.heap[B j]? = w.heap[B j]? := (h2.block (B j) (by rw [hs0]; omega) x2).trans ((hb.alloc hb.size _).block _ x1)
          exact (World.cell?_of_block (a := ⟨B j, 0, none⟩) hcell).trans x3
      · obtain rfl : j = k := by omega
        simp only [if_neg (Nat.lt_irrefl _)]
        refine ⟨by omega, ?_, ?_⟩
        · rcases h3 with e | e
          · rw [e]; intro e2; have := hlt _ e2; omega
          · rw [e, hs0]; intro e2; have := Option.some.inj e2; omega
        · have e1 : (w.alloc (.cells #[.int .i64 (ng f j)] 3)).cell? ⟨w.heap.size, 0, none⟩ = some (.int .i64 (ng f j)) := one_at w _ rfl rfl 0 _ rfl
          have e2 := (((Below.refl (w.heap.size + 1) (w.alloc (.cells #[.int .i64 (ng f j)] 3))).alloc (by simp) (.cells #[.slice (some ⟨w.heap.size, 0, none⟩) 1 1] 23)).cell (p := ⟨w.heap.size, 0, none⟩) (Nat.lt_succ_self _)).trans e1
          have hcell := h2.block w.heap.size (by rw [hs0]; omega) (fun e => by have := hlt _ e; omega)
          exact (World.cell?_of_block (a := ⟨w.heap.size, 0, none⟩) hcell).trans e2
/-- With the given clauses in front. -/
theorem Offs.rows {W w w3 : World} {v : Value} {k n c : Nat} {a : Option Addr} {f : Nat → Int} {B : Nat → Nat} {R : Nat → Row} (H : Offs W w v k f B) (hR : ∀ j, j < n → Has W (R j).a (R j).n (R j).f) (h3 : Frs 23 w w3 (.slice a (n + k) c) (n + k) (catV (fun j => .slice (R j).a (R j).n (R j).c) n (fun j => .slice (some ⟨B j, 0, none⟩) 1 1))) :
    Rws w3 a (n + k) (apR R n (onR B f)) := by
  refine h3.rows fun j hj => ?_
  by_cases hjn : j < n
  · rw [show apR R n (onR B f) j = R j from if_pos hjn, catV, if_pos hjn]
    exact ⟨rfl, ((hR j hjn).below H.fr.bel).below h3.bel⟩
  · rw [show apR R n (onR B f) j = onR B f (j - n) from if_neg hjn, catV, if_neg hjn]
    obtain ⟨x1, x2, x3⟩ := H.at' (j - n) (by omega)
    refine ⟨rfl, Has.below (.inr ⟨B (j - n), 0, rfl, x1, fun i hi => ?_⟩) h3.bel⟩
    obtain rfl : i = 0 := by simp only [onR] at hi; omega
    exact x3
end Go.Proofs.Ytoffhgiljnagcaa
