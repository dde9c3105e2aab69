/- What is added and taken away again; lines that are laid. -/
import Derived.Test.YtoffhgiljnagcaaUI
import Derived.Test.YtoffhgiljnagcaaZh
namespace Go.Proofs.Ytoffhgiljnagcaa
open Go.RowKit Go.Lib Go.Maps
set_option maxRecDepth 100000

theorem cntR_mono (R : Nat → Row) {i : Nat} : ∀ {n : Nat}, i < n → cntR R n (nfv (lof (R i).f (R i).n)) ≠ 0
  | 0, h => absurd h (Nat.not_lt_zero _)
  | n + 1, h => by
    show inc (cntR R n) (nfv (lof (R n).f (R n).n)) (nfv (lof (R i).f (R i).n)) ≠ 0
    by_cases e : nfv (lof (R i).f (R i).n) = nfv (lof (R n).f (R n).n)
    · rw [e, inc_at]; omega
    · rw [inc_ne e]
      have hin : i ≠ n := fun e2 => e (by rw [e2])
      exact cntR_mono R (by omega)
/-- A clause that is present follows. -/
theorem pcl_conf {cnt : List Int → Nat} {f : Nat → Int} {n : Nat} (hl : litF f n = true) (h : cnt (nfv (lof f n)) ≠ 0) : Conf (PCl cnt) (Den f n) := by
  refine .none (lof f n) ⟨_, h, fun x => (nfv_mem (litF_mem hl) x).symm⟩ fun l hlm => ?_
  obtain ⟨j, hj, rfl⟩ := lof_mem.1 hlm
  exact ⟨j, hj, rfl⟩
/-- How often a form is among the first j. -/
def tot (k : Nat → List Int) : Nat → List Int → Nat
  | 0 => fun _ => 0
  | j + 1 => inc (tot k j) (k j)
theorem tot_le (k : Nat → List Int) (F : List Int) {i j : Nat} (h : i ≤ j) : tot k i F ≤ tot k j F := by
  induction j with
  | zero => obtain rfl : i = 0 := by omega
            exact Nat.le_refl _
  | succ j ih =>
    by_cases e : i = j + 1
    · rw [e]; exact Nat.le_refl _
    · have := ih (by omega)
      show _ ≤ inc (tot k j) (k j) F
      unfold inc
      split
      · next e => subst e; omega
      · exact this
/-- Lines that add clauses and take them away again. -/
def pickX (R : Nat → Row) (v : Nat → Nat) (p : Nat) (j : Nat) : Lin :=
  if j < p then ⟨false, (R (v j)).a, (R (v j)).n, (R (v j)).c, (R (v j)).f⟩ else ⟨true, (R (v (j - p))).a, (R (v (j - p))).n, (R (v (j - p))).c, (R (v (j - p))).f⟩
theorem pick_lo {R : Nat → Row} {v : Nat → Nat} {p j : Nat} (h : j < p) : pickX R v p j = ⟨false, (R (v j)).a, (R (v j)).n, (R (v j)).c, (R (v j)).f⟩ := if_pos h
theorem pick_hi {R : Nat → Row} {v : Nat → Nat} {p j : Nat} (h : ¬ j < p) : pickX R v p j = ⟨true, (R (v (j - p))).a, (R (v (j - p))).n, (R (v (j - p))).c, (R (v (j - p))).f⟩ := if_neg h
def pkF (R : Nat → Row) (v : Nat → Nat) (j : Nat) : List Int := nfv (lof (R (v j)).f (R (v j)).n)
theorem run_lo (R : Nat → Row) (v : Nat → Nat) (p n : Nat) : ∀ j, j ≤ p → ∀ F, runL (cntR R n) (pickX R v p) j F = cntR R n F + tot (pkF R v) j F
  | 0, _, F => rfl
  | j + 1, h, F => by
    show nxt (runL (cntR R n) (pickX R v p) j) (pickX R v p j).d (pickX R v p j).f (pickX R v p j).n F = _ + inc (tot (pkF R v) j) (pkF R v j) F
    rw [pick_lo (by omega)]
    show inc (runL (cntR R n) (pickX R v p) j) (pkF R v j) F = _
    have ih := run_lo R v p n j (by omega)
    unfold inc
    split
    · next e => rw [ih, e]; omega
    · exact ih F
theorem run_hi (R : Nat → Row) (v : Nat → Nat) (p n : Nat) : ∀ j, j ≤ p → ∀ F, runL (cntR R n) (pickX R v p) (p + j) F = cntR R n F + (tot (pkF R v) p F - tot (pkF R v) j F)
  | 0, _, F => run_lo R v p n p (Nat.le_refl _) F
  | j + 1, h, F => by
    show nxt (runL (cntR R n) (pickX R v p) (p + j)) (pickX R v p (p + j)).d (pickX R v p (p + j)).f (pickX R v p (p + j)).n F = _ + (_ - inc (tot (pkF R v) j) (pkF R v j) F)
    rw [pick_hi (by omega), Nat.add_sub_cancel_left]
    show dec (runL (cntR R n) (pickX R v p) (p + j)) (pkF R v j) F = _
    have ih := run_hi R v p n j (by omega)
    have h1 := tot_le (pkF R v) (pkF R v j) h
    have h2 : tot (pkF R v) (j + 1) (pkF R v j) = tot (pkF R v) j (pkF R v j) + 1 := inc_at _ _
    unfold dec inc
    split
    · next e => rw [ih, e]; omega
    · exact ih F
theorem pick_ok {R : Nat → Row} {v : Nat → Nat} {p n : Nat} (hl : litR R n = true) (hv : ∀ j, j < p → v j < n) : okTo (cntR R n) (pickX R v p) (2 * p) := by
  intro i hi
  by_cases h : i < p
  · have hlv := litR_iff.1 hl _ (hv i h)
    rw [pick_lo h]
    refine ⟨hlv, .inr ⟨rfl, pcl_conf hlv ?_⟩⟩
    show runL (cntR R n) (pickX R v p) i (nfv (lof (R (v i)).f (R (v i)).n)) ≠ 0
    rw [run_lo R v p n i (by omega)]
    have := cntR_mono R (hv i h)
    omega
  · have hi2 : i - p < p := by omega
    have hlv := litR_iff.1 hl _ (hv _ hi2)
    rw [pick_hi h]
    refine ⟨hlv, .inl ⟨rfl, ?_⟩⟩
    show runL (cntR R n) (pickX R v p) i (nfv (lof (R (v (i - p))).f (R (v (i - p))).n)) ≠ 0
    have e : i = p + (i - p) := by omega
    rw [e, run_hi R v p n (i - p) (by omega)]
    have := cntR_mono R (hv _ hi2)
    rw [Nat.add_sub_cancel_left]
    omega
theorem pick_zero {R : Nat → Row} {v : Nat → Nat} {p n i : Nat} (hl : litR R n = true) (hv : ∀ j, j < p → v j < n) (hi : i < n) {r : Int} (h : ChkIs R n (pickX R v p) (2 * p) (R i).f (R i).n r) : r = 0 := by
  have hli := litR_iff.1 hl i hi
  rcases h with ⟨h, _⟩ | ⟨_, _, ⟨j, _, hj, _, hno⟩ | ⟨_, ⟨h, _⟩ | ⟨_, h⟩⟩⟩
  · exact absurd ⟨hl, hli⟩ h
  · exact absurd (pick_ok hl hv j hj) hno
  · exact h
  · refine absurd (pcl_conf hli ?_) h
    rw [show 2 * p = p + p by omega, run_hi R v p n p (Nat.le_refl _)]
    have := cntR_mono R hi
    omega

/-- Lines of the law's own. -/
def linF (X : Nat → Lin) (j : Nat) : Value := if j % 2 = 0 then .bool (X (j / 2)).d else .slice (X (j / 2)).a (X (j / 2)).n (X (j / 2)).c
structure LnF (W w : World) (v : Value) (n : Nat) (X : Nat → Lin) : Prop where
  own : Sl w 31 2 v n (linF X)
  bel : Below W.heap.size W w
  new : ∀ b, v.ownBlock = some b → W.heap.size ≤ b
theorem LnF.nil {W w : World} (hb : Below W.heap.size W w) (X : Nat → Lin) : LnF W w (.slice none 0 0) 0 X := ⟨Sl.nil, hb, fun b h => by cases h⟩
theorem LnF.congr {W w : World} {v : Value} {n : Nat} {X Y : Nat → Lin} (h : LnF W w v n X) (e : ∀ j, j < n → X j = Y j) : LnF W w v n Y :=
  ⟨h.own.congr fun j hj => by unfold linF; rw [e (j / 2) (by omega)], h.bel, h.new⟩
theorem LnF.then {W w w' : World} {v : Value} {n : Nat} {X : Nat → Lin} (h : LnF W w v n X) (hb : Below w.heap.size w w') : LnF W w' v n X :=
  ⟨h.own.of_block fun b e => hb.block b (h.own.lt e), h.bel.trans (hb.mono h.bel.size), h.new⟩
theorem info31 : (Try.prog.info? 31).map (fun i => (i.zero, i.size, i.bytes)) = some (some (.agg #[.bool false, .slice none 0 0]), 2, 32) := by kernel_rfl
theorem LnF.app {W w : World} {v : Value} {n : Nat} {X : Nat → Lin} (h : Hid (LnF W w v n X)) (hn : n ≤ 1000) (x : Lin)
    {ops : Array Oper} {rest : List Oper} {o : Oper} {a : Act} {Q : Exit → Act → World → Prop} (hgd : o.guard = none) (s y : Operand)
    (ho : o.op = .call { callee := .builtin .append, args := #[s, y], argTypes := #[29, 29] }) (hs : a.eval s = v) (hy : a.eval y = .slice (some ⟨w.heap.size, 0, none⟩) 1 1)
    (k : ∀ a' c' w', Hid (LnF W w' (.slice a' (n + 1) c') (n + 1) (fun j => if j < n then X j else x)) → wpList Try.prog ops Q rest (a.put o.dst (.slice a' (n + 1) c')) w') :
    wpList Try.prog ops Q (o :: rest) a (w.alloc (.cells #[.bool x.d, .slice x.a x.n x.c] 31)) := by
  obtain ⟨i, hi, hz, hs2, hb2⟩ := info_parts info31
  have H0 := h.out.then ((Below.refl w.heap.size w).alloc (Nat.le_refl _) (.cells #[.bool x.d, .slice x.a x.n x.c] 31))
  refine wpList_append_own_at _ hgd s y 29 ho 0 31 i _ 2 32 Try.underlying29 hi hz hs2 hb2 rfl (by decide) v n _ hs H0.own.owns ⟨w.heap.size, 0, none⟩ 1 1 [.bool x.d, .slice x.a x.n x.c] hy rfl (two_at w _ rfl rfl) (by intro u hu; simp at hu; rcases hu with rfl | rfl <;> rfl) (by unfold maxLen; omega) (by omega) (Nat.zero_le _) ?_
  intro v' w' g1 g2 _ g3
  have hF : LnF W w' v' (n + 1) (fun j => if j < n then X j else x) := by
    refine ⟨Sl.of_app g1 (fun j hj => ?_) (fun j hj => ?_), ?_, fun b hb => ?_⟩
    · unfold linF; simp only [if_pos (show j / 2 < n by omega)]
    · unfold linF
      simp only [if_neg (show ¬ (n * 2 + j) / 2 < n by omega)]
      match j, hj with
      | 0, _ => rw [if_pos (by omega)]; rfl
      | 1, _ => rw [if_neg (by omega)]; rfl
    · have hf : Fr (fun b => v.ownBlock = some b) (w.alloc (.cells #[.bool x.d, .slice x.a x.n x.c] 31)) w' := (Fr.refl _ _).grown g2 (fun k e _ => e)
      exact H0.bel.trans (hf.below H0.bel.size fun b e => h.out.new b e)
    · rcases g3 with e | e
      · rw [e] at hb; exact h.out.new b hb
      · rw [e] at hb; cases hb; exact H0.bel.size
  obtain ⟨a', c', rfl, _⟩ := hF.own.shape
  exact k a' c' w' (Lib.hid hF)
theorem LnF.lns {W w : World} {a : Option Addr} {n c : Nat} {X : Nat → Lin} (h : LnF W w (.slice a n c) n X) (hX : ∀ j, j < n → Has W (X j).a (X j).n (X j).f) : Lns w a n X := by
  by_cases h0 : n = 0
  · exact .inl h0
  · obtain ⟨g, c', e, _, _, hlt⟩ := h.own.pos (by omega)
    cases e
    refine .inr ⟨g, 0, rfl, hlt, fun j hj => ⟨?_, ?_, (hX j hj).below h.bel⟩⟩
    · rw [Nat.zero_add, h.own.cell (by omega)]
      unfold linF; rw [if_pos (by omega), show j * 2 / 2 = j by omega]
    · rw [Nat.zero_add, h.own.cell (by omega)]
      unfold linF; rw [if_neg (by omega), show (j * 2 + 1) / 2 = j by omega]
end Go.Proofs.Ytoffhgiljnagcaa
