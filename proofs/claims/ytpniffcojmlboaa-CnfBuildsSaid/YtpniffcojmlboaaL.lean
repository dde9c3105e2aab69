/- The map's operations; min and max; And's last step. -/
import Derived.Test.YtpniffcojmlboaaK
namespace Go.Proofs.Ytpniffcojmlboaa
open Go.RowKit Go.Lib Go.Maps
set_option maxRecDepth 100000

theorem wpList_min2 {P : Program} {ops : Array Oper} {rest : List Oper} {o : Oper} {a : Act} {w : World} {Q : Exit → Act → World → Prop} (hg : o.guard = none) (p q : Operand) (t : TypeId) (ho : o.op = .call { callee := .builtin .min, args := #[p, q], argTypes := #[t, t] })
    {x y m : Int} (hx : a.eval p = .int .i64 x) (hy : a.eval q = .int .i64 y) (hm : (if y < x then y else x) = m) (k : wpList P ops Q rest (a.put o.dst (.int .i64 m)) w) : wpList P ops Q (o :: rest) a w := by
  refine wpList_plain hg fun K' hK' => ?_
  unfold Oper.wp
  have h : (Builtin.min_ #[t, t] o.type #[.int .i64 x, .int .i64 y]).run P w = .ok (.int .i64 m) w := by
    rw [← hm]; simp [Builtin.min_, Builtin.min2]
  simp [execOp, ho, resolve, invoke, builtin, hx, hy, h, Result.andThen]
  exact hK' _ _ k
theorem wpList_max2 {P : Program} {ops : Array Oper} {rest : List Oper} {o : Oper} {a : Act} {w : World} {Q : Exit → Act → World → Prop} (hg : o.guard = none) (p q : Operand) (t : TypeId) (ho : o.op = .call { callee := .builtin .max, args := #[p, q], argTypes := #[t, t] })
    {x y m : Int} (hx : a.eval p = .int .i64 x) (hy : a.eval q = .int .i64 y) (hm : (if y > x then y else x) = m) (k : wpList P ops Q rest (a.put o.dst (.int .i64 m)) w) : wpList P ops Q (o :: rest) a w := by
  refine wpList_plain hg fun K' hK' => ?_
  unfold Oper.wp
  have h : (Builtin.max_ #[t, t] o.type #[.int .i64 x, .int .i64 y]).run P w = .ok (.int .i64 m) w := by
    rw [← hm]; simp [Builtin.max_, Builtin.max2]
  simp [execOp, ho, resolve, invoke, builtin, hx, hy, h, Result.andThen]
  exact hK' _ _ k
theorem zero3 (w : World) : (zeroValue 3).run Try.prog w = .ok (.int .i64 0) w := by kernel_rfl
theorem PMap.look {w : World} {M : Nat} {s : Gr} (h : PMap w M s) {a b : Nat} (ha : a ≤ 1000000) (hb : b ≤ 1000000) :
    (∀ i, fnd s.L a b s.n = some i → ∀ W : World, W.heap = w.heap → (Instr.lookup 71 (.map (some M)) (pr a b) true).run Try.prog W = .ok (.tuple #[.int .i64 ((2 * (i + 1) : Nat) : Int), .bool true]) W) ∧
    (fnd s.L a b s.n = none → ∃ c : Int, ∀ W : World, W.heap = w.heap → (Instr.lookup 71 (.map (some M)) (pr a b) true).run Try.prog W = .ok (.tuple #[.int .i64 c, .bool false]) W) := by
  obtain ⟨n, D, h1, h2, h3⟩ := h
  obtain ⟨h4, h5⟩ := h3 a b ha hb
  have key : ∀ W : World, W.heap = w.heap → ∃ c, (Instr.lookup 71 (.map (some M)) (pr a b) true).run Try.prog W = .ok (.tuple #[.int .i64 c, .bool (Maps.has D (kl a b))]) W ∧ D.atKey (kl a b) (.lit (.int .i64 0)) = .lit (.int .i64 c) := fun W e => by
    have h1' : W.ownsMap (H := Unit) Try.prog 75 (plainElem Try.prog 3) M n D := by
      obtain ⟨es, clock, hb, r⟩ := h1
      exact ⟨es, clock, (by rw [e]; exact hb), r⟩
    obtain ⟨u, ps, hrun, hR⟩ := h1'.look_ok key54 Try.underlying71 (zero3 W) (plainElem_int Try.underlying3 (by decide)) (key_pr (wf_nat ha) (wf_nat hb))
    obtain ⟨c, rfl, hc, _⟩ := plainElem_int_inv Try.underlying3 hR
    exact ⟨c, hrun, congrArg Prod.fst hc⟩
  refine ⟨fun i hi W e => ?_, fun hi => ?_⟩
  · obtain ⟨c, hrun, hc⟩ := key W e
    have e2 := h5 i hi
    rw [hc] at e2
    obtain rfl : c = ((2 * (i + 1) : Nat) : Int) := by
      injection e2 with e2
      injection e2 with _ e2
    rw [hrun, h4, hi]; rfl
  · obtain ⟨c, _, hc⟩ := key w rfl
    refine ⟨c, fun W e => ?_⟩
    obtain ⟨c2, hrun, hc2⟩ := key W e
    rw [hc] at hc2
    obtain rfl : c = c2 := by
      injection hc2 with e2
      injection e2 with _ e2
    rw [hrun, h4, hi]; rfl
theorem PMap.store {w : World} {M : Nat} {s : Gr} (h : PMap w M s) (hn : s.n ≤ 100000) {a b : Nat} (ha : a ≤ 1000000) (hb : b ≤ 1000000) (hf : fnd s.L a b s.n = none) :
    ∃ w', (Instr.mapUpdate 71 (.map (some M)) (pr a b) (.int .i64 (2 * ((s.n : Int) + 1)))).run Try.prog w = .ok () w' ∧ PMap w' M (s.add (some (a, b))) ∧ w.grownBy w' (some M) := by
  obtain ⟨n, D, h1, h2, h3⟩ := h
  have hw : (Lit.int .i64 (2 * ((s.n : Int) + 1))).wf = true := wf_nat (a := 2 * (s.n + 1)) (by omega)
  obtain ⟨w', hrun, g1, g2⟩ := h1.update key54 Try.underlying71 (by unfold maxLen; omega) (key_pr (wf_nat ha) (wf_nat hb)) (plainElem_int Try.underlying3 hw)
  refine ⟨w', hrun, ⟨n + 1, _, g1, Nat.succ_le_succ h2, fun c d hc hd => ?_⟩, g2⟩
  obtain ⟨h4, h5⟩ := h3 c d hc hd
  rw [show (s.add (some (a, b))).n = s.n + 1 from rfl, fnd_add]
  by_cases e : kl c d = kl a b
  · obtain ⟨rfl, rfl⟩ := kl_inj hc hd ha hb e
    rw [has_put_same h1.isMap (by trivial), hf]
    show true = (if some (c, d) = some (c, d) then some s.n else none).isSome ∧ ∀ i, (if some (c, d) = some (c, d) then some s.n else none) = some i → _
    have e0 : (if some (c, d) = some (c, d) then some s.n else none) = some s.n := if_pos rfl
    rw [e0]
    refine ⟨rfl, fun i hi => ?_⟩
    obtain rfl : s.n = i := Option.some.inj hi
    rw [atKey_put_same h1.isMap (by trivial)]
    rfl
  · have e2 : ¬ (some (a, b) = some (c, d)) := fun k => by
      injection k with k
      injection k with k1 k2
      subst k1 k2
      exact e rfl
    rw [has_put_other e, h4]
    cases e3 : fnd s.L c d s.n with
    | none =>
      show _ = (if some (a, b) = some (c, d) then some s.n else none).isSome ∧ ∀ i, (if some (a, b) = some (c, d) then some s.n else none) = some i → _
      rw [if_neg e2]
      exact ⟨rfl, fun i h => by cases h⟩
    | some i =>
      refine ⟨rfl, fun j hj => ?_⟩
      rw [atKey_put_other e]
      exact h5 j (e3.trans hj)
theorem GhT.and {G M : Nat} {w w1 w2 : World} {v iv v1 iv1 : Value} {s : Gr} {a b : Nat} (h : GhT G M w v iv w1 v1 iv1 s (some (a, b))) (hm : PMap w2 M (s.add (some (a, b)))) (hg : w1.grownBy w2 (some M)) (hok : (s.add (some (a, b))).Ok) : GmT G M w v iv w2 v1 iv1 (s.add (some (a, b))) := by
  have hb : ∀ b, b < w1.heap.size → b ≠ M → w2.heap[b]? = w1.heap[b]? := fun b hb hv => hg.block b hb (fun e => hv (by injection e))
  refine ⟨⟨h.gh.hd.of_block (hb G h.gh.hd.lt fun e => h.gh.n3 e.symm), h.gh.sl.of_block fun b e => hb b (h.gh.sl.lt e) fun k => h.gh.n4 (k ▸ e), hm, ?_, hok, h.gh.n1, h.gh.n2, h.gh.n3, h.gh.n4, h.gh.n5, h.gh.n6⟩, h.fr.grown hg fun k e _ => .inr (.inl (by injection e with e; exact e.symm)), h.own⟩
  rw [cnt_add, if_neg (by simp)]
  refine Sl.congr (h.gh.inp.of_block fun b e => hb b (h.gh.inp.lt e) fun k => h.gh.n5 (k ▸ e)) fun j hj => ?_
  unfold inV
  rw [nin_add, if_neg (by simp)]
end Go.Proofs.Ytpniffcojmlboaa
