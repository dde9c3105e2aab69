/- The code's graph in memory; its map, whose keys are pairs. -/
import Derived.Test.YtpniffcojmlboaaB
import Derived.DeepKeys4
namespace Go.Proofs.Ytpniffcojmlboaa
open Go.RowKit Go.Lib Go.Maps

theorem laid : laidOutB Try.prog = true := by kernel_rfl
theorem wide54 : (match Try.prog.underlying 75 with | some (.array _ _) | some (.struct _) => true | _ => false) = true := by rw [Try.underlying75]
theorem row54 : (75 : TypeId) < Try.prog.types.size := of_decide_eq_true (by kernel_rfl)
theorem key54 : Keyed Try.prog 75 := Keyed.of_law (deep_law_laid laid (m := 2) (by omega) row54 (by kernel_rfl) wide54)
theorem cells54 : Try.prog.cellsOf 75 = 2 := by kernel_rfl
theorem cells3 : Try.prog.cellsOf 3 = 1 := by kernel_rfl
theorem keyType54 : Try.prog.keyType 75 = true := by kernel_rfl
theorem types1 : ∃ m, Try.prog.types.size = m + 1 := (by obtain ⟨k, hk⟩ := Nat.exists_eq_add_of_lt row54; exact ⟨75 + k, hk⟩)
/-- A pair. -/
abbrev pr (a b : Int) : Value := .agg #[.int .i64 a, .int .i64 b]
def kl (a b : Int) : Lit := .string (keyBytes [.int .i64 a, .int .i64 b])
theorem key_pr {a b : Int} (wa : (Lit.int .i64 a).wf = true) (wb : (Lit.int .i64 b).wf = true) : keyOf Try.prog 75 (pr a b) = some (kl a b) := by
  obtain ⟨m, hm⟩ := types1
  unfold keyOf
  simp only [Try.underlying75]
  rw [if_pos (by simp [keyType54, Value.formed, Try.underlying75, cells54]), hm]
  unfold Program.keyLits
  simp only [Try.underlying75, Value.cells]
  rw [if_pos (by rw [cells54]; exact ⟨rfl, by simp⟩)]
  simp [cells3, Program.keyLits, Try.underlying3, wa, wb, kl]
theorem wf_nat {a : Nat} (h : a ≤ 1000000) : (Lit.int .i64 (a : Int)).wf = true := by
  simp [Lit.wf, IntKind.min, IntKind.max, IntKind.signed, IntKind.bits]
  omega
theorem kl_inj {a b c d : Nat} (ha : a ≤ 1000000) (hb : b ≤ 1000000) (hc : c ≤ 1000000) (hd : d ≤ 1000000) (h : kl a b = kl c d) : a = c ∧ b = d := by
  have h1 := key_pr (wf_nat ha) (wf_nat hb)
  have h2 := key_pr (wf_nat hc) (wf_nat hd)
  rw [← h] at h2
  have := key54.inj h1 h2
  simp at this
  omega
/-- The map: each and at its edge. -/
def PMap (w : World) (M : Nat) (s : Gr) : Prop :=
  ∃ n D, w.ownsMap (H := Unit) Try.prog 75 (plainElem Try.prog 3) M n D ∧ n ≤ s.n ∧
    ∀ a b : Nat, a ≤ 1000000 → b ≤ 1000000 → Maps.has D (kl a b) = (fnd s.L a b s.n).isSome ∧ ∀ i, fnd s.L a b s.n = some i → D.atKey (kl a b) (.lit (.int .i64 0)) = .lit (.int .i64 ((2 * (i + 1) : Nat) : Int))
theorem PMap.of_block {w w' : World} {M : Nat} {s : Gr} (h : PMap w M s) (hb : w'.heap[M]? = w.heap[M]?) : PMap w' M s := by
  obtain ⟨n, D, ⟨es, clock, h1, h2⟩, h3⟩ := h
  exact ⟨n, D, ⟨es, clock, hb.trans h1, h2⟩, h3⟩
theorem PMap.lt {w : World} {M : Nat} {s : Gr} (h : PMap w M s) : M < w.heap.size := by
  obtain ⟨n, D, h1, _⟩ := h
  exact h1.lt
theorem fnd_congr {L L' : Nat → Option (Nat × Nat)} {a b : Nat} : ∀ {k : Nat}, (∀ i, i < k → L' i = L i) → fnd L' a b k = fnd L a b k
  | 0, _ => rfl
  | k + 1, h => by unfold fnd; rw [fnd_congr fun i hi => h i (by omega), h k (by omega)]
theorem fnd_add {s : Gr} {x : Option (Nat × Nat)} {a b : Nat} : fnd (s.add x).L a b (s.n + 1) = match fnd s.L a b s.n with | some i => some i | none => if x = some (a, b) then some s.n else none := by
  have h : fnd (s.add x).L a b s.n = fnd s.L a b s.n := fnd_congr fun j hj => if_neg (by omega)
  have h2 : (s.add x).L s.n = x := if_pos rfl
  rw [show fnd (s.add x).L a b (s.n + 1) = (match fnd (s.add x).L a b s.n with | some i => some i | none => if (s.add x).L s.n = some (a, b) then some s.n else none) from rfl, h, h2]
theorem PMap.input {w : World} {M : Nat} {s : Gr} (h : PMap w M s) : PMap w M (s.add none) := by
  obtain ⟨n, D, h1, h2, h3⟩ := h
  refine ⟨n, D, h1, Nat.le_succ_of_le h2, fun a b ha hb => ?_⟩
  have e : fnd (s.add none).L a b (s.add none).n = fnd s.L a b s.n := by
    rw [show (s.add none).n = s.n + 1 from rfl, fnd_add]
    cases fnd s.L a b s.n <;> simp
  rw [e]
  exact h3 a b ha hb

/-- The code's nodes: node 0, and those behind it. -/
def prV (L : Nat → Option (Nat × Nat)) (j : Nat) : Value :=
  if j < 2 then .int .i64 0 else match L (j / 2 - 1) with
  | none => .int .i64 0
  | some (a, b) => if j % 2 = 0 then .int .i64 a else .int .i64 b
/-- The i-th input's node. -/
def nin (L : Nat → Option (Nat × Nat)) : Nat → Nat → Nat
  | 0, _ => 0
  | k + 1, i => if L k = none ∧ cnt L k = i then k else nin L k i
def inV (s : Gr) (j : Nat) : Value := .int .i64 ((2 * (nin s.L s.n j + 1) : Nat) : Int)
def hdV (v : Value) (M : Nat) (iv : Value) (j : Nat) : Value := if j = 0 then v else if j = 1 then .map (some M) else iv
/-- The code's graph, in memory. -/
structure Gm (w : World) (G M : Nat) (v iv : Value) (s : Gr) : Prop where
  hd : w.rowIs G 73 3 (hdV v M iv)
  sl : Sl w 75 2 v (s.n + 1) (prV s.L)
  mp : PMap w M s
  inp : Sl w 3 1 iv (cnt s.L s.n) (inV s)
  ok : s.Ok
  n1 : v.ownBlock ≠ some G
  n2 : iv.ownBlock ≠ some G
  n3 : M ≠ G
  n4 : v.ownBlock ≠ some M
  n5 : iv.ownBlock ≠ some M
  n6 : ∀ b, v.ownBlock = some b → iv.ownBlock ≠ some b
/-- Its blocks. -/
def Bg (G M : Nat) (v iv : Value) (b : Nat) : Prop := b = G ∨ b = M ∨ v.ownBlock = some b ∨ iv.ownBlock = some b
/-- From one to the next. -/
structure GmT (G M : Nat) (w : World) (v iv : Value) (w' : World) (v' iv' : Value) (s : Gr) : Prop where
  gm : Gm w' G M v' iv' s
  fr : Fr (Bg G M v iv) w w'
  own : ∀ b, Bg G M v' iv' b → Bg G M v iv b ∨ w.heap.size ≤ b
section
variable {w w' : World} {G M : Nat} {v iv : Value} {s : Gr}
theorem Gm.lt (h : Gm w G M v iv s) {b : Nat} (hb : Bg G M v iv b) : b < w.heap.size := by
  rcases hb with rfl | rfl | hb | hb
  · exact h.hd.lt
  · exact h.mp.lt
  · exact h.sl.lt hb
  · exact h.inp.lt hb
theorem Gm.of_block (h : Gm w G M v iv s) (hb : ∀ b, Bg G M v iv b → w'.heap[b]? = w.heap[b]?) : Gm w' G M v iv s :=
  ⟨h.hd.of_block (hb G (.inl rfl)), h.sl.of_block fun b e => hb b (.inr (.inr (.inl e))), h.mp.of_block (hb M (.inr (.inl rfl))), h.inp.of_block fun b e => hb b (.inr (.inr (.inr e))), h.ok, h.n1, h.n2, h.n3, h.n4, h.n5, h.n6⟩
theorem Gm.below (h : Gm w G M v iv s) (hb : Below w.heap.size w w') : Gm w' G M v iv s := h.of_block fun b e => hb.block b (h.lt e)
theorem Gm.refl (h : Gm w G M v iv s) : GmT G M w v iv w v iv s := ⟨h, Fr.refl _ _, fun _ e => .inl e⟩
theorem GmT.trans {w1 w2 : World} {v1 iv1 v2 iv2 : Value} {s1 s2 : Gr} (h : GmT G M w v iv w1 v1 iv1 s1) (k : GmT G M w1 v1 iv1 w2 v2 iv2 s2) : GmT G M w v iv w2 v2 iv2 s2 :=
  ⟨k.gm, h.fr.then k.fr fun b e => h.own b e, fun b e => (k.own b e).elim (h.own b) fun e => .inr (Nat.le_trans h.fr.size e)⟩
theorem GmT.below {w1 w2 : World} {v1 iv1 : Value} {s1 : Gr} (h : GmT G M w v iv w1 v1 iv1 s1) (k : Below w1.heap.size w1 w2) : GmT G M w v iv w2 v1 iv1 s1 :=
  h.trans ⟨h.gm.below k, .of_below k, fun _ e => .inl e⟩
end
end Go.Proofs.Ytpniffcojmlboaa
