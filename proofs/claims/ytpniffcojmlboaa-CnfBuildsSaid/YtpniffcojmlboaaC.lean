/- The answers' graph: a node more. -/
import Derived.Test.YtpniffcojmlboaaB
namespace Go.Proofs.Ytpniffcojmlboaa
open Go.RowKit Go.Lib Go.Maps

theorem info_parts {P : Program} {t : TypeId} {x : Option Value × Nat × Nat} (h : (P.info? t).map (fun i => (i.zero, i.size, i.bytes)) = some x) : ∃ i, P.info? t = some i ∧ i.zero = x.1 ∧ i.size = x.2.1 ∧ i.bytes = x.2.2 := by
  cases hi : P.info? t with
  | none => rw [hi] at h; cases h
  | some i =>
    rw [hi] at h
    simp only [Option.map_some, Option.some.injEq] at h
    subst h
    exact ⟨i, rfl, rfl, rfl, rfl⟩
theorem info42 : (Try.prog.info? 62).map (fun i => (i.zero, i.size, i.bytes)) = some (some (.agg #[.bool false, .int .i64 0, .int .i64 0]), 3, 24) := by kernel_rfl

/-- The cells of one node. -/
def ndC : Option (Nat × Nat) → List Value
  | none => [.bool true, .int .i64 0, .int .i64 0]
  | some (a, b) => [.bool false, .int .i64 a, .int .i64 b]
theorem ndC_len (x : Option (Nat × Nat)) : (ndC x).length = 3 := by rcases x with _ | ⟨a, b⟩ <;> rfl
theorem ndC_one (x : Option (Nat × Nat)) : ∀ u ∈ ndC x, u.oneCell' = true := by
  rcases x with _ | ⟨a, b⟩ <;> intro u hu <;> simp [ndC] at hu
  · rcases hu with rfl | rfl <;> rfl
  · rcases hu with rfl | rfl | rfl <;> rfl
/-- Behind the append, ahead of the store. -/
structure RgM (G : Nat) (w : World) (v : Value) (w' : World) (v' : Value) (s : Gr) : Prop where
  hd : w'.rowIs G 60 1 (fun _ => v)
  sl : Sl w' 62 3 v' s.n (ndV s.L)
  ne : v'.ownBlock ≠ some G
  fr : Fr (fun b => b = G ∨ v.ownBlock = some b) w w'
  own : ∀ b, v'.ownBlock = some b → v.ownBlock = some b ∨ w.heap.size ≤ b
/-- From one to the next. -/
structure RgT (G : Nat) (w : World) (v : Value) (w' : World) (v' : Value) (s : Gr) : Prop where
  rg : Rg w' G v' s
  fr : Fr (fun b => b = G ∨ v.ownBlock = some b) w w'
  own : ∀ b, v'.ownBlock = some b → v.ownBlock = some b ∨ w.heap.size ≤ b
theorem Rg.refl {w : World} {G : Nat} {v : Value} {s : Gr} (h : Rg w G v s) : RgT G w v w v s := ⟨h, Fr.refl _ _, fun _ e => .inl e⟩
theorem RgM.store {G : Nat} {w w' : World} {v v' : Value} {s : Gr} (h : RgM G w v w' v' s) : RgT G w v (w'.setCell ⟨G, 0, none⟩ v') v' s := by
  refine ⟨⟨?_, h.sl.of_block fun b e => Below.heap_setCell _ _ _ _ (fun e2 => h.ne (by rw [e]; exact congrArg some e2)), h.ne⟩, h.fr.set (.inl rfl) _, h.own⟩
  have := h.hd.set 0 v'
  refine World.rowIs.congr this fun i hi => ?_
  have : i = 0 := by omega
  simp [this]
theorem Rg.app {G : Nat} {w : World} {v : Value} {s : Gr} (h : Hid (Rg w G v s)) (x : Option (Nat × Nat)) (hn : s.n ≤ 100000) {xs : Array Value} (hxs : xs.toList = ndC x)
    {ops : Array Oper} {rest : List Oper} {o : Oper} {a : Act} {Q : Exit → Act → World → Prop} (hgd : o.guard = none) (p y : Operand)
    (ho : o.op = .call { callee := .builtin .append, args := #[p, y], argTypes := #[58, 58] }) (hs : a.eval p = v) (hy : a.eval y = .slice (some ⟨w.heap.size, 0, none⟩) 1 1)
    (k : ∀ a' c' w', Hid (RgM G w v w' (.slice a' (s.n + 1) c') (s.add x)) → wpList Try.prog ops Q rest (a.put o.dst (.slice a' (s.n + 1) c')) w') :
    wpList Try.prog ops Q (o :: rest) a (w.alloc (.cells xs 62)) := by
  obtain ⟨i, hi, hz, hsz, hby⟩ := info_parts info42
  have hsl : Sl (w.alloc (.cells xs 62)) 62 3 v s.n (ndV s.L) := h.out.sl.of_block fun b e => Below.heap_alloc _ _ _ (h.out.sl.lt e)
  have hhd : (w.alloc (.cells xs 62)).rowIs G 60 1 (fun _ => v) := h.out.hd.of_block (Below.heap_alloc _ _ _ h.out.hd.lt)
  have hlen : xs.size = 3 := by rw [← Array.length_toList, hxs, ndC_len]
  refine wpList_append_own_at _ hgd p y 58 ho 0 62 i _ 3 24 Try.underlying58 hi hz hsz hby rfl (by decide) v s.n _ hs hsl.owns ⟨w.heap.size, 0, none⟩ 1 1 (ndC x) hy (ndC_len x) (fun j u hj => ?_) (ndC_one x) (by unfold maxLen; omega) (by omega) (Nat.zero_le _) ?_
  · rw [← hxs, Array.getElem?_toList] at hj
    have hj3 : j < xs.size := by
      rcases Nat.lt_or_ge j xs.size with h | h
      · exact h
      · rw [Array.getElem?_eq_none h] at hj; cases hj
    have := (World.rowIs_alloc w xs 62 (fun j => (xs[j]?).getD (.bool false)) (fun i hi => by simp [hi])).cell hj3
    rw [show (⟨w.heap.size, 0, none⟩ : Addr).add j = ⟨w.heap.size, j, none⟩ by simp [Addr.add]; omega, this, hj]
    rfl
  · intro v' w' g1 g2 _ g3
    have hF : Sl w' 62 3 v' (s.n + 1) (ndV (s.add x).L) := Sl.of_app g1 (fun j hj => by
      have : j / 3 ≠ s.n := by omega
      simp [ndV, Gr.add, this]) (fun j hj => by
      have h1 : (s.n * 3 + j) / 3 = s.n := by omega
      have h2 : (s.n * 3 + j) % 3 = j := by omega
      unfold ndV
      rw [h1, h2, show (s.add x).L s.n = x from if_pos rfl]
      rcases x with _ | ⟨a, b⟩
      · match j, hj with
        | 0, _ => rfl
        | 1, _ => rfl
        | 2, _ => rfl
      · match j, hj with
        | 0, _ => rfl
        | 1, _ => rfl
        | 2, _ => rfl)
    obtain ⟨a', c', rfl, _⟩ := hF.shape
    have hne : v.ownBlock ≠ some G := h.out.ne
    have hGlt : G < w.heap.size := h.out.hd.lt
    have hfr : Fr (fun b => v.ownBlock = some b) w w' := ((Fr.refl _ w).alloc _).grown g2 fun k e _ => e
    refine k a' c' w' (Lib.hid ⟨hfr.rowIs h.out.hd hne, hF, fun e => ?_, hfr.weak fun _ _ e => .inr e, fun b e => ?_⟩)
    · rcases g3 with e2 | e2
      · exact hne (e2 ▸ e)
      · rw [e2] at e; injection e with e; simp at e; omega
    · rcases g3 with e2 | e2
      · exact .inl (e2 ▸ e)
      · rw [e2] at e; injection e with e; simp at e; exact .inr (by omega)

end Go.Proofs.Ytpniffcojmlboaa
