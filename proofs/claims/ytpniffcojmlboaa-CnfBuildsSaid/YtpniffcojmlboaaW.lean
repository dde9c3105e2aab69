/- The law's memory: the graph, and a list of edges that grows. -/
import Derived.Test.YtpniffcojmlboaaCF
import Derived.Test.YtpniffcojmlboaaX
import Derived.Deep.RegionHeld3
namespace Go.Proofs.Ytpniffcojmlboaa
open Go.RowKit Go.Lib Go.Maps
set_option maxRecDepth 100000

structure Lw (w wr : World) (G M : Nat) (v iv : Value) (s : Gr) (es : Value) (n : Nat) (F : Nat → Nat) : Prop where
  gn : Gn w G M wr v iv s
  row : Frs 3 w wr es n (fun j => .int .i64 (F j : Nat))
  ap : ∀ b, es.ownBlock = some b → ¬ Bg G M v iv b
/-- All its blocks. -/
def Bl (G M : Nat) (v iv es : Value) (b : Nat) : Prop := Bg G M v iv b ∨ es.ownBlock = some b
/-- What else lies there stays. -/
structure Kp (B B' : Nat → Prop) (w w' : World) : Prop where
  fr : Fr B w w'
  own : ∀ b, B' b → B b ∨ w.heap.size ≤ b
theorem Kp.refl (B : Nat → Prop) (w : World) : Kp B B w w := ⟨Fr.refl _ _, fun _ e => .inl e⟩
theorem Kp.trans {B B' B'' : Nat → Prop} {w w' w'' : World} (h : Kp B B' w w') (k : Kp B' B'' w' w'') : Kp B B'' w w'' :=
  ⟨h.fr.then k.fr fun b e => h.own b e, fun b e => (k.own b e).elim (h.own b) fun e => .inr (Nat.le_trans h.fr.size e)⟩
theorem HasE.keep {w w' : World} {B B' : Nat → Prop} {a : Option Addr} {n : Nat} {g : Nat → Nat} (h : HasE w B a n g) (k : Kp B B' w w') : HasE w' B' a n g := by
  rcases h with h | ⟨b, off, ha, hb, hB, hc⟩
  · exact .inl h
  · refine .inr ⟨b, off, ha, Nat.lt_of_lt_of_le hb k.fr.size, fun e => (k.own b e).elim hB fun e => by omega, fun j hj => ?_⟩
    rw [← hc j hj]
    exact World.cell?_of_block (k.fr.block b hb hB)
theorem HasE.weak {w : World} {B B' : Nat → Prop} {a : Option Addr} {n : Nat} {g : Nat → Nat} (h : HasE w B a n g) (k : ∀ b, b < w.heap.size → B' b → B b) : HasE w B' a n g := by
  rcases h with h | ⟨b, off, ha, hb, hB, hc⟩
  · exact .inl h
  · exact .inr ⟨b, off, ha, hb, fun e => hB (k b hb e), hc⟩
theorem HasE.congr {w : World} {B : Nat → Prop} {a : Option Addr} {n : Nat} {g g' : Nat → Nat} (h : HasE w B a n g) (k : ∀ j, j < n → g j = g' j) : HasE w B a n g' := by
  rcases h with h | ⟨b, off, ha, hb, hB, hc⟩
  · exact .inl h
  · exact .inr ⟨b, off, ha, hb, hB, fun j hj => by rw [hc j hj, k j hj]⟩
section
variable {w wr w' : World} {G M : Nat} {v iv es : Value} {s : Gr} {n : Nat} {F : Nat → Nat}
theorem Lw.then (h : Lw w wr G M v iv s es n F) (hb : Below wr.heap.size wr w') : Lw w w' G M v iv s es n F := ⟨h.gn.below hb, h.row.then hb, h.ap⟩
theorem Lw.drew (h : Lw w wr G M v iv s es n F) : Lw w wr.drew G M v iv s es n F := h.then (Below.refl _ wr).drew
theorem Lw.lt (h : Lw w wr G M v iv s es n F) {b : Nat} (hb : Bl G M v iv es b) : b < wr.heap.size := hb.elim h.gn.gm.lt fun e => h.row.own.lt e
theorem Lw.new (h : Lw w wr G M v iv s es n F) {b : Nat} (hb : Bl G M v iv es b) : w.heap.size ≤ b := hb.elim (h.gn.new b) fun e => h.row.new b e
theorem Lw.congr (h : Lw w wr G M v iv s es n F) {F' : Nat → Nat} (k : ∀ j, j < n → F j = F' j) : Lw w wr G M v iv s es n F' := ⟨h.gn, h.row.congr fun j hj => by rw [k j hj], h.ap⟩
/-- Its list. -/
theorem Lw.has {a : Option Addr} {c : Nat} (h : Lw w wr G M v iv s (.slice a n c) n F) : HasE wr (Bg G M v iv) a n F := by
  by_cases h0 : n = 0
  · exact .inl h0
  · obtain ⟨b, rfl, _, hc⟩ := h.row.own.cells1 (by omega)
    exact .inr ⟨b, 0, rfl, h.row.own.lt rfl, h.ap b rfl, fun j hj => by rw [Nat.zero_add]; exact hc j hj⟩
/-- Nodes are laid. -/
theorem Lw.lay {v2 iv2 : Value} {s2 : Gr} (h : Lw w wr G M v iv s es n F) (T : GmT G M wr v iv w' v2 iv2 s2) : Lw w w' G M v2 iv2 s2 es n F ∧ Kp (Bl G M v iv es) (Bl G M v2 iv2 es) wr w' := by
  have hap : ∀ b, es.ownBlock = some b → ¬ Bg G M v2 iv2 b := fun b e k => (T.own b k).elim (h.ap b e) fun e2 => by have := h.row.own.lt e; omega
  refine ⟨⟨h.gn.next T, ⟨h.row.own.of_block fun b e => T.fr.block b (h.row.own.lt e) (h.ap b e), h.row.bel.trans (T.fr.below h.row.bel.size fun b e => h.gn.new b e), h.row.new⟩, hap⟩, T.fr.weak fun _ _ e => .inl e, fun b e => ?_⟩
  rcases e with e | e
  · exact (T.own b e).imp .inl id
  · exact .inl (.inr e)
/-- One edge more. -/
theorem Lw.app {W0 w3 : World} {v' : Value} {x : Nat} (h : Lw w wr G M v iv s es n F) (g1 : w3.ownsRow 0 3 1 v' (n + 1) (lst (fun j => .int .i64 (F j : Nat)) (n * 1) ++ [.int .i64 x])) (g2 : W0.grownBy w3 es.ownBlock) (g3 : v'.ownBlock = es.ownBlock ∨ v'.ownBlock = some W0.heap.size)
    (e0 : W0.heap = (wr.alloc (.cells #[.int .i64 x] 3)).heap) (e1 : W0.os = wr.os) (e2 : W0.tape = wr.tape) (e3 : W0.output = wr.output) :
    (∃ a c, v' = .slice a (n + 1) c) ∧ Lw w w3 G M v iv s v' (n + 1) (fun j => if j < n then F j else x) ∧ Kp (Bl G M v iv es) (Bl G M v iv v') wr w3 := by
  have g2' := grown_same (w0 := wr.alloc (.cells #[.int .i64 x] 3)) g2 e0 e1 e2 e3
  rw [e0] at g3
  have hfr : Fr (fun b => es.ownBlock = some b) wr w3 := ((Fr.refl _ wr).alloc _).grown g2' fun k e _ => e
  have hbl : ∀ b, Bg G M v iv b → w3.heap[b]? = wr.heap[b]? := fun b e => hfr.block b (h.gn.gm.lt e) fun k => h.ap b k e
  have hnew : ∀ b, v'.ownBlock = some b → es.ownBlock = some b ∨ wr.heap.size ≤ b := fun b e => by
    rcases g3 with g3 | g3
    · exact .inl (g3 ▸ e)
    · rw [g3] at e; injection e with e; simp at e; exact .inr (by omega)
  have hsz := h.row.bel.size
  have hb : Below w.heap.size w w3 := h.row.bel.trans (hfr.below hsz fun b e => h.row.new b e)
  have hF : Frs 3 w w3 v' (n + 1) (fun j => .int .i64 ((if j < n then F j else x : Nat) : Int)) := by
    refine ⟨Sl.of_app g1 (fun j hj => by rw [if_pos (by omega)]) (fun j hj => ?_), hb, fun b e => (hnew b e).elim (h.row.new b) fun e => by omega⟩
    obtain rfl : j = 0 := by omega
    rw [if_neg (by omega)]; rfl
  refine ⟨owns_shape g1, ⟨⟨h.gn.gm.of_block hbl, hb, h.gn.new⟩, hF, fun b e k => (hnew b e).elim (fun e => h.ap b e k) fun e => by have := h.gn.gm.lt k; omega⟩, hfr.weak fun _ _ e => .inr e, fun b e => ?_⟩
  rcases e with e | e
  · exact .inl (.inl e)
  · exact (hnew b e).imp .inr id
/-- append of one edge, where the region doesn't draw. -/
theorem Lw.wapp (h : Hid (Lw w wr G M v iv s es n F)) (hn : n ≤ 100000) (x : Nat)
    {ops : Array Oper} {rest : List Oper} {o : Oper} {a : Act} {Q : Exit → Act → World → Prop} (hgd : o.guard = none) (p y : Operand)
    (ho : o.op = .call { callee := .builtin .append, args := #[p, y], argTypes := #[26, 26] }) (hs : a.eval p = es) (hy : a.eval y = .slice (some ⟨wr.heap.size, 0, none⟩) 1 1)
    (k : ∀ a' c' w3, Hid (Lw w w3 G M v iv s (.slice a' (n + 1) c') (n + 1) (fun j => if j < n then F j else x)) → Hid (Kp (Bl G M v iv es) (Bl G M v iv (.slice a' (n + 1) c')) wr w3) → wpList Try.prog ops Q rest (a.put o.dst (.slice a' (n + 1) c')) w3) :
    wpList Try.prog ops Q (o :: rest) a (wr.alloc (.cells #[.int .i64 x] 3)) := by
  obtain ⟨i, hi, hz, hsz, hby⟩ := info_parts info3
  have hsl : Sl (wr.alloc (.cells #[.int .i64 x] 3)) 3 1 es n (fun j => .int .i64 (F j : Nat)) := h.out.row.own.of_block fun b e => Below.heap_alloc _ _ _ (h.out.row.own.lt e)
  refine wpList_append_own_at _ hgd p y 26 ho 0 3 i _ 1 8 Try.underlying26 hi hz hsz hby rfl (by decide) es n _ hs hsl.owns ⟨wr.heap.size, 0, none⟩ 1 1 [.int .i64 x] hy rfl (fun j u hj => one_new wr _ 3 j u hj) (fun u hu => ?_) (by unfold maxLen; omega) (by omega) (Nat.zero_le _) ?_
  · simp at hu; subst hu; rfl
  · intro v' w' g1 g2 _ g3
    obtain ⟨⟨a', c', rfl⟩, h1, h2⟩ := h.out.app (W0 := wr.alloc (.cells #[.int .i64 x] 3)) g1 g2 g3 rfl rfl rfl rfl
    exact k a' c' w' (Lib.hid h1) (Lib.hid h2)
/-- A list that was made with some edges. -/
theorem Lw.made (h : Gn w G M wr v iv s) (xs : Array Value) (F : Nat → Nat) (hF : ∀ j, j < xs.size → xs[j]? = some (.int .i64 (F j : Nat))) (hm : xs.size ≤ 100000) : Lw w (wr.alloc (.cells xs 3)) G M v iv s (.slice (some ⟨wr.heap.size, 0, none⟩) xs.size xs.size) xs.size F :=
  ⟨h.below ((Below.refl _ wr).alloc (Nat.le_refl _) _), Frs.made h.bel xs _ hF (by unfold maxLen; omega), fun b e k => by cases e; exact absurd (h.gm.lt k) (Nat.lt_irrefl _)⟩
theorem Lw.nil (h : Gn w G M wr v iv s) (F : Nat → Nat) : Lw w wr G M v iv s (.slice none 0 0) 0 F :=
  ⟨h, Frs.nil h.bel _, fun b e => by cases e⟩
end
end Go.Proofs.Ytpniffcojmlboaa
