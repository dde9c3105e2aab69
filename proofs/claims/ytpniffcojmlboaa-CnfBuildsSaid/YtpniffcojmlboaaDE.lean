/- The law CnfGrows: its memory and mathematics. -/
import Derived.Test.YtpniffcojmlboaaDD
namespace Go.Proofs.Ytpniffcojmlboaa
open Go.RowKit Go.Lib Go.Maps
set_option maxRecDepth 100000

theorem need_len3 {s : Gr} (hs : s.Ok) {st : St} {n : Nat} (hn : n ≤ s.n) (h : st.2.length ≤ 3 * st.1.length) : (need s st n).2.length ≤ 3 * (need s st n).1.length :=
  (need_step hs (fun t => t.2.length ≤ 3 * t.1.length) (fun t n h hn e _ => by
    have h1 := put_len s t n
    have h2 : (put s t n).1.length = t.1.length + 1 := by simp [put]
    omega) n st hn h).1
def laws (w : World) (e : Ending) (w' : World) : Prop := e = .returned (.bool true) ∧ Below w.heap.size w w'
variable {w0 w : World} {G M K Mv : Nat} {v iv fv : Value} {hs : Nat → Value} {s : Gr} {V : List Nat} {ls : List (List Int)} {ev lv : Value} {n m : Nat} {F Lf : Nat → Int}
/-- One edge more. -/
theorem Lo.app {W0 w3 : World} {v' : Value} {x : Int} (h : Lo w0 w G M v iv s K Mv fv hs V ls ev n F lv m Lf) (g1 : w3.ownsRow 0 3 1 v' (n + 1) (lst (inI F) (n * 1) ++ [.int .i64 x])) (g2 : W0.grownBy w3 ev.ownBlock) (g3 : v'.ownBlock = ev.ownBlock ∨ v'.ownBlock = some W0.heap.size)
    (e0 : W0.heap = (w.alloc (.cells #[.int .i64 x] 3)).heap) (e1 : W0.os = w.os) (e2 : W0.tape = w.tape) (e3 : W0.output = w.output) :
    (∃ a c, v' = .slice a (n + 1) c) ∧ Lo w0 w3 G M v iv s K Mv fv hs V ls v' (n + 1) (fun j => if j < n then F j else x) lv m Lf := by
  have g2' := grown_same (w0 := w.alloc (.cells #[.int .i64 x] 3)) g2 e0 e1 e2 e3
  rw [e0] at g3
  have hfr : Fr (fun b => ev.ownBlock = some b) w w3 := ((Fr.refl _ w).alloc _).grown g2' fun k e _ => e
  refine ⟨owns_shape g1, h.ees hfr (fun b e => ?_) (Sl.of_app g1 (fun j hj => by show Value.int .i64 (if j < n then F j else x) = _; rw [if_pos (by omega)]; rfl) (fun j hj => ?_))⟩
  · rcases g3 with g3 | g3
    · exact .inl (g3 ▸ e)
    · rw [g3] at e; injection e with e; simp at e; exact .inr (by omega)
  · obtain rfl : j = 0 := by omega
    show _ = some (Value.int .i64 (if n * 1 + 0 < n then F (n * 1 + 0) else x))
    rw [if_neg (by omega)]; rfl
theorem Lo.fcongr {F' : Nat → Int} (h : Lo w0 w G M v iv s K Mv fv hs V ls ev n F lv m Lf) (k : ∀ j, j < n → F j = F' j) : Lo w0 w G M v iv s K Mv fv hs V ls ev n F' lv m Lf := by
  obtain ⟨κ, a, b, c, d, e⟩ := h.all
  exact ⟨κ, a, b, c, d.congr fun j hj => by unfold inI; rw [k j hj], e⟩
/-- Its list of edges. -/
theorem Lo.has {a : Option Addr} {c : Nat} {Fn : Nat → Nat} (h : Lo w0 w G M v iv s K Mv fv hs V ls (.slice a n c) n (fun j => (Fn j : Int)) lv m Lf) : HasE w (fun _ => False) a n Fn := by
  rcases h.es.hasI with e | ⟨b, off, e1, e2, e3⟩
  · exact .inl e
  · exact .inr ⟨b, off, e1, e2, fun e => e, e3⟩
/-- What holds of the graph and the variables. -/
structure GP (s : Gr) (V : List Nat) (ls : List (List Int)) (q : Nat) (F : Nat → Nat) (last : Nat) (A : Int) (vars N : Nat) : Prop where
  ok : s.Ok
  n : s.n ≤ N
  lt : ∀ j, j < q → F j < 2 * (s.n + 1)
  vs : Vs s V
  len : ls.length ≤ 3 * V.length
  lastLt : last < 2 * (s.n + 1)
  lastIn : last / 2 ∈ V
  lastLit : lit V last = A
  vars : vars ≤ V.length
theorem GP.step {s s2 : Gr} {V : List Nat} {ls : List (List Int)} {q last vars N x : Nat} {F : Nat → Nat} {A : Int} (h : GP s V ls q F last A vars N) (ok : s2.Ok) (hx : Ext s s2) (hn : s2.n ≤ s.n + 1) (hl : x < 2 * (s2.n + 1)) :
    GP s2 (need s2 (V, ls) (x / 2)).1 (need s2 (V, ls) (x / 2)).2 (q + 1) (fun j => if j < q then F j else x) last A vars (N + 1) ∧ lit (need s2 (V, ls) (x / 2)).1 x ≠ 0 := by
  obtain ⟨g, hm⟩ := need_gw ok (n := x / 2) (V, ls) (by omega)
  have hxn := hx.n
  refine ⟨⟨ok, by have := h.n; omega, fun j hj => ?_, (h.vs.ext hx).need ok (by omega), need_len3 ok (by omega) h.len, by have := h.lastLt; omega, g.mem h.lastIn, (g.lit h.lastIn).trans h.lastLit, Nat.le_trans h.vars g.len⟩, lit_ne hm⟩
  show (if j < q then F j else x) < _
  split
  · next e => have := h.lt j e; omega
  · exact hl
/-- It begins. -/
theorem GP.start {s : Gr} (ok : s.Ok) {q N : Nat} {F : Nat → Nat} (hn : s.n ≤ N) (hF : ∀ j, j < q → F j < 2 * (s.n + 1)) (hq : 0 < q) :
    GP s (need s ([0], [[-1]]) (F (q - 1) / 2)).1 (need s ([0], [[-1]]) (F (q - 1) / 2)).2 q F (F (q - 1)) (lit (need s ([0], [[-1]]) (F (q - 1) / 2)).1 (F (q - 1))) (need s ([0], [[-1]]) (F (q - 1) / 2)).1.length N := by
  have hl := hF (q - 1) (by omega)
  obtain ⟨g, hm⟩ := need_gw ok (n := F (q - 1) / 2) ([0], [[-1]]) (by omega)
  exact ⟨ok, hn, hF, (vs_A s).need ok (st := ([0], [[-1]])) (by omega), need_len3 ok (by omega) (by simp), hl, hm, rfl, Nat.le_refl _⟩
end Go.Proofs.Ytpniffcojmlboaa
