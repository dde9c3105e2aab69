/- The answers' maker: a node more, three rows more. -/
import Derived.Test.YtpniffcojmlboaaEB
namespace Go.Proofs.Ytpniffcojmlboaa
open Go.RowKit Go.Lib Go.Maps
set_option maxRecDepth 100000

variable {w w' w3 W0 : World} {R T : Nat} {lv cv lv' cv' : Value} {hs hs' : Nat → Value} {V V' : List Nat} {C C' : List (List Int)}
theorem getD_snoc (V : List Nat) (n j : Nat) (hj : j < V.length + 1) : (V ++ [n]).getD j 0 = if j < V.length then V.getD j 0 else n := by
  by_cases e : j < V.length
  · rw [if_pos e]; simp [List.getD_eq_getElem?_getD, List.getElem?_append_left e]
  · rw [if_neg e, show j = V.length by omega]; simp
/-- A node more. -/
theorem Rm.putL {a3 : Option Addr} {c3 n : Nat} (h : Rm w R T lv cv hs V C) (H1 : Sl w3 3 1 (.slice a3 (V.length + 1) c3) (V.length + 1) (catV (nodV V) V.length (fun _ => .int .i64 (n : Nat)))) (H2 : Fr (fun b => lv.ownBlock = some b) (w.alloc (.cells #[.int .i64 (n : Nat)] 3)) w3)
    (H3 : (Value.slice a3 (V.length + 1) c3).ownBlock = lv.ownBlock ∨ (Value.slice a3 (V.length + 1) c3).ownBlock = some (w.alloc (.cells #[.int .i64 (n : Nat)] 3)).heap.size) :
    w3.rowIs R 39 3 (hdR T lv cv) ∧ RmT R T w lv cv hs C.length (w3.setCell ⟨R, 1, none⟩ (.slice a3 (V.length + 1) c3)) (.slice a3 (V.length + 1) c3) cv hs (V ++ [n]) C := by
  have hfr : Fr (fun b => lv.ownBlock = some b) w w3 := (Fr.of_below ((Below.refl _ w).alloc (Nat.le_refl _) _)).trans (H2.weak fun _ _ e => e)
  have hnew : ∀ b, (Value.slice a3 (V.length + 1) c3).ownBlock = some b → lv.ownBlock = some b ∨ w.heap.size ≤ b := fun b e => by
    rcases H3 with g | g
    · exact .inl (g ▸ e)
    · rw [g] at e; injection e with e; simp at e; exact .inr (by omega)
  have hR := h.hd.lt
  have hRn : (Value.slice a3 (V.length + 1) c3).ownBlock ≠ some R := fun e => (hnew R e).elim h.n1 fun e => by omega
  have hd' : w3.rowIs R 39 3 (hdR T lv cv) := hfr.rowIs h.hd h.n1
  have hset : ∀ b, b ≠ R → (w3.setCell ⟨R, 1, none⟩ (.slice a3 (V.length + 1) c3)).heap[b]? = w3.heap[b]? := fun b e => Below.heap_setCell _ _ _ _ (fun k => e k)
  have hszs : (w3.setCell ⟨R, 1, none⟩ (.slice a3 (V.length + 1) c3)).heap.size = w3.heap.size := World.size_setCell _ _ _
  refine ⟨hd', ⟨⟨World.rowIs.congr (hd'.set 1 _) fun i hi => ?_, ?_, ?_, fun j hj => ?_, fun j hj b e => ?_, hRn, h.n2, fun b e k => ?_⟩, Fr.set (hfr.weak fun b _ e => .inl (.inr (.inl e))) (.inl (.inl rfl)) _, ?_⟩⟩
  · match i, hi with
    | 0, _ => rfl
    | 1, _ => rfl
    | 2, _ => rfl
  · rw [show (V ++ [n]).length = V.length + 1 by simp]
    refine (H1.of_block fun b e => hset b fun k => hRn (k ▸ e)).congr fun j hj => ?_
    unfold catV nodV
    rw [getD_snoc V n j (by omega)]
    split <;> rfl
  · exact h.csl.of_block fun b e => (hset b fun k => h.n2 (k ▸ e)).trans (hfr.block b (h.csl.lt e) fun k => h.n3 b k e)
  · refine (h.row j hj).of_block (by rw [hszs]; exact hfr.size) fun b e => ?_
    have ho := h.out j hj b e
    rw [hset b fun k => ho (.inl k)]
    exact hfr.block b ((h.row j hj).lt e) fun k => ho (.inr (.inl k))
  · have ho := h.out j hj b e
    have hl := (h.row j hj).lt e
    rintro (k | k | k)
    · exact ho (.inl k)
    · exact (hnew b k).elim (fun k => ho (.inr (.inl k))) fun k => by omega
    · exact ho (.inr (.inr k))
  · exact (hnew b e).elim (fun e => h.n3 b e k) fun e => by have := h.csl.lt k; omega
  · rintro b ((e | e | e) | e)
    · exact .inl (.inl (.inl e))
    · exact (hnew b e).imp (fun e => .inl (.inr (.inl e))) id
    · exact .inl (.inl (.inr (.inr e)))
    · exact .inl (.inr e)
/-- A row that has come since w. -/
def New (w W : World) (y : Value) (r : List Int) : Prop := Row W y r ∧ ∀ b, y.ownBlock = some b → w.heap.size ≤ b
def y3 (y1 y2 y3 : Value) (j : Nat) : Value := if j = 0 then y1 else if j = 1 then y2 else y3
/-- Three rows more. -/
theorem Rm.putC {v6 y1 y2 yy : Value} {r1 r2 r3 : List Int} (h : Rm w R T lv cv hs V C) (hb : Below w.heap.size w W0) (n1 : New w W0 y1 r1) (n2 : New w W0 y2 r2) (n3 : New w W0 yy r3)
    (g1 : w3.ownsRow 0 26 1 v6 (C.length + 3) (lst hs (C.length * 1) ++ [y1, y2, yy])) (g2 : W0.grownBy w3 cv.ownBlock) (g3 : v6.ownBlock = cv.ownBlock ∨ v6.ownBlock = some W0.heap.size) :
    (∃ a c, v6 = .slice a (C.length + 3) c) ∧ w3.rowIs R 39 3 (hdR T lv cv) ∧ RmT R T w lv cv hs C.length (w3.setCell ⟨R, 2, none⟩ v6) lv v6 (catV hs C.length (y3 y1 y2 yy)) V (C ++ [r1, r2, r3]) := by
  have hfr0 : Fr (fun b => cv.ownBlock = some b) W0 w3 := (Fr.refl _ W0).grown g2 fun k e _ => e
  have hfr : Fr (fun b => cv.ownBlock = some b) w w3 := (Fr.of_below hb).trans hfr0
  have hsz := hb.size
  have hnew : ∀ b, v6.ownBlock = some b → cv.ownBlock = some b ∨ W0.heap.size ≤ b := fun b e => by
    rcases g3 with g | g
    · exact .inl (g ▸ e)
    · rw [g] at e; injection e with e; exact .inr (by omega)
  have hR := h.hd.lt
  have hRn : v6.ownBlock ≠ some R := fun e => (hnew R e).elim h.n2 fun e => by omega
  have hd' : w3.rowIs R 39 3 (hdR T lv cv) := hfr.rowIs h.hd h.n2
  have hset : ∀ b, b ≠ R → (w3.setCell ⟨R, 2, none⟩ v6).heap[b]? = w3.heap[b]? := fun b e => Below.heap_setCell _ _ _ _ (fun k => e k)
  have hszs : (w3.setCell ⟨R, 2, none⟩ v6).heap.size = w3.heap.size := World.size_setCell _ _ _
  have hgo : ∀ y r, New w W0 y r → Row (w3.setCell ⟨R, 2, none⟩ v6) y r := fun y r hn => hn.1.of_block (by rw [hszs]; exact hfr0.size) fun b e => by
    have h1 := hn.2 b e
    rw [hset b (by omega)]
    exact hfr0.block b (hn.1.lt e) fun k => by have := h.csl.lt k; omega
  have hyo : ∀ d, d < 3 → ∀ b, (y3 y1 y2 yy d).ownBlock = some b → w.heap.size ≤ b ∧ b < W0.heap.size := fun d hd b e => by
    match d, hd with
    | 0, _ => exact ⟨n1.2 b e, n1.1.lt e⟩
    | 1, _ => exact ⟨n2.2 b e, n2.1.lt e⟩
    | 2, _ => exact ⟨n3.2 b e, n3.1.lt e⟩
  refine ⟨owns_shape g1, hd', ⟨⟨World.rowIs.congr (hd'.set 2 _) fun i hi => ?_, ?_, ?_, fun j hj => ?_, fun j hj b e => ?_, h.n1, hRn, fun b e k => ?_⟩, Fr.set (hfr.weak fun b _ e => .inl (.inr (.inr e))) (.inl (.inl rfl)) _, ?_⟩⟩
  · match i, hi with
    | 0, _ => rfl
    | 1, _ => rfl
    | 2, _ => rfl
  · exact h.lsl.of_block fun b e => (hset b fun k => h.n1 (k ▸ e)).trans (hfr.block b (h.lsl.lt e) fun k => h.n3 b e k)
  · rw [show (C ++ [r1, r2, r3]).length = C.length + 3 by simp]
    refine Sl.of_block (w := w3) (Sl.of_app g1 (fun j hj => by unfold catV; rw [if_pos (by omega)]) (fun j hj => ?_)) fun b e => hset b fun k => hRn (k ▸ e)
    unfold catV
    rw [if_neg (by omega), show C.length * 1 + j - C.length = j by omega]
    match j, hj with
    | 0, _ | 1, _ | 2, _ => rfl
  · by_cases hj2 : j < C.length
    · rw [List.getElem_append_left hj2]
      unfold catV; rw [if_pos hj2]
      refine (h.row j hj2).of_block (by rw [hszs]; exact hfr.size) fun b e => ?_
      have ho := h.out j hj2 b e
      rw [hset b fun k => ho (.inl k)]
      exact hfr.block b ((h.row j hj2).lt e) fun k => ho (.inr (.inr k))
    · rw [List.getElem_append_right (by omega)]
      unfold catV; rw [if_neg hj2]
      have hj3 : j < C.length + 3 := by simpa using hj
      obtain ⟨d, rfl⟩ : ∃ d, j = C.length + d := ⟨j - C.length, by omega⟩
      simp only [Nat.add_sub_cancel_left]
      have hd3 : d < 3 := by omega
      match d, hd3 with
      | 0, _ => exact hgo _ _ n1
      | 1, _ => exact hgo _ _ n2
      | 2, _ => exact hgo _ _ n3
  · have hj3 : j < C.length + 3 := by simpa using hj
    unfold catV at e
    split at e
    · next hj2 =>
      have ho := h.out j hj2 b e
      have hl := (h.row j hj2).lt e
      rintro (k | k | k)
      · exact ho (.inl k)
      · exact ho (.inr (.inl k))
      · exact (hnew b k).elim (fun k => ho (.inr (.inr k))) fun k => by omega
    · have hb2 := hyo _ (by omega) b e
      rintro (k | k | k)
      · omega
      · have := h.lsl.lt k; omega
      · exact (hnew b k).elim (fun k => by have := h.csl.lt k; omega) fun k => by omega
  · exact (hnew b k).elim (fun k => h.n3 b e k) fun k => by have := h.lsl.lt e; omega
  · rintro b ((e | e | e) | ⟨j, hj, e⟩)
    · exact .inl (.inl (.inl e))
    · exact .inl (.inl (.inr (.inl e)))
    · exact (hnew b e).elim (fun e => .inl (.inl (.inr (.inr e)))) fun e => .inr (by omega)
    · have hj3 : j < C.length + 3 := by simpa using hj
      unfold catV at e
      split at e
      · next hj2 => exact .inl (.inr ⟨j, hj2, e⟩)
      · exact .inr (hyo _ (by omega) b e).1
theorem bela {a b : World} {o : Obj} (h : Below a.heap.size a b) : Below a.heap.size a (b.alloc o) := h.alloc h.size _
theorem slice_new {w : World} {n m c k : Nat} (hk : w.heap.size ≤ k) : ∀ b, (Value.slice (some ⟨k, 0, none⟩) m c).ownBlock = some b → w.heap.size ≤ b := fun b e => by
  injection e with e; simp at e; omega
theorem rowp0 {w : World} {x : Array Value} {l : List Int} {o1 o2 o3 : Obj} {q : Nat} (hx : x.toList = l.map (fun i => .int .i64 i)) (hq : q = l.length) : New w ((((w.alloc (.cells x 3)).alloc o1).alloc o2).alloc o3) (.slice (some ⟨w.heap.size, 0, none⟩) q q) l := by
  subst hq
  exact ⟨row_new w hx _ rfl ((((Below.refl _ _).alloc (by simp) _).alloc (by simp) _).alloc (by simp) _), slice_new (n := 0) (Nat.le_refl _)⟩
theorem rowp1 {w : World} {x : Array Value} {l : List Int} {o0 o2 o3 : Obj} {q : Nat} (hx : x.toList = l.map (fun i => .int .i64 i)) (hq : q = l.length) : New w ((((w.alloc o0).alloc (.cells x 3)).alloc o2).alloc o3) (.slice (some ⟨w.heap.size + 1, 0, none⟩) q q) l := by
  subst hq
  exact ⟨row_new (w.alloc o0) hx _ (by simp) (((Below.refl _ _).alloc (by simp) _).alloc (by simp) _), slice_new (n := 0) (by omega)⟩
theorem rowp2 {w : World} {x : Array Value} {l : List Int} {o0 o1 o3 : Obj} {q : Nat} (hx : x.toList = l.map (fun i => .int .i64 i)) (hq : q = l.length) : New w ((((w.alloc o0).alloc o1).alloc (.cells x 3)).alloc o3) (.slice (some ⟨w.heap.size + 1 + 1, 0, none⟩) q q) l := by
  subst hq
  exact ⟨row_new ((w.alloc o0).alloc o1) hx _ (by simp) ((Below.refl _ _).alloc (by simp) _), slice_new (n := 0) (by omega)⟩
theorem three_at {w' : World} {x y z : Value} {t : TypeId} (w0 : World) (n : Nat) (e : w'.heap = (w0.alloc (.cells #[x, y, z] t)).heap) (hn : n = w0.heap.size) : ∀ j u, [x, y, z][j]? = some u → w'.cell? ((⟨n, 0, none⟩ : Addr).add j) = some u := by
  intro j u hj
  subst hn
  rw [show w'.cell? ((⟨w0.heap.size, 0, none⟩ : Addr).add j) = (w0.alloc (.cells #[x, y, z] t)).cell? ((⟨w0.heap.size, 0, none⟩ : Addr).add j) by unfold World.cell?; rw [e]]
  have hj3 : j < 3 := by
    rcases Nat.lt_or_ge j 3 with h | h
    · exact h
    · rw [List.getElem?_eq_none (by simpa using h)] at hj; cases hj
  have := (World.rowIs_alloc w0 #[x, y, z] t (y3 x y z) (fun i hi => by
    have hi : i < 3 := hi
    match i, hi with
    | 0, _ | 1, _ | 2, _ => rfl)).cell (i := j) hj3
  rw [adr, Nat.zero_add, this, ← hj]
  match j, hj3 with
  | 0, _ | 1, _ | 2, _ => rfl
end Go.Proofs.Ytpniffcojmlboaa
