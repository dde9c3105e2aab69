/- The maker: add. -/
import Derived.Test.YtpniffcojmlboaaCB
namespace Go.Proofs.Ytpniffcojmlboaa
open Go.RowKit Go.Lib Go.Maps
set_option maxRecDepth 100000

theorem elemRow : Elem 35 26 24 := elem_of Try.underlying35 (z := .slice none 0 0) (by kernel_rfl) rfl
theorem alloc_cell (w : World) {x : Array Value} (t : TypeId) {l : List Int} (hx : x.toList = l.map (fun i => .int .i64 i)) : ∀ i (h : i < l.length), (w.alloc (.cells x t)).cell? ⟨w.heap.size, i, none⟩ = some (.int .i64 l[i]) := fun i h => by
  have hs : x.size = l.length := by rw [← Array.length_toList, hx]; simp
  have := (World.rowIs_alloc w x t (fun i => (x[i]?).getD (.bool false)) (fun i hi => by simp [hi])).cell (i := i) (by omega)
  rw [this, ← Array.getElem?_toList, hx]
  simp [h]
theorem row_new (w : World) {w' : World} {x : Array Value} {l : List Int} (hx : x.toList = l.map (fun i => .int .i64 i)) (n : Nat) (hn : n = w.heap.size) (hb : Below (w.heap.size + 1) (w.alloc (.cells x 3)) w') : Row w' (.slice (some ⟨n, 0, none⟩) l.length l.length) l := by
  subst hn
  refine ⟨w.heap.size, rfl, by have := hb.size; simp at this; omega, fun i h => ?_⟩
  rw [hb.cell (p := ⟨w.heap.size, i, none⟩) (by show w.heap.size < w.heap.size + 1; omega)]
  exact alloc_cell w 3 hx i h
/-- The header of the j-th of three new rows. -/
def hd3 (b : Nat) (r1 r2 r3 : List Int) (j : Nat) : Value := if j = 0 then .slice (some ⟨b, 0, none⟩) r1.length r1.length else if j = 1 then .slice (some ⟨b + 1, 0, none⟩) r2.length r2.length else .slice (some ⟨b + 2, 0, none⟩) r3.length r3.length
theorem hd3_new (b : Nat) (r1 r2 r3 : List Int) {j k : Nat} (h : (hd3 b r1 r2 r3 j).ownBlock = some k) : b ≤ k ∧ k < b + 3 := by
  unfold hd3 at h
  split at h
  · injection h with h; simp at h; omega
  · split at h <;> (injection h with h; simp at h; omega)
variable {w w' : World} {K G Mv : Nat} {fv : Value} {hs : Nat → Value} {V : List Nat} {ls : List (List Int)}
/-- Three rows more: the append. -/
theorem Cm.app3 (h : Hid (Cm w K G Mv fv hs V ls)) (hl : ls.length ≤ 1000000) (r1 r2 r3 : List Int) {x1 x2 x3 : Array Value} (e1 : x1.toList = r1.map (fun i => .int .i64 i)) (e2 : x2.toList = r2.map (fun i => .int .i64 i)) (e3 : x3.toList = r3.map (fun i => .int .i64 i))
    {y1 y2 y3 : Value} (f1 : y1 = .slice (some ⟨w.heap.size, 0, none⟩) r1.length r1.length) (f2 : y2 = .slice (some ⟨w.heap.size + 1, 0, none⟩) r2.length r2.length) (f3 : y3 = .slice (some ⟨w.heap.size + 2, 0, none⟩) r3.length r3.length)
    {ops : Array Oper} {rest : List Oper} {o : Oper} {a : Act} {Q : Exit → Act → World → Prop} (hgd : o.guard = none) (p y : Operand)
    (ho : o.op = .call { callee := .builtin .append, args := #[p, y], argTypes := #[35, 35] }) (hp : a.eval p = fv) (hy : a.eval y = .slice (some ⟨w.heap.size + 3, 0, none⟩) 3 3)
    (k : ∀ a' c' w' hs', Hid (w'.rowIs K 65 3 (hdC G Mv fv)) → Hid (CmT K G Mv w fv hs ls.length (w'.setCell ⟨K, 2, none⟩ (.slice a' (ls.length + 3) c')) (.slice a' (ls.length + 3) c') hs' V (ls ++ [r1, r2, r3])) → wpList Try.prog ops Q rest (a.put o.dst (.slice a' (ls.length + 3) c')) w') :
    wpList Try.prog ops Q (o :: rest) a ((((w.alloc (.cells x1 3)).alloc (.cells x2 3)).alloc (.cells x3 3)).alloc (.cells #[y1, y2, y3] 26)) := by
  obtain ⟨w0, hw0⟩ : ∃ w0, w0 = (((w.alloc (.cells x1 3)).alloc (.cells x2 3)).alloc (.cells x3 3)).alloc (.cells #[y1, y2, y3] 26) := ⟨_, rfl⟩
  have hb1 : Below w.heap.size w w0 := hw0 ▸ ((((Below.refl _ w).alloc (Nat.le_refl _) _).alloc (by simp) _).alloc (by simp; omega) _).alloc (by simp; omega) _
  have hsz : w0.heap.size = w.heap.size + 4 := by rw [hw0]; simp
  have hr1 : Row w0 (hd3 w.heap.size r1 r2 r3 0) r1 := hw0 ▸ row_new w e1 _ rfl ((((Below.refl _ _).alloc (by simp) _).alloc (by simp) _).alloc (by simp) _)
  have hr2 : Row w0 (hd3 w.heap.size r1 r2 r3 1) r2 := hw0 ▸ row_new (w.alloc (.cells x1 3)) e2 _ (by simp) (((Below.refl _ _).alloc (by simp) _).alloc (by simp) _)
  have hr3 : Row w0 (hd3 w.heap.size r1 r2 r3 2) r3 := hw0 ▸ row_new ((w.alloc (.cells x1 3)).alloc (.cells x2 3)) e3 _ (by simp) ((Below.refl _ _).alloc (by simp) _)
  have hsrc : Src w0 (some ⟨w.heap.size + 3, 0, none⟩) 3 3 (hd3 w.heap.size r1 r2 r3) := by
    refine .inr ⟨_, rfl, fun j hj => ?_⟩
    have hc := (World.rowIs_alloc ((((w.alloc (.cells x1 3)).alloc (.cells x2 3)).alloc (.cells x3 3))) #[y1, y2, y3] 26 (hd3 w.heap.size r1 r2 r3) (fun i hi => by
      have hi : i < 3 := hi
      match i, hi with
      | 0, _ => rw [show hd3 w.heap.size r1 r2 r3 0 = y1 from f1.symm]; rfl
      | 1, _ => rw [show hd3 w.heap.size r1 r2 r3 1 = y2 from f2.symm]; rfl
      | 2, _ => rw [show hd3 w.heap.size r1 r2 r3 2 = y3 from f3.symm]; rfl)).cell (i := j) hj
    rw [← hw0] at hc
    refine ⟨?_, ?_⟩
    · rw [adr, Nat.zero_add]
      simpa using hc
    · unfold hd3; split
      · rfl
      · split <;> rfl
  rw [← hw0]
  have HS := Lib.hid h.out.sl
  refine Sl.app elemRow HS hb1 hsrc (by unfold maxLen; omega) (by omega) hgd p y ho hp hy ?_
  intro a' c' w' h1 h2 h3
  have hlt : ∀ b, Oc K Mv fv ls.length hs b → b < w.heap.size := fun b e => h.out.lt e
  have hsz' := h2.out.size
  have hblk : ∀ b, b < w.heap.size → fv.ownBlock ≠ some b → w'.heap[b]? = w.heap[b]? := fun b hb hn => (h2.out.block b (by omega) hn).trans (hb1.block b hb)
  have hnew : ∀ b, (Value.slice a' (ls.length + 3) c').ownBlock = some b → fv.ownBlock = some b ∨ b = w.heap.size + 4 := fun b e => by
    rcases h3.out with g | g
    · exact .inl (g ▸ e)
    · rw [g] at e; injection e with e; (try simp at e); exact .inr (by omega)
  have hK : K < w.heap.size := hlt K (.inl (.inl rfl))
  have hM : Mv < w.heap.size := hlt Mv (.inl (.inr (.inl rfl)))
  have hfvK : (Value.slice a' (ls.length + 3) c').ownBlock ≠ some K := fun e => (hnew K e).elim h.out.n1 fun e => by omega
  have hd' : w'.rowIs K 65 3 (hdC G Mv fv) := h.out.hd.of_block (hblk K hK h.out.n1)
  have hset : ∀ b, b ≠ K → (w'.setCell ⟨K, 2, none⟩ (.slice a' (ls.length + 3) c')).heap[b]? = w'.heap[b]? := fun b e => Below.heap_setCell _ _ _ _ (fun k => e k)
  have hszs : (w'.setCell ⟨K, 2, none⟩ (.slice a' (ls.length + 3) c')).heap.size = w'.heap.size := World.size_setCell _ _ _
  have hrow : ∀ j (hj : j < (ls ++ [r1, r2, r3]).length), Row (w'.setCell ⟨K, 2, none⟩ (.slice a' (ls.length + 3) c')) (catV hs ls.length (hd3 w.heap.size r1 r2 r3) j) (ls ++ [r1, r2, r3])[j] := fun j hj => by
    by_cases hj2 : j < ls.length
    · have hr := h.out.row j hj2
      rw [List.getElem_append_left hj2]
      unfold catV; rw [if_pos hj2]
      refine hr.of_block (by rw [hszs]; have := hb1.size; omega) fun b e => ?_
      have ho := h.out.out j hj2 b e
      rw [hset b fun e => ho (.inl e)]
      exact hblk b (hr.lt e) fun e => ho (.inr (.inr e))
    · have hgo : ∀ {j : Nat} {l : List Int}, Row w0 (hd3 w.heap.size r1 r2 r3 j) l → Row (w'.setCell ⟨K, 2, none⟩ (.slice a' (ls.length + 3) c')) (hd3 w.heap.size r1 r2 r3 j) l := fun {j l} hr => hr.of_block (by rw [hszs]; exact hsz') fun b e => by
        have hb := hd3_new _ _ _ _ e
        rw [hset b (by omega)]
        exact h2.out.block b (hr.lt e) fun e2 => by have := h.out.sl.lt e2; omega
      rw [List.getElem_append_right (by omega)]
      unfold catV; rw [if_neg hj2]
      have hj3 : j < ls.length + 3 := by simpa using hj
      obtain ⟨d, rfl⟩ : ∃ d, j = ls.length + d := ⟨j - ls.length, by omega⟩
      simp only [Nat.add_sub_cancel_left]
      have hd3 : d < 3 := by omega
      match d, hd3 with
      | 0, _ => exact hgo hr1
      | 1, _ => exact hgo hr2
      | 2, _ => exact hgo hr3
  refine k a' c' w' (catV hs ls.length (hd3 w.heap.size r1 r2 r3)) (Lib.hid hd') (Lib.hid ⟨⟨?_, ?_, ?_, hrow, ?_, hfvK, h.out.n2, ?_⟩, ?_, ?_⟩)
  · refine World.rowIs.congr (hd'.set 2 _) fun i hi => ?_
    match i, hi with
    | 0, _ => rfl
    | 1, _ => rfl
    | 2, _ => rfl
  · exact h.out.mp.of_block ((hset Mv h.out.n2).trans (hblk Mv hM h.out.n3))
  · simp only [List.length_append, List.length_cons, List.length_nil]
    exact h1.out.of_block fun b e => hset b fun k => hfvK (k ▸ e)
  · intro j hj b e
    have hj3 : j < ls.length + 3 := by simpa using hj
    unfold catV at e
    split at e
    · next hj2 =>
      have ho := h.out.out j hj2 b e
      have hl := (h.out.row j hj2).lt e
      rintro (e2 | e2 | e2)
      · exact ho (.inl e2)
      · exact ho (.inr (.inl e2))
      · exact (hnew b e2).elim (fun e2 => ho (.inr (.inr e2))) fun e2 => by omega
    · have hb := hd3_new _ _ _ _ e
      rintro (e2 | e2 | e2)
      · omega
      · omega
      · exact (hnew b e2).elim (fun e2 => by have := h.out.sl.lt e2; omega) fun e2 => by omega
  · intro e
    exact (hnew Mv e).elim h.out.n3 fun e => by omega
  · refine Fr.set ?_ (.inl (.inl rfl)) _
    exact ((Fr.of_below hb1 : Fr (Oc K Mv fv ls.length hs) w w0).then h2.out fun b e => .inl (.inl (.inr (.inr e))))
  · rintro b ((e | e | e) | ⟨j, hj, e⟩)
    · exact .inl (.inl (.inl e))
    · exact .inl (.inl (.inr (.inl e)))
    · exact (hnew b e).elim (fun e => .inl (.inl (.inr (.inr e)))) fun e => .inr (by omega)
    · unfold catV at e
      split at e
      · next hj2 => exact .inl (.inr ⟨j, hj2, e⟩)
      · exact .inr (hd3_new _ _ _ _ e).1
end Go.Proofs.Ytpniffcojmlboaa
