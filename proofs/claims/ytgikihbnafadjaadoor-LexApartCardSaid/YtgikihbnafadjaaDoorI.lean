/- Memory: slices of their own; tokens. -/
import Derived.Test.YtgikihbnafadjaaDoorH
import Derived.Maps.Own
import Derived.Maps.OwnOps
import Derived.Maps.Views
namespace Go.Proofs.YtgikihbnafadjaaDoor
open Go Go.RowKit Go.Lib Go.Maps

/-- But for the blocks B nothing that was there has turned. -/
structure Fr (B : Nat → Prop) (w w' : World) : Prop where
  os : w'.os = w.os
  tape : w'.tape = w.tape
  output : w'.output = w.output
  size : w.heap.size ≤ w'.heap.size
  block : ∀ k, k < w.heap.size → ¬ B k → w'.heap[k]? = w.heap[k]?
theorem Fr.refl (B : Nat → Prop) (w : World) : Fr B w w := ⟨rfl, rfl, rfl, Nat.le_refl _, fun _ _ _ => rfl⟩
theorem Fr.trans {B : Nat → Prop} {a b c : World} (h : Fr B a b) (k : Fr B b c) : Fr B a c :=
  ⟨k.os.trans h.os, k.tape.trans h.tape, k.output.trans h.output, Nat.le_trans h.size k.size, fun i hi hB => (k.block i (Nat.lt_of_lt_of_le hi h.size) hB).trans (h.block i hi hB)⟩
theorem Fr.drewN {B : Nat → Prop} {a b : World} (h : Fr B a b) (q : Nat) : Fr B a (b.drewN q) := ⟨h.os, h.tape, h.output, h.size, h.block⟩
theorem Fr.drew {B : Nat → Prop} {a b : World} (h : Fr B a b) : Fr B a b.drew := ⟨h.os, h.tape, h.output, h.size, h.block⟩
theorem Fr.set {B : Nat → Prop} {a b : World} (h : Fr B a b) {p : Addr} (hp : B p.block) (u : Value) : Fr B a (b.setCell p u) :=
  h.trans ⟨rfl, rfl, rfl, by simp, fun k _ hB => Below.heap_setCell _ _ _ _ (fun e => hB (e ▸ hp))⟩
theorem Fr.setNew {B : Nat → Prop} {a b : World} (h : Fr B a b) {p : Addr} (hp : a.heap.size ≤ p.block) (u : Value) : Fr B a (b.setCell p u) :=
  ⟨h.os, h.tape, h.output, by simpa using h.size, fun k hk hB => (Below.heap_setCell _ _ _ _ (fun e => by omega)).trans (h.block k hk hB)⟩
theorem Fr.alloc {B : Nat → Prop} {a b : World} (h : Fr B a b) (o : Obj) : Fr B a (b.alloc o) :=
  h.trans ⟨rfl, rfl, rfl, by simp, fun k hk _ => Below.heap_alloc _ _ _ hk⟩
theorem Fr.grown {B : Nat → Prop} {a b c : World} {row : Option Nat} (h : Fr B a b) (hg : b.grownBy c row) (hr : ∀ k, row = some k → k < a.heap.size → B k) : Fr B a c :=
  ⟨hg.os.trans h.os, hg.tape.trans h.tape, hg.output.trans h.output, Nat.le_trans h.size hg.size, fun k hk hB => (hg.block k (Nat.lt_of_lt_of_le hk h.size) (fun e => hB (hr k e.symm hk))).trans (h.block k hk hB)⟩
theorem Fr.below {B : Nat → Prop} {a b : World} {n : Nat} (h : Fr B a b) (hn : n ≤ a.heap.size) (hB : ∀ k, B k → n ≤ k) : Below n a b :=
  ⟨h.os, h.tape, h.output, h.size, fun k hk => h.block k (by omega) (fun e => by have := hB k e; omega)⟩
theorem Fr.of_below {B : Nat → Prop} {a b : World} (h : Below a.heap.size a b) : Fr B a b := ⟨h.os, h.tape, h.output, h.size, fun k hk _ => h.block k hk⟩
theorem Fr.weak {B B' : Nat → Prop} {a b : World} (h : Fr B a b) (hb : ∀ k, k < a.heap.size → B k → B' k) : Fr B' a b := ⟨h.os, h.tape, h.output, h.size, fun k hk hB => h.block k hk fun e => hB (hb k hk e)⟩
/-- What came behind may turn. -/
theorem Fr.then {B B' : Nat → Prop} {a b c : World} (h : Fr B a b) (k : Fr B' b c) (hb : ∀ k, B' k → B k ∨ a.heap.size ≤ k) : Fr B a c :=
  ⟨k.os.trans h.os, k.tape.trans h.tape, k.output.trans h.output, Nat.le_trans h.size k.size, fun i hi hB => (k.block i (Nat.lt_of_lt_of_le hi h.size) (fun e => (hb i e).elim hB (fun e2 => by omega))).trans (h.block i hi hB)⟩
theorem Fr.rowIs {B : Nat → Prop} {a b : World} (h : Fr B a b) {k : Nat} {t : TypeId} {n : Nat} {f : Nat → Value} (hr : a.rowIs k t n f) (hB : ¬ B k) : b.rowIs k t n f :=
  hr.of_block (h.block k hr.lt hB)

/-- A slice of its own: n elements of sz cells. -/
def Sl (w : World) (e : TypeId) (sz : Nat) (v : Value) (n : Nat) (f : Nat → Value) : Prop :=
  (v = .slice none 0 0 ∧ n = 0) ∨ ∃ g c F, v = .slice (some ⟨g, 0, none⟩) n c ∧ n ≤ c ∧ c ≤ maxLen ∧ w.rowIs g e (c * sz) F ∧ ∀ j, j < n * sz → F j = f j
section
variable {w w' : World} {e : TypeId} {sz n g c : Nat} {v : Value} {f : Nat → Value}
theorem Sl.cell {m : Nat} (h : Sl w e sz (.slice (some ⟨g, 0, none⟩) m c) n f) {j : Nat} (hj : j < n * sz) : w.cell? ⟨g, j, none⟩ = some (f j) := by
  rcases h with ⟨h, _⟩ | ⟨g', c', F, h1, h2, h3, h4, h5⟩
  · cases h
  · cases h1
    rw [h4.cell (Nat.lt_of_lt_of_le hj (Nat.mul_le_mul_right _ h2)), h5 j hj]
theorem Sl.frozen {m : Nat} (h : Sl w e sz (.slice (some ⟨g, 0, none⟩) m c) n f) (j : Nat) : w.frozen? ⟨g, j, none⟩ = false := by
  rcases h with ⟨h, _⟩ | ⟨g', c', F, h1, h2, h3, h4, h5⟩
  · cases h
  · cases h1; exact h4.frozen j
theorem Sl.pos (h : Sl w e sz v n f) (hn : 0 < n) : ∃ g c, v = .slice (some ⟨g, 0, none⟩) n c ∧ n ≤ c ∧ c ≤ maxLen ∧ g < w.heap.size := by
  rcases h with ⟨_, h⟩ | ⟨g, c, F, h1, h2, h3, h4, _⟩
  · omega
  · exact ⟨g, c, h1, h2, h3, h4.lt⟩
theorem Sl.shape (h : Sl w e sz v n f) : ∃ a c, v = .slice a n c ∧ n ≤ c ∧ c ≤ maxLen := by
  rcases h with ⟨h, h0⟩ | ⟨g, c, F, h1, h2, h3, h4, _⟩
  · subst h0; exact ⟨none, 0, h, Nat.le_refl _, Nat.zero_le _⟩
  · exact ⟨_, c, h1, h2, h3⟩
theorem Sl.lt (h : Sl w e sz v n f) {b : Nat} (hb : v.ownBlock = some b) : b < w.heap.size := by
  rcases h with ⟨h, _⟩ | ⟨g, c, F, rfl, h2, h3, h4, _⟩
  · subst h; cases hb
  · cases hb; exact h4.lt
theorem Sl.of_block (h : Sl w e sz v n f) (hb : ∀ b, v.ownBlock = some b → w'.heap[b]? = w.heap[b]?) : Sl w' e sz v n f := by
  rcases h with h | ⟨g, c, F, rfl, h2, h3, h4, h5⟩
  · exact .inl h
  · exact .inr ⟨g, c, F, rfl, h2, h3, h4.of_block (hb g rfl), h5⟩
theorem Sl.congr (h : Sl w e sz v n f) {f' : Nat → Value} (hf : ∀ j, j < n * sz → f j = f' j) : Sl w e sz v n f' := by
  rcases h with h | ⟨g, c, F, h1, h2, h3, h4, h5⟩
  · exact .inl h
  · exact .inr ⟨g, c, F, h1, h2, h3, h4, fun j hj => (h5 j hj).trans (hf j hj)⟩
theorem Sl.set {m : Nat} (h : Sl w e sz (.slice (some ⟨g, 0, none⟩) m c) n f) (j : Nat) (x : Value) : Sl (w.setCell ⟨g, j, none⟩ x) e sz (.slice (some ⟨g, 0, none⟩) m c) n (fun i => if i = j then x else f i) := by
  rcases h with ⟨h, _⟩ | ⟨g', c', F, h1, h2, h3, h4, h5⟩
  · cases h
  · cases h1
    refine .inr ⟨g, c, _, rfl, h2, h3, h4.set j x, fun i hi => ?_⟩
    show (if i = j then x else F i) = _
    rw [h5 i hi]
theorem Sl.trunc {m m' : Nat} (h : Sl w e sz (.slice (some ⟨g, 0, none⟩) m c) n f) (hm : m' ≤ n) : Sl w e sz (.slice (some ⟨g, 0, none⟩) m' c) m' f := by
  rcases h with ⟨h, _⟩ | ⟨g', c', F, h1, h2, h3, h4, h5⟩
  · cases h
  · cases h1
    exact .inr ⟨g, c, F, rfl, by omega, h3, h4, fun i hi => h5 i (Nat.lt_of_lt_of_le hi (Nat.mul_le_mul_right _ hm))⟩
theorem Sl.nil : Sl w e sz (.slice none 0 0) 0 f := .inl ⟨rfl, rfl⟩

/-- The content as a list, for append. -/
def lst (f : Nat → Value) (k : Nat) : List Value := (List.range k).map f
theorem Sl.owns (h : Sl w e sz v n f) : w.ownsRow 0 e sz v n (lst f (n * sz)) := by
  refine ⟨by simp [lst], ?_⟩
  rcases h with h | ⟨g, c, F, h1, h2, h3, ⟨cur, h4, h6, h7⟩, h5⟩
  · exact .inl h
  · refine .inr ⟨g, c, cur, h1, Nat.zero_le _, h4, h2, h3, h6, ?_⟩
    have hle := Nat.mul_le_mul_right sz h2
    refine List.ext_getElem? fun i => ?_
    by_cases hi : i < n * sz
    · rw [List.getElem?_take_of_lt hi, Array.getElem?_toList, h7 i (by omega), h5 i hi]
      simp [lst, hi]
    · rw [List.getElem?_eq_none (by simp; omega), List.getElem?_eq_none (by simp [lst]; omega)]
theorem Sl.of_owns {xs : List Value} (h : w.ownsRow 0 e sz v n xs) (hf : ∀ j, j < n * sz → xs[j]? = some (f j)) : Sl w e sz v n f := by
  obtain ⟨hl, h | ⟨g, c, cur, h1, _, h4, h2, h3, h6, h7⟩⟩ := h
  · exact .inl h
  · refine .inr ⟨g, c, fun j => (cur[j]?).getD (.bool false), h1, h2, h3, ⟨cur, h4, h6, fun i hi => ?_⟩, fun j hj => ?_⟩
    · have : i < cur.size := by omega
      simp [this]
    · have h8 := hf j hj
      rw [← h7, List.getElem?_take_of_lt hj, Array.getElem?_toList] at h8
      show (cur[j]?).getD _ = _
      rw [h8]; rfl
theorem Sl.of_app {v' : Value} {m : Nat} {news : List Value} (h : w'.ownsRow 0 e sz v' (n + m) (lst f (n * sz) ++ news)) {f' : Nat → Value} (h1 : ∀ j, j < n * sz → f' j = f j) (h2 : ∀ j, j < m * sz → news[j]? = some (f' (n * sz + j))) : Sl w' e sz v' (n + m) f' := by
  refine Sl.of_owns h fun j hj => ?_
  rw [Nat.add_mul] at hj
  by_cases hj' : j < n * sz
  · rw [List.getElem?_append_left (by simpa [lst] using hj'), h1 j hj']; simp [lst, hj']
  · rw [List.getElem?_append_right (by simp [lst]; omega)]
    have := h2 (j - n * sz) (by omega)
    rw [show n * sz + (j - n * sz) = j by omega] at this
    simpa [lst] using this
end



theorem info_parts {P : Program} {t : TypeId} {x : Option Value × Nat × Nat} (h : (P.info? t).map (fun i => (i.zero, i.size, i.bytes)) = some x) : ∃ i, P.info? t = some i ∧ i.zero = x.1 ∧ i.size = x.2.1 ∧ i.bytes = x.2.2 := by
  cases hi : P.info? t with
  | none => rw [hi] at h; cases h
  | some i =>
    rw [hi] at h
    simp only [Option.map_some, Option.some.injEq] at h
    subst h
    exact ⟨i, rfl, rfl, rfl, rfl⟩
theorem info35 : (Tryd.prog.info? 35).map (fun i => (i.zero, i.size, i.bytes)) = some (some (.agg #[.int .i64 0, .string ⟨#[]⟩, .int .i64 0]), 3, 32) := by kernel_rfl
/-- The cells of tokens. -/
def tkC (t : Tk) : List Value := [.int .i64 t.k, .string (bs t.s), .int .i64 t.a]
def tkV (T : List Tk) (j : Nat) : Value :=
  match T[j / 3]? with
  | none => .int .i64 0
  | some t => if j % 3 = 0 then .int .i64 t.k else if j % 3 = 1 then .string (bs t.s) else .int .i64 t.a
theorem tkV_app {T : List Tk} {t : Tk} {j : Nat} (h : j < T.length * 3) : tkV (T ++ [t]) j = tkV T j := by
  unfold tkV
  rw [List.getElem?_append_left (by omega)]
theorem tkV_new {T : List Tk} {t : Tk} {j : Nat} (h : j < 3) : (tkC t)[j]? = some (tkV (T ++ [t]) (T.length * 3 + j)) := by
  have e : (T ++ [t])[(T.length * 3 + j) / 3]? = some t := by
    rw [show (T.length * 3 + j) / 3 = T.length by omega]; simp
  unfold tkV
  rw [e]
  have : j = 0 ∨ j = 1 ∨ j = 2 := by omega
  rcases this with rfl | rfl | rfl
  · simp [tkC]
  · rw [show (T.length * 3 + 1) % 3 = 1 by omega]; rfl
  · rw [show (T.length * 3 + 2) % 3 = 2 by omega]; rfl
theorem adr (b off j : Nat) : (⟨b, off, none⟩ : Addr).add j = ⟨b, off + j, none⟩ := by simp [Addr.add]
/-- Tokens that lie beyond what was there at W. -/
structure Tks (W w : World) (v : Value) (T : List Tk) : Prop where
  own : Sl w 35 3 v T.length (tkV T)
  bel : Below W.heap.size W w
  new : ∀ b, v.ownBlock = some b → W.heap.size ≤ b
theorem Tks.nil {W w : World} (hb : Below W.heap.size W w) : Tks W w (.slice none 0 0) [] := ⟨Sl.nil, hb, fun b h => by cases h⟩
theorem Tks.then {W w w' : World} {v : Value} {T : List Tk} (h : Tks W w v T) (hb : Below w.heap.size w w') : Tks W w' v T :=
  ⟨h.own.of_block fun b e => hb.block b (h.own.lt e), h.bel.trans (hb.mono h.bel.size), h.new⟩
theorem Tks.app {W w : World} {v : Value} {T : List Tk} (h : Hid (Tks W w v T)) (t : Tk) (hn : T.length ≤ 100000) {w0 : World} (h0 : Below w.heap.size w w0) {xs : Array Value} (hxs : xs.toList = tkC t)
    {ops : Array Oper} {rest : List Oper} {o : Oper} {a : Act} {Q : Exit → Act → World → Prop} (hgd : o.guard = none) (p y : Operand)
    (ho : o.op = .call { callee := .builtin .append, args := #[p, y], argTypes := #[23, 23] }) (hs : a.eval p = v) (hy : a.eval y = .slice (some ⟨w0.heap.size, 0, none⟩) 1 1)
    (k : ∀ a' c' w', Hid (Tks W w' (.slice a' (T.length + 1) c') (T ++ [t])) → wpList Tryd.prog ops Q rest (a.put o.dst (.slice a' (T.length + 1) c')) w') :
    wpList Tryd.prog ops Q (o :: rest) a (w0.alloc (.cells xs 35)) := by
  obtain ⟨i, hi, hz, hsz, hby⟩ := info_parts info35
  have hT := (h.out.then h0).then ((Below.refl _ _).alloc (Nat.le_refl _) (.cells xs 35))
  have hlen : xs.size = 3 := by rw [← Array.length_toList, hxs]; rfl
  refine wpList_append_own_at _ hgd p y 23 ho 0 35 i _ 3 32 Tryd.underlying23 hi hz hsz hby rfl (by decide) v T.length _ hs hT.own.owns ⟨w0.heap.size, 0, none⟩ 1 1 (tkC t) hy rfl (fun j u hj => ?_) (fun u hu => ?_) (by unfold maxLen; omega) (by omega) (Nat.zero_le _) ?_
  · rw [← hxs, Array.getElem?_toList] at hj
    rw [adr, Nat.zero_add, cell_new, hj]
  · simp [tkC] at hu
    rcases hu with rfl | rfl | rfl <;> rfl
  · intro v' w' g1 g2 _ g3
    have hF : Sl w' 35 3 v' (T.length + 1) (tkV (T ++ [t])) := Sl.of_app g1 (fun j hj => tkV_app hj) (fun j hj => tkV_new (by omega))
    obtain ⟨a', c', rfl, _⟩ := hF.shape
    refine k a' c' w' (Lib.hid ⟨by simpa using hF, ?_, fun b hb => ?_⟩)
    · have hf : Fr (fun b => v.ownBlock = some b) (w0.alloc (.cells xs 35)) w' := (Fr.refl _ _).grown g2 (fun k e _ => e)
      exact hT.bel.trans (hf.below hT.bel.size fun b e => hT.new b e)
    · rcases g3 with e | e
      · rw [e] at hb; exact hT.new b hb
      · rw [e] at hb; cases hb
        have := hT.bel.size; omega

/-- The result's cell is told last. -/
theorem Tks.setRow {w W1 w' : World} {o : Obj} (hW : W1 = w.alloc o) {v : Value} {T : List Tk} (h : Tks W1 w' v T) (cs : Array Value) : Tks w (w'.setRow w.heap.size cs) v T := by
  have hsz : W1.heap.size = w.heap.size + 1 := by rw [hW]; simp
  have hother : ∀ b, b ≠ w.heap.size → (w'.setRow w.heap.size cs).heap[b]? = w'.heap[b]? := fun b e => setRow_other w' w.heap.size b cs e
  refine ⟨h.own.of_block fun b e => hother b ?_, ⟨?_, ?_, ?_, ?_, fun k hk => ?_⟩, fun b e => ?_⟩
  · have := h.new b e; omega
  · have := h.bel.os; rw [hW] at this; exact this
  · have := h.bel.tape; rw [hW] at this; exact this
  · have := h.bel.output; rw [hW] at this; exact this
  · have := h.bel.size; rw [size_setRow]; omega
  · rw [hother k (by omega), h.bel.block k (by omega), hW]
    exact Below.heap_alloc _ _ _ hk
  · have := h.new b e; omega
theorem setRow_cells {w' : World} {g : Nat} {old : Array Value} {t : TypeId} {fr : Nat × Nat} (h : w'.heap[g]? = some (.cells old t fr)) (cs : Array Value) : (w'.setRow g cs).heap[g]? = some (.cells cs t fr) := setRow_heap w' g old cs t fr h
theorem results_two {fn : Func} {p t : Tmp} (h : fn.results = #[.tmp t, .cell p 26]) (tmps : Array Value) (w : World) (g : Nat) (t' : TypeId) (cs : Array Value) (fr : Nat × Nat)
    (hp : tmps.getD p undef = .pointer (some ⟨g, 0, none⟩)) (hg : w.heap[g]? = some (.cells cs t' fr)) (hi : (Tryd.prog.info? 26).map (·.size) = some cs.size) :
    (results fn tmps).run Tryd.prog w = .ok (.tuple #[tmps.getD t undef, .agg cs]) w := by
  have hp' : tmps[p]?.getD undef = .pointer (some ⟨g, 0, none⟩) := by simpa using hp
  have := run_loadVar_row w g t' 26 cs fr _ hg Tryd.underlying26 rfl hi
  simp [results, h, hp', asAddr, this]
theorem size26 (x y : Value) : (Tryd.prog.info? 26).map (·.size) = some (#[x, y] : Array Value).size := by
  show _ = some 2
  kernel_rfl

theorem set2_eq {w : World} {g : Nat} {x y : Value} {t : TypeId} (hg : w.heap[g]? = some (.cells #[x, y] t (0, 0))) (a b : Value) : (w.setCell ⟨g, 0, none⟩ a).setCell ⟨g, 1, none⟩ b = w.setRow g #[a, b] := by
  rw [setCell_eq_setRow w g 0 _ t (0, 0) a hg]
  have h2 := setRow_heap w g _ ((#[x, y] : Array Value).setIfInBounds 0 a) t _ hg
  rw [setCell_eq_setRow _ g 1 _ t (0, 0) b h2, setRow_setRow]
  rfl
theorem res_cells {w : World} {g : Nat} {x y : Value} {t : TypeId} (hg : w.heap[g]? = some (.cells #[x, y] t (0, 0))) (a : Value) :
    w.cell? ⟨g, 0, none⟩ = some x ∧ w.cell? ⟨g, 1, none⟩ = some y ∧ w.frozen? ⟨g, 0, none⟩ = false ∧ w.frozen? ⟨g, 1, none⟩ = false ∧ (w.setCell ⟨g, 0, none⟩ a).cell? ⟨g, 1, none⟩ = some y ∧ (w.setCell ⟨g, 0, none⟩ a).frozen? ⟨g, 1, none⟩ = false := by
  refine ⟨by rw [cell_of_block hg]; rfl, by rw [cell_of_block hg]; rfl, frozen_of_row w g 0 _ t hg, frozen_of_row w g 1 _ t hg, ?_, ?_⟩
  · rw [cell_of_block (heap_setCell_same w g 0 _ t a hg)]; rfl
  · exact frozen_of_row _ g 1 _ t (heap_setCell_same w g 0 _ t a hg)
/-- What Tokens answers. -/
def TksPost (l : Wd) (w : World) (e : Ending) (w' : World) : Prop :=
  ∃ v, e = .returned (.tuple #[v, .agg #[.int .i64 ((lexR l).2.1 : Nat), .int .i64 ((lexR l).2.2 : Nat)]]) ∧ Tks w w' v (lexR l).1
theorem tksPost_of {l : Wd} {w w' : World} {v : Value} {T : List Tk} {p q : Nat} {x y : Int} (h : lexR l = (T, p, q)) (hx : x = p) (hy : y = q) (hT : Tks w w' v T) : TksPost l w (.returned (.tuple #[v, .agg #[.int .i64 x, .int .i64 y]])) w' := by
  subst hx; subst hy
  refine ⟨v, ?_, ?_⟩
  · rw [h]
  · rw [h]; exact hT
theorem lexR_big {l : Wd} (h : 4000 < l.length) : lexR l = ([], 12, 0) := by unfold lexR; rw [if_pos h]
theorem lexR_bad {l : Wd} (h : ¬ 4000 < l.length) {a : Nat} (h2 : (lexL 0 l).2 = some a) : lexR l = ([], 10, a) := by
  unfold lexR; rw [if_neg h]
  generalize lexL 0 l = X at *
  obtain ⟨T, o⟩ := X
  simp only at h2
  subst h2; rfl
theorem lexR_good {l : Wd} (h : ¬ 4000 < l.length) {T : List Tk} (h2 : lexL 0 l = (T, none)) : lexR l = (T ++ [⟨3, [], l.length⟩], 0, 0) := by
  unfold lexR; rw [if_neg h, h2]
end Go.Proofs.YtgikihbnafadjaaDoor
