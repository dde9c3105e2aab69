/- Memory: blocks, slices of their own; the answers' graph. -/
import Derived.Test.YtpniffcojmlboaaProg
import Derived.Test.YtpniffcojmlboaaA
import Derived.WalkKit
import Derived.WalkSpells
import Derived.WalkLawsBesides
import Derived.Lib.Hide
import Derived.Deep.QuietTactic
import Derived.Deep.OwnRows
import Derived.BigQuiet
import Derived.BigRegion
import Derived.IntWalk
import Derived.Outline
import Derived.Below
import Derived.OwnWalk
import Derived.Maps.Own
import Derived.Maps.OwnOps
import Derived.Maps.OwnSet
import Derived.Maps.Views
import Derived.Maps.AppendAt
import Derived.Laws.AppendOwnNone
namespace Go.Proofs.Ytpniffcojmlboaa
open Go.RowKit Go.Lib Go.Maps

theorem ret_int {k : IntKind} {a b : Int} (h : a = b) : Ending.returned (.int k a) = .returned (.int k b) := by rw [h]
theorem ret_bool {a b : Bool} (h : a = b) : Ending.returned (.bool a) = .returned (.bool b) := by rw [h]
/-- But for the blocks B nothing that was there has turned. -/
structure Fr (B : Nat → Prop) (w w' : World) : Prop where
  os : w'.os = w.os
  tape : w'.tape = w.tape
  output : w'.output = w.output
  size : w.heap.size ≤ w'.heap.size
  block : ∀ k, k < w.heap.size → ¬ B k → w'.heap[k]? = w.heap[k]?
theorem Fr.refl (B : Nat → Prop) (w : World) : Fr B w w := ⟨rfl, rfl, rfl, Nat.le_refl _, fun _ _ _ => rfl⟩
theorem Fr.trans {B : Nat → Prop} {a b c : World} (h : Fr B a b) (k : Fr B b c) : Fr B a c :=
  ⟨k.os.trans h.os, k.tape.trans h.tape, k.output.trans h.output, Nat.le_trans h.size k.size, fun i hi hB => (k.block i (Nat.lt_of_lt_of_le hi h.size) hB).trans (h.block i hi hB)⟩
theorem Fr.drewN {B : Nat → Prop} {a b : World} (h : Fr B a b) (q : Nat) : Fr B a (b.drewN q) := ⟨h.os, h.tape, h.output, h.size, h.block⟩
theorem Fr.drew {B : Nat → Prop} {a b : World} (h : Fr B a b) : Fr B a b.drew := ⟨h.os, h.tape, h.output, h.size, h.block⟩
theorem Fr.set {B : Nat → Prop} {a b : World} (h : Fr B a b) {p : Addr} (hp : B p.block) (u : Value) : Fr B a (b.setCell p u) :=
  h.trans ⟨rfl, rfl, rfl, by simp, fun k _ hB => Below.heap_setCell _ _ _ _ (fun e => hB (e ▸ hp))⟩
theorem Fr.setNew {B : Nat → Prop} {a b : World} (h : Fr B a b) {p : Addr} (hp : a.heap.size ≤ p.block) (u : Value) : Fr B a (b.setCell p u) :=
  ⟨h.os, h.tape, h.output, by simpa using h.size, fun k hk hB => (Below.heap_setCell _ _ _ _ (fun e => by omega)).trans (h.block k hk hB)⟩
theorem Fr.alloc {B : Nat → Prop} {a b : World} (h : Fr B a b) (o : Obj) : Fr B a (b.alloc o) :=
  h.trans ⟨rfl, rfl, rfl, by simp, fun k hk _ => Below.heap_alloc _ _ _ hk⟩
theorem Fr.grown {B : Nat → Prop} {a b c : World} {row : Option Nat} (h : Fr B a b) (hg : b.grownBy c row) (hr : ∀ k, row = some k → k < a.heap.size → B k) : Fr B a c :=
  ⟨hg.os.trans h.os, hg.tape.trans h.tape, hg.output.trans h.output, Nat.le_trans h.size hg.size, fun k hk hB => (hg.block k (Nat.lt_of_lt_of_le hk h.size) (fun e => hB (hr k e.symm hk))).trans (h.block k hk hB)⟩
theorem Fr.below {B : Nat → Prop} {a b : World} {n : Nat} (h : Fr B a b) (hn : n ≤ a.heap.size) (hB : ∀ k, B k → n ≤ k) : Below n a b :=
  ⟨h.os, h.tape, h.output, h.size, fun k hk => h.block k (by omega) (fun e => by have := hB k e; omega)⟩
theorem Fr.of_below {B : Nat → Prop} {a b : World} (h : Below a.heap.size a b) : Fr B a b := ⟨h.os, h.tape, h.output, h.size, fun k hk _ => h.block k hk⟩
theorem Fr.weak {B B' : Nat → Prop} {a b : World} (h : Fr B a b) (hb : ∀ k, k < a.heap.size → B k → B' k) : Fr B' a b := ⟨h.os, h.tape, h.output, h.size, fun k hk hB => h.block k hk fun e => hB (hb k hk e)⟩
/-- What came behind may turn. -/
theorem Fr.then {B B' : Nat → Prop} {a b c : World} (h : Fr B a b) (k : Fr B' b c) (hb : ∀ k, B' k → B k ∨ a.heap.size ≤ k) : Fr B a c :=
  ⟨k.os.trans h.os, k.tape.trans h.tape, k.output.trans h.output, Nat.le_trans h.size k.size, fun i hi hB => (k.block i (Nat.lt_of_lt_of_le hi h.size) (fun e => (hb i e).elim hB (fun e2 => by omega))).trans (h.block i hi hB)⟩
theorem Fr.rowIs {B : Nat → Prop} {a b : World} (h : Fr B a b) {k : Nat} {t : TypeId} {n : Nat} {f : Nat → Value} (hr : a.rowIs k t n f) (hB : ¬ B k) : b.rowIs k t n f :=
  hr.of_block (h.block k hr.lt hB)

/-- A slice of its own: n elements of sz cells. -/
def Sl (w : World) (e : TypeId) (sz : Nat) (v : Value) (n : Nat) (f : Nat → Value) : Prop :=
  (v = .slice none 0 0 ∧ n = 0) ∨ ∃ g c F, v = .slice (some ⟨g, 0, none⟩) n c ∧ n ≤ c ∧ c ≤ maxLen ∧ w.rowIs g e (c * sz) F ∧ ∀ j, j < n * sz → F j = f j
section
variable {w w' : World} {e : TypeId} {sz n g c : Nat} {v : Value} {f : Nat → Value}
theorem Sl.cell {m : Nat} (h : Sl w e sz (.slice (some ⟨g, 0, none⟩) m c) n f) {j : Nat} (hj : j < n * sz) : w.cell? ⟨g, j, none⟩ = some (f j) := by
  rcases h with ⟨h, _⟩ | ⟨g', c', F, h1, h2, h3, h4, h5⟩
  · cases h
  · cases h1
    rw [h4.cell (Nat.lt_of_lt_of_le hj (Nat.mul_le_mul_right _ h2)), h5 j hj]
theorem Sl.frozen {m : Nat} (h : Sl w e sz (.slice (some ⟨g, 0, none⟩) m c) n f) (j : Nat) : w.frozen? ⟨g, j, none⟩ = false := by
  rcases h with ⟨h, _⟩ | ⟨g', c', F, h1, h2, h3, h4, h5⟩
  · cases h
  · cases h1; exact h4.frozen j
theorem Sl.pos (h : Sl w e sz v n f) (hn : 0 < n) : ∃ g c, v = .slice (some ⟨g, 0, none⟩) n c ∧ n ≤ c ∧ c ≤ maxLen ∧ g < w.heap.size := by
  rcases h with ⟨_, h⟩ | ⟨g, c, F, h1, h2, h3, h4, _⟩
  · omega
  · exact ⟨g, c, h1, h2, h3, h4.lt⟩
theorem Sl.shape (h : Sl w e sz v n f) : ∃ a c, v = .slice a n c ∧ n ≤ c ∧ c ≤ maxLen := by
  rcases h with ⟨h, h0⟩ | ⟨g, c, F, h1, h2, h3, h4, _⟩
  · subst h0; exact ⟨none, 0, h, Nat.le_refl _, Nat.zero_le _⟩
  · exact ⟨_, c, h1, h2, h3⟩
theorem Sl.lt (h : Sl w e sz v n f) {b : Nat} (hb : v.ownBlock = some b) : b < w.heap.size := by
  rcases h with ⟨h, _⟩ | ⟨g, c, F, rfl, h2, h3, h4, _⟩
  · subst h; cases hb
  · cases hb; exact h4.lt
theorem Sl.of_block (h : Sl w e sz v n f) (hb : ∀ b, v.ownBlock = some b → w'.heap[b]? = w.heap[b]?) : Sl w' e sz v n f := by
  rcases h with h | ⟨g, c, F, rfl, h2, h3, h4, h5⟩
  · exact .inl h
  · exact .inr ⟨g, c, F, rfl, h2, h3, h4.of_block (hb g rfl), h5⟩
theorem Sl.congr (h : Sl w e sz v n f) {f' : Nat → Value} (hf : ∀ j, j < n * sz → f j = f' j) : Sl w e sz v n f' := by
  rcases h with h | ⟨g, c, F, h1, h2, h3, h4, h5⟩
  · exact .inl h
  · exact .inr ⟨g, c, F, h1, h2, h3, h4, fun j hj => (h5 j hj).trans (hf j hj)⟩
theorem Sl.set {m : Nat} (h : Sl w e sz (.slice (some ⟨g, 0, none⟩) m c) n f) (j : Nat) (x : Value) : Sl (w.setCell ⟨g, j, none⟩ x) e sz (.slice (some ⟨g, 0, none⟩) m c) n (fun i => if i = j then x else f i) := by
  rcases h with ⟨h, _⟩ | ⟨g', c', F, h1, h2, h3, h4, h5⟩
  · cases h
  · cases h1
    refine .inr ⟨g, c, _, rfl, h2, h3, h4.set j x, fun i hi => ?_⟩
    show (if i = j then x else F i) = _
    rw [h5 i hi]
theorem Sl.trunc {m m' : Nat} (h : Sl w e sz (.slice (some ⟨g, 0, none⟩) m c) n f) (hm : m' ≤ n) : Sl w e sz (.slice (some ⟨g, 0, none⟩) m' c) m' f := by
  rcases h with ⟨h, _⟩ | ⟨g', c', F, h1, h2, h3, h4, h5⟩
  · cases h
  · cases h1
    exact .inr ⟨g, c, F, rfl, by omega, h3, h4, fun i hi => h5 i (Nat.lt_of_lt_of_le hi (Nat.mul_le_mul_right _ hm))⟩
theorem Sl.nil : Sl w e sz (.slice none 0 0) 0 f := .inl ⟨rfl, rfl⟩

/-- The content as a list, for append. -/
def lst (f : Nat → Value) (k : Nat) : List Value := (List.range k).map f
theorem Sl.owns (h : Sl w e sz v n f) : w.ownsRow 0 e sz v n (lst f (n * sz)) := by
  refine ⟨by simp [lst], ?_⟩
  rcases h with h | ⟨g, c, F, h1, h2, h3, ⟨cur, h4, h6, h7⟩, h5⟩
  · exact .inl h
  · refine .inr ⟨g, c, cur, h1, Nat.zero_le _, h4, h2, h3, h6, ?_⟩
    have hle := Nat.mul_le_mul_right sz h2
    refine List.ext_getElem? fun i => ?_
    by_cases hi : i < n * sz
    · rw [List.getElem?_take_of_lt hi, Array.getElem?_toList, h7 i (by omega), h5 i hi]
      simp [lst, hi]
    · rw [List.getElem?_eq_none (by simp; omega), List.getElem?_eq_none (by simp [lst]; omega)]
theorem Sl.of_owns {xs : List Value} (h : w.ownsRow 0 e sz v n xs) (hf : ∀ j, j < n * sz → xs[j]? = some (f j)) : Sl w e sz v n f := by
  obtain ⟨hl, h | ⟨g, c, cur, h1, _, h4, h2, h3, h6, h7⟩⟩ := h
  · exact .inl h
  · refine .inr ⟨g, c, fun j => (cur[j]?).getD (.bool false), h1, h2, h3, ⟨cur, h4, h6, fun i hi => ?_⟩, fun j hj => ?_⟩
    · have : i < cur.size := by omega
      simp [this]
    · have h8 := hf j hj
      rw [← h7, List.getElem?_take_of_lt hj, Array.getElem?_toList] at h8
      show (cur[j]?).getD _ = _
      rw [h8]; rfl
theorem Sl.of_app {v' : Value} {m : Nat} {news : List Value} (h : w'.ownsRow 0 e sz v' (n + m) (lst f (n * sz) ++ news)) {f' : Nat → Value} (h1 : ∀ j, j < n * sz → f' j = f j) (h2 : ∀ j, j < m * sz → news[j]? = some (f' (n * sz + j))) : Sl w' e sz v' (n + m) f' := by
  refine Sl.of_owns h fun j hj => ?_
  rw [Nat.add_mul] at hj
  by_cases hj' : j < n * sz
  · rw [List.getElem?_append_left (by simpa [lst] using hj'), h1 j hj']; simp [lst, hj']
  · rw [List.getElem?_append_right (by simp [lst]; omega)]
    have := h2 (j - n * sz) (by omega)
    rw [show n * sz + (j - n * sz) = j by omega] at this
    simpa [lst] using this
end


/-- The cells of nodes. -/
def ndV (L : Nat → Option (Nat × Nat)) (j : Nat) : Value :=
  match L (j / 3) with
  | none => if j % 3 = 0 then .bool true else .int .i64 0
  | some (a, b) => if j % 3 = 0 then .bool false else if j % 3 = 1 then .int .i64 a else .int .i64 b
/-- The answers' graph, in memory. -/
structure Rg (w : World) (G : Nat) (v : Value) (s : Gr) : Prop where
  hd : w.rowIs G 60 1 (fun _ => v)
  sl : Sl w 62 3 v s.n (ndV s.L)
  ne : v.ownBlock ≠ some G

end Go.Proofs.Ytpniffcojmlboaa
