/- Contracts: a literal's variable, the greatest variable of a list of clauses. -/
import Derived.Test.YtoffhgiljnagcaaRA
import Derived.WalkLawsBesides
import Derived.Outline
namespace Go.Proofs.Ytoffhgiljnagcaa
open Go.RowKit Go.Lib

def av (x : Int) : Int := if x < 0 then -x else x

set_option maxHeartbeats 400000 in
theorem variable_any (x : Int) (h1 : -100000 ≤ x) (h2 : x ≤ 100000) (w : World) :
    Calls Try.prog 64 #[.int .i64 x] w fun e w' => e = .returned (.int .i64 (av x)) ∧ w = w' := by
  go_enter Try.func64, Try.ntmps64
  go_wp2
  all_goals
    go_ret
    exact ⟨ret_int (by unfold av; omega), rfl⟩

/-- One row of a list of lists. -/
structure Row where
  a : Option Addr
  n : Nat
  c : Nat
  f : Nat → Int
def lof (f : Nat → Int) (n : Nat) : List Int := (List.range n).map f
theorem lof_length (f : Nat → Int) (n : Nat) : (lof f n).length = n := by simp [lof]
theorem lof_succ (f : Nat → Int) (n : Nat) : lof f (n + 1) = lof f n ++ [f n] := by simp [lof, List.range_succ]
def rowsL (R : Nat → Row) (n : Nat) : List (List Int) := (List.range n).map fun j => lof (R j).f (R j).n
theorem rowsL_succ (R : Nat → Row) (n : Nat) : rowsL R (n + 1) = rowsL R n ++ [lof (R n).f (R n).n] := by simp [rowsL, List.range_succ]
theorem rowsL_length (R : Nat → Row) (n : Nat) : (rowsL R n).length = n := by simp [rowsL]
/-- A list of lists of numbers in memory. -/
def Rws (w : World) (a : Option Addr) (n : Nat) (R : Nat → Row) : Prop :=
  n = 0 ∨ ∃ b off, a = some ⟨b, off, none⟩ ∧ b < w.heap.size ∧ ∀ j, j < n → w.cell? ⟨b, off + j, none⟩ = some (.slice (R j).a (R j).n (R j).c) ∧ Has w (R j).a (R j).n (R j).f
theorem Rws.below {w w' : World} {a : Option Addr} {n : Nat} {R : Nat → Row} (h : Rws w a n R) (hb : Below w.heap.size w w') : Rws w' a n R := by
  rcases h with h | ⟨b, off, ha, hlt, hc⟩
  · exact .inl h
  · exact .inr ⟨b, off, ha, Nat.lt_of_lt_of_le hlt hb.size, fun j hj => ⟨by rw [← (hc j hj).1]; exact hb.cell (p := ⟨b, off + j, none⟩) hlt, (hc j hj).2.below hb⟩⟩

/-- The greatest variable so far. -/
def gr1 (m x : Int) : Int := if lit x then max m (av x) else m
def grL (m : Int) (l : List Int) : Int := l.foldl gr1 m
def gr (L : List (List Int)) : Int := L.foldl grL 0
theorem gr1_bd {m x : Int} (h : 0 ≤ m ∧ m ≤ 100000) : 0 ≤ gr1 m x ∧ gr1 m x ≤ 100000 := by
  unfold gr1
  split
  · rename_i hl
    have := lit_iff.1 hl
    unfold av; split <;> omega
  · exact h
theorem grL_bd {l : List Int} : ∀ {m : Int}, 0 ≤ m ∧ m ≤ 100000 → 0 ≤ grL m l ∧ grL m l ≤ 100000 := by
  induction l with
  | nil => intro m h; exact h
  | cons x l ih => intro m h; exact ih (gr1_bd h)
theorem gr_bd' {L : List (List Int)} : ∀ {m : Int}, 0 ≤ m ∧ m ≤ 100000 → 0 ≤ L.foldl grL m ∧ L.foldl grL m ≤ 100000 := by
  induction L with
  | nil => intro m h; exact h
  | cons x l ih => intro m h; exact ih (grL_bd h)
theorem gr_bd (L : List (List Int)) : 0 ≤ gr L ∧ gr L ≤ 100000 := gr_bd' (by omega)
theorem grL_snoc (m : Int) (l : List Int) (x : Int) : grL m (l ++ [x]) = gr1 (grL m l) x := by simp [grL]
theorem gr_snoc (L : List (List Int)) (l : List Int) : gr (L ++ [l]) = grL (gr L) l := by simp [gr]

end Go.Proofs.Ytoffhgiljnagcaa
