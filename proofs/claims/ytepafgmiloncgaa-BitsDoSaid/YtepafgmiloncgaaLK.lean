/- What the laws share: a model in memory, edges in a list. -/
import Derived.Test.YtepafgmiloncgaaLA
namespace Go.Proofs.Ytepafgmiloncgaa
open Go.RowKit Go.Lib Go.Maps
set_option maxRecDepth 100000

/-- A list of bools that is no part of what B holds. -/
def HasBn (w : World) (B : Nat → Prop) (a : Option Addr) (n : Nat) (f : Nat → Bool) : Prop :=
  ∃ b off, a = some ⟨b, off, none⟩ ∧ b < w.heap.size ∧ ¬ B b ∧ ∀ j, j < n → w.cell? ⟨b, off + j, none⟩ = some (.bool (f j))
theorem HasBn.has {w : World} {B : Nat → Prop} {a : Option Addr} {n : Nat} {f : Nat → Bool} (h : HasBn w B a n f) : HasB w a n f := by
  obtain ⟨b, off, h1, h2, _, h4⟩ := h
  exact .inr ⟨b, off, h1, h2, h4⟩
theorem HasBn.next {w w' : World} {G M : Nat} {v iv v' iv' : Value} {s : Gr} {a : Option Addr} {n : Nat} {f : Nat → Bool} (h : HasBn w (Bg G M v iv) a n f) (T : GmT G M w v iv w' v' iv' s) : HasBn w' (Bg G M v' iv') a n f := by
  obtain ⟨b, off, ha, hb, hB, hc⟩ := h
  refine ⟨b, off, ha, Nat.lt_of_lt_of_le hb T.fr.size, fun e => (T.own b e).elim hB fun e => by omega, fun j hj => ?_⟩
  rw [← hc j hj]
  exact World.cell?_of_block (T.fr.block b hb hB)
theorem HasBn.below {w w' : World} {B : Nat → Prop} {a : Option Addr} {n : Nat} {f : Nat → Bool} (h : HasBn w B a n f) (hb : Below w.heap.size w w') : HasBn w' B a n f := by
  obtain ⟨b, off, ha, hlt, hB, hc⟩ := h
  exact ⟨b, off, ha, Nat.lt_of_lt_of_le hlt hb.size, hB, fun j hj => by rw [← hc j hj]; exact hb.cell (p := ⟨b, off + j, none⟩) hlt⟩
theorem HasBn.congr {w : World} {B : Nat → Prop} {a : Option Addr} {n : Nat} {f f' : Nat → Bool} (h : HasBn w B a n f) (hf : ∀ j, j < n → f j = f' j) : HasBn w B a n f' := by
  obtain ⟨b, off, ha, hlt, hB, hc⟩ := h
  exact ⟨b, off, ha, hlt, hB, fun j hj => by rw [hc j hj, hf j hj]⟩
/-- The bits of two numbers, one behind the other. -/
def two (n : Nat) (a b : Int) (j : Nat) : Bool := if j < n then bit a j else bit b (j - n)
/-- A model of fresh memory. -/
theorem model_has {w w' : World} {G M : Nat} {v iv : Value} {s : Gr} {am : Option Addr} {n c : Nat} {F : Nat → Value} {f : Nat → Bool} (g : Gm w G M v iv s) (h : Frs 4 w w' (.slice am n c) n F) (hn : 0 < n) (hF : ∀ j, j < n → F j = .bool (f j)) : HasBn w' (Bg G M v iv) am n f := by
  obtain ⟨g0, c0, e0, _, _, hl⟩ := h.own.pos hn
  have hnew := h.new g0 (by cases e0; rfl)
  cases e0
  exact ⟨g0, 0, rfl, hl, fun e => absurd (g.lt e) (by omega), fun j hj => by rw [Nat.zero_add, ← hF j hj]; exact h.own.cell (by omega)⟩
theorem hasE_new (w : World) (xs : Array Value) (n : Nat) (g : Nat → Nat) (hn : xs.size = n) (hx : ∀ j, j < n → xs[j]? = some (.int .i64 (g j : Nat))) : HasE (w.alloc (.cells xs 3)) (fun _ => False) (some ⟨w.heap.size, 0, none⟩) n g := by
  refine .inr ⟨w.heap.size, 0, rfl, by simp, id, fun j hj => ?_⟩
  rw [Nat.zero_add]
  exact (World.rowIs_alloc w xs 3 (fun j => .int .i64 (g j : Nat)) (fun i hi => hx i (by omega))).cell (by omega)
/-- What inputs come to. -/
theorem num_first {n k : Nat} (hk : k ≤ n) (f : Nat → Bool) (m : Nat) (hm : k ≤ m) (a : Int) (hf : ∀ j, j < k → f j = bit a j) : num (mdl f m) (sIn n) (fun j => 2 * (0 + j + 1)) k = trm k a := by
  rw [num_sIn _ (by omega), ← sg_bit]
  exact sg_congr fun j hj => by
    unfold mdl
    rw [Nat.zero_add, hf j hj]
    simp [show j < m by omega]
theorem num_second {n p k : Nat} (hk : p + k ≤ n) (f : Nat → Bool) (m : Nat) (hm : p + k ≤ m) (b : Int) (hf : ∀ j, j < k → f (p + j) = bit b j) : num (mdl f m) (sIn n) (fun j => 2 * (p + j + 1)) k = trm k b := by
  rw [num_sIn _ hk, ← sg_bit]
  exact sg_congr fun j hj => by
    unfold mdl
    rw [hf j hj]
    simp [show p + j < m by omega]
theorem HasB.get {w : World} {a : Option Addr} {n : Nat} {f : Nat → Bool} (h : HasB w a n f) (hn : 0 < n) : ∃ b off, a = some ⟨b, off, none⟩ ∧ ∀ j, j < n → w.cell? ⟨b, off + j, none⟩ = some (.bool (f j)) := by
  rcases h with h | ⟨b, off, h1, _, h3⟩
  · omega
  · exact ⟨b, off, h1, h3⟩
/-- The second of two slices made on end. -/
theorem bits_src {W w : World} {a : Option Addr} {n c : Nat} {f : Nat → Bool} (h : Frs 4 W w (.slice a n c) n (fun j => .bool (f j))) : Src w a n c (fun j => .bool (f j)) := h.src fun _ _ => rfl
end Go.Proofs.Ytepafgmiloncgaa
