/- Contracts: All, Any. -/
import Derived.Test.YtpniffcojmlboaaN
namespace Go.Proofs.Ytpniffcojmlboaa
open Go.RowKit Go.Lib Go.Maps
set_option maxRecDepth 100000

/-- A list of edges that is no part of what B holds. -/
def HasE (w : World) (B : Nat → Prop) (a : Option Addr) (n : Nat) (g : Nat → Nat) : Prop :=
  n = 0 ∨ ∃ b off, a = some ⟨b, off, none⟩ ∧ b < w.heap.size ∧ ¬ B b ∧ ∀ j, j < n → w.cell? ⟨b, off + j, none⟩ = some (.int .i64 (g j : Nat))
theorem HasE.next {w w' : World} {G M : Nat} {v iv v' iv' : Value} {s : Gr} {a : Option Addr} {n : Nat} {g : Nat → Nat} (h : HasE w (Bg G M v iv) a n g) (T : GmT G M w v iv w' v' iv' s) : HasE w' (Bg G M v' iv') a n g := by
  rcases h with h | ⟨b, off, ha, hb, hB, hc⟩
  · exact .inl h
  · refine .inr ⟨b, off, ha, Nat.lt_of_lt_of_le hb T.fr.size, fun e => (T.own b e).elim hB fun e => by omega, fun j hj => ?_⟩
    rw [← hc j hj]
    exact World.cell?_of_block (T.fr.block b hb hB)
end Go.Proofs.Ytpniffcojmlboaa
