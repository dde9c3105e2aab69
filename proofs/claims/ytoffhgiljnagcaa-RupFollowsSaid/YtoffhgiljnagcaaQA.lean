/- Contracts: valid. -/
import Derived.Test.YtoffhgiljnagcaaRD
import Derived.Test.YtoffhgiljnagcaaM
namespace Go.Proofs.Ytoffhgiljnagcaa
open Go.RowKit Go.Lib

def ValPost (R : Nat → Row) (n : Nat) (w : World) (e : Ending) (w' : World) : Prop := e = .returned (.bool (litR R n)) ∧ ∃ q, w' = w.drewN q
theorem validAll_any (a : Option Addr) (n c : Nat) (R : Nat → Row) (w : World) (hm : n ≤ 140737488355328) (hR : ∀ j, j < n → (R j).n ≤ 140737488355328) (h : Rws w a n R) :
    Calls Try.prog 20 #[.slice a n c] w (ValPost R n w) := by
  have hr := valid_any a n c R w hm hR h
  unfold ValPost
  cases hv : litR R n
  all_goals
    rw [hv] at hr
    have HR := Lib.hid hr; clear hr hv h hR
    go_enter Try.func20, Try.ntmps20
    go_wp2_with (go_at_call 40; refine HR.out.mono ?_; rintro e w' ⟨rfl, q, rfl⟩)
    go_ret
    exact ⟨rfl, q, rfl⟩
/-- A list of one clause. -/
theorem one_rws {w : World} {a : Option Addr} {n c : Nat} {f : Nat → Int} (h : Has w a n f) (t : TypeId) (q : Nat) :
    Rws ((w.drewN q).alloc (.cells #[.slice a n c] t)) (some ⟨w.heap.size, 0, none⟩) 1 (fun _ => ⟨a, n, c, f⟩) := by
  have hb : Below w.heap.size w ((w.drewN q).alloc (.cells #[.slice a n c] t)) := (below_drewN (Below.refl _ w) q).alloc (by simp [World.drewN]) _
  refine .inr ⟨w.heap.size, 0, rfl, by simp [World.drewN], fun j hj => ⟨?_, h.below hb⟩⟩
  obtain rfl : j = 0 := by omega
  have h1 := World.rowIs_alloc (w.drewN q) #[.slice a n c] t (fun _ => .slice a n c) (fun i hi => by
    have hi' : i < 1 := hi
    obtain rfl : i = 0 := by omega
    rfl)
  exact h1.cell (by show 0 < 1; omega)
theorem one_litR (a : Option Addr) (n c : Nat) (f : Nat → Int) : litR (fun _ => ⟨a, n, c, f⟩) 1 = litF f n := by simp [litR]
end Go.Proofs.Ytoffhgiljnagcaa
