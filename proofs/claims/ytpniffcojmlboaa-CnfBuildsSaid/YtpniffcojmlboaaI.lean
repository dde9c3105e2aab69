/- Contracts: New. -/
import Derived.Test.YtpniffcojmlboaaH
import Derived.Carry
namespace Go.Proofs.Ytpniffcojmlboaa
open Go.RowKit Go.Lib Go.Maps
set_option maxRecDepth 100000

/-- The graph with node 0 alone. -/
def s0 : Gr := ⟨0, fun _ => none⟩
/-- A graph that has come since w. -/
structure Gn (w : World) (G M : Nat) (w' : World) (v iv : Value) (s : Gr) : Prop where
  gm : Gm w' G M v iv s
  bel : Below w.heap.size w w'
  new : ∀ b, Bg G M v iv b → w.heap.size ≤ b
theorem Gn.next {w w1 w2 : World} {G M : Nat} {v iv v' iv' : Value} {s s' : Gr} (h : Gn w G M w1 v iv s) (k : GmT G M w1 v iv w2 v' iv' s') : Gn w G M w2 v' iv' s' :=
  ⟨k.gm, h.bel.trans (k.fr.below h.bel.size fun b e => h.new b e), fun b e => (k.own b e).elim (h.new b) fun e => Nat.le_trans h.bel.size e⟩
theorem Gn.below {w w1 w2 : World} {G M : Nat} {v iv : Value} {s : Gr} (h : Gn w G M w1 v iv s) (k : Below w1.heap.size w1 w2) : Gn w G M w2 v iv s :=
  ⟨h.gm.below k, h.bel.trans (k.mono h.bel.size), h.new⟩
theorem s0_ok : s0.Ok := fun k hk => absurd hk (Nat.not_lt_zero _)
/-- New -/
theorem new_any (w : World) : Calls Try.prog 25 #[] w fun e w' => ∃ G M v iv, e = .returned (.pointer (some ⟨G, 0, none⟩)) ∧ Hid (Gn w G M w' v iv s0) := by
  have hmm := @run_makeMap Try.prog
  have hfin : Gn w (w.heap.size + 2) (w.heap.size + 1) (((w.alloc (.cells #[.int .i64 0, .int .i64 0] 75)).alloc (.map #[] 0)).alloc (.cells #[.slice (some ⟨w.heap.size, 0, none⟩) 1 1, .map (some (w.heap.size + 1)), .slice none 0 0] 73)) (.slice (some ⟨w.heap.size, 0, none⟩) 1 1) (.slice none 0 0) s0 := by
    have r1 := World.rowIs_alloc w #[.int .i64 0, .int .i64 0] 75 (prV s0.L) (fun i hi => by
        have hi' : i < 2 := hi
        match i, hi' with
        | 0, _ | 1, _ => rfl)
    have r3 := World.rowIs_alloc ((w.alloc (.cells #[.int .i64 0, .int .i64 0] 75)).alloc (.map #[] 0)) #[.slice (some ⟨w.heap.size, 0, none⟩) 1 1, .map (some (w.heap.size + 1)), .slice none 0 0] 73 (hdV (.slice (some ⟨w.heap.size, 0, none⟩) 1 1) (w.heap.size + 1) (.slice none 0 0)) (fun i hi => by
        have hi' : i < 3 := hi
        match i, hi' with
        | 0, _ | 1, _ | 2, _ => rfl)
    have m := World.ownsMap_made (H := Unit) (w.alloc (.cells #[.int .i64 0, .int .i64 0] 75)) Try.prog 75 (plainElem Try.prog 3)
    simp only [World.size_alloc] at r3 m
    refine ⟨⟨r3, .inr ⟨w.heap.size, 1, prV s0.L, rfl, Nat.le_refl _, by unfold maxLen; omega, ?_, fun _ _ => rfl⟩, ⟨0, .map [], m.alloc _, Nat.le_refl _, fun a b _ _ => ⟨rfl, fun i h => by cases h⟩⟩, Sl.nil, s0_ok, ?_, ?_, ?_, ?_, ?_, ?_⟩, ?_, ?_⟩
    · refine World.rowIs.of_block (w := w.alloc (.cells #[.int .i64 0, .int .i64 0] 75)) r1 ?_
      rw [Below.heap_alloc _ _ _ (by simp; omega), Below.heap_alloc _ _ _ (by simp)]
    · intro e; injection e with e; simp at e
    · intro e; cases e
    · omega
    · intro e; injection e with e; simp at e
    · intro e; cases e
    · intro b _ e; cases e
    · exact (((Below.refl _ w).alloc (Nat.le_refl _) _).alloc (by simp) _).alloc (by simp; omega) _
    · rintro b (rfl | rfl | e | e)
      · omega
      · omega
      · injection e with e; simp at e; omega
      · cases e
  have HF := Lib.hid hfin
  clear hfin
  go_enter Try.func25, Try.ntmps25
  go_wp2
  go_ret
  exact ⟨_, _, _, _, rfl, HF⟩
end Go.Proofs.Ytpniffcojmlboaa
