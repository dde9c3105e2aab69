/- Both graphs side by side. -/
import Derived.Test.YtfdopgohopibkaaZV
import Derived.Test.YtfdopgohopibkaaY
namespace Go.Proofs.Ytfdopgohopibkaa
open Go.RowKit Go.Lib Go.Maps
set_option maxRecDepth 100000

structure Tw (w wr : World) (G M : Nat) (v iv : Value) (s : Gr) (es : Value) (n : Nat) (F : Nat → Nat) (H : Nat) (u : Value) (t : Gr) : Prop where
  lw : Lw w wr G M v iv s es n F
  rg : Rg wr H u t
  ap : ∀ b, (b = H ∨ u.ownBlock = some b) → ¬ Bl G M v iv es b ∧ w.heap.size ≤ b
section
variable {w wr w' : World} {G M H : Nat} {v iv es u : Value} {s t : Gr} {n : Nat} {F : Nat → Nat}
theorem Tw.then (h : Tw w wr G M v iv s es n F H u t) (hb : Below wr.heap.size wr w') : Tw w w' G M v iv s es n F H u t := ⟨h.lw.then hb, h.rg.below hb, h.ap⟩
theorem Tw.drewN (h : Tw w wr G M v iv s es n F H u t) (q : Nat) : Tw w (wr.drewN q) G M v iv s es n F H u t := h.then (bel_drewN (Below.refl _ _) q)
/-- The code's graph has nodes more. -/
theorem Tw.lay {v2 iv2 : Value} {s2 : Gr} (h : Tw w wr G M v iv s es n F H u t) (T : GmT G M wr v iv w' v2 iv2 s2) : Tw w w' G M v2 iv2 s2 es n F H u t := by
  obtain ⟨L, K⟩ := h.lw.lay T
  refine ⟨L, h.rg.of_block fun b e => K.fr.block b (h.rg.lt e) (h.ap b e).1, fun b e => ⟨fun k => ?_, (h.ap b e).2⟩⟩
  exact (K.own b k).elim (h.ap b e).1 fun e2 => by have := h.rg.lt e; omega
/-- The answers' graph has. -/
theorem Tw.rlay {u2 : Value} {t2 : Gr} (h : Tw w wr G M v iv s es n F H u t) (T : RgT H wr u w' u2 t2) : Tw w w' G M v iv s es n F H u2 t2 := by
  have hsz := h.lw.row.bel.size
  have hb : Below w.heap.size w w' := h.lw.row.bel.trans (T.fr.below hsz fun b e => (h.ap b e).2)
  have hbl : ∀ b, Bl G M v iv es b → w'.heap[b]? = wr.heap[b]? := fun b e => T.fr.block b (h.lw.lt e) fun k => (h.ap b k).1 e
  refine ⟨⟨⟨h.lw.gn.gm.of_block fun b e => hbl b (.inl e), hb, h.lw.gn.new⟩, ⟨h.lw.row.own.of_block fun b e => hbl b (.inr e), hb, h.lw.row.new⟩, h.lw.ap⟩, T.rg, fun b e => ?_⟩
  rcases e with e | e
  · exact h.ap b (.inl e)
  · rcases T.own b e with e | e
    · exact h.ap b (.inr e)
    · exact ⟨fun k => absurd (h.lw.lt k) (by omega), by omega⟩
/-- One edge more. -/
theorem Tw.app {es2 : Value} {x : Nat} (h : Tw w wr G M v iv s es n F H u t) (L : Lw w w' G M v iv s es2 (n + 1) (fun j => if j < n then F j else x)) (K : Kp (Bl G M v iv es) (Bl G M v iv es2) wr w') : Tw w w' G M v iv s es2 (n + 1) (fun j => if j < n then F j else x) H u t :=
  ⟨L, h.rg.of_block fun b e => K.fr.block b (h.rg.lt e) (h.ap b e).1, fun b e => ⟨fun k => (K.own b k).elim (h.ap b e).1 fun e2 => by have := h.rg.lt e; omega, (h.ap b e).2⟩⟩
/-- The start. -/
theorem Tw.start {w2 : World} (h : Gn w G M w2 v iv s0) (F : Nat → Nat) (hF : F 0 = 0) : Tw w ((w2.alloc (.cells #[.slice none 0 0] 30)).alloc (.cells #[.int .i64 0] 3)) G M v iv s0 (.slice (some ⟨w2.heap.size + 1, 0, none⟩) 1 1) 1 F w2.heap.size (.slice none 0 0) s0 := by
  have hb1 : Below w2.heap.size w2 (w2.alloc (.cells #[.slice none 0 0] 30)) := (Below.refl _ w2).alloc (Nat.le_refl _) _
  have hL := Lw.made (h.below hb1) #[.int .i64 0] F (fun j hj => by
    have hj : j < 1 := hj
    match j, hj with
    | 0, _ => rw [hF]; rfl) (by show 1 ≤ _; omega)
  simp only [World.size_alloc] at hL
  have hw := h.bel.size
  refine ⟨hL, ⟨?_, Sl.nil, fun e => by cases e⟩, fun b e => ?_⟩
  · exact (World.rowIs_alloc w2 #[.slice none 0 0] 30 (fun _ => .slice none 0 0) (fun i hi => by
      have hi : i < 1 := hi
      match i, hi with
      | 0, _ => rfl)).alloc _
  · rcases e with rfl | e
    · refine ⟨fun k => ?_, hw⟩
      rcases k with k | k
      · exact absurd (h.gm.lt k) (Nat.lt_irrefl _)
      · injection k with k; simp at k
    · cases e
end
/-- The edge that a number picks, or itself. -/
def pickI (g : Nat → Nat) (len : Nat) (X : Int) : Int := if X < 0 then X else (pick g len X.toNat : Nat)
theorem pickI_le {g : Nat → Nat} {len m : Nat} {X : Int} (hl : 0 < len) (h : ∀ j, j < len → g j < 2 * (m + 1)) (hm : m ≤ 100000) : pickI g len X ≤ 1000000 := by
  unfold pickI
  split
  · omega
  · have := pick_lt (X := X.toNat) hl h; omega
theorem edge_int {w : World} {a : Option Addr} {len c : Nat} {g : Nat → Nat} (he : HasE w (fun _ => False) a len g) (hl : 0 < len) (hlen : len ≤ 1000000) (hg : ∀ j, j < len → g j ≤ 1000000) (X : Int) (hX : X ≤ 9223372036854775807) :
    Calls Try.prog 11 #[.slice a len c, .int .i64 X] w fun e w' => e = .returned (.int .i64 (pickI g len X)) ∧ w' = w := by
  by_cases h : X < 0
  · refine (edge_neg X h).mono fun e w' ⟨h1, h2⟩ => ⟨?_, h2.symm⟩
    rw [h1]; unfold pickI; rw [if_pos h]
  · have := edge_nat (c := c) he hl hlen hg X.toNat (by omega)
    rw [show ((X.toNat : Nat) : Int) = X by omega] at this
    refine this.mono fun e w' ⟨h1, h2⟩ => ⟨?_, h2.symm⟩
    rw [h1]; unfold pickI; rw [if_neg h]
end Go.Proofs.Ytfdopgohopibkaa
