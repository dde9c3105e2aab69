/- The law CnfBuilds behind its first loop: what is fixed, and what each call keeps. -/
import Derived.Test.YtpniffcojmlboaaEJ
namespace Go.Proofs.Ytpniffcojmlboaa
open Go.RowKit Go.Lib Go.Maps
set_option maxRecDepth 100000

structure Ph (w1 : World) (PL : World → Value → Nat → (Nat → Bool) → Value → Nat → (Nat → Bool) → Prop) (G M : Nat) (v iv : Value) (s : Gr) (K R : Nat) (cv dv : Value) (V : List Nat) (D : List (List Int)) : Prop where
  quiet : ∀ {w w' xv nx f yv ny h}, PL w xv nx f yv ny h → Below w.heap.size w w' → PL w' xv nx f yv ny h
  bel : ∀ {w xv nx f yv ny h}, PL w xv nx f yv ny h → Below w1.heap.size w1 w
  rl : ∀ {w xv nx f yv ny h}, PL w xv nx f yv ny h → ∃ gl cl, w.cell? ⟨R, 1, none⟩ = some (.slice (some ⟨gl, 0, none⟩) V.length cl) ∧ ∀ j (hj : j < V.length), w.cell? ⟨gl, j, none⟩ = some (.int .i64 (V[j] : Nat))
  rc : ∀ {w xv nx f yv ny h}, PL w xv nx f yv ny h → w.cell? ⟨R, 2, none⟩ = some cv
  gm : ∀ {w xv nx f yv ny h}, PL w xv nx f yv ny h → Gm w G M v iv s
  var : ∀ {w xv nx f yv ny h}, PL w xv nx f yv ny h → ∀ n : Nat, Calls Try.prog 19 #[.pointer (some ⟨R, 0, none⟩), .int .i64 n] w fun e w' => e = .returned (.int .i64 (vr V n : Nat)) ∧ w = w'
  lists : ∀ {w xv nx f yv ny h}, PL w xv nx f yv ny h → Calls Try.prog 15 #[dv, cv] w fun e w' => e = .returned (.bool true) ∧ Below w.heap.size w w'
  all : ∀ {w a c f yv ny h}, PL w (.slice a V.length c) V.length f yv ny h → Calls Try.prog 17 #[dv, .slice a V.length c] w fun e w' => e = .returned (.bool (allC f V.length D)) ∧ w = w'
  inputs : ∀ {w a c f yv ny h}, PL w (.slice a V.length c) V.length f yv ny h → Calls Try.prog 18 #[.pointer (some ⟨K, 0, none⟩), .slice a V.length c] w fun e w' => ∃ a' c', e = .returned (.slice a' (cnt s.L s.n) c') ∧ Hid (PL w' (.slice a V.length c) V.length f (.slice a' (cnt s.L s.n) c') (cnt s.L s.n) (inW s V V.length f))
  val : ∀ {w w' xv xv' nx nx' f f' yv ny h}, PL w xv nx f yv ny h → Fr (fun b => xv.ownBlock = some b) w w' → (∀ b, xv'.ownBlock = some b → xv.ownBlock = some b ∨ w.heap.size ≤ b) → Sl w' 4 1 xv' nx' (fun j => .bool (f' j)) → PL w' xv' nx' f' yv ny h
  vx : ∀ {w xv nx f yv ny h}, PL w xv nx f yv ny h → Sl w 4 1 xv nx (fun j => .bool (f j))
  vy : ∀ {w xv nx f yv ny h}, PL w xv nx f yv ny h → Sl w 4 1 yv ny (fun j => .bool (h j))
theorem Sl.hasB {w : World} {a : Option Addr} {n c : Nat} {f : Nat → Bool} (h : Sl w 4 1 (.slice a n c) n (fun j => .bool (f j))) : HasB w a n f := by
  by_cases h0 : n = 0
  · exact .inl h0
  · obtain ⟨g, rfl, hlt, hc⟩ := h.cells1 (by omega)
    exact .inr ⟨g, 0, rfl, hlt, fun j hj => by rw [Nat.zero_add]; exact hc j hj⟩
theorem ph_of {w1 wr : World} {G M K Mv T R q : Nat} {v iv fv ev tv lv cv dv : Value} {s : Gr} {fh rh dh : Nat → Value} {V : List Nat} {D : List (List Int)} {F : Nat → Int} (hsn : s.n ≤ 100) (hV : Vs s V) (hP : BP s V [] D D true)
    (h : Lb w1 wr G M v iv s K Mv fv fh V [] ev q F T tv R lv cv rh V D dv D dh (.slice none 0 0) 0 (fun _ => .bool false) (.slice none 0 0) 0 (fun _ => .bool false)) :
    ∃ PL, Ph w1 PL G M v iv s K R cv dv V D ∧ PL wr (.slice none 0 0) 0 (fun _ => false) (.slice none 0 0) 0 (fun _ => false) := by
  have hfew := hV.few
  have hlen := hP.len
  have hlit := hP.inv.lits (by omega)
  refine ⟨fun w xv nx f yv ny h => Lb w1 w G M v iv s K Mv fv fh V [] ev q F T tv R lv cv rh V D dv D dh xv nx (fun j => .bool (f j)) yv ny (fun j => .bool (h j)), ⟨fun h k => h.quiet k, fun h => h.bel, fun h => ?_, fun h => h.rm.c2, fun h => h.gm, fun h n => var_any h.rm (by omega) n, fun h => lists_any h.cs h.rm.rws (fun c hc => by have := (hlit c hc).1; omega) (by omega), fun h => ?_, fun h => ?_, fun h a b c => h.val a b c, fun h => h.vx, fun h => h.vy⟩, h⟩
  · obtain ⟨gl, cl, e1, _⟩ := h.rm.lsl.pos (List.length_pos_of_mem hV.pos)
    refine ⟨gl, cl, by rw [← e1]; exact h.rm.c1, fun j hj => ?_⟩
    have hs := h.rm.lsl
    rw [e1] at hs
    refine (hs.cell (j := j) (by omega)).trans ?_
    unfold nodV; simp [hj]
  · exact all_any h.cs (fun c hc => ⟨by have := (hlit c hc).1; omega, (hlit c hc).2⟩) (by omega) (Sl.hasB h.vx) (by omega)
  · exact (inputs_m h.cm h.gm (by omega) (by omega) (Sl.hasB h.vx) (by omega)).mono fun e w' ⟨a', c', h1, h2⟩ => ⟨a', c', h1, Lib.hid (h.inn h2.out)⟩
end Go.Proofs.Ytpniffcojmlboaa
