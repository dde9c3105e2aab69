/- The answers' maker: Need. -/
import Derived.Test.YtpniffcojmlboaaEC
import Derived.Test.YtpniffcojmlboaaDE
namespace Go.Proofs.Ytpniffcojmlboaa
open Go.RowKit Go.Lib Go.Maps
set_option maxRecDepth 100000

variable {w w' : World} {R T : Nat} {lv cv tv lv' cv' : Value} {hs hs' : Nat → Value} {V V' : List Nat} {C C' : List (List Int)} {s : Gr}
/-- The answers' graph stands apart from its maker. -/
def RApart (T : Nat) (tv : Value) (R : Nat) (lv cv : Value) (n : Nat) (hs : Nat → Value) : Prop := ∀ b, (b = T ∨ tv.ownBlock = some b) → ¬ Om R lv cv n hs b
theorem Rg.lt (h : Rg w T tv s) {b : Nat} (hb : b = T ∨ tv.ownBlock = some b) : b < w.heap.size := hb.elim (fun e => e ▸ h.hd.lt) fun e => h.sl.lt e
theorem Rg.of_block (h : Rg w T tv s) (hb : ∀ b, (b = T ∨ tv.ownBlock = some b) → w'.heap[b]? = w.heap[b]?) : Rg w' T tv s := ⟨h.hd.of_block (hb T (.inl rfl)), h.sl.of_block fun b e => hb b (.inr e), h.ne⟩
theorem RApart.next {n : Nat} (h : RApart T tv R lv cv n hs) (hg : Rg w T tv s) (k : RmT R T w lv cv hs n w' lv' cv' hs' V' C') : Rg w' T tv s ∧ RApart T tv R lv' cv' C'.length hs' :=
  ⟨hg.of_block fun b e => k.fr.block b (hg.lt e) (h b e), fun b e e2 => (k.own b e2).elim (h b e) fun e2 => by have := hg.lt e; omega⟩
theorem ndV_cells (s : Gr) (p : Nat) : ndV s.L (p * 3) = .bool (s.L p).isNone ∧ ∀ a b, s.L p = some (a, b) → ndV s.L (p * 3 + 1) = .int .i64 a ∧ ndV s.L (p * 3 + 2) = .int .i64 b := by
  unfold ndV
  rw [show p * 3 / 3 = p by omega, show (p * 3 + 1) / 3 = p by omega, show (p * 3 + 2) / 3 = p by omega, show p * 3 % 3 = 0 by omega, show (p * 3 + 1) % 3 = 1 by omega, show (p * 3 + 2) % 3 = 2 by omega]
  cases s.L p with
  | none => exact ⟨rfl, fun a b e => by cases e⟩
  | some q => obtain ⟨a, b⟩ := q; exact ⟨rfl, fun a' b' e => by cases e; exact ⟨rfl, rfl⟩⟩
def NeedIs (s : Gr) (w : World) (R T : Nat) (lv cv : Value) (hs : Nat → Value) (n : Nat) (Z : St) (e : Ending) (w' : World) : Prop :=
  e = .returned (.tuple #[]) ∧ ∃ lv' cv' hs', Hid (RmT R T w lv cv hs n w' lv' cv' hs' Z.1 Z.2)
set_option maxHeartbeats 8000000 in
theorem rneed_in (h : Rm w R T lv cv hs V C) (hV : V.length ≤ 100000) (n : Nat) (hn : n ∈ V) : Calls Try.prog 33 #[.pointer (some ⟨R, 0, none⟩), .int .i64 n] w (NeedIs s w R T lv cv hs C.length (V, C)) := by
  have HV := Lib.hid (var_any h (by omega) n)
  have hq := vr_pos.2 hn
  have HT := Lib.hid h.refl
  generalize vr V n = q at *
  have hqI : (0 : Int) < (q : Int) := by omega
  clear h
  go_enter Try.func33, Try.ntmps33
  go_wp2_with (go_at_call 19; refine HV.out.mono ?_; rintro e w1 ⟨rfl, rfl⟩)
  (refine bodyPost_ret (results_none rfl _ _ _) rfl ?_)
  exact ⟨rfl, lv, cv, hs, HT⟩
set_option maxHeartbeats 8000000 in
theorem rneed_leaf (h : Rm w R T lv cv hs V C) (hg : Rg w T tv s) (hsn : s.n ≤ 1000) (hV : V.length ≤ 100000) (n : Nat) (hn : n ≤ s.n) (hN : n ∉ V) (e : nd s n = none) : Calls Try.prog 33 #[.pointer (some ⟨R, 0, none⟩), .int .i64 n] w (NeedIs s w R T lv cv hs C.length (put s (V, C) n)) := by
  have HV := Lib.hid (var_any h (by omega) n)
  rw [vr_no hN] at HV
  have HT := Lib.hid h
  have HS := Lib.hid h.lsl
  have c0 := h.c0
  have c1 := h.c1
  have hZ : put s (V, C) n = (V ++ [n], C) := by simp [put, e]
  rw [hZ]
  obtain ⟨al, cl, rfl, _, _⟩ := h.lsl.shape
  by_cases h0 : n = 0
  · subst h0
    clear h hg e hZ
    go_enter Try.func33, Try.ntmps33
    go_wp2_with (first
      | (go_at_call 19; refine HV.out.mono ?_; rintro e w1 ⟨rfl, rfl⟩)
      | (at_builtin; refine Sl.app1 elemInt HS (.int .i64 (0 : Nat)) rfl (by unfold maxLen; omega) (by omega) rfl _ _ rfl rfl rfl ?_; intro a3 c3 w3 q1 q2 q3; obtain ⟨hd3, T3⟩ := HT.out.putL q1.out q2.out q3.out; have e31 := hd3.cell (i := 1) (by omega); have f31 := hd3.frozen 1; have H3 := Lib.hid T3; clear T3 hd3 q1 q2 q3))
    go_end0
    exact ⟨rfl, _, _, _, H3⟩
  · obtain ⟨p, rfl⟩ : ∃ p, n = p + 1 := ⟨n - 1, by omega⟩
    have hp : p < s.n := by omega
    have hL : s.L p = none := by simpa [nd] using e
    obtain ⟨g, c, hv, _, _, hgl⟩ := hg.sl.pos (by omega)
    subst hv
    have x0 := hg.sl.cell (j := p * 3) (by omega)
    rw [(ndV_cells s p).1, hL] at x0
    replace x0 : w.cell? ⟨g, p * 3, none⟩ = some (.bool true) := x0
    have t0 : w.cell? ⟨T, 0, none⟩ = some (.slice (some ⟨g, 0, none⟩) s.n c) := hg.hd.cell (i := 0) (by omega)
    have hpI : (p : Int) < (s.n : Int) := by omega
    have hpJ : (0 : Int) ≤ (p : Int) := by omega
    have hpK : (0 : Int) < (p : Int) + 1 := by omega
    clear h hg e hZ hL h0 hN hn
    go_enter Try.func33, Try.ntmps33
    go_wp2_with (first
      | (go_at_call 19; refine HV.out.mono ?_; rintro e w1 ⟨rfl, rfl⟩)
      | (at_builtin; refine Sl.app1 elemInt HS (.int .i64 (p + 1 : Nat)) rfl (by unfold maxLen; omega) (by omega) rfl _ _ rfl rfl rfl ?_; intro a3 c3 w3 q1 q2 q3; obtain ⟨hd3, T3⟩ := HT.out.putL q1.out q2.out q3.out; have e31 := hd3.cell (i := 1) (by omega); have f31 := hd3.frozen 1; have H3 := Lib.hid T3; clear T3 hd3 q1 q2 q3))
    go_end0
    exact ⟨rfl, _, _, _, H3⟩
end Go.Proofs.Ytpniffcojmlboaa
