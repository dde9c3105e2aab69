/- Contracts: Clone, Inputs; the closure of Eval. -/
import Derived.Test.YtpniffcojmlboaaP
import Derived.Test.YtpniffcojmlboaaQ
import Derived.Lib.SliceRun
namespace Go.Proofs.Ytpniffcojmlboaa
open Go.RowKit Go.Lib Go.Maps
set_option maxRecDepth 100000

/-- slices.Clone -/
theorem clone_any {w : World} {v : Value} {n : Nat} {f : Nat → Value} (h : Sl w 3 1 v n f) (hf : ∀ j, j < n → (f j).oneCell' = true) (hn : n ≤ 1000000) :
    Calls Try.prog 38 #[v] w fun e w' => ∃ a c, e = .returned (.slice a n c) ∧ Hid (Frs 3 w w' (.slice a n c) n f) := by
  have q31 : ∀ (w : World) (a : Option Addr) (n c n' c' : Nat), (binOp .eql 26 (.slice a n c) (.slice none n' c')).run Try.prog w = .ok (.bool a.isNone) w := fun w a n c n' c' => Lib.run_eql_slice_nil w _ _ a n c n' c' Try.underlying26
  have hs := h
  rcases h with ⟨rfl, rfl⟩ | ⟨g, c, F, rfl, h2, h3, h4, h5⟩
  · go_enter Try.func38, Try.ntmps38
    go_wp2
    go_ret
    exact ⟨none, 0, rfl, Lib.hid (Frs.nil (Below.refl _ _) _)⟩
  · have HS := Lib.hid (show Src (w.alloc (.cells #[] 3)) (some ⟨g, 0, none⟩) n c f from .inr ⟨_, rfl, fun j hj => ⟨by
      rw [adr, Nat.zero_add]
      exact (hs.of_block (w' := w.alloc (.cells #[] 3)) fun b e => Below.heap_alloc _ _ _ (hs.lt e)).cell (j := j) (by omega), hf j hj⟩⟩)
    clear hs h4 h5 hf
    go_enter Try.func38, Try.ntmps38
    go_wp2_with (at_builtin; refine Frs.app0 elemInt (Below.refl _ _) HS.out (by unfold maxLen; omega) (by omega) rfl _ _ rfl rfl rfl ?_; intro a' c' w' HF)
    go_ret
    exact ⟨a', c', rfl, HF⟩
section
variable {w : World} {G M : Nat} {v iv : Value} {s : Gr}
/-- Inputs -/
theorem inputs_any (h : Gm w G M v iv s) (hn : s.n ≤ 100000) :
    Calls Try.prog 20 #[.pointer (some ⟨G, 0, none⟩)] w fun e w' => ∃ a c, e = .returned (.slice a (cnt s.L s.n) c) ∧ Hid (Frs 3 w w' (.slice a (cnt s.L s.n) c) (cnt s.L s.n) (inV s)) := by
  have hc := cnt_le s.L s.n
  have HC := Lib.hid (clone_any h.inp (fun j _ => rfl) (by omega))
  obtain ⟨a, c, rfl, _, _⟩ := h.inp.shape
  have c2 := h.cell2
  clear h
  go_enter Try.func20, Try.ntmps20
  go_wp2_with (go_at_call 38; refine HC.out.mono ?_; rintro e w' ⟨a', c', rfl, HF⟩)
  go_ret
  exact ⟨a', c', rfl, HF⟩
set_option maxHeartbeats 1000000 in
/-- value, the closure of Eval: P the place of g, B that of values; the values are f. -/
theorem value_any (h : Gm w G M v iv s) (hn : s.n ≤ 100000) {P B b c : Nat} {f : Nat → Bool} (hP : w.cell? ⟨P, 0, none⟩ = some (.pointer (some ⟨G, 0, none⟩))) (hB : w.cell? ⟨B, 0, none⟩ = some (.slice (some ⟨b, 0, none⟩) (s.n + 1) c))
    (hf : ∀ j, j ≤ s.n → w.cell? ⟨b, j, none⟩ = some (.bool (f j))) (h0 : f 0 = false) (x : Nat) (hx : x < 2 * (s.n + 1)) :
    Calls Try.prog 35 #[.int .i64 x, .pointer (some ⟨P, 0, none⟩), .pointer (some ⟨B, 0, none⟩)] w fun e w' => e = .returned (.bool (ed f x)) ∧ w = w' := by
  have HO := Lib.hid (show Calls Try.prog 36 #[.pointer (some ⟨G, 0, none⟩), .int .i64 x] w fun e w' => e = .returned (.int .i64 x) ∧ w = w' by
    have := own_any h hn x (by omega)
    rw [edg_of hx] at this
    exact this)
  have hc := hf (x / 2) (by omega)
  clear h hf
  by_cases e0 : x = 0
  · subst e0
    rw [ed_zero h0]
    clear hc h0 hx
    go_enter Try.func35, Try.ntmps35
    go_wp2_with (go_at_call 36; refine HO.out.mono ?_; rintro e w' ⟨rfl, rfl⟩)
    go_ret
    exact ⟨rfl, rfl⟩
  · have e1 : ((x : Int) == 0) = false := by rw [beq_eq_false_iff_ne]; omega
    have e2 : ¬ (x : Int) = 0 := by omega
    have e3 : ed f x = (f (x / 2) == (((x : Int) % 2) == 0)) := by
      unfold ed
      have hm : x % 2 = 0 ∨ x % 2 = 1 := by omega
      rcases hm with hm | hm
      · rw [show (((x : Int) % 2) == 0) = true by rw [beq_iff_eq]; omega, hm]; cases f (x / 2) <;> rfl
      · rw [show (((x : Int) % 2) == 0) = false by rw [beq_eq_false_iff_ne]; omega, hm]; cases f (x / 2) <;> rfl
    have e5 : ((x : Int) != 0) = true := by rw [bne_iff_ne]; omega
    rw [e3]
    generalize f (x / 2) = fx at *
    have e4 : (x : Int) / 2 < (s.n : Int) + 1 := by omega
    clear h0 e0 e3
    go_enter Try.func35, Try.ntmps35
    go_wp2_with (go_at_call 36; refine HO.out.mono ?_; rintro e w' ⟨rfl, rfl⟩)
    go_ret
    exact ⟨rfl, rfl⟩
end
end Go.Proofs.Ytpniffcojmlboaa
