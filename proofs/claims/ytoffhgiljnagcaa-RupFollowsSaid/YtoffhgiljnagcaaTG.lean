/- The law: what follows: all arguments. -/
import Derived.Test.YtoffhgiljnagcaaTF
namespace Go.Proofs.Ytoffhgiljnagcaa
open Go.ChangeShapes Go.WideShapes Go.ChangeAt Go.RowKit Go.Lib

section
variable {H : Type} {enc : TypeId × Value → H} {w : World} {base : Nat} {held : Bool}
/-- A list of lists of numbers, with room in each. -/
theorem in_rowsC {a0 : Option Addr} {len0 cap0 : Nat} {x : DataW H × List MemPlace} {fuel : Nat}
    (hf : DataW.trod enc Try.prog w base (fun _ => true) held fuel 22 (Value.slice a0 len0 cap0).cells.toList = some x) :
    ∃ R : Nat → Row, Rws w a0 len0 R ∧ len0 ≤ 9223372036854775807 ∧ len0 ≤ cap0 ∧ (∀ j, j < len0 → (R j).n ≤ 9223372036854775807) ∧ (∀ j, j < len0 → (R j).n ≤ (R j).c ∧ (R j).c ≤ 9223372036854775807) ∧ (a0 = none → len0 = 0 ∧ cap0 = 0) ∧ ∀ j, j < len0 → (R j).a = none → (R j).n = 0 ∧ (R j).c = 0 := by
  rcases Deep.open_int_rows Try.underlying22 Try.underlying23 Try.underlying3 cells23 cells3 hf with ⟨hcs, _⟩ | ⟨x, l, c, A, L, C, Z, hcs, _, hl, hm, _, hcell⟩
  · simp [Value.cells] at hcs
    obtain ⟨rfl, rfl, rfl⟩ := hcs
    exact ⟨fun _ => ⟨none, 0, 0, fun _ => 0⟩, .inl rfl, by omega, Nat.le_refl _, fun _ _ => Nat.zero_le _, fun _ _ => ⟨Nat.le_refl _, Nat.zero_le _⟩, fun _ => ⟨rfl, rfl⟩, fun _ _ _ => ⟨rfl, rfl⟩⟩
  · simp [Value.cells] at hcs
    obtain ⟨rfl, rfl, rfl⟩ := hcs
    refine ⟨fun j => ⟨A j, L j, C j, fun i => (Z j).getD i 0⟩, ?_, by unfold maxLen at hm; omega, hl, fun j hj => ?_, fun j hj => ?_, (fun h => by cases h), fun j hj h => ?_⟩
    · by_cases h0 : len0 = 0
      · exact .inl h0
      · obtain ⟨b, off, rfl, hb, hc⟩ := addr_all (n := cap0) (f := fun i => .slice (A i) (L i) (C i)) (by omega) (fun i hi => (hcell i hi).1)
        refine .inr ⟨b, off, rfl, hb, fun j hj => ⟨hc j (by omega), ?_⟩⟩
        obtain ⟨_, h2, _, _, _, h6, h7⟩ := hcell j (by omega)
        by_cases hj0 : L j = 0
        · exact .inl hj0
        · cases hA : A j with
          | none => have := h6 hA; omega
          | some a' =>
            obtain ⟨b', off', rfl, hb', hc'⟩ := addr_all (n := C j) (f := fun i => .int .i64 ((Z j).getD i 0)) (by omega) (h7 a' hA).2
            exact .inr ⟨b', off', hA, hb', fun i hi => hc' i (by simp only at hi; omega)⟩
    · obtain ⟨_, h2, h3, _⟩ := hcell j (by omega)
      unfold maxLen at h3; simp only; omega
    · obtain ⟨_, h2, h3, _⟩ := hcell j (by omega)
      unfold maxLen at h3; simp only; omega
    · obtain ⟨_, h2, _, _, _, h6, h7⟩ := hcell j (by omega)
      have := h6 h
      simp only; omega
end
theorem lawFollows_any (a0 a1 : Option Addr) (n0 c0 n1 c1 : Nat) (R : Nat → Row) (f : Nat → Int) (W : World) (hn0 : n0 ≤ 9223372036854775807) (hnc : n0 ≤ c0) (hc0 : c0 ≤ 9223372036854775807) (hR : ∀ j, j < n0 → (R j).n ≤ 9223372036854775807) (hcap : ∀ j, j < n0 → (R j).n ≤ (R j).c ∧ (R j).c ≤ 9223372036854775807) (hr : Rws W a0 n0 R) (hnil : a0 = none → n0 = 0 ∧ c0 = 0) (hf : Has W a1 n1 f) :
    Calls Try.prog 3 #[.slice a0 n0 c0, .slice a1 n1 c1] W fun e w' => e = .returned (.bool true) ∧ Below W.heap.size W w' := by
  have hS : ∀ w1, Below W.heap.size W w1 → Calls Try.prog 9 #[.slice a0 n0 c0, .int .i64 40, .int .i64 100000] w1 fun e w' => e = .returned (.bool (small R n0 40)) ∧ w1 = w' := fun w1 hb =>
    small_any a0 n0 c0 R 40 100000 (by omega) w1 hn0 (by omega) hnc hc0 hR (hr.below hb)
  by_cases h : small R n0 40 = false ∨ 12 < n1
  · exact follows_out W a0 a1 n0 c0 n1 c1 R hS h
  · have h' : small R n0 40 = true := by
      cases e : small R n0 40
      · exact absurd (.inl e) h
      · rfl
    exact follows_in W a0 a1 n0 c0 n1 c1 R f hS h' (by omega) hcap hr hnil hf
end Go.Proofs.Ytoffhgiljnagcaa
