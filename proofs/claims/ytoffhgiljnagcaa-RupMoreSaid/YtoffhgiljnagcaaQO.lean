/- The law: more clauses: all arguments. -/
import Derived.Test.YtoffhgiljnagcaaQN
import Derived.Test.YtoffhgiljnagcaaQI
namespace Go.Proofs.Ytoffhgiljnagcaa
open Go.ChangeShapes Go.WideShapes Go.ChangeAt Go.RowKit Go.Lib

theorem nil_rows {H : Type} {enc : TypeId × Value → H} {w : World} {base : Nat} {held : Bool} {a0 : Option Addr} {len0 cap0 : Nat} {x : DataW H × List MemPlace} {fuel : Nat}
    (hf : DataW.trod enc Try.prog w base (fun _ => true) held fuel 22 (Value.slice a0 len0 cap0).cells.toList = some x) : a0 = none → len0 = 0 ∧ cap0 = 0 := by
  rcases Deep.open_int_rows Try.underlying22 Try.underlying23 Try.underlying3 cells23 cells3 hf with ⟨hcs, _⟩ | ⟨x, l, c, A, L, C, Z, hcs, _, hl, hm, _, hcell⟩
  · simp [Value.cells] at hcs
    exact fun _ => hcs.2
  · simp [Value.cells] at hcs
    rw [hcs.1]
    intro h
    cases h
theorem nil_ints {H : Type} {enc : TypeId × Value → H} {w : World} {base : Nat} {held : Bool} {a0 : Option Addr} {len0 cap0 : Nat} {x : DataW H × List MemPlace} {fuel : Nat}
    (hf : DataW.trod enc Try.prog w base (fun _ => true) held fuel 23 (Value.slice a0 len0 cap0).cells.toList = some x) : a0 = none → len0 = 0 ∧ cap0 = 0 := by
  rcases open_ints Try.underlying23 Try.underlying3 cells3 hf with ⟨hcs, _⟩ | ⟨x, l, c, zs, hcs, _, hl, hm, hz, _, hcell, hwz⟩
  · simp [Value.cells] at hcs
    exact fun _ => hcs.2
  · simp [Value.cells] at hcs
    rw [hcs.1]
    intro h
    cases h
theorem more_any (a0 a1 a2 : Option Addr) (n0 c0 n1 c1 n2 c2 : Nat) (R : Nat → Row) (f1 f2 : Nat → Int) (W : World) (hn0 : n0 ≤ 9223372036854775807) (hnc : n0 ≤ c0) (hc0 : c0 ≤ 9223372036854775807) (hR : ∀ j, j < n0 → (R j).n ≤ 9223372036854775807) (hr : Rws W a0 n0 R) (hnil : a0 = none → n0 = 0 ∧ c0 = 0) (hf1 : Has W a1 n1 f1) (hf2 : Has W a2 n2 f2) :
    Calls Try.prog 6 #[.slice a0 n0 c0, .slice a1 n1 c1, .slice a2 n2 c2] W fun e w' => e = .returned (.bool true) ∧ Below W.heap.size W w' := by
  have hS : ∀ w1, Below W.heap.size W w1 → Calls Try.prog 9 #[.slice a0 n0 c0, .int .i64 30, .int .i64 100000] w1 fun e w' => e = .returned (.bool (small R n0 30)) ∧ w1 = w' := fun w1 hb =>
    small_any a0 n0 c0 R 30 100000 (by omega) w1 hn0 (by omega) hnc hc0 hR (hr.below hb)
  by_cases h : small R n0 30 = false ∨ 12 < n1 ∨ 12 < n2 ∨ litF f1 n1 = false
  · exact more_out W a0 a1 a2 n0 c0 n1 c1 n2 c2 R f1 hS (fun hn w1 hb => refRight_any a1 n1 c1 f1 w1 (by omega) (hf1.below hb)) h
  · have h' : small R n0 30 = true := by
      cases e : small R n0 30
      · exact absurd (.inl e) h
      · rfl
    have h'' : litF f1 n1 = true := by
      cases e : litF f1 n1
      · exact absurd (.inr (.inr (.inr e))) h
      · rfl
    exact more_in W a0 a1 a2 n0 c0 n1 c1 n2 c2 R f1 f2 hS h' (by omega) (by omega) h'' hr hnil hf1 hf2
end Go.Proofs.Ytoffhgiljnagcaa
