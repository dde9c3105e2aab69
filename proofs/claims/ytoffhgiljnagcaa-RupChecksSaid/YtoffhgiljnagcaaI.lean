/- Normal forms: the same literals, each once; tautologies. -/
import Derived.Test.YtoffhgiljnagcaaRJ
import Derived.Test.YtoffhgiljnagcaaZa
namespace Go.Proofs.Ytoffhgiljnagcaa

theorem asc_get {l : List Int} (h : Asc l) {i j : Nat} (hij : i < j) (hj : j < l.length) : rk (gd l i) < rk (gd l j) := by
  rw [gd_lt hj, gd_lt (by omega : i < l.length)]
  exact (List.pairwise_iff_getElem.1 h) i j (by omega) hj hij
theorem mem_gd {l : List Int} {x : Int} : x ∈ l ↔ ∃ i, i < l.length ∧ gd l i = x := by
  rw [List.mem_iff_getElem]
  constructor
  · rintro ⟨i, hi, e⟩; exact ⟨i, hi, by rw [gd_lt hi]; exact e⟩
  · rintro ⟨i, hi, e⟩; exact ⟨i, hi, by rw [← gd_lt hi]; exact e⟩
theorem nfv_mem {l : List Int} (hl : ∀ x ∈ l, lit x = true) (x : Int) : x ∈ nfv l ↔ x ∈ l := by
  rw [nfv_lit l hl]
  exact ⟨mem_nf, (nf_facts l hl).1 x⟩
theorem nfv_asc {l : List Int} (hl : ∀ x ∈ l, lit x = true) : Asc (nfv l) := by
  rw [nfv_lit l hl]; exact (nf_facts l hl).2
theorem nfv_inj {l : List Int} (hl : ∀ x ∈ l, lit x = true) {i j : Nat} (hi : i < (nfv l).length) (hj : j < (nfv l).length) (e : gd (nfv l) i = gd (nfv l) j) : i = j := by
  rcases Nat.lt_trichotomy i j with h | h | h
  · have := asc_get (nfv_asc hl) h hj; rw [e] at this; omega
  · exact h
  · have := asc_get (nfv_asc hl) h hi; rw [e] at this; omega
theorem tautv_iff {l : List Int} (hl : ∀ x ∈ l, lit x = true) : tautv l = true ↔ Taut l := by
  unfold tautv
  rw [oppF_iff]
  constructor
  · rintro ⟨j, hj, e⟩
    refine ⟨gd (nfv l) j, (nfv_mem hl _).1 (mem_gd.2 ⟨j, by omega, rfl⟩), ?_⟩
    rw [← e]
    exact (nfv_mem hl _).1 (mem_gd.2 ⟨j + 1, hj, rfl⟩)
  · have key : ∀ x, 0 < x → x ∈ l → -x ∈ l → ∃ j, j + 1 < (nfv l).length ∧ gd (nfv l) (j + 1) = -gd (nfv l) j := by
      intro x hx h1 h2
      obtain ⟨i, hi, ei⟩ := mem_gd.1 ((nfv_mem hl x).2 h1)
      obtain ⟨j, hj, ej⟩ := mem_gd.1 ((nfv_mem hl (-x)).2 h2)
      have r1 : rk x = 2 * x - 1 := if_pos hx
      have r2 : rk (-x) = 2 * x := by unfold rk; rw [if_neg (by omega)]; omega
      have hij : i < j := by
        rcases Nat.lt_trichotomy i j with h | h | h
        · exact h
        · subst h; rw [ei] at ej; omega
        · have := asc_get (nfv_asc hl) h hi; rw [ei, ej] at this; omega
      have hj1 : j = i + 1 := by
        rcases Nat.lt_or_ge (i + 1) j with h | h
        · have a := asc_get (nfv_asc hl) (show i < i + 1 by omega) (by omega : i + 1 < (nfv l).length)
          have b := asc_get (nfv_asc hl) h hj
          rw [ei] at a; rw [ej] at b
          omega
        · omega
      subst hj1
      exact ⟨i, hj, by rw [ej, ei]⟩
    rintro ⟨x, h1, h2⟩
    have h0 := lit_iff.1 (hl x h1)
    by_cases hx : 0 < x
    · exact key x hx h1 h2
    · exact key (-x) (by omega) h2 (by rw [Int.neg_neg]; exact h1)
theorem nfv_no {l : List Int} (hl : ∀ x ∈ l, lit x = true) (ht : tautv l = false) {i j : Nat} (hi : i < (nfv l).length) (hj : j < (nfv l).length) : gd (nfv l) i ≠ -gd (nfv l) j := by
  intro e
  have hT : Taut l := ⟨gd (nfv l) j, (nfv_mem hl _).1 (mem_gd.2 ⟨j, hj, rfl⟩), by rw [← e]; exact (nfv_mem hl _).1 (mem_gd.2 ⟨i, hi, rfl⟩)⟩
  rw [(tautv_iff hl).2 hT] at ht; cases ht
theorem nfv_le (l : List Int) : (nfv l).length ≤ l.length := by
  unfold nfv
  split
  · exact nf_length l
  · simp
theorem litF_mem {f : Nat → Int} {n : Nat} (h : litF f n = true) : ∀ x ∈ lof f n, lit x = true := by
  rw [← List.all_eq_true, litF_all]; exact h
end Go.Proofs.Ytoffhgiljnagcaa
