/- Normal forms, as plain lists: strictly ascending, the same literals, their own normal forms. -/
import Derived.Test.YtoffhgiljnagcaaRF
namespace Go.Proofs.Ytoffhgiljnagcaa
open Go.RowKit Go.Lib Go.Sort

def Asc (l : List Int) : Prop := l.Pairwise fun x y => rk x < rk y

theorem srt_sorted (l : List Int) : (srt l).Pairwise fun x y => rk x ≤ rk y := by
  have := List.pairwise_mergeSort (le := le) (fun a b c => by simp [le]; omega) (fun a b => by simp [le]; omega) l
  exact this.imp (by simp [le])

theorem compactUpTo_facts (d : Array Int) (hl : ∀ i, i < d.size → lit d[i]! = true) (hs : ∀ i j, i ≤ j → j < d.size → rk d[i]! ≤ rk d[j]!) :
    ∀ m, m ≤ d.size → (∀ i, i < m → d[i]! ∈ compactUpTo d m) ∧ Asc (compactUpTo d m) ∧ ∀ x ∈ compactUpTo d m, ∃ i, i < m ∧ x = d[i]!
  | 0, _ => ⟨fun i h => absurd h (Nat.not_lt_zero _), by simp [compactUpTo, Asc], by simp [compactUpTo]⟩
  | m + 1, hm => by
    obtain ⟨h1, h2, h3⟩ := compactUpTo_facts d hl hs m (by omega)
    rw [compactUpTo_succ]
    cases hk : keeps d m
    · have hm0 : 0 < m ∧ d[m]! = d[m - 1]! := by
        simp only [keeps, decide_eq_false_iff_not] at hk
        constructor
        · omega
        · by_cases e : d[m]! = d[m - 1]!
          · exact e
          · exact absurd (.inr e) hk
      refine ⟨fun i hi => ?_, by simpa using h2, fun x hx => ?_⟩
      · by_cases e : i = m
        · subst e
          have := h1 (i - 1) (by omega)
          rw [← hm0.2] at this
          simpa using this
        · simpa using h1 i (by omega)
      · obtain ⟨i, hi, e⟩ := h3 x (by simpa using hx)
        exact ⟨i, by omega, e⟩
    · refine ⟨fun i hi => ?_, ?_, fun x hx => ?_⟩
      · by_cases e : i = m
        · subst e; simp
        · simp [h1 i (by omega)]
      · simp only [if_true]
        unfold Asc
        rw [List.pairwise_append]
        refine ⟨h2, by simp, fun x hx y hy => ?_⟩
        obtain rfl : y = d[m]! := by simpa using hy
        obtain ⟨i, hi, rfl⟩ := h3 x hx
        have a1 := hs i (m - 1) (by omega) (by omega)
        have a2 := hs (m - 1) m (by omega) (by omega)
        have a3 : d[m]! ≠ d[m - 1]! := by
          simp only [keeps, decide_eq_true_eq] at hk
          rcases hk with hk | hk
          · omega
          · exact hk
        by_cases h : rk d[m - 1]! < rk d[m]!
        · omega
        · exact absurd (rk_inj (hl m (by omega)) (hl (m - 1) (by omega)) (by omega)) a3
      · simp only [if_true, List.mem_append, List.mem_singleton] at hx
        rcases hx with hx | rfl
        · obtain ⟨i, hi, e⟩ := h3 x hx
          exact ⟨i, by omega, e⟩
        · exact ⟨m, by omega, rfl⟩

theorem nf_facts (l : List Int) (hl : ∀ x ∈ l, lit x = true) : (∀ x ∈ l, x ∈ nf l) ∧ Asc (nf l) := by
  have hss := srt_sorted l
  have hms : ∀ x ∈ srt l, lit x = true := fun x hx => hl x (List.mem_mergeSort.1 hx)
  have hg : ∀ i (h : i < (srt l).length), (srt l).toArray[i]! = (srt l)[i] := fun i h => by simp [h]
  obtain ⟨h1, h2, _⟩ := compactUpTo_facts (srt l).toArray (fun i hi => by
      rw [hg i (by simpa using hi)]; exact hms _ (List.getElem_mem _)) (fun i j hij hj => by
      have hj' : j < (srt l).length := by simpa using hj
      rw [hg i (by omega), hg j hj']
      rcases Nat.lt_or_eq_of_le hij with h | rfl
      · exact List.pairwise_iff_getElem.1 hss i j (by omega) hj' h
      · exact Int.le_refl _) (srt l).length (by simp)
  refine ⟨fun x hx => ?_, h2⟩
  obtain ⟨i, hi, rfl⟩ := List.getElem_of_mem (show x ∈ srt l from List.mem_mergeSort.2 hx)
  have := h1 i hi
  rw [hg i hi] at this
  exact this

theorem nf_asc {l : List Int} (h : Asc l) : nf l = l := by
  have hs : srt l = l := List.mergeSort_of_pairwise (h.imp (by simp [le]; omega))
  unfold nf
  rw [hs]
  refine compact_all l fun j hj => ?_
  by_cases e : j = 0
  · subst e; rfl
  · have := List.pairwise_iff_getElem.1 h (j - 1) j (by omega) hj (by omega)
    apply keeps_pos
    have e1 : l.toArray[j]! = l[j] := by simp [hj]
    have e2 : l.toArray[j - 1]! = l[j - 1] := by simp [show j - 1 < l.length by omega]
    rw [e1, e2]
    intro hh
    rw [hh] at this
    omega
theorem nfv_lit (l : List Int) (hl : ∀ x ∈ l, lit x = true) : nfv l = nf l := by
  unfold nfv; rw [if_pos (List.all_eq_true.2 hl)]
theorem nfv_again (l : List Int) (hl : ∀ x ∈ l, lit x = true) : nfv (nfv l) = nfv l := by
  rw [nfv_lit l hl, nfv_lit _ (fun x hx => hl x (mem_nf hx)), nf_asc (nf_facts l hl).2]
theorem tautv_again (l : List Int) (hl : ∀ x ∈ l, lit x = true) : tautv (nfv l) = tautv l := by
  unfold tautv; rw [nfv_again l hl]
theorem lof_gd (l : List Int) : lof (gd l) l.length = l := by
  apply List.ext_getElem
  · simp [lof]
  · intro i h1 h2; simp [lof, gd, h2]
theorem inF_mem {f : Nat → Int} {n : Nat} {x : Int} : inF f n x = true ↔ x ∈ lof f n := by
  rw [inF_iff]; simp [lof]
end Go.Proofs.Ytoffhgiljnagcaa
