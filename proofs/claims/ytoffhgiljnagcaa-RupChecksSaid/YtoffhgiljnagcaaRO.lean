/- The answer's way to a normal form, as plain lists. -/
import Derived.Test.YtoffhgiljnagcaaRJ
namespace Go.Proofs.Ytoffhgiljnagcaa
open Go.RowKit Go.Lib Go.Sort

theorem asc_unique : ∀ {a b : List Int}, Asc a → Asc b → (∀ x, x ∈ a ↔ x ∈ b) → a = b
  | [], [], _, _, _ => rfl
  | [], y :: b, _, _, h => absurd ((h y).2 (by simp)) (by simp)
  | x :: a, [], _, _, h => absurd ((h x).1 (by simp)) (by simp)
  | x :: a, y :: b, ha, hb, h => by
    obtain ⟨ha1, ha2⟩ := List.pairwise_cons.1 ha
    obtain ⟨hb1, hb2⟩ := List.pairwise_cons.1 hb
    have e : x = y := by
      rcases List.mem_cons.1 ((h x).1 (by simp)) with e | hx
      · exact e
      · rcases List.mem_cons.1 ((h y).2 (by simp)) with e | hy
        · exact e.symm
        · have := ha1 y hy
          have := hb1 x hx
          omega
    subst e
    rw [asc_unique ha2 hb2 (fun z => ?_)]
    constructor
    · intro hz
      rcases List.mem_cons.1 ((h z).1 (by simp [hz])) with e | h'
      · have := ha1 z hz; rw [e] at this; omega
      · exact h'
    · intro hz
      rcases List.mem_cons.1 ((h z).2 (by simp [hz])) with e | h'
      · have := hb1 z hz; rw [e] at this; omega
      · exact h'

theorem rk_av {x : Int} : rk x = if 0 < x then 2 * av x - 1 else 2 * av x := by
  unfold rk av; split <;> split <;> omega
theorem av_neg {v : Int} : av (-v) = av v := by unfold av; split <;> split <;> omega

/-- The least variable above L so far. -/
def mv1 (L v x : Int) : Int := if av x > L ∧ (v = 0 ∨ av x < v) then av x else v
def mv (L : Int) (l : List Int) : Int := l.foldl (mv1 L) 0
theorem mv_snoc (L : Int) (l : List Int) (x : Int) : mv L (l ++ [x]) = mv1 L (mv L l) x := by simp [mv]
theorem snoc_ind {P : List Int → Prop} (h0 : P []) (h1 : ∀ l x, P l → P (l ++ [x])) (l : List Int) : P l := by
  rw [← List.reverse_reverse l]
  induction l.reverse with
  | nil => exact h0
  | cons x l ih => rw [List.reverse_cons]; exact h1 _ _ ih
theorem mv_facts (L : Int) (hL : 0 ≤ L) (l : List Int) : (mv L l = 0 ∧ ∀ x ∈ l, av x ≤ L) ∨ (L < mv L l ∧ (∃ x ∈ l, av x = mv L l) ∧ ∀ x ∈ l, av x > L → mv L l ≤ av x) := by
  refine snoc_ind (P := fun l => (mv L l = 0 ∧ ∀ x ∈ l, av x ≤ L) ∨ (L < mv L l ∧ (∃ x ∈ l, av x = mv L l) ∧ ∀ x ∈ l, av x > L → mv L l ≤ av x)) ?_ (fun l x ih => ?_) l
  · exact .inl ⟨rfl, by simp⟩
  · rw [mv_snoc]
    generalize mv L l = m at ih
    unfold mv1
    by_cases h : av x > L ∧ (m = 0 ∨ av x < m)
    · rw [if_pos h]
      refine .inr ⟨h.1, ⟨x, by simp, rfl⟩, fun y hy hyL => ?_⟩
      rcases List.mem_append.1 hy with hy | hy
      · rcases ih with ⟨_, ih⟩ | ⟨h1, _, ih⟩
        · have := ih y hy; omega
        · have := ih y hy hyL; omega
      · obtain rfl : y = x := by simpa using hy
        omega
    · rw [if_neg h]
      rcases ih with ⟨h1, ih⟩ | ⟨h1, ⟨z, hz, hz2⟩, ih⟩
      · refine .inl ⟨h1, fun y hy => ?_⟩
        rcases List.mem_append.1 hy with hy | hy
        · exact ih y hy
        · obtain rfl : y = x := by simpa using hy
          omega
      · refine .inr ⟨h1, ⟨z, by simp [hz], hz2⟩, fun y hy hyL => ?_⟩
        rcases List.mem_append.1 hy with hy | hy
        · exact ih y hy hyL
        · obtain rfl : y = x := by simpa using hy
          omega

/-- What has been laid when the variables up to L are done. -/
def upTo (l : List Int) (L : Int) : List Int := (nf l).filter fun x => decide (av x ≤ L)
theorem upTo_mem {l : List Int} (hl : ∀ x ∈ l, lit x = true) {L x : Int} : x ∈ upTo l L ↔ x ∈ l ∧ av x ≤ L := by
  simp only [upTo, List.mem_filter, decide_eq_true_eq]
  exact ⟨fun ⟨h1, h2⟩ => ⟨mem_nf h1, h2⟩, fun ⟨h1, h2⟩ => ⟨(nf_facts l hl).1 x h1, h2⟩⟩
theorem upTo_asc {l : List Int} (hl : ∀ x ∈ l, lit x = true) (L : Int) : Asc (upTo l L) := (nf_facts l hl).2.filter _
theorem upTo_zero {l : List Int} (hl : ∀ x ∈ l, lit x = true) : upTo l 0 = [] := by
  rw [List.eq_nil_iff_forall_not_mem]
  intro x hx
  obtain ⟨h1, h2⟩ := (upTo_mem hl).1 hx
  have := lit_iff.1 (hl x h1)
  unfold av at h2; split at h2 <;> omega
theorem upTo_all {l : List Int} (L : Int) (h : ∀ x ∈ l, av x ≤ L) : upTo l L = nf l := by
  unfold upTo
  rw [List.filter_eq_self]
  intro x hx
  exact decide_eq_true (h x (mem_nf hx))
def pos1 (l : List Int) (v : Int) : List Int := if l.contains v then [v] else []
def neg1 (l : List Int) (v : Int) : List Int := if l.contains (-v) then [-v] else []
theorem upTo_next {l : List Int} (hl : ∀ x ∈ l, lit x = true) {L v : Int} (hL : 0 ≤ L) (hv : L < v) (hleast : ∀ x ∈ l, av x > L → v ≤ av x) :
    upTo l v = upTo l L ++ pos1 l v ++ neg1 l v := by
  have e1 : ∀ x, x ∈ pos1 l v ↔ x = v ∧ v ∈ l := fun x => by
    unfold pos1; split <;> rename_i h <;> simp at h <;> simp [h]
  have e2 : ∀ x, x ∈ neg1 l v ↔ x = -v ∧ -v ∈ l := fun x => by
    unfold neg1; split <;> rename_i h <;> simp at h <;> simp [h]
  have hvv : av v = v := by unfold av; split <;> omega
  have hlv : ∀ x, av x = v → x = v ∨ x = -v := fun x h => by unfold av at h; split at h <;> omega
  refine asc_unique (upTo_asc hl v) ?_ (fun x => ?_)
  · unfold Asc
    rw [List.pairwise_append, List.pairwise_append]
    have hp : Asc (pos1 l v) := by unfold pos1; split <;> simp [Asc]
    have hn : Asc (neg1 l v) := by unfold neg1; split <;> simp [Asc]
    have k1 : rk v = 2 * v - 1 := by unfold rk; rw [if_pos (by omega)]
    have k2 : rk (-v) = 2 * v := by unfold rk; rw [if_neg (by omega)]; omega
    have k3 : ∀ x ∈ upTo l L, rk x ≤ 2 * L := fun x hx => by
      have := ((upTo_mem hl).1 hx).2
      rw [rk_av]; split <;> omega
    refine ⟨⟨upTo_asc hl L, hp, fun x hx y hy => ?_⟩, hn, fun x hx y hy => ?_⟩
    · have := k3 x hx
      rw [((e1 y).1 hy).1]; omega
    · rw [((e2 y).1 hy).1, k2]
      rcases List.mem_append.1 hx with hx | hx
      · have := k3 x hx; omega
      · rw [((e1 x).1 hx).1]; omega
  · rw [List.mem_append, List.mem_append, upTo_mem hl, upTo_mem hl, e1, e2]
    constructor
    · rintro ⟨h1, h2⟩
      by_cases h : av x ≤ L
      · exact .inl (.inl ⟨h1, h⟩)
      · have := hleast x h1 (by omega)
        rcases hlv x (by omega) with rfl | rfl
        · exact .inl (.inr ⟨rfl, h1⟩)
        · exact .inr ⟨rfl, h1⟩
    · rintro ((⟨h1, h2⟩ | ⟨rfl, h1⟩) | ⟨rfl, h1⟩)
      · exact ⟨h1, by omega⟩
      · exact ⟨h1, by omega⟩
      · exact ⟨h1, by rw [av_neg]; omega⟩

/-- Is there a variable up to L with both its literals? -/
def both (l : List Int) (L : Int) : Bool := l.any fun x => decide (0 < x ∧ x ≤ L) && l.contains (-x)
theorem both_iff {l : List Int} {L : Int} : both l L = true ↔ ∃ x ∈ l, 0 < x ∧ x ≤ L ∧ -x ∈ l := by
  simp [both, and_assoc]
theorem both_zero (l : List Int) : both l 0 = false := by
  rw [← Bool.not_eq_true, both_iff]; rintro ⟨x, _, h1, h2, _⟩; omega
theorem both_next {l : List Int} {L v : Int} (hv : L < v) (hL : 0 ≤ L) (hleast : ∀ x ∈ l, av x > L → v ≤ av x) : both l v = (both l L || (l.contains v && l.contains (-v))) := by
  rw [Bool.eq_iff_iff, Bool.or_eq_true, both_iff, both_iff]
  simp only [Bool.and_eq_true, List.contains_iff_mem]
  constructor
  · rintro ⟨x, h1, h2, h3, h4⟩
    by_cases h : x ≤ L
    · exact .inl ⟨x, h1, h2, h, h4⟩
    · have hx : av x = x := by unfold av; split <;> omega
      have := hleast x h1 (by omega)
      obtain rfl : x = v := by omega
      exact .inr ⟨h1, h4⟩
  · rintro (⟨x, h1, h2, h3, h4⟩ | ⟨h1, h2⟩)
    · exact ⟨x, h1, h2, by omega, h4⟩
    · exact ⟨v, h1, by omega, by omega, h2⟩
theorem both_taut {l : List Int} (hl : ∀ x ∈ l, lit x = true) {L : Int} (h : ∀ x ∈ l, av x ≤ L) : both l L = tautv l := by
  rw [Bool.eq_iff_iff, both_iff]
  unfold tautv
  rw [nfv_lit l hl, oppF_iff]
  have hasc := (nf_facts l hl).2
  constructor
  · rintro ⟨x, h1, h2, h3, h4⟩
    obtain ⟨i, hi, ei⟩ := List.getElem_of_mem ((nf_facts l hl).1 x h1)
    obtain ⟨j, hj, ej⟩ := List.getElem_of_mem ((nf_facts l hl).1 (-x) h4)
    have k1 : rk x = 2 * x - 1 := by unfold rk; rw [if_pos (by omega)]
    have k2 : rk (-x) = 2 * x := by unfold rk; rw [if_neg (by omega)]; omega
    have p := List.pairwise_iff_getElem.1 hasc
    have hij : i < j := by
      rcases Nat.lt_trichotomy i j with h | h | h
      · exact h
      · subst h; omega
      · have := p j i hj hi h; rw [ei, ej] at this; omega
    have hj1 : j = i + 1 := by
      by_cases e : j = i + 1
      · exact e
      · have a1 := p i (i + 1) hi (by omega) (by omega)
        have a2 := p (i + 1) j (by omega) hj (by omega)
        rw [ei] at a1
        rw [ej] at a2
        omega
    subst hj1
    exact ⟨i, hj, by rw [gd_lt hj, gd_lt hi, ei, ej]⟩
  · rintro ⟨j, hj, e⟩
    rw [gd_lt hj, gd_lt (by omega)] at e
    have m1 := mem_nf (List.getElem_mem (l := nf l) (n := j) (by omega))
    have m2 := mem_nf (List.getElem_mem hj)
    have h1 := lit_iff.1 (hl _ m1)
    have h2 := h _ m1
    have h3 := h _ m2
    rw [e] at m2 h3
    generalize (nf l)[j] = x at *
    by_cases hx : 0 < x
    · exact ⟨x, m1, hx, by unfold av at h2; split at h2 <;> omega, m2⟩
    · exact ⟨-x, m2, by omega, by unfold av at h2; split at h2 <;> omega, by rw [Int.neg_neg]; exact m1⟩
end Go.Proofs.Ytoffhgiljnagcaa
