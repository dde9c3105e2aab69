/- Unit propagation as mathematics. -/
namespace Go.Proofs.Ytoffhgiljnagcaa

/-- Propagation of clauses, with literals that are so, runs into a conflict. -/
inductive Conf (C : List Int → Prop) : (Int → Prop) → Prop
  | clash {so : Int → Prop} (l : Int) : so l → so (-l) → Conf C so
  | none {so : Int → Prop} (c : List Int) : C c → (∀ l ∈ c, so (-l)) → Conf C so
  | unit {so : Int → Prop} (c : List Int) (l : Int) : C c → l ∈ c → (∀ m ∈ c, m ≠ l → so (-m)) → Conf C (fun x => x = l ∨ so x) → Conf C so

/-- Two clauses with the same literals. -/
def Alike (c d : List Int) : Prop := ∀ l, l ∈ c ↔ l ∈ d
theorem Alike.refl (c : List Int) : Alike c c := fun _ => Iff.rfl
theorem Alike.symm {c d : List Int} (h : Alike c d) : Alike d c := fun l => (h l).symm
theorem Alike.trans {c d e : List Int} (h : Alike c d) (k : Alike d e) : Alike c e := fun l => (h l).trans (k l)
/-- A clause that has a literal and its negation. -/
def Taut (c : List Int) : Prop := ∃ x, x ∈ c ∧ -x ∈ c

theorem Conf.sub {C C' : List Int → Prop} {so : Int → Prop} (h : Conf C so) (hC : ∀ c, C c → (∃ c', C' c' ∧ Alike c' c) ∨ (Taut c ∧ (0 : Int) ∉ c)) : ∀ so' : Int → Prop, (∀ l, so l → so' l) → Conf C' so' := by
  induction h with
  | clash l a b => exact fun so' hs => .clash l (hs _ a) (hs _ b)
  | none c hc hf =>
    intro so' hs
    rcases hC c hc with ⟨c', h1, h2⟩ | ⟨⟨x, hx, hy⟩, _⟩
    · exact .none c' h1 fun l hl => hs _ (hf l ((h2 l).1 hl))
    · exact .clash x (by simpa using hs _ (hf _ hy)) (hs _ (hf _ hx))
  | @unit so c l hc hl hf _ ih =>
    intro so' hs
    rcases hC c hc with ⟨c', h1, h2⟩ | ⟨⟨x, hx, hy⟩, h0⟩
    · refine .unit c' l h1 ((h2 l).2 hl) (fun m hm hne => hs _ (hf m ((h2 m).1 hm) hne)) (ih _ ?_)
      rintro m (rfl | h)
      · exact .inl rfl
      · exact .inr (hs _ h)
    · have hx0 : x ≠ 0 := fun e => h0 (e ▸ hx)
      have key : so l ∨ (so (-x) ∧ so x) := by
        by_cases h1 : x = l
        · have := hf (-x) hy (by omega)
          rw [Int.neg_neg, h1] at this
          exact .inl this
        · by_cases h2 : -x = l
          · have := hf x hx h1
            rw [h2] at this
            exact .inl this
          · have := hf (-x) hy h2
            rw [Int.neg_neg] at this
            exact .inr ⟨hf x hx h1, this⟩
      rcases key with h | ⟨h, h'⟩
      · refine ih _ ?_
        rintro m (rfl | h3)
        · exact hs _ h
        · exact hs _ h3
      · exact .clash x (hs _ h') (hs _ h)

theorem Conf.mono {C C' : List Int → Prop} {so so' : Int → Prop} (h : Conf C so) (hC : ∀ c, C c → C' c) (hs : ∀ l, so l → so' l) : Conf C' so' :=
  h.sub (fun c hc => .inl ⟨c, hC c hc, .refl c⟩) _ hs

theorem closed_not {C : List Int → Prop} {T so : Int → Prop} (hT : ∀ l, T l → T (-l) → False)
    (hc : ∀ c, C c → (∃ l, l ∈ c ∧ T l) ∨ (∃ l m, l ∈ c ∧ m ∈ c ∧ l ≠ m ∧ ¬ T (-l) ∧ ¬ T (-m))) (h : Conf C so) : (∀ l, so l → T l) → False := by
  induction h with
  | clash l a b => exact fun hs => hT l (hs _ a) (hs _ b)
  | none c h1 hf =>
    intro hs
    rcases hc c h1 with ⟨l, hl, h2⟩ | ⟨l, m, hl, hm, hne, h2, h3⟩
    · exact hT l h2 (hs _ (hf l hl))
    · exact h2 (hs _ (hf l hl))
  | unit c l h1 hl hf _ ih =>
    intro hs
    rcases hc c h1 with ⟨x, hx, h2⟩ | ⟨a, b, ha, hb, hne, h2, h3⟩
    · by_cases e : x = l
      · refine ih ?_
        rintro m (rfl | h)
        · exact e ▸ h2
        · exact hs _ h
      · exact hT x h2 (hs _ (hf x hx e))
    · by_cases e : a = l
      · exact h3 (hs _ (hf b hb (fun e2 => hne (e.trans e2.symm))))
      · exact h2 (hs _ (hf a ha e))

theorem Conf.sound {C : List Int → Prop} {T so : Int → Prop} (hT : ∀ l, T l → T (-l) → False) (hc : ∀ c, C c → ∃ l, l ∈ c ∧ T l) (h : Conf C so) : (∀ l, so l → T l) → False :=
  closed_not hT (fun c h => .inl (hc c h)) h

/-- What was implied, one after another, adds nothing. -/
theorem Conf.back {C : List Int → Prop} {so : Int → Prop} (T : Nat → Int) : ∀ n : Nat,
    (∀ i, i < n → so (T i) ∨ ∃ c, C c ∧ T i ∈ c ∧ ∀ m ∈ c, m ≠ T i → ∃ j, j < i ∧ T j = -m) → Conf C (fun x => so x ∨ ∃ i, i < n ∧ T i = x) → Conf C so
  | 0, _, h => h.mono (fun _ h => h) (fun l h => h.elim id fun ⟨i, h, _⟩ => absurd h (Nat.not_lt_zero _))
  | n + 1, hr, h => by
    refine Conf.back T n (fun i hi => hr i (by omega)) ?_
    rcases hr n (by omega) with h1 | ⟨c, h1, h2, h3⟩
    · refine h.mono (fun _ h => h) ?_
      rintro l (h | ⟨i, hi, rfl⟩)
      · exact .inl h
      · by_cases e : i = n
        · exact .inl (e ▸ h1)
        · exact .inr ⟨i, by omega, rfl⟩
    · refine .unit c (T n) h1 h2 (fun m hm hne => .inr (h3 m hm hne)) (h.mono (fun _ h => h) ?_)
      rintro l (h | ⟨i, hi, rfl⟩)
      · exact .inr (.inl h)
      · by_cases e : i = n
        · exact .inl (by rw [e])
        · exact .inr (.inr ⟨i, by omega, rfl⟩)

/-- So many different numbers below m. -/
theorem pigeon : ∀ (m n : Nat) (f : Nat → Nat), (∀ i, i < n → f i < m) → (∀ i j, i < n → j < n → f i = f j → i = j) → n ≤ m
  | 0, n, f, h, _ => by
    rcases Nat.eq_zero_or_pos n with h0 | h0
    · omega
    · exact absurd (h 0 h0) (Nat.not_lt_zero _)
  | m + 1, n, f, h, hi => by
    rcases Nat.eq_zero_or_pos n with h0 | h0
    · omega
    have := pigeon m (n - 1) (fun i => if f i = m then f (n - 1) else f i) (by
      intro i h1
      show (if f i = m then f (n - 1) else f i) < m
      have h2 := h i (by omega)
      have h3 := h (n - 1) (by omega)
      split
      · next e =>
        have : f (n - 1) ≠ m := fun e2 => by have := hi i (n - 1) (by omega) (by omega) (e.trans e2.symm); omega
        omega
      · omega) (by
      intro i j h1 h2 h3
      replace h3 : (if f i = m then f (n - 1) else f i) = (if f j = m then f (n - 1) else f j) := h3
      split at h3 <;> split at h3
      · next a b => exact hi i j (by omega) (by omega) (a.trans b.symm)
      · have := hi (n - 1) j (by omega) (by omega) h3; omega
      · have := hi i (n - 1) (by omega) (by omega) h3; omega
      · exact hi i j (by omega) (by omega) h3)
    omega
end Go.Proofs.Ytoffhgiljnagcaa
