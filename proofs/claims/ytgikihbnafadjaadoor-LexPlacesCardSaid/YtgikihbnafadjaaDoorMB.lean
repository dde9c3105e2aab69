/- Mathematics: tokens apart; a text that is cut; places. -/
import Derived.Test.YtgikihbnafadjaaDoorMA
namespace Go.Proofs.YtgikihbnafadjaaDoor

/-- Cut behind token k. -/
theorem lex_cut (i : Nat) (l : Wd) : ∀ T o, lexL i l = (T, o) → ∀ k t, T[k]? = some t → lexL i (l.take (t.a + t.s.length - i)) = (T.take (k + 1), none) := by
  refine lex_ind (P := fun i l => ∀ T o, lexL i l = (T, o) → ∀ k t, T[k]? = some t → lexL i (l.take (t.a + t.s.length - i)) = (T.take (k + 1), none)) ?_ ?_ ?_ i l
  · intro i l _ e0 T o e k t ht; rw [e0] at e; cases e; simp at ht
  · intro i l _ _ e0 T o e k t ht; rw [e0] at e; cases e; simp at ht
  · intro i l kd n h hn h0 hle e0 ih T o e k t ht
    rw [e0] at e
    cases e
    have key : ∀ e', n ≤ e' → lexL i (l.take (skip l + e')) = (⟨kd, (l.drop (skip l)).take n, i + skip l⟩ :: (lexL (i + skip l + n) (((l.drop (skip l)).drop n).take (e' - n))).1, (lexL (i + skip l + n) (((l.drop (skip l)).drop n).take (e' - n))).2) := by
      intro e' he
      have hs : skip (l.take (skip l + e')) = skip l := skip_take l _ (by omega)
      have hd : (l.take (skip l + e')).drop (skip l) = (l.drop (skip l)).take e' := by rw [List.drop_take]; congr 1; omega
      have := lex_one (i := i) (l := l.take (skip l + e')) (k := kd) (n := n) (by rw [hs, List.length_take]; omega) (by rw [hs, hd, tok_take _ _ (by rw [hn]; simp only; omega) (by rw [hn]; exact he), hn]) (by omega)
      rw [this, hs, hd, List.take_take, Nat.min_eq_left he, List.drop_take]
    cases k with
    | zero =>
      simp at ht
      subst ht
      have := key n (Nat.le_refl _)
      simp only [Nat.sub_self, List.take_zero, lex_end (show ([] : Wd).length ≤ skip [] from Nat.zero_le _)] at this
      rw [show i + skip l + (List.take n (List.drop (skip l) l)).length - i = skip l + n by rw [List.length_take, List.length_drop]; omega, this]
      rfl
    | succ k =>
      have ht' := List.getElem?_cons_succ.symm.trans ht
      have hb := lex_at _ _ _ _ rfl t (List.mem_of_getElem? ht')
      have := key (t.a + t.s.length - i - skip l) (by omega)
      rw [show skip l + (t.a + t.s.length - i - skip l) = t.a + t.s.length - i by omega] at this
      rw [this, show t.a + t.s.length - i - skip l - n = t.a + t.s.length - (i + skip l + n) by omega, ih _ _ rfl k t ht']
      rfl

/-- A token with something behind. -/
theorem tok_app {l : Wd} {k n : Nat} (h : tok l = (k, n)) (hn : 0 < n) (hs : skip l = 0) {c : UInt8} (hc : c = 13 ∨ c = 32) (R : Wd) :
    tok (l.take n ++ c :: R) = (k, n) ∧ skip (l.take n ++ c :: R) = 0 ∧ n ≤ l.length := by
  have hle := tok_le l
  rw [h] at hle
  have hcW : isW c = false := by rcases hc with rfl | rfl <;> decide
  have hcD : isD c = false := by rcases hc with rfl | rfl <;> decide
  match l, h, hs, hle with
  | [], _, _, hle => simp at hle; omega
  | x :: l, h, hs, hle =>
    obtain ⟨n, rfl⟩ : ∃ m, n = m + 1 := ⟨n - 1, by omega⟩
    obtain ⟨hb, hcm⟩ := skip_zero hs
    have hlen : ((x :: l).take (n + 1)).length = n + 1 := by rw [List.length_take]; omega
    rw [List.take_succ_cons] at hlen ⊢
    have hcons : ∀ (p : UInt8 → Bool) (Y : Wd), hd p (x :: Y) = p x := fun _ _ => rfl
    have hno : tok (x :: (l.take n ++ c :: R)) = (k, n + 1) := by
      cases h1 : isL x with
      | true =>
        rw [tok_word (by rw [hcons, h1])] at h ⊢
        simp only [Prod.mk.injEq] at h
        obtain ⟨rfl, hsp⟩ := h
        have := span_app (p := isW) ((x :: l).take (n + 1)) (by rw [← hsp]; exact span_pre _) c R hcW
        rw [List.take_succ_cons, hlen] at this
        rw [← this]; rfl
      | false =>
        cases h2 : isD x with
        | true =>
          rw [tok_num (by rw [hcons, h1]) (by rw [hcons, h2])] at h ⊢
          simp only [Prod.mk.injEq] at h
          obtain ⟨rfl, hsp⟩ := h
          split at hsp
          · rename_i h6
            have := span_app (p := isD) ((x :: l).take (n + 1)) (by rw [← hsp]; exact span_pre _) c R hcD
            rw [List.take_succ_cons, hlen] at this
            have e : span isD (x :: (l.take n ++ c :: R)) = n + 1 := this
            rw [e, if_pos (by omega)]
          · omega
        | false =>
          rw [tok_sign (by rw [hcons, h1]) (by rw [hcons, h2])] at h ⊢
          simp only [Prod.mk.injEq] at h
          obtain ⟨rfl, hsp⟩ := h
          congr 1
          by_cases h3 : twoS (x :: l)
          · rw [sgn_two h3] at hsp
            obtain rfl : n = 1 := by omega
            refine sgn_two ?_
            have e : (x :: (l.take 1 ++ c :: R)).take 2 = (x :: l).take 2 := by
              have h4 : 0 < l.length := by have := twoS_len h3; simp at this; omega
              match l, h4 with
              | d :: l, _ => rfl
            unfold twoS; rw [e]; exact h3
          · rw [sgn_one h3] at hsp
            obtain rfl : n = 0 := by split at hsp <;> omega
            have h4 : ¬ twoS (x :: (l.take 0 ++ c :: R)) := by
              unfold twoS
              rcases hc with rfl | rfl <;> simp
            rw [sgn_one h4, hsp]
    refine ⟨hno, ?_, hle⟩
    refine skip_none hb ?_
    rintro ⟨rfl, h4⟩
    have h5 : tok (47 :: l) = (2, 1) := by
      rw [tok_sign rfl rfl, sgn_one (fun e => by have := twoS_hd e; revert this; decide)]
      rfl
    rw [h5] at h
    simp only [Prod.mk.injEq] at h
    obtain rfl : n = 0 := by omega
    simp at h4
    rcases hc with rfl | rfl <;> simp at h4

/-- Tokens with something behind each. -/
def joined (sep : Wd) (T : List Tk) : Wd := T.flatMap fun t => t.s ++ sep
/-- The gap that separates. -/
def isSep (sep : Wd) : Prop := ∃ c R, sep = c :: R ∧ (c = 13 ∨ c = 32) ∧ ∀ X, skip (sep ++ X) = sep.length + skip X
theorem sep13 : isSep [13] := ⟨13, [], rfl, .inl rfl, fun X => by simp only [List.singleton_append]; rw [skip_blank (by decide)]; simp; omega⟩
theorem sepCm : isSep [32, 47, 47, 10] := ⟨32, [47, 47, 10], rfl, .inr rfl, fun X => by
  simp only [List.cons_append, List.nil_append]
  rw [skip_blank (by decide), skip_cmt (by rfl)]
  have e : span nl (47 :: 10 :: X) = 1 := by simp [span, nl]
  rw [e]
  simp only [List.drop_succ_cons, List.drop_zero]
  rw [skip_blank (by decide)]
  simp; omega⟩
theorem lex_sep {sep : Wd} (h : isSep sep) (i : Nat) (X : Wd) : lexL i (sep ++ X) = lexL (i + sep.length) X := by
  obtain ⟨c, R, e, _, hX⟩ := h
  have := lex_skip i sep.length (sep ++ X) (by rw [List.drop_left, hX]) (by simp)
  rw [List.drop_left] at this
  exact this.symm
def kinds (T : List Tk) : List (Nat × Wd) := T.map fun t => (t.k, t.s)
theorem lex_join {sep : Wd} (hsep : isSep sep) (i : Nat) (l : Wd) : ∀ T, lexL i l = (T, none) → ∀ i', ∃ T', lexL i' (joined sep T ++ sep) = (T', none) ∧ kinds T' = kinds T := by
  refine lex_ind (P := fun i l => ∀ T, lexL i l = (T, none) → ∀ i', ∃ T', lexL i' (joined sep T ++ sep) = (T', none) ∧ kinds T' = kinds T) ?_ ?_ ?_ i l
  · intro i l _ e0 T e i'
    rw [e0] at e
    cases e
    refine ⟨[], ?_, rfl⟩
    have := lex_sep hsep i' []
    rw [List.append_nil] at this
    show lexL i' ([] ++ sep) = _
    rw [List.nil_append, this]
    exact lex_end (Nat.zero_le _)
  · intro i l _ _ e0 T e; rw [e0] at e; cases e
  · intro i l kd n h hn h0 hle e0 ih T e i'
    obtain ⟨T1, o1, hT1⟩ : ∃ T1 o1, lexL (i + skip l + n) ((l.drop (skip l)).drop n) = (T1, o1) := ⟨_, _, rfl⟩
    rw [hT1] at e0 ih
    rw [e0] at e
    simp only [Prod.mk.injEq] at e
    obtain ⟨rfl, rfl⟩ := e
    have hs0 := skip_drop l
    obtain ⟨T', h3, h4⟩ := ih T1 rfl (i' + n + sep.length)
    obtain ⟨c, R, e, hc, hX⟩ := hsep
    obtain ⟨h5, h6, h7⟩ := tok_app hn (by omega) hs0 hc (R ++ (joined sep T1 ++ sep))
    have e2 : joined sep (⟨kd, (l.drop (skip l)).take n, i + skip l⟩ :: T1) ++ sep = (l.drop (skip l)).take n ++ c :: (R ++ (joined sep T1 ++ sep)) := by
      simp only [joined, List.flatMap_cons, List.append_assoc]
      conv => lhs; arg 2; arg 1; rw [e]
      simp
    have hlen : ((l.drop (skip l)).take n).length = n := by rw [List.length_take]; omega
    have hle : 0 < ((l.drop (skip l)).take n ++ c :: (R ++ (joined sep T1 ++ sep))).length := by rw [List.length_append, List.length_cons]; omega
    have h8 := lex_one (i := i') (l := (l.drop (skip l)).take n ++ c :: (R ++ (joined sep T1 ++ sep))) (k := kd) (n := n) (by rw [h6]; exact hle) (by rw [h6]; exact h5) (by omega)
    have h9 : ((l.drop (skip l)).take n ++ c :: (R ++ (joined sep T1 ++ sep))).drop n = sep ++ (joined sep T1 ++ sep) := by
      rw [List.drop_append_of_le_length (by omega), List.drop_of_length_le (by omega), List.nil_append]
      conv => rhs; arg 1; rw [e]
      rfl
    have h10 : ((l.drop (skip l)).take n ++ c :: (R ++ (joined sep T1 ++ sep))).take n = (l.drop (skip l)).take n := by
      rw [List.take_append_of_le_length (by omega), List.take_of_length_le (by omega)]
    rw [h6, List.drop_zero, h9, h10, Nat.add_zero, lex_sep ⟨c, R, e, hc, hX⟩ (i' + n), h3] at h8
    exact ⟨_, by rw [e2]; exact h8, by simp only [kinds, List.map_cons] at h4 ⊢; rw [h4]⟩
theorem joined_len (sep : Wd) (i : Nat) (l : Wd) : (joined sep (lexL i l).1).length ≤ l.length * (sep.length + 1) := by
  refine lex_ind (P := fun i l => (joined sep (lexL i l).1).length ≤ l.length * (sep.length + 1)) ?_ ?_ ?_ i l
  · intro i l _ e0; rw [e0]; simp [joined]
  · intro i l _ _ e0; rw [e0]; simp [joined]
  · intro i l kd n h hn h0 hle e0 h1
    rw [e0]
    generalize (lexL (i + skip l + n) ((l.drop (skip l)).drop n)).1 = T1 at *
    simp only [List.length_drop] at h1
    simp only [joined, List.flatMap_cons, List.length_append, List.length_take, List.length_drop]
    have h3 : (List.flatMap (fun t => t.s ++ sep) T1).length = (joined sep T1).length := rfl
    rw [h3]
    have h4 : (l.length - skip l - n) * (sep.length + 1) + n * (sep.length + 1) ≤ l.length * (sep.length + 1) := by
      rw [← Nat.add_mul]; exact Nat.mul_le_mul_right _ (by omega)
    have h5 : n * (sep.length + 1) = n * sep.length + n := by rw [Nat.mul_add, Nat.mul_one]
    have h6 : sep.length ≤ n * sep.length := Nat.le_mul_of_pos_left _ (by omega)
    omega

/-- Line feeds; the last one. -/
def lastN (l : Wd) : Nat → Int
  | 0 => -1
  | k + 1 => if l[k]? = some 10 then k else lastN l k
theorem lastN_ge (l : Wd) : ∀ k, -1 ≤ lastN l k ∧ lastN l k < k
  | 0 => by simp [lastN]
  | k + 1 => by have := lastN_ge l k; unfold lastN; split <;> omega
theorem lastN_cell (l : Wd) : ∀ k j : Nat, lastN l k = j → l[j]? = some 10
  | 0, j, h => by simp [lastN] at h
  | k + 1, j, h => by
    unfold lastN at h
    split at h
    · rename_i h2
      obtain rfl : k = j := by omega
      exact h2
    · exact lastN_cell l k j h
theorem lastN_none (l : Wd) : ∀ (k j : Nat), lastN l k < j → j < k → l[j]? ≠ some 10
  | 0, j, _, h => by omega
  | k + 1, j, h, hj => by
    unfold lastN at h
    split at h
    · omega
    · rename_i h2
      by_cases e : j = k
      · subst e; exact h2
      · exact lastN_none l k j h (by omega)
theorem lastN_take (l : Wd) (m : Nat) : ∀ k, k ≤ m → lastN (l.take m) k = lastN l k
  | 0, _ => rfl
  | k + 1, h => by unfold lastN; rw [List.getElem?_take_of_lt (by omega), lastN_take l m k (by omega)]
/-- How many among the first k. -/
def cntN (l : Wd) : Nat → Nat
  | 0 => 0
  | k + 1 => if l[k]? = some 10 then cntN l k + 1 else cntN l k
theorem cntN_succ (l : Wd) (k : Nat) : cntN l (k + 1) = if l[k]? = some 10 then cntN l k + 1 else cntN l k := rfl
theorem cntN_take (l : Wd) : ∀ k, k ≤ l.length → (l.take k).count 10 = cntN l k
  | 0, _ => by simp [cntN]
  | k + 1, h => by
    have hk : k < l.length := by omega
    rw [List.take_add_one, List.count_append, cntN_take l k (by omega), List.getElem?_eq_getElem hk]
    rw [cntN_succ, List.getElem?_eq_getElem hk]
    by_cases e : l[k] = 10
    · simp [e]
    · simp [e]
theorem cntN_mono (l : Wd) {a b : Nat} (h : a ≤ b) : cntN l a ≤ cntN l b := by
  induction b with
  | zero => obtain rfl : a = 0 := by omega
            exact Nat.le_refl _
  | succ b ih =>
    by_cases e : a = b + 1
    · subst e; exact Nat.le_refl _
    · have := ih (by omega)
      have h2 : cntN l b ≤ cntN l (b + 1) := by rw [cntN_succ]; split <;> omega
      omega
/-- No line feed between. -/
theorem cntN_flat (l : Wd) {a b : Nat} (h : a ≤ b) (hn : ∀ j, a ≤ j → j < b → l[j]? ≠ some 10) : cntN l b = cntN l a := by
  induction b with
  | zero => obtain rfl : a = 0 := by omega
            rfl
  | succ b ih =>
    by_cases e : a = b + 1
    · subst e; rfl
    · have := ih (by omega) (fun j h1 h2 => hn j h1 (by omega))
      rw [cntN_succ, if_neg (hn b (by omega) (by omega)), this]
theorem cntN_some (l : Wd) {a b : Nat} (h : cntN l a < cntN l b) : ∃ j, a ≤ j ∧ j < b ∧ l[j]? = some 10 := by
  induction b with
  | zero => simp [cntN] at h
  | succ b ih =>
    have hab : a ≤ b := by
      rcases Nat.lt_or_ge b a with h2 | h2
      · have := cntN_mono l (a := b + 1) (b := a) (by omega); omega
      · exact h2
    rw [cntN_succ] at h
    split at h
    · rename_i h2; exact ⟨b, hab, by omega, h2⟩
    · obtain ⟨j, h1, h2, h3⟩ := ih h
      exact ⟨j, h1, by omega, h3⟩
/-- As many as there are: the last is right ahead. -/
theorem lastN_of (l : Wd) {i k : Nat} (hi : i ≤ k) (hc : cntN l i = cntN l k) (hp : i = 0 ∨ l[i - 1]? = some 10) : lastN l k = (i : Int) - 1 := by
  have hge := lastN_ge l k
  have h1 : ∀ j, i ≤ j → j < k → l[j]? ≠ some 10 := by
    intro j hj hk e
    have := cntN_mono l (a := i) (b := j) hj
    have h2 := cntN_mono l (a := j + 1) (b := k) (by omega)
    have h3 : cntN l (j + 1) = cntN l j + 1 := by rw [cntN_succ, if_pos e]
    omega
  rcases Int.lt_or_le (lastN l k) (i - 1) with h | h
  · rcases hp with rfl | hp
    · omega
    · have h0 : 0 < i := by
        rcases Nat.eq_zero_or_pos i with e | e
        · subst e; omega
        · exact e
      exact absurd hp (lastN_none l k (i - 1) (by omega) (by omega))
  · rcases Int.lt_or_le (i - 1) (lastN l k) with h2 | h2
    · obtain ⟨j, hj⟩ : ∃ j : Nat, lastN l k = j := ⟨(lastN l k).toNat, by omega⟩
      exact absurd (lastN_cell l k j hj) (h1 j (by omega) (by omega))
    · omega
end Go.Proofs.YtgikihbnafadjaaDoor
