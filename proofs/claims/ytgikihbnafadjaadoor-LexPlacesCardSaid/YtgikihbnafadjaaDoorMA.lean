/- Mathematics: tokens. -/
import Derived.Test.YtgikihbnafadjaaDoorA
namespace Go.Proofs.YtgikihbnafadjaaDoor

/-- How many bytes at the beginning are so. -/
def span (p : UInt8 → Bool) : Wd → Nat
  | [] => 0
  | c :: l => if p c then span p l + 1 else 0
section
variable {p : UInt8 → Bool}
theorem span_le : ∀ l : Wd, span p l ≤ l.length
  | [] => Nat.le_refl _
  | c :: l => by have := span_le l; unfold span; split <;> simp <;> omega
theorem span_all : ∀ (l : Wd) (j : Nat) (h : j < l.length), j < span p l → p l[j] = true
  | [], j, h, _ => by simp at h
  | c :: l, j, h, hj => by
    unfold span at hj
    split at hj
    · rename_i hc
      cases j with
      | zero => exact hc
      | succ j => exact span_all l j (by simpa using h) (by omega)
    · omega
theorem span_stop : ∀ (l : Wd) (h : span p l < l.length), p (l[span p l]) = false
  | [], h => by simp at h
  | c :: l, h => by
    by_cases hc : p c = true
    · have e : span p (c :: l) = span p l + 1 := by simp [span, hc]
      simp only [e, List.getElem_cons_succ]
      exact span_stop l (by simp [e] at h; exact h)
    · have e : span p (c :: l) = 0 := by simp [span, hc]
      simp only [e, List.getElem_cons_zero]
      simpa using hc
theorem span_take : ∀ (l : Wd) (m : Nat), span p (l.take m) = min (span p l) m
  | [], m => by simp [span]
  | c :: l, 0 => by simp [span]
  | c :: l, m + 1 => by
    simp only [List.take_succ_cons, span]
    split
    · rw [span_take l m]; omega
    · simp
theorem span_app : ∀ (S : Wd), (∀ x ∈ S, p x = true) → ∀ (c : UInt8) (R : Wd), p c = false → span p (S ++ c :: R) = S.length
  | [], _, c, R, hc => by simp [span, hc]
  | x :: S, h, c, R, hc => by
    have := span_app S (fun y hy => h y (by simp [hy])) c R hc
    simp only [List.cons_append, span, h x (by simp), if_true, this, List.length_cons]
theorem span_pre : ∀ (l : Wd), ∀ x ∈ l.take (span p l), p x = true
  | [], x, h => by simp [span] at h
  | c :: l, x, h => by
    unfold span at h
    split at h
    · rename_i hc
      simp only [List.take_succ_cons, List.mem_cons] at h
      rcases h with rfl | h
      · exact hc
      · exact span_pre l x h
    · simp at h
/-- What a scan comes to. -/
theorem span_of {l : Wd} {k : Nat} (hk : k ≤ l.length) (h : ∀ j (h : j < l.length), j < k → p l[j] = true) (h2 : ∀ h : k < l.length, p l[k] = false) : span p l = k := by
  induction l generalizing k with
  | nil => simp at hk; simp [span, hk]
  | cons c l ih =>
    cases k with
    | zero =>
      have := h2 (by simp)
      simp at this
      simp [span, this]
    | succ k =>
      have h0 := h 0 (by simp) (by omega)
      simp at h0
      have := ih (k := k) (by simpa using hk) (fun j hj hjk => by have := h (j + 1) (by simpa using hj) (by omega); simpa using this) (fun hj => by have := h2 (by simpa using hj); simpa using this)
      simp [span, h0, this]
end

/-- What separates tokens. -/
def skip : Wd → Nat
  | [] => 0
  | c :: l => if isB c then skip l + 1 else if c = 47 ∧ l.head? = some 47 then span nl l + 1 + skip (l.drop (span nl l)) else 0
termination_by l => l.length
decreasing_by
  · simp
  · simp; omega
theorem skip_nil : skip [] = 0 := by unfold skip; rfl
theorem skip_blank {c : UInt8} {l : Wd} (h : isB c = true) : skip (c :: l) = skip l + 1 := by rw [skip, if_pos h]
theorem skip_cmt {l : Wd} (h : l.head? = some 47) : skip (47 :: l) = span nl l + 1 + skip (l.drop (span nl l)) := by
  rw [skip, if_neg (by decide), if_pos ⟨rfl, h⟩]
theorem skip_none {c : UInt8} {l : Wd} (h : isB c = false) (h2 : ¬ (c = 47 ∧ l.head? = some 47)) : skip (c :: l) = 0 := by
  rw [skip, if_neg (by simp [h]), if_neg h2]
theorem skip_le (l : Wd) : skip l ≤ l.length := by
  fun_induction skip l with
  | case1 => exact Nat.le_refl _
  | case2 c l h ih => simp; omega
  | case3 c l h h2 ih =>
    have := span_le (p := nl) l
    simp at ih
    simp; omega
  | case4 c l h h2 => simp
/-- Behind the gap none is left. -/
theorem skip_drop (l : Wd) : skip (l.drop (skip l)) = 0 := by
  fun_induction skip l with
  | case1 => simp [skip_nil]
  | case2 c l h ih => simpa using ih
  | case3 c l h h2 ih =>
    rw [List.drop_drop] at ih
    rw [show span nl l + 1 + skip (l.drop (span nl l)) = (span nl l + skip (l.drop (span nl l))) + 1 by omega]
    simpa using ih
  | case4 c l h h2 => simpa using skip_none (by simpa using h) h2
/-- The blanks ahead of it. -/
theorem skip_run (l : Wd) : span isB l + skip (l.drop (span isB l)) = skip l := by
  induction l with
  | nil => simp [span, skip_nil]
  | cons c l ih =>
    by_cases h : isB c = true
    · rw [skip_blank h]
      simp only [span, h, if_true, List.drop_succ_cons]
      omega
    · simp [span, h]
/-- A comment. -/
theorem skip_cmt2 (l : Wd) (h : l.take 2 = [47, 47]) : span nl l + skip (l.drop (span nl l)) = skip l := by
  match l, h with
  | a :: b :: l, h =>
    simp at h
    obtain ⟨rfl, rfl⟩ := h
    rw [skip_cmt (by rfl)]
    have : span nl (47 :: 47 :: l) = span nl (47 :: l) + 1 := by conv => lhs; unfold span
                                                                 simp [nl]
    rw [this, List.drop_succ_cons]
/-- None. -/
theorem skip_no (l : Wd) (h : span isB l = 0) (h2 : l.take 2 ≠ [47, 47]) : skip l = 0 := by
  match l with
  | [] => exact skip_nil
  | c :: l =>
    refine skip_none ?_ ?_
    · cases hc : isB c with
      | false => rfl
      | true => simp [span, hc] at h
    · rintro ⟨rfl, h3⟩
      match l with
      | [] => simp at h3
      | d :: l => simp at h3; subst h3; simp at h2
theorem skip_zero {c : UInt8} {l : Wd} (h : skip (c :: l) = 0) : isB c = false ∧ ¬ (c = 47 ∧ l.head? = some 47) := by
  rw [skip] at h
  split at h
  · omega
  · split at h
    · omega
    · rename_i h1 h2
      exact ⟨by simpa using h1, h2⟩
theorem skip_take (l : Wd) : ∀ m, skip l < m → skip (l.take m) = skip l := by
  fun_induction skip l with
  | case1 => intro m _; simp [skip_nil]
  | case2 c l h ih =>
    intro m hm
    obtain ⟨m, rfl⟩ : ∃ k, m = k + 1 := ⟨m - 1, by omega⟩
    rw [List.take_succ_cons, skip_blank h, ih m (by omega)]
  | case3 c l h h2 ih =>
    intro m hm
    obtain ⟨m, rfl⟩ : ∃ k, m = k + 1 := ⟨m - 1, by omega⟩
    obtain ⟨rfl, h3⟩ := h2
    have hs : 0 < span nl l := by
      match l, h3 with
      | d :: l, h3 =>
        simp at h3; subst h3
        simp [span, nl]
    rw [List.take_succ_cons, skip_cmt (by rw [List.head?_take]; simp; exact ⟨by omega, h3⟩), span_take, Nat.min_eq_left (by omega), List.drop_take]
    rw [ih (m - span nl l) (by omega)]
  | case4 c l h h2 =>
    intro m hm
    obtain ⟨m, rfl⟩ : ∃ k, m = k + 1 := ⟨m - 1, by omega⟩
    rw [List.take_succ_cons]
    refine skip_none (by simpa using h) fun ⟨h3, h4⟩ => h2 ⟨h3, ?_⟩
    rw [List.head?_take] at h4
    split at h4
    · cases h4
    · exact h4

/-- A sign's length. -/
def sgn (l : Wd) : Nat := if l.take 2 = [61, 61] ∨ l.take 2 = [38, 38] ∨ l.take 2 = [124, 124] then 2 else
  match l with
  | [] => 0
  | c :: _ => if isS c then 1 else 0
def signs : List Wd := [[61, 61], [38, 38], [124, 124], [123], [125], [91], [93], [40], [41], [59], [61], [60], [43], [45], [42], [47], [37], [33]]
def sgnF : List Wd → Wd → Nat
  | [], _ => 0
  | x :: r, l => if x.isPrefixOf l then x.length else sgnF r l
theorem sgnF1 (r : List UInt8) (c : UInt8) (l : Wd) : sgnF (r.map fun x => [x]) (c :: l) = if r.contains c then 1 else 0 := by
  induction r with
  | nil => rfl
  | cons x r ih =>
    simp only [List.map_cons, sgnF, ih, List.isPrefixOf, Bool.and_true, List.length_singleton, List.contains_cons]
    by_cases h : x = c
    · subst h; simp
    · have h2 : (c == x) = false := by simp; exact fun e => h e.symm
      simp [h, h2]
theorem pre2 (x : UInt8) (l : Wd) : [x, x].isPrefixOf l = decide (l.take 2 = [x, x]) := by
  match l with
  | [] => rfl
  | [c] => simp [List.isPrefixOf]
  | c :: d :: l => 
    simp only [List.isPrefixOf, Bool.and_true, List.take_succ_cons, List.take_zero]
    rw [Bool.eq_iff_iff]; simp
    exact ⟨fun ⟨a, b⟩ => ⟨a.symm, b.symm⟩, fun ⟨a, b⟩ => ⟨a.symm, b.symm⟩⟩
theorem sgnF_eq (l : Wd) : sgnF signs l = sgn l := by
  have e : signs = [61, 61] :: [38, 38] :: [124, 124] :: (sing.map fun x => [x]) := rfl
  rw [e]
  simp only [sgnF, pre2, sgn]
  by_cases h1 : l.take 2 = [61, 61]
  · simp [h1]
  by_cases h2 : l.take 2 = [38, 38]
  · simp [h1, h2]
  by_cases h3 : l.take 2 = [124, 124]
  · simp [h1, h2, h3]
  simp only [h1, h2, h3, decide_false, or_self, if_false, Bool.false_eq_true]
  match l with
  | [] => rfl
  | c :: l => exact sgnF1 _ _ _
theorem sgn_le (l : Wd) : sgn l ≤ l.length := by
  unfold sgn
  split
  · rename_i h
    have : (l.take 2).length = 2 := by rcases h with h | h | h <;> rw [h] <;> rfl
    simp at this; omega
  · split
    · exact Nat.le_refl _
    · split <;> simp

/-- The token's kind and length; no length: none begins. -/
def hd (p : UInt8 → Bool) (l : Wd) : Bool := match l with | [] => false | c :: _ => p c
def tok (l : Wd) : Nat × Nat := if hd isL l then (0, span isW l) else if hd isD l then (1, if span isD l ≤ 6 then span isD l else 0) else (2, sgn l)
theorem tok_word {l : Wd} (h : hd isL l = true) : tok l = (0, span isW l) := by unfold tok; rw [if_pos h]
theorem tok_num {l : Wd} (h : hd isL l = false) (h2 : hd isD l = true) : tok l = (1, if span isD l ≤ 6 then span isD l else 0) := by unfold tok; rw [if_neg (by rw [h]; exact Bool.false_ne_true), if_pos h2]
theorem tok_sign {l : Wd} (h : hd isL l = false) (h2 : hd isD l = false) : tok l = (2, sgn l) := by unfold tok; rw [if_neg (by rw [h]; exact Bool.false_ne_true), if_neg (by rw [h2]; exact Bool.false_ne_true)]
theorem hd_span (p : UInt8 → Bool) (l : Wd) : hd p l = decide (0 < span p l) := by
  match l with
  | [] => rfl
  | c :: l => unfold hd span; cases h : p c <;> simp [h]
theorem tok_le (l : Wd) : (tok l).2 ≤ l.length := by
  unfold tok
  split
  · exact span_le l
  · split
    · have := span_le (p := isD) l; simp only; split <;> omega
    · exact sgn_le l
theorem hd_take {p : UInt8 → Bool} (l : Wd) {m : Nat} (hm : 0 < m) : hd p (l.take m) = hd p l := by
  obtain ⟨m, rfl⟩ : ∃ k, m = k + 1 := ⟨m - 1, by omega⟩
  cases l <;> rfl
def twoS (l : Wd) : Prop := l.take 2 = [61, 61] ∨ l.take 2 = [38, 38] ∨ l.take 2 = [124, 124]
theorem twoS_len {l : Wd} (h : twoS l) : 2 ≤ l.length := by
  have : (l.take 2).length = 2 := by rcases h with h | h | h <;> rw [h] <;> rfl
  simp at this; omega
theorem sgn_two {l : Wd} (h : twoS l) : sgn l = 2 := by unfold sgn; exact if_pos h
theorem sgn_one {c : UInt8} {l : Wd} (h : ¬ twoS (c :: l)) : sgn (c :: l) = if isS c then 1 else 0 := by unfold sgn; exact if_neg h
theorem twoS_take {l : Wd} {m : Nat} (hm : 2 ≤ m) : twoS (l.take m) ↔ twoS l := by unfold twoS; rw [List.take_take, Nat.min_eq_left hm]
theorem twoS_hd {c : UInt8} {l : Wd} (h : twoS (c :: l)) : c = 61 ∨ c = 38 ∨ c = 124 := by
  unfold twoS at h
  simp only [List.take_succ_cons, List.cons.injEq] at h
  rcases h with h | h | h
  · exact .inl h.1
  · exact .inr (.inl h.1)
  · exact .inr (.inr h.1)
theorem sgn_take (l : Wd) (m : Nat) (h : 0 < sgn l) (hm : sgn l ≤ m) : sgn (l.take m) = sgn l := by
  by_cases h2 : twoS l
  · rw [sgn_two h2] at hm
    rw [sgn_two h2, sgn_two ((twoS_take hm).2 h2)]
  · match l, h2, h with
    | [], h2, h => simp [sgn] at h
    | c :: l, h2, h =>
      obtain ⟨m, rfl⟩ : ∃ k, m = k + 1 := ⟨m - 1, by omega⟩
      have h3 : ¬ twoS ((c :: l).take (m + 1)) := by
        rcases Nat.lt_or_ge m 1 with h4 | h4
        · obtain rfl : m = 0 := by omega
          intro h5
          have := twoS_len h5
          simp at this
        · rw [twoS_take (by omega)]; exact h2
      rw [List.take_succ_cons] at h3 ⊢
      rw [sgn_one h3, sgn_one h2]
theorem tok_take (l : Wd) (m : Nat) (h : 0 < (tok l).2) (hm : (tok l).2 ≤ m) : tok (l.take m) = tok l := by
  have h0 : 0 < m := by omega
  unfold tok at h hm ⊢
  rw [hd_take l h0, hd_take l h0]
  split
  · rename_i h1
    rw [if_pos h1] at hm
    rw [span_take, Nat.min_eq_left hm]
  · rename_i h1
    rw [if_neg h1] at hm h
    split
    · rename_i h2
      rw [if_pos h2] at hm h
      simp only at hm h
      split at hm
      · rw [span_take, Nat.min_eq_left hm]
      · rename_i h3; rw [if_neg h3] at h; omega
    · rename_i h2
      rw [if_neg h2] at hm h
      rw [sgn_take l m h hm]

/-- Tokens. -/
structure Tk where
  k : Nat
  s : Wd
  a : Nat
deriving DecidableEq
/-- The tokens of what is left from place i on, but for the last; the first fault. -/
def lexL (i : Nat) (l : Wd) : List Tk × Option Nat :=
  if _h : l.length ≤ skip l then ([], none) else
  if _h2 : (tok (l.drop (skip l))).2 = 0 then ([], some (i + skip l)) else
  let r := lexL (i + skip l + (tok (l.drop (skip l))).2) ((l.drop (skip l)).drop (tok (l.drop (skip l))).2)
  (⟨(tok (l.drop (skip l))).1, (l.drop (skip l)).take (tok (l.drop (skip l))).2, i + skip l⟩ :: r.1, r.2)
termination_by l.length
decreasing_by simp; omega
theorem lex_end {i : Nat} {l : Wd} (h : l.length ≤ skip l) : lexL i l = ([], none) := by rw [lexL, dif_pos h]
theorem lex_bad {i : Nat} {l : Wd} (h : skip l < l.length) (h2 : (tok (l.drop (skip l))).2 = 0) : lexL i l = ([], some (i + skip l)) := by rw [lexL, dif_neg (by omega), dif_pos h2]
theorem lex_one {i : Nat} {l : Wd} {k n : Nat} (h : skip l < l.length) (h2 : tok (l.drop (skip l)) = (k, n)) (h3 : 0 < n) :
    lexL i l = (⟨k, (l.drop (skip l)).take n, i + skip l⟩ :: (lexL (i + skip l + n) ((l.drop (skip l)).drop n)).1, (lexL (i + skip l + n) ((l.drop (skip l)).drop n)).2) := by
  conv => lhs; rw [lexL]
  rw [dif_neg (by omega), dif_neg (by rw [h2]; simp only; omega), h2]
/-- Induction over the tokens. -/
theorem lex_ind {P : Nat → Wd → Prop} (h1 : ∀ i l, l.length ≤ skip l → lexL i l = ([], none) → P i l) (h2 : ∀ i l, skip l < l.length → (tok (l.drop (skip l))).2 = 0 → lexL i l = ([], some (i + skip l)) → P i l)
    (h3 : ∀ i l kd n, skip l < l.length → tok (l.drop (skip l)) = (kd, n) → 0 < n → n ≤ l.length - skip l →
      lexL i l = (⟨kd, (l.drop (skip l)).take n, i + skip l⟩ :: (lexL (i + skip l + n) ((l.drop (skip l)).drop n)).1, (lexL (i + skip l + n) ((l.drop (skip l)).drop n)).2) →
      P (i + skip l + n) ((l.drop (skip l)).drop n) → P i l) (i : Nat) (l : Wd) : P i l := by
  generalize hN : l.length = N
  induction N using Nat.strongRecOn generalizing i l with
  | _ N ih =>
    by_cases a : l.length ≤ skip l
    · exact h1 i l a (lex_end a)
    · by_cases b : (tok (l.drop (skip l))).2 = 0
      · exact h2 i l (by omega) b (lex_bad (by omega) b)
      · have hle := tok_le (l.drop (skip l))
        rw [List.length_drop] at hle
        obtain ⟨kd, n, hn⟩ : ∃ kd n, tok (l.drop (skip l)) = (kd, n) := ⟨_, _, rfl⟩
        rw [hn] at b hle
        simp only at b hle
        refine h3 i l kd n (by omega) hn (by omega) hle (lex_one (by omega) hn (by omega)) (ih _ ?_ _ _ rfl)
        simp only [List.length_drop]; omega
/-- Of the gap. -/
theorem lex_skip (i g : Nat) (l : Wd) (h : g + skip (l.drop g) = skip l) (hg : g ≤ l.length) : lexL (i + g) (l.drop g) = lexL i l := by
  have e1 : (l.drop g).drop (skip (l.drop g)) = l.drop (skip l) := by rw [List.drop_drop, h]
  by_cases h1 : l.length ≤ skip l
  · rw [lex_end h1, lex_end (by simp; omega)]
  · by_cases h2 : (tok (l.drop (skip l))).2 = 0
    · rw [lex_bad (by omega) h2, lex_bad (by simp; omega) (by rw [e1]; exact h2)]
      rw [show i + g + skip (l.drop g) = i + skip l by omega]
    · have e2 : tok (l.drop (skip l)) = ((tok (l.drop (skip l))).1, (tok (l.drop (skip l))).2) := rfl
      rw [lex_one (by omega) e2 (by omega), lex_one (l := l.drop g) (by rw [List.length_drop]; omega) (by rw [e1]) (by omega), e1, show i + g + skip (l.drop g) = i + skip l by omega]

/-- The answer: tokens, fault's number and place. -/
def lexR (s : Wd) : List Tk × Nat × Nat :=
  if 4000 < s.length then ([], 12, 0) else
  match lexL 0 s with
  | (_, some a) => ([], 10, a)
  | (T, none) => (T ++ [⟨3, [], s.length⟩], 0, 0)
/-- What is known of the tokens. -/
theorem lex_at (i : Nat) (l : Wd) : ∀ T o, lexL i l = (T, o) → ∀ t ∈ T, i ≤ t.a ∧ t.a + t.s.length ≤ i + l.length ∧ 0 < t.s.length ∧ t.k ≤ 2 := by
  fun_induction lexL i l with
  | case1 i l h => intro T o e t ht; cases e; simp at ht
  | case2 i l h h2 => intro T o e t ht; cases e; simp at ht
  | case3 i l h h2 r ih =>
    intro T o e t ht
    cases e
    have hle := tok_le (l.drop (skip l))
    simp at hle
    simp only [List.mem_cons] at ht
    rcases ht with rfl | ht
    · refine ⟨by simp only; omega, by simp; omega, by simp; omega, ?_⟩
      show (tok _).1 ≤ 2
      unfold tok
      split
      · exact Nat.zero_le _
      · split
        · exact Nat.le_succ _
        · exact Nat.le_refl _
    · obtain ⟨a, b, c⟩ := ih _ _ rfl t ht
      simp at b
      exact ⟨by omega, by omega, c⟩
theorem lex_few (i : Nat) (l : Wd) : ∀ T o, lexL i l = (T, o) → T.length + skip l ≤ l.length ∧ T.length ≤ l.length := by
  fun_induction lexL i l with
  | case1 i l h => intro T o e; cases e; have := skip_le l; simp; omega
  | case2 i l h h2 => intro T o e; cases e; have := skip_le l; simp; omega
  | case3 i l h h2 r ih =>
    intro T o e
    cases e
    have hle := tok_le (l.drop (skip l))
    have := (ih _ _ rfl).2
    simp only [List.length_drop, List.length_cons] at this hle ⊢
    show r.1.length + 1 + skip l ≤ l.length ∧ r.1.length + 1 ≤ l.length
    have e : r.1.length ≤ l.length - skip l - (tok (l.drop (skip l))).2 := this
    omega
end Go.Proofs.YtgikihbnafadjaaDoor
