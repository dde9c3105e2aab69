/- Mathematics of a text of clauses: its words, its numbers, its clauses. -/
namespace Go.Proofs.YtmgkoehclabejaaDoor

abbrev Wd := List UInt8
def blk (c : UInt8) : Bool := c == 32 || c == 9 || c == 13
def flush (w : Wd) : List Wd := if w = [] then [] else [w]
def fstep (st : List Wd × Wd) (c : UInt8) : List Wd × Wd := if blk c then (st.1 ++ flush st.2, []) else (st.1, st.2 ++ [c])
def fieldsL (l : Wd) : List Wd := (l.foldl fstep ([], [])).1 ++ flush (l.foldl fstep ([], [])).2
def lineW (l : Wd) : List Wd := if l.head? = some 99 then [] else fieldsL l
def wstep (st : List Wd × Wd) (c : UInt8) : List Wd × Wd := if c = 10 then (st.1 ++ lineW st.2, []) else (st.1, st.2 ++ [c])
/-- The words of a text, line by line. -/
def wordsL (l : Wd) : List Wd := (l.foldl wstep ([], [])).1 ++ lineW (l.foldl wstep ([], [])).2

/-- The answers' scan. -/
structure Scan where
  out : List Wd
  word : Wd
  fresh : Bool
  skip : Bool
def rstep (s : Scan) (c : UInt8) : Scan :=
  let sk := if s.fresh then c == 99 else s.skip
  if c == 32 || c == 9 || c == 13 || c == 10 then ⟨s.out ++ flush s.word, [], c == 10, sk⟩
  else ⟨s.out, if sk then s.word else s.word ++ [c], c == 10, sk⟩
def scan0 : Scan := ⟨[], [], true, false⟩

def Fits (s : Scan) (o : List Wd) (cur : Wd) : Prop :=
  s.fresh = cur.isEmpty ∧ (cur ≠ [] → s.skip = (cur.head? == some 99)) ∧
  s.out = o ++ (if cur.head? = some 99 then [] else (cur.foldl fstep ([], [])).1) ∧ s.word = (if cur.head? = some 99 then [] else (cur.foldl fstep ([], [])).2)

theorem fits_step {s : Scan} {o : List Wd} {cur : Wd} (h : Fits s o cur) (c : UInt8) : Fits (rstep s c) (wstep (o, cur) c).1 (wstep (o, cur) c).2 := by
  obtain ⟨h1, h2, h3, h4⟩ := h
  by_cases hc : c = 10
  · subst hc
    have hst : wstep (o, cur) 10 = (o ++ lineW cur, []) := by simp [wstep]
    rw [hst]
    refine ⟨by simp [rstep], fun h => absurd rfl h, ?_, by simp [rstep]⟩
    simp only [rstep, beq_self_eq_true, Bool.or_true, ↓reduceIte, List.head?_nil, reduceCtorEq, List.foldl_nil, List.append_nil, h3, h4, lineW, fieldsL]
    by_cases hh : cur.head? = some 99
    · simp [hh, flush]
    · simp [hh, List.append_assoc]
  · have hst : wstep (o, cur) c = (o, cur ++ [c]) := by simp [wstep, hc]
    rw [hst]
    have hne : (c == 10) = false := by simpa using hc
    have hh : (cur ++ [c]).head? = some 99 ↔ (if s.fresh then (c == 99) else s.skip) = true := by
      cases cur with
      | nil => simp [h1]
      | cons x l =>
        have := h2 (by simp)
        simp [h1, this]
    have hf : (cur ++ [c]).foldl fstep ([], []) = fstep (cur.foldl fstep ([], [])) c := by simp
    have hsame : cur.head? = some 99 → (cur ++ [c]).head? = some 99 := by cases cur <;> simp
    have hsk : (if s.fresh then (c == 99) else s.skip) = ((cur ++ [c]).head? == some 99) := by
      rw [Bool.eq_iff_iff, ← hh]; simp
    have h5 : (cur ++ [c]).head? ≠ some 99 → cur.head? ≠ some 99 := fun h h' => h (hsame h')
    have h6 : (cur ++ [c]).head? = some 99 → cur.head? ≠ some 99 → cur = [] := by
      cases cur with
      | nil => intros; rfl
      | cons x l => intro a b; exact absurd (by simpa using a) (by simpa using b)
    generalize hz : (cur ++ [c]).head? = z at *
    by_cases hb : blk c = true
    · have hb' : (c == 32 || c == 9 || c == 13 || c == 10) = true := by simp only [blk] at hb; simp [hb]
      have h99 : (c == 99) = false := by
        simp only [blk, Bool.or_eq_true, beq_iff_eq] at hb
        rcases hb with (rfl | rfl) | rfl <;> rfl
      refine ⟨by simp only [rstep]; rw [if_pos hb', hne]; cases cur <;> rfl, fun _ => by rw [hz]; simp only [rstep, hb', ↓reduceIte]; exact hsk, ?_, ?_⟩
      · rw [hz, hf]
        simp only [rstep, hb', ↓reduceIte, h3, h4]
        by_cases hcur : cur.head? = some 99
        · simp [hcur, hsame hcur, flush]
        · by_cases hz9 : z = some 99
          · have := h6 hz9 hcur
            subst this
            simp at hz; subst hz; simp at hz9; subst hz9; simp at h99
          · simp [hcur, hz9, fstep, hb]
      · rw [hz, hf]
        simp only [rstep, hb', ↓reduceIte]
        simp [fstep, hb]
    · have hb' : (c == 32 || c == 9 || c == 13 || c == 10) = false := by simp only [blk] at hb; simp only [hne, Bool.or_false]; simpa using hb
      refine ⟨by simp only [rstep]; rw [if_neg (by rw [hb']; exact Bool.false_ne_true), hne]; cases cur <;> rfl, fun _ => by rw [hz]; simp only [rstep, hb']; exact hsk, ?_, ?_⟩
      · rw [hz, hf]
        simp only [rstep, hb', h3]
        by_cases hcur : cur.head? = some 99
        · simp [hcur, hsame hcur]
        · by_cases hz9 : z = some 99
          · have := h6 hz9 hcur
            subst this
            simp [hz9]
          · simp [hcur, hz9, fstep, hb]
      · rw [hz, hf]
        simp only [rstep, hb', hsk, h4]
        by_cases hcur : cur.head? = some 99
        · simp [hcur, hsame hcur]
        · by_cases hz9 : z = some 99
          · have := h6 hz9 hcur
            subst this
            simp [hz9]
          · simp [hcur, hz9, fstep, hb]

theorem fits_foldl (l : Wd) : ∀ (s : Scan) (o : List Wd) (cur : Wd), Fits s o cur → Fits (l.foldl rstep s) (l.foldl wstep (o, cur)).1 (l.foldl wstep (o, cur)).2 := by
  induction l with
  | nil => intro s o cur h; exact h
  | cons c l ih => intro s o cur h; exact ih _ _ _ (fits_step h c)

/-- The answers' words are these. -/
theorem scan_words (l : Wd) : ((l ++ [10]).foldl rstep scan0).out = wordsL l := by
  have h := fits_foldl (l ++ [10]) scan0 [] [] ⟨rfl, fun h => absurd rfl h, by simp [scan0], by simp [scan0]⟩
  have h3 := h.2.2.1
  have hx : ((l ++ [10]).foldl wstep ([], [])) = ((l.foldl wstep ([], [])).1 ++ lineW (l.foldl wstep ([], [])).2, []) := by
    rw [List.foldl_append]; simp [wstep]
  rw [hx] at h3
  simpa [wordsL] using h3

/-! Lines. -/
def linesF : Nat → Wd → List Wd
  | 0, l => [l]
  | n + 1, l => if (10 : UInt8) ∈ l then l.takeWhile (· != 10) :: linesF n ((l.dropWhile (· != 10)).drop 1) else [l]

theorem wstep_plain (l : Wd) (h : (10 : UInt8) ∉ l) : ∀ (o : List Wd) (cur : Wd), l.foldl wstep (o, cur) = (o, cur ++ l) := by
  induction l with
  | nil => simp
  | cons c l ih =>
    intro o cur
    have h1 : c ≠ 10 := fun e => h (by simp [e])
    have h2 : (10 : UInt8) ∉ l := fun e => h (by simp [e])
    simp [wstep, h1, ih h2]
theorem split10 (l : Wd) (h : (10 : UInt8) ∈ l) : l = l.takeWhile (· != 10) ++ 10 :: (l.dropWhile (· != 10)).drop 1 := by
  induction l with
  | nil => simp at h
  | cons c l ih =>
    by_cases hc : c = 10
    · subst hc; simp
    · have : (10 : UInt8) ∈ l := by simpa [Ne.symm hc] using h
      have := ih this
      have hb : (c != 10) = true := by simpa using hc
      simp only [List.takeWhile_cons, List.dropWhile_cons, hb, ↓reduceIte, List.cons_append]
      exact congrArg (c :: ·) this
theorem take_no10 (l : Wd) : (10 : UInt8) ∉ l.takeWhile (· != 10) := by
  induction l with
  | nil => simp
  | cons c l ih =>
    by_cases hc : c = 10
    · subst hc; simp
    · have hb : (c != 10) = true := by simpa using hc
      simp only [List.takeWhile_cons, hb, ↓reduceIte, List.mem_cons, not_or]
      exact ⟨Ne.symm hc, ih⟩

theorem words_lines (n : Nat) : ∀ (l : Wd), l.length ≤ n → ∀ o, (l.foldl wstep (o, [])).1 ++ lineW (l.foldl wstep (o, [])).2 = o ++ (linesF n l).flatMap lineW := by
  induction n with
  | zero =>
    intro l hl o
    have : l = [] := List.length_eq_zero_iff.1 (by omega)
    subst this; simp [linesF]
  | succ n ih =>
    intro l hl o
    by_cases h : (10 : UInt8) ∈ l
    · have hs := split10 l h
      have hlen : ((l.dropWhile (· != 10)).drop 1).length ≤ n := by
        have := congrArg List.length hs
        simp only [List.length_append, List.length_cons] at this
        omega
      have hfold : l.foldl wstep (o, []) = ((l.dropWhile (· != 10)).drop 1).foldl wstep (o ++ lineW (l.takeWhile (· != 10)), []) := by
        conv => lhs; rw [hs]
        rw [List.foldl_append, wstep_plain _ (take_no10 l)]
        simp [wstep]
      rw [hfold, ih _ hlen]
      simp [linesF, h, List.append_assoc]
    · rw [wstep_plain l h]
      simp [linesF, h]

/-! Numbers. -/
def isDig (c : UInt8) : Bool := 48 ≤ c.toNat && c.toNat ≤ 57
def valD (l : Wd) : Int := l.foldl (fun n c => 10 * n + ((c.toNat : Int) - 48)) 0
theorem valD_snoc (l : Wd) (c : UInt8) : valD (l ++ [c]) = 10 * valD l + ((c.toNat : Int) - 48) := by simp [valD]
/-- The number that digits tell. -/
def numB (w : Wd) : Option Int := if w = [] ∨ 6 < w.length ∨ w.all isDig = false then none else some (valD w)
theorem valD_bd (n : Nat) : ∀ (l : Wd), l.length = n → l.all isDig = true → 0 ≤ valD l ∧ valD l < 10 ^ n := by
  induction n with
  | zero => intro l h _; have := List.length_eq_zero_iff.1 h; subst this; simp [valD]
  | succ n ih =>
    intro l h hd
    rcases List.eq_nil_or_concat l with rfl | ⟨l', c, rfl⟩
    · simp at h
    · simp only [List.concat_eq_append, List.length_append, List.length_cons, List.length_nil, List.all_append, List.all_cons, List.all_nil, Bool.and_true, Bool.and_eq_true] at h hd
      have h1 := ih l' (by omega) hd.1
      have h2 : 48 ≤ c.toNat ∧ c.toNat ≤ 57 := by simpa [isDig] using hd.2
      rw [List.concat_eq_append, valD_snoc, Int.pow_succ]
      omega
theorem valD_small {l : Wd} (h : l.length ≤ 6) (hd : l.all isDig = true) : 0 ≤ valD l ∧ valD l ≤ 999999 := by
  have h1 := valD_bd l.length l rfl hd
  have h2 : (10 : Int) ^ l.length ≤ 10 ^ 6 := by
    have : (10 : Nat) ^ l.length ≤ 10 ^ 6 := Nat.pow_le_pow_right (by omega) h
    exact_mod_cast this
  have h3 : (10 : Int) ^ 6 = 1000000 := by rfl
  omega
theorem numB_some {w : Wd} {x : Int} (h : numB w = some x) : 0 ≤ x ∧ x ≤ 999999 ∧ w ≠ [] ∧ w.length ≤ 6 ∧ w.all isDig = true ∧ valD w = x := by
  unfold numB at h
  split at h
  · cases h
  · rename_i hn
    simp only [not_or, Nat.not_lt, Bool.not_eq_false] at hn
    have := valD_small hn.2.1 hn.2.2
    simp only [Option.some.injEq] at h
    exact ⟨by omega, by omega, hn.1, hn.2.1, hn.2.2, h⟩

/-- A literal, or 0. -/
def sgnB (w : Wd) : Option Int :=
  if w.head? = some 45 then (match numB (w.drop 1) with | some x => if x ≤ 100000 ∧ x ≠ 0 then some (-x) else none | none => none)
  else (match numB w with | some x => if x ≤ 100000 then some x else none | none => none)
/-- A number as the answers read it. -/
def numR (w : Wd) : Option Int :=
  if w.head? = some 45 then (match numB (w.drop 1) with | some x => if x ≠ 0 then some (-x) else none | none => none)
  else numB w

theorem numB_minus {w : Wd} (h : w.head? = some 45) : numB w = none := by
  cases w with
  | nil => simp at h
  | cons c l => simp at h; subst h; simp [numB, isDig]
/-- The first numbers are read alike. -/
theorem head_alike (w : Wd) : numB w = (match numR w with | some x => if x < 0 then none else some x | none => none) := by
  unfold numR
  by_cases h : w.head? = some 45
  · simp only [h, ↓reduceIte, numB_minus h]
    cases hx : numB (w.drop 1) with
    | none => rfl
    | some x =>
      have := numB_some hx
      by_cases h0 : x = 0
      · simp [h0]
      · simp only [ne_eq, h0, not_false_eq_true, ↓reduceIte]
        rw [if_pos (by omega)]
  · simp only [h, ↓reduceIte]
    cases hx : numB w with
    | none => rfl
    | some x =>
      have := numB_some hx
      simp only
      rw [if_neg (by omega)]

def absI (x : Int) : Int := if x < 0 then -x else x
/-- A literal of a variable up to v, or 0. -/
def litB (v : Int) (w : Wd) : Option Int := match sgnB w with | some x => if v < absI x then none else some x | none => none
def litB' (v : Int) (w : Wd) : Option Int := match numR w with | some x => if x ≠ 0 ∧ (¬ (x ≠ 0 ∧ -100000 ≤ x ∧ x ≤ 100000) ∨ v < absI x) then none else some x | none => none
theorem lit_alike {v : Int} (hv : 0 ≤ v) (w : Wd) : litB v w = litB' v w := by
  unfold litB litB' sgnB numR
  by_cases h : w.head? = some 45
  · simp only [h, ↓reduceIte]
    cases hx : numB (w.drop 1) with
    | none => rfl
    | some x =>
      have := numB_some hx
      by_cases h0 : x = 0
      · simp [h0]
      · by_cases h1 : x ≤ 100000
        · simp only [h1, ne_eq, h0, not_false_eq_true, and_self, ↓reduceIte]
          have e : absI (-x) = x := by unfold absI; split <;> omega
          rw [e]
          by_cases h2 : v < x
          · rw [if_pos h2, if_pos (by omega)]
          · rw [if_neg h2, if_neg (by omega)]
        · simp only [h1, ne_eq, h0, not_false_eq_true, false_and, ↓reduceIte]
          rw [if_pos (by omega)]
  · simp only [h, ↓reduceIte]
    cases hx : numB w with
    | none => rfl
    | some x =>
      obtain ⟨hx0, -⟩ := numB_some hx
      have e : absI x = x := by unfold absI; split <;> omega
      by_cases h1 : x ≤ 100000
      · dsimp only; rw [if_pos h1]
        simp only [e]
        split <;> split <;> first | rfl | (exfalso; omega)
      · dsimp only; rw [if_neg h1]
        simp only [e]
        split
        · rfl
        · exfalso; omega

/-! Clauses. -/
structure Bod where
  out : List (List Int)
  now : List Int
def bstep (v : Int) (s : Option Bod) (w : Wd) : Option Bod :=
  match s with
  | none => none
  | some s => match litB v w with
    | none => none
    | some x => if x ≠ 0 then some ⟨s.out, s.now ++ [x]⟩ else some ⟨s.out ++ [s.now], []⟩
def bodyB (v : Int) (ws : List Wd) : Option Bod := ws.foldl (bstep v) (some ⟨[], []⟩)
theorem bstep_none (v : Int) (ws : List Wd) : ws.foldl (bstep v) none = none := by induction ws with | nil => rfl | cons w ws ih => exact ih
def headB (ws : List Wd) : Option (Int × Int) :=
  match ws with
  | a :: b :: c :: d :: _ => if a = [112] ∧ b = [99, 110, 102] then (match numB c, numB d with | some x, some y => some (x, y) | _, _ => none) else none
  | _ => none
/-- The clauses of a text; none: there are none. -/
def parseB (l : Wd) : Option (List (List Int)) :=
  match headB (wordsL l) with
  | none => none
  | some (v, n) => match bodyB v ((wordsL l).drop 4) with
    | none => none
    | some s => if s.now = [] ∧ (s.out.length : Int) = n then some s.out else none
end Go.Proofs.YtmgkoehclabejaaDoor
