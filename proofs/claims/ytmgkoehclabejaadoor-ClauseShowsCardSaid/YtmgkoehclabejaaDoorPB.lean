/- Mathematics: the text that clauses are shown as is read as them. -/
import Derived.Test.YtmgkoehclabejaaDoorH
import Derived.Test.YtmgkoehclabejaaDoorPA
namespace Go.Proofs.YtmgkoehclabejaaDoor
open Go.RowKit Go.Lib

theorem dec_small {u : Nat} (h : u < 10) : decDigits u = [UInt8.ofNat (48 + u)] := by rw [decDigits, dif_pos h]
theorem dec_big {u : Nat} (h : ¬ u < 10) : decDigits u = decDigits (u / 10) ++ [UInt8.ofNat (48 + u % 10)] := by rw [decDigits, dif_neg h]
theorem ofNat_dig {d : Nat} (h : d < 10) : (UInt8.ofNat (48 + d)).toNat = 48 + d := by
  rw [UInt8.toNat_ofNat']; omega
theorem dec_dig (u : Nat) : (decDigits u).all isDig = true ∧ valD (decDigits u) = u ∧ decDigits u ≠ [] := by
  induction u using Nat.strongRecOn with
  | _ u ih =>
    by_cases h : u < 10
    · rw [dec_small h]
      have := ofNat_dig h
      refine ⟨?_, ?_, by simp⟩
      · simp only [List.all_cons, List.all_nil, isDig, this]; simp; omega
      · simp only [valD, List.foldl_cons, List.foldl_nil, this]; omega
    · obtain ⟨h1, h2, h3⟩ := ih (u / 10) (by omega)
      have := ofNat_dig (d := u % 10) (by omega)
      rw [dec_big h]
      refine ⟨?_, ?_, by simp⟩
      · rw [List.all_append, h1]; simp only [List.all_cons, List.all_nil, isDig, this]; simp; omega
      · rw [valD_snoc, h2, this]; omega
theorem dec_len (k : Nat) : ∀ u : Nat, u < 10 ^ (k + 1) → (decDigits u).length ≤ k + 1 := by
  induction k with
  | zero => intro u h; rw [dec_small (by simpa using h)]; simp
  | succ k ih =>
    intro u h
    by_cases h' : u < 10
    · rw [dec_small h']; simp
    · rw [dec_big h']
      have := ih (u / 10) (by rw [Nat.div_lt_iff_lt_mul (by omega), ← Nat.pow_succ]; exact h)
      simp; omega
theorem numB_dec {u : Nat} (h : u ≤ 999999) : numB (decDigits u) = some (u : Int) := by
  obtain ⟨h1, h2, h3⟩ := dec_dig u
  have := dec_len 5 u (by omega)
  unfold numB
  rw [if_neg (by simp only [h1, h3, not_or, Bool.true_eq_false, not_false_eq_true, true_and, and_true]; omega), h2]

/-- A word of a text of clauses: no blanks, no feeds; no 'c'. -/
def Plain (w : Wd) : Prop := w ≠ [] ∧ ∀ c ∈ w, blk c = false ∧ c ≠ 10 ∧ c ≠ 99
theorem plain_dig {c : UInt8} (h : isDig c = true) : blk c = false ∧ c ≠ 10 ∧ c ≠ 99 := by
  have h' : 48 ≤ c.toNat ∧ c.toNat ≤ 57 := by simpa [isDig] using h
  refine ⟨?_, ?_, ?_⟩
  · rw [← Bool.not_eq_true]; intro hb
    simp only [blk, Bool.or_eq_true, beq_iff_eq] at hb
    rcases hb with (rfl | rfl) | rfl <;> simp at h'
  · rintro rfl; simp at h'
  · rintro rfl; simp at h'
theorem plain_dec (u : Nat) : Plain (decDigits u) := by
  obtain ⟨h1, h2, h3⟩ := dec_dig u
  exact ⟨h3, fun c hc => plain_dig (List.all_eq_true.1 h1 c hc)⟩
theorem plain_itoa (x : Int) : Plain (itoa x) := by
  unfold itoa
  split
  · refine ⟨by simp, fun c hc => ?_⟩
    rcases List.mem_cons.1 hc with rfl | hc
    · decide
    · exact (plain_dec _).2 c hc
  · exact plain_dec _
theorem dec_head {u : Nat} : (decDigits u).head? ≠ some 45 := by
  intro h
  obtain ⟨h1, h2, h3⟩ := dec_dig u
  have := List.all_eq_true.1 h1 45 (List.mem_of_mem_head? h)
  simp [isDig] at this
theorem sgnB_itoa {x : Int} (h : lit x = true) : sgnB (itoa x) = some x := by
  have hx := lit_iff.1 h
  unfold sgnB itoa
  by_cases hn : x < 0
  · simp only [hn, ↓reduceIte, List.head?_cons, List.drop_succ_cons, List.drop_zero]
    rw [numB_dec (by omega)]
    simp only
    rw [if_pos (by omega)]
    congr 1; omega
  · simp only [hn, ↓reduceIte]
    rw [if_neg dec_head, numB_dec (by omega)]
    simp only
    rw [if_pos (by omega)]
    congr 1; omega
theorem absI_av (x : Int) : absI x = av x := rfl
theorem litB_itoa {v x : Int} (h : lit x = true) (hv : av x ≤ v) : litB v (itoa x) = some x := by
  unfold litB
  rw [sgnB_itoa h]
  simp only
  rw [if_neg (by rw [absI_av]; omega)]
theorem litB_zero {v : Int} (hv : 0 ≤ v) : litB v [48] = some 0 := by
  have h : numB ([48] : Wd) = some 0 := by
    have := numB_dec (u := 0) (by omega)
    rwa [dec_small (by omega)] at this
  unfold litB sgnB
  simp only [List.head?_cons, Option.some.injEq, show (48 : UInt8) ≠ 45 by decide, ↓reduceIte, h]
  rw [if_pos (by omega)]
  simp only
  rw [if_neg (by unfold absI; omega)]

theorem fold_word (w : Wd) (h : ∀ c ∈ w, blk c = false) : ∀ (acc : List Wd) (cur : Wd), w.foldl fstep (acc, cur) = (acc, cur ++ w) := by
  induction w with
  | nil => simp
  | cons c w ih =>
    intro acc cur
    have hc := h c (by simp)
    rw [List.foldl_cons]
    simp only [fstep, hc, Bool.false_eq_true, ↓reduceIte]
    rw [ih (fun c hc => h c (by simp [hc]))]
    simp
theorem fold_sp {w : Wd} (h : Plain w) (acc : List Wd) : (w ++ [32]).foldl fstep (acc, []) = (acc ++ [w], []) := by
  rw [List.foldl_append, fold_word w (fun c hc => (h.2 c hc).1)]
  simp [fstep, blk, flush, h.1]
theorem fold_lits (l : List Int) : ∀ acc : List Wd, (litsS l).foldl fstep (acc, []) = (acc ++ l.map itoa, []) := by
  induction l with
  | nil => intro acc; simp [litsS]
  | cons x l ih =>
    intro acc
    have : litsS (x :: l) = (itoa x ++ [32]) ++ litsS l := by simp [litsS]
    rw [this, List.foldl_append, fold_sp (plain_itoa x), ih]
    simp
theorem lits_no (l : List Int) : ∀ c ∈ litsS l, c ≠ 10 ∧ c ≠ 99 := by
  intro c hc
  simp only [litsS, List.mem_flatMap, List.mem_append, List.mem_singleton] at hc
  obtain ⟨x, _, h | rfl⟩ := hc
  · exact ((plain_itoa x).2 c h).2
  · decide
theorem line_row (l : List Int) : lineW (litsS l ++ [48]) = l.map itoa ++ [[48]] := by
  have h : (litsS l ++ [48]).head? ≠ some 99 := by
    intro h
    have := List.mem_of_mem_head? h
    rcases List.mem_append.1 this with h | h
    · exact (lits_no l 99 h).2 rfl
    · simp at h
  unfold lineW
  rw [if_neg h]
  unfold fieldsL
  rw [List.foldl_append, fold_lits]
  simp [fstep, blk, flush]
theorem fold_row (l : List Int) (o : List Wd) : (rowS l).foldl wstep (o, []) = (o ++ (l.map itoa ++ [[48]]), []) := by
  have : rowS l = (litsS l ++ [48]) ++ [10] := by simp [rowS]
  rw [this, List.foldl_append, wstep_plain (litsS l ++ [48]) (fun h => by
    rcases List.mem_append.1 h with h | h
    · exact (lits_no l 10 h).1 rfl
    · simp at h)]
  simp only [List.nil_append, List.foldl_cons, List.foldl_nil, wstep, ↓reduceIte, line_row]
def toks (L : List (List Int)) : List Wd := L.flatMap fun l => l.map itoa ++ [[48]]
theorem fold_rows (L : List (List Int)) : ∀ o : List Wd, (rowsS L).foldl wstep (o, []) = (o ++ toks L, []) := by
  induction L with
  | nil => intro o; simp [rowsS, toks]
  | cons l L ih =>
    intro o
    have : rowsS (l :: L) = rowS l ++ rowsS L := by simp [rowsS]
    rw [this, List.foldl_append, fold_row, ih]
    simp [toks]
theorem line_head (g : Int) (n : Nat) : lineW ([112, 32, 99, 110, 102, 32] ++ itoa g ++ [32] ++ itoa n) = [[112], [99, 110, 102], itoa g, itoa n] := by
  have e : ([112, 32, 99, 110, 102, 32] ++ itoa g ++ [32] ++ itoa n : Wd) = (([112] : Wd) ++ [32]) ++ ((([99, 110, 102] : Wd) ++ [32]) ++ ((itoa g ++ [32]) ++ itoa n)) := by simp
  have h1 : blk 112 = false := by decide
  have h2 : blk 99 = false := by decide
  have h3 : blk 110 = false := by decide
  have h4 : blk 102 = false := by decide
  have h5 : blk 32 = true := by decide
  unfold lineW
  rw [if_neg (by simp)]
  unfold fieldsL
  rw [e, List.foldl_append, List.foldl_append, List.foldl_append]
  have s1 : ((([112] : Wd) ++ [32]).foldl fstep ([], [])) = ([[112]], []) := by decide
  have s2 : ((([99, 110, 102] : Wd) ++ [32]).foldl fstep ([[112]], [])) = ([[112], [99, 110, 102]], []) := by decide
  rw [s1, s2, fold_sp (plain_itoa g), fold_word _ (fun c hc => ((plain_itoa (n : Int)).2 c hc).1)]
  simp [flush, (plain_itoa (n : Int)).1]
theorem words_show (L : List (List Int)) : wordsL (showL L) = [112] :: [99, 110, 102] :: itoa (gr L) :: itoa (L.length : Int) :: toks L := by
  have e : showL L = ([112, 32, 99, 110, 102, 32] ++ itoa (gr L) ++ [32] ++ itoa (L.length : Int)) ++ ([10] ++ rowsS L) := by simp [showL, headS]
  have hn : (10 : UInt8) ∉ ([112, 32, 99, 110, 102, 32] ++ itoa (gr L) ++ [32] ++ itoa (L.length : Int)) := by
    intro h
    simp only [List.mem_append, List.mem_cons, List.not_mem_nil, or_false] at h
    have p1 := fun h => ((plain_itoa (gr L)).2 10 h).2.1 rfl
    have p2 := fun h => ((plain_itoa (L.length : Int)).2 10 h).2.1 rfl
    rcases h with ((h | h) | h) | h
    · revert h; decide
    · exact p1 h
    · revert h; decide
    · exact p2 h
  unfold wordsL
  rw [e, List.foldl_append, wstep_plain _ hn, List.foldl_append]
  simp only [List.nil_append, List.foldl_cons, List.foldl_nil]
  have : wstep ([], [112, 32, 99, 110, 102, 32] ++ itoa (gr L) ++ [32] ++ itoa (L.length : Int)) 10 = ([[112], [99, 110, 102], itoa (gr L), itoa (L.length : Int)], []) := by
    simp only [wstep, ↓reduceIte, line_head, List.nil_append]
  rw [this, fold_rows]
  simp [lineW, fieldsL, flush]

theorem body_row {v : Int} (hv : 0 ≤ v) (l : List Int) (h : ∀ x ∈ l, lit x = true ∧ av x ≤ v) : ∀ (o : List (List Int)) (now : List Int),
    (l.map itoa ++ [[48]]).foldl (bstep v) (some ⟨o, now⟩) = some ⟨o ++ [now ++ l], []⟩ := by
  induction l with
  | nil => intro o now; simp [bstep, litB_zero hv]
  | cons x l ih =>
    intro o now
    obtain ⟨h1, h2⟩ := h x (by simp)
    have hx := (lit_iff.1 h1).1
    have hs : bstep v (some ⟨o, now⟩) (itoa x) = some ⟨o, now ++ [x]⟩ := by
      simp only [bstep, litB_itoa h1 h2]; rw [if_pos hx]
    rw [List.map_cons, List.cons_append, List.foldl_cons, hs, ih (fun y hy => h y (by simp [hy]))]
    simp
theorem body_rows {v : Int} (hv : 0 ≤ v) (L : List (List Int)) (h : ∀ l ∈ L, ∀ x ∈ l, lit x = true ∧ av x ≤ v) : ∀ (o : List (List Int)),
    (toks L).foldl (bstep v) (some ⟨o, []⟩) = some ⟨o ++ L, []⟩ := by
  induction L with
  | nil => intro o; simp [toks]
  | cons l L ih =>
    intro o
    have : toks (l :: L) = (l.map itoa ++ [[48]]) ++ toks L := by simp [toks]
    rw [this, List.foldl_append, body_row hv l (h l (by simp)), ih (fun k hk => h k (by simp [hk]))]
    simp
theorem gr1_ge (m x : Int) : m ≤ gr1 m x := by unfold gr1; split <;> omega
theorem grL_ge (l : List Int) : ∀ m : Int, m ≤ grL m l := by
  induction l with
  | nil => intro m; exact Int.le_refl _
  | cons x l ih => intro m; exact Int.le_trans (gr1_ge m x) (ih _)
theorem grL_mem {l : List Int} {x : Int} (hx : x ∈ l) (h : lit x = true) : ∀ m : Int, av x ≤ grL m l := by
  induction l with
  | nil => simp at hx
  | cons y l ih =>
    intro m
    rcases List.mem_cons.1 hx with rfl | hx
    · have : av x ≤ gr1 m x := by unfold gr1; rw [if_pos h]; omega
      exact Int.le_trans this (grL_ge l _)
    · exact ih hx _
theorem grF_ge (L : List (List Int)) : ∀ m : Int, m ≤ L.foldl grL m := by
  induction L with
  | nil => intro m; exact Int.le_refl _
  | cons x l ih => intro m; exact Int.le_trans (grL_ge x m) (ih _)
theorem gr_mem {L : List (List Int)} {l : List Int} {x : Int} (hl : l ∈ L) (hx : x ∈ l) (h : lit x = true) : av x ≤ gr L := by
  suffices ∀ m : Int, av x ≤ L.foldl grL m from this 0
  induction L with
  | nil => simp at hl
  | cons k L ih =>
    intro m
    rcases List.mem_cons.1 hl with rfl | hl
    · exact Int.le_trans (grL_mem hx h m) (grF_ge L _)
    · exact ih hl _
/-- The text that clauses are shown as is read as them. -/
theorem parse_show (L : List (List Int)) (h : ∀ l ∈ L, ∀ x ∈ l, lit x = true) (hn : L.length ≤ 999999) : parseB (showL L) = some L := by
  have hg := gr_bd L
  have h1 : numB (itoa (gr L)) = some (gr L) := by
    obtain ⟨u, hu⟩ := Int.eq_ofNat_of_zero_le hg.1
    rw [hu]; unfold itoa; rw [if_neg (by omega), Int.toNat_natCast]; exact numB_dec (by omega)
  have h2 : numB (itoa (L.length : Int)) = some (L.length : Int) := by
    unfold itoa; rw [if_neg (by omega), Int.toNat_natCast]; exact numB_dec hn
  have hh : headB (wordsL (showL L)) = some (gr L, (L.length : Int)) := by
    rw [words_show]; simp [headB, h1, h2]
  have hb : bodyB (gr L) ((wordsL (showL L)).drop 4) = some ⟨L, []⟩ := by
    rw [words_show]
    have := body_rows hg.1 L (fun l hl x hx => ⟨h l hl x hx, gr_mem hl hx (h l hl x hx)⟩) []
    simpa [bodyB] using this
  unfold parseB
  rw [hh]
  simp only [hb]
  simp
end Go.Proofs.YtmgkoehclabejaaDoor
