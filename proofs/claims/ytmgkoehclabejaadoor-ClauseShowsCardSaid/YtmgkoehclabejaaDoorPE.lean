/- Contract: the words of a text (the program's). -/
import Derived.Test.YtmgkoehclabejaaDoorPC
import Derived.Test.YtmgkoehclabejaaDoorPD
import Derived.Test.YtmgkoehclabejaaDoorFf
import Derived.Shelf.Strings.FieldsFuncGrows
namespace Go.Proofs.YtmgkoehclabejaaDoor
open Go Go.RowKit Go.Shelf Go.Lib

set_option maxHeartbeats 400000 in
theorem splitSeq_any (s sep : ByteArray) (w : World) :
    Calls Tryd.prog 79 #[.string s, .string sep, .int .i64 0] w fun e w' => e = .returned (.func (.func 91) #[] #[.pointer (some ⟨w.heap.size + 1, 0, none⟩), .pointer (some ⟨w.heap.size, 0, none⟩), .pointer (some ⟨w.heap.size + 2, 0, none⟩)]) ∧
      w' = ((w.alloc (.cells #[.string s] 9)).alloc (.cells #[.string sep] 9)).alloc (.cells #[.int .i64 0] 3) := by
  go_enter Tryd.func79, Tryd.ntmps79
  go_wp2
  go_ret
  exact ⟨rfl, rfl⟩
set_option maxHeartbeats 400000 in
theorem splitSeq_line (s sep : ByteArray) (w : World) :
    Calls Tryd.prog 62 #[.string s, .string sep] w fun e w' => e = .returned (.func (.func 91) #[] #[.pointer (some ⟨w.heap.size + 1, 0, none⟩), .pointer (some ⟨w.heap.size, 0, none⟩), .pointer (some ⟨w.heap.size + 2, 0, none⟩)]) ∧
      w' = ((w.alloc (.cells #[.string s] 9)).alloc (.cells #[.string sep] 9)).alloc (.cells #[.int .i64 0] 3) := by
  have h := splitSeq_any s sep w
  have H := Lib.hid h; clear h
  go_enter Tryd.func62, Tryd.ntmps62
  go_wp2_with fail
  refine H.out.mono ?_
  rintro e w' ⟨rfl, rfl⟩
  go_wp2
  go_ret
  exact ⟨rfl, rfl⟩

set_option maxHeartbeats 400000 in
theorem blank_any (x : Nat) (w : World) : Calls Tryd.prog 61 #[.int .i32 x] w fun e w' => e = .returned (.bool (pB x)) ∧ w' = w := by
  by_cases h1 : x = 32
  · subst h1
    go_enter Tryd.func61, Tryd.ntmps61
    go_wp2
    go_ret
    exact ⟨rfl, rfl⟩
  · by_cases h2 : x = 9
    · subst h2
      go_enter Tryd.func61, Tryd.ntmps61
      go_wp2
      go_ret
      exact ⟨rfl, rfl⟩
    · have b1 : ((x : Int) == 32) = false := by simp; omega
      have b2 : ((x : Int) == 9) = false := by simp; omega
      have hp : pB x = ((x : Int) == 13) := by
        unfold pB
        rw [show (x == 32) = false by simpa using h1, show (x == 9) = false by simpa using h2, Bool.eq_iff_iff]
        simp; omega
      rw [hp]
      clear hp h1 h2
      cases b3 : ((x : Int) == 13)
      · go_enter Tryd.func61, Tryd.ntmps61
        go_wp2
        go_ret
        exact ⟨rfl, rfl⟩
      · go_enter Tryd.func61, Tryd.ntmps61
        go_wp2
        go_ret
        exact ⟨rfl, rfl⟩

theorem own_shape {W : World} {base : Nat} {e : TypeId} {size : Nat} {v : Value} {k : Nat} {xs : List Value} (h : W.ownsRow base e size v k xs) : ∃ a c, v = .slice a k c := by
  rcases h.2 with ⟨rfl, h0⟩ | ⟨g, cap, _, rfl, _⟩
  · subst h0; exact ⟨none, 0, rfl⟩
  · exact ⟨_, cap, rfl⟩

theorem words_step {w0 W w1 w2 : World} {v v' fv : Value} {k m : Nat} {xs ys : List Value} {n1 : Nat} (hn1 : n1 = w0.heap.size + 5)
    (hB : Boxed W w0.heap.size 63 v) (hf : Boxed W (w0.heap.size + 1) 77 fv) (hr : W.ownsRow n1 9 1 v k xs) (hb : Below w0.heap.size w0 W) (hsz : n1 ≤ W.heap.size)
    (h1 : Below W.heap.size W w1) (hown : w2.ownsRow n1 9 1 v' (k + m) ys) (hg : w1.grownBy w2 v.ownBlock) :
    Boxed w2 w0.heap.size 63 v ∧ KeepsOthers W (w2.setCell ⟨w0.heap.size, 0, none⟩ v') ∧
      (∀ b ∈ [w0.heap.size + 3, w0.heap.size + 2, w0.heap.size + 4], (w2.setCell ⟨w0.heap.size, 0, none⟩ v').heap[b]? = W.heap[b]?) ∧
      Boxed (w2.setCell ⟨w0.heap.size, 0, none⟩ v') w0.heap.size 63 v' ∧ Boxed (w2.setCell ⟨w0.heap.size, 0, none⟩ v') (w0.heap.size + 1) 77 fv ∧
      (w2.setCell ⟨w0.heap.size, 0, none⟩ v').ownsRow n1 9 1 v' (k + m) ys ∧ Below w0.heap.size w0 (w2.setCell ⟨w0.heap.size, 0, none⟩ v') := by
  subst hn1
  have row1 := own_below hr h1
  have hB1 : Boxed w1 w0.heap.size 63 v := (h1.block _ hB.lt).trans hB
  have hf1 : Boxed w1 (w0.heap.size + 1) 77 fv := (h1.block _ hf.lt).trans hf
  have hB2 : Boxed w2 w0.heap.size 63 v := hB1.kept hg (hB1.not_row (by decide) row1)
  have hf2 : Boxed w2 (w0.heap.size + 1) 77 fv := hf1.kept hg (hf1.not_row (by decide) row1)
  have hge : ∀ b, b < w0.heap.size + 5 → some b ≠ v.ownBlock := by
    intro b hb'
    rcases row1.2 with ⟨rfl, _⟩ | ⟨g, cap, cur, rfl, hgb, _⟩
    · simp [Value.ownBlock]
    · simp only [Value.ownBlock, ne_eq, Option.some.injEq]; omega
  have hsame : ∀ b, b ≠ w0.heap.size → b < W.heap.size → some b ≠ v.ownBlock → (w2.setCell ⟨w0.heap.size, 0, none⟩ v').heap[b]? = W.heap[b]? := by
    intro b hb1 hb2 hb3
    exact (Below.heap_setCell _ _ _ _ hb1).trans ((hg.block b (Nat.lt_of_lt_of_le hb2 h1.size) hb3).trans (h1.block b hb2))
  have hsize : W.heap.size ≤ (w2.setCell ⟨w0.heap.size, 0, none⟩ v').heap.size :=
    Nat.le_trans h1.size (Nat.le_trans hg.size (KeepsOthers.setCell w2 ⟨w0.heap.size, 0, none⟩ v').size)
  refine ⟨hB2, ⟨hsize, fun b o ho hc => ?_⟩, fun b hbm => ?_, hB2.set _, hf2.kept (grownBy_setCell' _ _ _) (by simp), ?_, ?_⟩
  · have hlt := (Array.getElem?_eq_some_iff.1 ho).1
    have hne : b ≠ w0.heap.size := by
      rintro rfl
      rw [show W.heap[w0.heap.size]? = _ from hB] at ho
      cases ho; cases hc
    have hnb : some b ≠ v.ownBlock := by
      rcases hr.2 with ⟨rfl, _⟩ | ⟨g, cap, cur, rfl, _, hgb, _⟩
      · simp [Value.ownBlock]
      · simp only [Value.ownBlock, ne_eq, Option.some.injEq]
        rintro rfl
        rw [hgb] at ho; cases ho; cases hc
    exact (hsame b hne hlt hnb).trans ho
  · have : b < w0.heap.size + 5 ∧ b ≠ w0.heap.size := by
      simp only [List.mem_cons, List.not_mem_nil, or_false] at hbm
      omega
    exact hsame b this.2 (by omega) (hge b this.1)
  · exact hown.kept (grownBy_setCell' _ _ _) (.inr (hB2.not_row (by decide) hown).symm)
  · refine ((hb.trans ?_) : Below w0.heap.size w0 w2).setCell (p := ⟨w0.heap.size, 0, none⟩) (Nat.le_refl _) v'
    have h1' : Below w0.heap.size W w1 := h1.mono (by omega)
    exact h1'.grown hg (by have := h1.size; omega) (fun j ej => by
      rcases row1.2 with ⟨rfl, _⟩ | ⟨g, cap, cur, rfl, hgb, _⟩
      · simp [Value.ownBlock] at ej
      · simp only [Value.ownBlock, Option.some.injEq] at ej; omega)

/-- The fields of a line, as values. -/
def fieldsV (l : Wd) : List Value := (fieldsL l).map fun x => .string (bs x)
theorem fields_line (l : Wd) (hl : l.length ≤ 1000000) (w : World) :
    Calls Tryd.prog 64 #[.string (bs l), .func (.func 61) #[] #[]] w fun e w' => ∃ A, e = .returned (.slice (some ⟨A, 0, none⟩) (fieldsV l).length (fieldsV l).length) ∧
      (∀ j u, (fieldsV l)[j]? = some u → w'.cell? ((⟨A, 0, none⟩ : Addr).add j) = some u) ∧ Below w.heap.size w w' := by
  have h := Tryd.strings_FieldsFunc 61 #[] (enters_of Tryd.func61 (by kernel_rfl) rfl) pB (bs l) w (by rw [bs_size]; omega) (fun W x _ => (blank_any x W).mono (by rintro e w' ⟨rfl, rfl⟩; exact ⟨rfl, 0, rfl⟩))
  have hg : goFieldsP pB (bs l) = (fieldsL l).map bsD := goFields_bytes l
  have hv : (goFieldsP pB (bs l)).map Value.string = fieldsV l := by rw [hg, List.map_map]; rfl
  have hn : (goFieldsP pB (bs l)).length = (fieldsV l).length := by rw [← hv, List.length_map]
  rw [hv, hn] at h
  refine h.mono ?_
  rintro e w' ⟨A, rfl, _, hown, hb⟩
  exact ⟨A, rfl, hown.cells rfl, hb⟩
theorem fold_len (l : Wd) : ∀ st : List Wd × Wd, (l.foldl fstep st).1.length + (flush (l.foldl fstep st).2).length ≤ st.1.length + (flush st.2).length + l.length := by
  induction l with
  | nil => intro st; simp
  | cons c l ih =>
    intro st
    refine Nat.le_trans (ih _) ?_
    unfold fstep
    split
    · simp [flush] <;> omega
    · simp only [flush, List.length_cons]
      split <;> split <;> simp <;> omega
theorem fieldsL_len (l : Wd) : (fieldsL l).length ≤ l.length := by
  have := fold_len l ([], [])
  simp only [fieldsL, List.length_append]
  simpa [flush] using this
theorem linesF_len (n : Nat) : ∀ l : Wd, l.length ≤ n → ((linesF n l).flatMap lineW).length ≤ l.length := by
  intro l hl
  have h1 := words_lines n l hl []
  have h2 : ∀ (l : Wd) (st : List Wd × Wd), (l.foldl wstep st).1.length + (l.foldl wstep st).2.length ≤ st.1.length + st.2.length + l.length := by
    intro l
    induction l with
    | nil => intro st; simp
    | cons c l ih =>
      intro st
      refine Nat.le_trans (ih _) ?_
      unfold wstep
      split
      · have : (lineW st.2).length ≤ st.2.length := by unfold lineW; split <;> simp [fieldsL_len]
        simp; omega
      · simp; omega
  have h3 := h2 l ([], [])
  have h4 : (lineW (l.foldl wstep ([], [])).2).length ≤ (l.foldl wstep ([], [])).2.length := by unfold lineW; split <;> simp [fieldsL_len]
  have h5 := congrArg List.length h1
  simp only [List.length_append, List.nil_append, List.length_nil] at h5 h3
  omega
def wordsV (L : List Wd) : List Value := (L.flatMap lineW).map fun x => .string (bs x)
theorem wordsV_snoc (L : List Wd) (l : Wd) : wordsV (L ++ [l]) = wordsV L ++ (lineW l).map fun x => Value.string (bs x) := by simp [wordsV]
theorem lineW_skip {l : Wd} (h : Lib.hasPrefix l [99] = true) : lineW l = [] := by
  cases l with
  | nil => simp [Lib.hasPrefix] at h
  | cons c l => simp [Lib.hasPrefix] at h; subst h; rfl
theorem lineW_keep {l : Wd} (h : Lib.hasPrefix l [99] = false) : lineW l = fieldsL l := by
  cases l with
  | nil => rfl
  | cons c l =>
    simp [Lib.hasPrefix] at h
    unfold lineW
    rw [if_neg (by simp only [List.head?_cons, Option.some.injEq]; rintro rfl; simp at h)]
end Go.Proofs.YtmgkoehclabejaaDoor
