/- The answers' Conflict, as mathematics. -/
import Derived.Test.YtoffhgiljnagcaaQB
namespace Go.Proofs.Ytoffhgiljnagcaa

/-- What a list has. -/
def Has' (so : Nat → Int) (m : Nat) (l : Int) : Prop := ∃ j, j < m ∧ so j = l
theorem inF_has {so : Nat → Int} {m : Nat} {l : Int} : inF so m l = true ↔ Has' so m l := inF_iff
theorem inF_no {so : Nat → Int} {m : Nat} {l : Int} : inF so m l = false ↔ ¬ Has' so m l := by
  rw [← inF_has, Bool.not_eq_true]
/-- A clause's literals, as far as they were looked at. -/
structure Opn (so : Nat → Int) (m : Nat) (f : Nat → Int) (k : Nat) (o : Nat) (last : Int) (h : Bool) : Prop where
  hh : h = true ↔ ∃ j, j < k ∧ Has' so m (f j)
  o0 : o = 0 → ∀ j, j < k → Has' so m (f j) ∨ Has' so m (-f j)
  o1 : o = 1 → (∃ j, j < k ∧ f j = last) ∧ ¬ Has' so m last ∧ ∀ j, j < k → f j = last ∨ Has' so m (f j) ∨ Has' so m (-f j)
  o2 : 2 ≤ o → ∃ i j, i < k ∧ j < k ∧ f i ≠ f j ∧ ¬ Has' so m (-f i) ∧ ¬ Has' so m (-f j)
  o3 : o = 1 → ¬ Has' so m (-last)
  ok : o ≤ k
theorem Opn.start (so : Nat → Int) (m : Nat) (f : Nat → Int) : Opn so m f 0 0 0 false :=
  ⟨⟨(fun h => by simp at h), (fun ⟨j, h, _⟩ => absurd h (Nat.not_lt_zero _))⟩, fun _ j h => absurd h (Nat.not_lt_zero _), fun h => by omega, fun h => by omega, fun h => by omega, Nat.le_refl _⟩
theorem lt_succ {k j : Nat} (h : j < k + 1) : j < k ∨ j = k := by omega
variable {so : Nat → Int} {m : Nat} {f : Nat → Int} {k o : Nat} {last : Int} {h : Bool}
/-- A literal that is so. -/
theorem Opn.hold (H : Opn so m f k o last h) (e : Has' so m (f k)) : Opn so m f (k + 1) o last true := by
  refine ⟨⟨fun _ => ⟨k, by omega, e⟩, fun _ => rfl⟩, fun h0 j hj => ?_, fun h1 => ?_, fun h2 => ?_, H.o3, by have := H.ok; omega⟩
  · rcases lt_succ hj with h | rfl
    · exact H.o0 h0 j h
    · exact .inl e
  · obtain ⟨⟨j, hj, a⟩, b, c⟩ := H.o1 h1
    refine ⟨⟨j, by omega, a⟩, b, fun j hj => ?_⟩
    rcases lt_succ hj with h | rfl
    · exact c j h
    · exact .inr (.inl e)
  · obtain ⟨i, j, a, b, c⟩ := H.o2 h2
    exact ⟨i, j, by omega, by omega, c⟩
theorem Opn.hstep (H : Opn so m f k o last h) (e : ¬ Has' so m (f k)) : h = true ↔ ∃ j, j < k + 1 ∧ Has' so m (f j) := by
  rw [H.hh]
  constructor
  · rintro ⟨j, hj, a⟩; exact ⟨j, by omega, a⟩
  · rintro ⟨j, hj, a⟩
    rcases lt_succ hj with h | rfl
    · exact ⟨j, h, a⟩
    · exact absurd a e
/-- One that is false, or was seen. -/
theorem Opn.skip (H : Opn so m f k o last h) (e : ¬ Has' so m (f k)) (e2 : Has' so m (-f k) ∨ ∃ j, j < k ∧ f j = f k) : Opn so m f (k + 1) o last h := by
  refine ⟨H.hstep e, fun h0 j hj => ?_, fun h1 => ?_, fun h2 => ?_, H.o3, by have := H.ok; omega⟩
  · rcases lt_succ hj with h | rfl
    · exact H.o0 h0 j h
    · rcases e2 with e2 | ⟨i, hi, e2⟩
      · exact .inr e2
      · rw [← e2]; exact H.o0 h0 i hi
  · obtain ⟨⟨j, hj, a⟩, b, c⟩ := H.o1 h1
    refine ⟨⟨j, by omega, a⟩, b, fun j hj => ?_⟩
    rcases lt_succ hj with h | rfl
    · exact c j h
    · rcases e2 with e2 | ⟨i, hi, e2⟩
      · exact .inr (.inr e2)
      · rw [← e2]; exact c i hi
  · obtain ⟨i, j, a, b, c⟩ := H.o2 h2
    exact ⟨i, j, by omega, by omega, c⟩
/-- A new one. -/
theorem Opn.next (H : Opn so m f k o last h) (e : ¬ Has' so m (f k)) (e2 : ¬ Has' so m (-f k)) (e3 : ¬ ∃ j, j < k ∧ f j = f k) : Opn so m f (k + 1) (o + 1) (f k) h := by
  refine ⟨H.hstep e, fun h0 => by omega, fun h1 => ⟨⟨k, by omega, rfl⟩, e, fun j hj => ?_⟩, fun h2 => ?_, fun _ => e2, by have := H.ok; omega⟩
  · rcases lt_succ hj with h | rfl
    · exact .inr (H.o0 (by omega) j h)
    · exact .inl rfl
  · by_cases h1 : o = 1
    · obtain ⟨⟨j, hj, a⟩, b, c⟩ := H.o1 h1
      refine ⟨j, k, by omega, by omega, fun e4 => e3 ⟨j, hj, e4⟩, by rw [a]; exact H.o3 h1, e2⟩
    · obtain ⟨i, j, a, b, c⟩ := H.o2 (by omega)
      exact ⟨i, j, by omega, by omega, c⟩

/-- What clauses that hold, or are open, say. -/
def Qui (so : Nat → Int) (m : Nat) (R : Nat → Row) (i : Nat) : Prop :=
  (∃ j, j < (R i).n ∧ Has' so m ((R i).f j)) ∨ ∃ j k, j < (R i).n ∧ k < (R i).n ∧ (R i).f j ≠ (R i).f k ∧ ¬ Has' so m (-(R i).f j) ∧ ¬ Has' so m (-(R i).f k)
theorem Opn.qui {R : Nat → Row} {i : Nat} (H : Opn so m (R i).f (R i).n o last h) (e : h = true ∨ 1 < o) : Qui so m R i := by
  by_cases hb : h = true
  · exact .inl (H.hh.1 hb)
  · exact .inr (H.o2 (by rcases e with e | e
                         · exact absurd e hb
                         · omega))
theorem conf_false {R : Nat → Row} {n : Nat} (hno : ∀ i, i < m → ¬ Has' so m (-so i)) (hq : ∀ i, i < n → Qui so m R i) : ¬ Conf (RowC R n) (Has' so m) := by
  intro hc
  refine closed_not (T := Has' so m) ?_ (fun c hr => ?_) hc fun _ h => h
  · rintro l ⟨j, hj, rfl⟩ h2
    exact hno j hj h2
  · obtain ⟨i, hi, rfl⟩ := hr
    rcases hq i hi with ⟨j, hj, a⟩ | ⟨j, k, hj, hk, a, b, c⟩
    · exact .inl ⟨_, lof_mem.2 ⟨j, hj, rfl⟩, a⟩
    · exact .inr ⟨_, _, lof_mem.2 ⟨j, hj, rfl⟩, lof_mem.2 ⟨k, hk, rfl⟩, a, b, c⟩
theorem conf_clash (C : List Int → Prop) {i : Nat} (hi : i < m) (h : Has' so m (-so i)) : Conf C (Has' so m) := .clash (so i) ⟨i, hi, rfl⟩ h
theorem Opn.none {R : Nat → Row} {n i : Nat} (hi : i < n) (H : Opn so m (R i).f (R i).n o last h) (hh : h = false) (ho : o = 0) : Conf (RowC R n) (Has' so m) := by
  refine .none (lof (R i).f (R i).n) ⟨i, hi, rfl⟩ fun l hl => ?_
  obtain ⟨j, hj, rfl⟩ := lof_mem.1 hl
  rcases H.o0 ho j hj with a | a
  · have := H.hh.2 ⟨j, hj, a⟩
    rw [hh] at this; cases this
  · exact a
/-- One more that is so. -/
def snF (so : Nat → Int) (m : Nat) (x : Int) (j : Nat) : Int := if j < m then so j else x
theorem has_sn {x : Int} (l : Int) : Has' (snF so m x) (m + 1) l ↔ l = x ∨ Has' so m l := by
  constructor
  · rintro ⟨j, hj, e⟩
    rcases lt_succ hj with h | rfl
    · rw [snF, if_pos h] at e; exact .inr ⟨j, h, e⟩
    · rw [snF, if_neg (Nat.lt_irrefl _)] at e; exact .inl e.symm
  · rintro (rfl | ⟨j, hj, e⟩)
    · exact ⟨m, by omega, if_neg (Nat.lt_irrefl _)⟩
    · exact ⟨j, by omega, by rw [snF, if_pos hj]; exact e⟩
theorem Opn.unit {R : Nat → Row} {n i : Nat} (hi : i < n) (H : Opn so m (R i).f (R i).n o last h) (hh : h = false) (ho : o = 1) : Conf (RowC R n) (Has' (snF so m last) (m + 1)) ↔ Conf (RowC R n) (Has' so m) := by
  obtain ⟨⟨j, hj, rfl⟩, h1, h2⟩ := H.o1 ho
  constructor
  · intro hc
    refine .unit (lof (R i).f (R i).n) ((R i).f j) ⟨i, hi, rfl⟩ (lof_mem.2 ⟨j, hj, rfl⟩) (fun l hl hne => ?_) (hc.mono (fun _ h => h) fun l hl => (has_sn l).1 hl)
    obtain ⟨k, hk, rfl⟩ := lof_mem.1 hl
    rcases h2 k hk with a | a | a
    · exact absurd a hne
    · have := H.hh.2 ⟨k, hk, a⟩
      rw [hh] at this; cases this
    · exact a
  · intro hc
    exact hc.mono (fun _ h => h) fun l hl => (has_sn l).2 (.inr hl)

/-- How many literals are not so. -/
def outs (l : List Int) (so : Nat → Int) (m : Nat) : Nat := (l.filter fun x => !inF so m x).length
theorem filt_le {l : List Int} {p q : Int → Bool} (h : ∀ x, q x = true → p x = true) : (l.filter q).length ≤ (l.filter p).length := by
  induction l with
  | nil => exact Nat.le_refl _
  | cons a l ih =>
    simp only [List.filter_cons]
    cases hq : q a
    · cases hp : p a
      · simpa [hq, hp] using ih
      · simpa [hq, hp] using Nat.le_succ_of_le ih
    · simpa [hq, h a hq] using ih
theorem filt_lt {l : List Int} {p q : Int → Bool} (h : ∀ x, q x = true → p x = true) {x : Int} (hx : x ∈ l) (hp : p x = true) (hq : q x = false) : (l.filter q).length < (l.filter p).length := by
  induction l with
  | nil => cases hx
  | cons a l ih =>
    rcases List.mem_cons.1 hx with rfl | hx'
    · simp only [List.filter_cons, hp, hq]
      simpa using Nat.lt_succ_of_le (filt_le (l := l) h)
    · have := ih hx'
      simp only [List.filter_cons]
      cases hqa : q a
      · cases hpa : p a
        · simpa [hqa, hpa] using this
        · simpa [hqa, hpa] using Nat.lt_succ_of_lt this
      · simpa [hqa, h a hqa] using this
theorem outs_lt {l : List Int} {x : Int} (hx : x ∈ l) (hs : ¬ Has' so m x) : outs l (snF so m x) (m + 1) < outs l so m := by
  refine filt_lt (fun y hy => ?_) hx (by rw [inF_no.2 hs]; rfl) (by rw [inF_has.2 ((has_sn x).2 (.inl rfl))]; rfl)
  cases e : inF so m y
  · rfl
  · rw [inF_has.2 ((has_sn y).2 (.inr (inF_has.1 e)))] at hy; cases hy
theorem outs_le (l : List Int) (so : Nat → Int) (m : Nat) : outs l so m ≤ l.length := List.length_filter_le _ _
theorem Opn.out {R : Nat → Row} {n i : Nat} (hi : i < n) (H : Opn so m (R i).f (R i).n o last h) (ho : o = 1) : outs (rowsL R n).flatten (snF so m last) (m + 1) < outs (rowsL R n).flatten so m := by
  obtain ⟨⟨j, hj, rfl⟩, h1, h2⟩ := H.o1 ho
  refine outs_lt ?_ h1
  rw [List.mem_flatten]
  exact ⟨lof (R i).f (R i).n, by simp only [rowsL, List.mem_map]; exact ⟨i, List.mem_range.2 hi, rfl⟩, lof_mem.2 ⟨j, hj, rfl⟩⟩
theorem flat_le {R : Nat → Row} : ∀ {n : Nat}, (∀ j, j < n → (R j).n ≤ 30) → (rowsL R n).flatten.length ≤ n * 30
  | 0, _ => by simp [rowsL]
  | n + 1, h => by
    have := flat_le (R := R) (n := n) fun j hj => h j (by omega)
    have h2 := h n (by omega)
    rw [rowsL_succ, List.flatten_append, List.length_append]
    simp only [List.flatten_cons, List.flatten_nil, List.append_nil, lof_length]
    omega
end Go.Proofs.Ytoffhgiljnagcaa
