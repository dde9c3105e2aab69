/- Contracts: Right, and whether all clauses are valid. -/
import Derived.Test.YtoffhgiljnagcaaRC
import Derived.Test.YtoffhgiljnagcaaShelf
namespace Go.Proofs.Ytoffhgiljnagcaa
open Go.RowKit Go.Lib

theorem right1_any (x : Int) (W : World) : Calls Try.prog 68 #[.int .i64 x] W fun e w' => e = .returned (.bool (!lit x)) ∧ W = w' := by
  have hl := literal_any x
  cases hb : lit x
  all_goals
    rw [hb] at hl
    have HL := Lib.hid hl; clear hl hb
    go_enter Try.func68, Try.ntmps68
    go_wp2_with (go_at_call 63; refine (HL.out _).mono ?_; rintro e w' ⟨rfl, rfl⟩)
    go_ret
    exact ⟨rfl, rfl⟩
theorem right1_pred (w : World) : PredAt Try.prog 68 #[] (Value.int .i64) (fun x => !lit x) w := fun W x _ =>
  (right1_any x W).mono fun _ _ ⟨he, hw⟩ => ⟨he, 0, hw.symm⟩

theorem lof_getElem! {f : Nat → Int} {n j : Nat} (h : j < n) : (lof f n)[j]! = f j := by
  have : j < (lof f n).length := by rw [lof_length]; exact h
  rw [getElem!_pos (lof f n) j this]; simp [lof]
theorem any_not_lit (f : Nat → Int) (n : Nat) : ((lof f n).any fun x => !lit x) = !litF f n := by
  rw [Bool.eq_iff_iff]; simp [lof, litF]

def RightPost (f : Nat → Int) (n : Nat) (w : World) (e : Ending) (w' : World) : Prop := e = .returned (.bool (litF f n)) ∧ ∃ q, w' = w.drewN q
theorem right_any (a : Option Addr) (n c : Nat) (f : Nat → Int) (w : World) (hm : n ≤ 140737488355328) (h : Has w a n f) :
    Calls Try.prog 42 #[.slice a n c] w (RightPost f n w) := by
  have hcon : Calls Try.prog 39 #[.slice a n c, .func (.func 68) #[] #[]] w fun e w' => e = .returned (.bool (!litF f n)) ∧ ∃ q, w' = w.drewN q := by
    rcases h with rfl | ⟨b, off, rfl, _, hc⟩
    · refine (Try.slices_ContainsFunc_empty_f39 (α := Int) a c _ w).mono ?_
      rintro e w' ⟨rfl, rfl⟩
      exact ⟨rfl, 0, rfl⟩
    · have := Try.slices_ContainsFunc_f39 (Value.int .i64) (fun x => !lit x) 68 #[] (enters_of Try.func68 (by kernel_rfl) rfl) b off n c (lof f n) w (right1_pred w) (by simp [lof]) (by omega)
        (fun j hj => by rw [lof_length] at hj; rw [lof_getElem! hj]; exact hc j hj)
      rw [List.take_of_length_le (by simp [lof]), any_not_lit] at this
      exact this
  have HC := Lib.hid hcon; clear hcon h
  cases hb : litF f n
  · rw [hb] at HC
    have HB := Lib.hid hb; clear hb
    go_enter Try.func42, Try.ntmps42
    go_wp2_with (go_at_call 39; refine HC.out.mono ?_; rintro e w' ⟨rfl, q, rfl⟩)
    go_ret
    exact ⟨ret_bool HB.out.symm, q, rfl⟩
  · rw [hb] at HC
    have HB := Lib.hid hb; clear hb
    go_enter Try.func42, Try.ntmps42
    go_wp2_with (go_at_call 39; refine HC.out.mono ?_; rintro e w' ⟨rfl, q, rfl⟩)
    go_ret
    exact ⟨ret_bool HB.out.symm, q, rfl⟩

/-- The rows that lie in a world. -/
abbrev RowIn (w : World) : Type := { r : Row // Has w r.a r.n r.f ∧ r.n ≤ 140737488355328 }
instance (w : World) : Inhabited (RowIn w) := ⟨⟨⟨none, 0, 0, fun _ => 0⟩, .inl rfl, Nat.zero_le _⟩⟩
def encRow (w : World) (r : RowIn w) : Value := .slice r.1.a r.1.n r.1.c

theorem show1_any (a : Option Addr) (n c : Nat) (f : Nat → Int) (W : World) (hm : n ≤ 140737488355328) (h : Has W a n f) :
    Calls Try.prog 41 #[.slice a n c] W fun e w' => e = .returned (.bool (!litF f n)) ∧ ∃ q, w' = W.drewN q := by
  have hr := right_any a n c f W hm h
  unfold RightPost at hr
  cases hv : litF f n
  all_goals
    rw [hv] at hr
    have HR := Lib.hid hr; clear hr hv h
    go_enter Try.func41, Try.ntmps41
    go_wp2_with (go_at_call 42; refine HR.out.mono ?_; rintro e w' ⟨rfl, q, rfl⟩)
    go_ret
    exact ⟨rfl, q, rfl⟩
theorem show1_pred (w : World) : PredAt Try.prog 41 #[] (encRow w) (fun r => !litF r.1.f r.1.n) w := fun W x hb =>
  show1_any x.1.a x.1.n x.1.c x.1.f W x.2.2 (x.2.1.below hb)

def litR (R : Nat → Row) (n : Nat) : Bool := (List.range n).all fun j => litF (R j).f (R j).n
theorem litR_iff {R : Nat → Row} {n : Nat} : litR R n = true ↔ ∀ j, j < n → litF (R j).f (R j).n = true := by simp [litR]

/-- What the walk of Show asks of slices.ContainsFunc. -/
theorem valid_any (a : Option Addr) (n c : Nat) (R : Nat → Row) (w : World) (hm : n ≤ 140737488355328) (hR : ∀ j, j < n → (R j).n ≤ 140737488355328) (h : Rws w a n R) :
    Calls Try.prog 40 #[.slice a n c, .func (.func 41) #[] #[]] w fun e w' => e = .returned (.bool (!litR R n)) ∧ ∃ q, w' = w.drewN q := by
  rcases h with rfl | ⟨b, off, rfl, _, hc⟩
  · refine (Try.slices_ContainsFunc_empty_f40 (α := Int) a c _ w).mono ?_
    rintro e w' ⟨rfl, rfl⟩
    exact ⟨rfl, 0, rfl⟩
  · let zs : List (RowIn w) := (List.range n).attach.map fun j => ⟨R j.1, (hc j.1 (List.mem_range.1 j.2)).2, hR j.1 (List.mem_range.1 j.2)⟩
    have hl : zs.length = n := by simp [zs]
    have hz : ∀ j (hj : j < n), zs[j]! = ⟨R j, (hc j hj).2, hR j hj⟩ := fun j hj => by
      rw [getElem!_pos zs j (by rw [hl]; exact hj)]; simp [zs]
    have := Try.slices_ContainsFunc_f40 (encRow w) (fun r => !litF r.1.f r.1.n) 41 #[] (enters_of Try.func41 (by kernel_rfl) rfl) b off n c zs w (show1_pred w) (by omega) (by omega)
      (fun j hj => by rw [hl] at hj; rw [hz j hj]; exact (hc j hj).1)
    rw [List.take_of_length_le (by omega)] at this
    have e : (zs.any fun r => !litF r.1.f r.1.n) = !litR R n := by
      rw [Bool.eq_iff_iff]; simp [zs, litR]
    rw [e] at this
    exact this
end Go.Proofs.Ytoffhgiljnagcaa
