/- Contracts: All, and the answer's. -/
import Derived.Test.YtoffhgiljnagcaaRN
namespace Go.Proofs.Ytoffhgiljnagcaa
open Go.RowKit Go.Lib

def allR (R : Nat → Row) (n : Nat) (g : Nat → Bool) (k : Nat) : Bool := (List.range n).all fun j => holdsF (R j).f (R j).n g k
theorem allR_iff {R : Nat → Row} {n : Nat} {g : Nat → Bool} {k : Nat} : allR R n g k = true ↔ ∀ j, j < n → holdsF (R j).f (R j).n g k = true := by simp [allR]
theorem allR_not {R : Nat → Row} {n j : Nat} {g : Nat → Bool} {k : Nat} (hj : j < n) (h : holdsF (R j).f (R j).n g k = false) : allR R n g k = false := by
  rw [← Bool.not_eq_true, allR_iff]; intro hh; rw [hh j hj] at h; cases h

set_option maxHeartbeats 400000 in
theorem all1_any (a : Option Addr) (n c : Nat) (f : Nat → Int) (B : Nat) (am : Option Addr) (k cm : Nat) (g : Nat → Bool) (w : World) (hm : n ≤ 140737488355328) (hk : k ≤ 140737488355328) (h : Has w a n f) (hB : w.cell? ⟨B, 0, none⟩ = some (.slice am k cm)) (hg : HasB w am k g) :
    Calls Try.prog 65 #[.slice a n c, .pointer (some ⟨B, 0, none⟩)] w fun e w' => e = .returned (.bool (!holdsF f n g k)) ∧ Below w.heap.size w w' := by
  have hc := holds_any a n c f am k cm g w hm hk h hg
  unfold HoldsPost at hc
  cases hv : holdsF f n g k
  all_goals
    rw [hv] at hc
    have HC := Lib.hid hc; clear hc hv h hg
    go_enter Try.func65, Try.ntmps65
    go_wp2_with fail
    refine HC.out.mono ?_
    rintro e w1 ⟨rfl, hb⟩
    go_wp2
    go_ret
    exact ⟨rfl, hb⟩

def IdxPost (p : Nat → Bool) (n : Nat) (w : World) (e : Ending) (w' : World) : Prop := ∃ r : Int, e = .returned (.int .i64 r) ∧ decide (0 ≤ r) = (List.range n).any p ∧ Below w.heap.size w w'

set_option maxHeartbeats 1000000 in
theorem index_rows (b off n c : Nat) (R : Nat → Row) (B : Nat) (am : Option Addr) (k cm : Nat) (g : Nat → Bool) (w : World) (hm : n ≤ 140737488355328) (hR : ∀ j, j < n → (R j).n ≤ 140737488355328) (hk : k ≤ 140737488355328)
    (hb : b < w.heap.size) (hc : ∀ j, j < n → w.cell? ⟨b, off + j, none⟩ = some (.slice (R j).a (R j).n (R j).c) ∧ Has w (R j).a (R j).n (R j).f) (hB0 : B < w.heap.size) (hB : w.cell? ⟨B, 0, none⟩ = some (.slice am k cm)) (hg : HasB w am k g) :
    Calls Try.prog 67 #[.slice (some ⟨b, off, none⟩) n c, .func (.func 65) #[] #[.pointer (some ⟨B, 0, none⟩)]] w (IdxPost (fun j => !holdsF (R j).f (R j).n g k) n w) := by
  have h1 : ∀ j, j < n → ∀ W, Below w.heap.size w W → Calls Try.prog 65 #[.slice (R j).a (R j).n (R j).c, .pointer (some ⟨B, 0, none⟩)] W fun e w' => e = .returned (.bool (!holdsF (R j).f (R j).n g k)) ∧ Below w.heap.size w w' := fun j hj W hbW =>
    (all1_any _ _ _ _ B am k cm g W (hR j hj) hk ((hc j hj).2.below hbW) (by rw [← hB]; exact hbW.cell (p := ⟨B, 0, none⟩) hB0) (hg.below hbW)).mono fun _ _ ⟨he, h3⟩ => ⟨he, hbW.trans (h3.mono hbW.size)⟩
  have hcell : ∀ j, j < n → ∀ W, Below w.heap.size w W → W.cell? ⟨b, off + j, none⟩ = some (.slice (R j).a (R j).n (R j).c) := fun j hj W hbW => by
    rw [← (hc j hj).1]; exact hbW.cell (p := ⟨b, off + j, none⟩) hb
  have H1 := Lib.hid h1; clear h1
  have HC := Lib.hid hcell; clear hcell
  clear hc hg hB hR hB0
  go_enter Try.func67, Try.ntmps67
  go_wp2_with fail
  go_loopw [8] (fun i wr => ∃ t : Nat, t ≤ n ∧ i = .int .i64 t ∧ Below w.heap.size w wr ∧ Hid (∀ j, j < t → holdsF (R j).f (R j).n g k = true)) (fun i _ => n - (intOf i).toNat)
  case atStart => exact ⟨0, Nat.zero_le _, rfl, Below.refl _ _, Lib.hid fun _ h => absurd h (Nat.not_lt_zero _)⟩
  case round =>
    obtain ⟨t, ht, rfl, hbw, hn⟩ := hrel
    by_cases hlt : t < n
    · have hcl := HC.out t hlt wr hbw
      have hcall := H1.out t hlt wr hbw
      have hret : holdsF (R t).f (R t).n g k = false → ∀ W, Below w.heap.size w W → IdxPost (fun j => !holdsF (R j).f (R j).n g k) n w (.returned (.int .i64 t)) W := fun h0 W hbW =>
        ⟨t, rfl, by rw [decide_eq_true (by omega)]; symm; rw [List.any_eq_true]; exact ⟨t, List.mem_range.2 hlt, by rw [h0]; rfl⟩, hbW⟩
      have hnext : holdsF (R t).f (R t).n g k = true → Hid (∀ j, j < t + 1 → holdsF (R j).f (R j).n g k = true) := fun h0 => Lib.hid fun j hj => by
        by_cases e : j = t
        · subst e; exact h0
        · exact hn.out j (by omega)
      generalize holdsF (R t).f (R t).n g k = v at hcall hret hnext
      generalize R t = r at hcl hcall
      obtain ⟨ra, rn, rc, rf⟩ := r
      simp only at hcl hcall
      have HRET := Lib.hid hret; clear hret
      have HNX := Lib.hid hnext; clear hnext
      cases v
      · have HCL := Lib.hid hcall; clear hcall
        go_wp2_with fail
        refine HCL.out.mono ?_
        rintro e w1 ⟨rfl, hb1⟩
        go_wp2
        go_ret
        exact HRET.out (by trivial) _ hb1
      · have HCL := Lib.hid hcall; clear hcall
        go_wp2_with fail
        refine HCL.out.mono ?_
        rintro e w1 ⟨rfl, hb1⟩
        go_wp2
        go_roundw
        case rel => exact ⟨t + 1, by omega, by go_num, hb1, HNX.out (by trivial)⟩
        case measure => simp [intOf]; omega
    · have hfin : ∀ W, Below w.heap.size w W → IdxPost (fun j => !holdsF (R j).f (R j).n g k) n w (.returned (.int .i64 (-1))) W := fun W hbW =>
        ⟨-1, rfl, by
          rw [decide_eq_false (by omega)]; symm; rw [List.any_eq_false]
          intro j hj
          rw [hn.out j (by have := List.mem_range.1 hj; omega)]; decide, hbW⟩
      have HF := Lib.hid hfin; clear hfin
      go_wp2
      go_ret
      exact HF.out _ hbw
theorem index_zero (a : Option Addr) (c : Nat) (fv : Value) (p : Nat → Bool) (w : World) : Calls Try.prog 67 #[.slice a 0 c, fv] w (IdxPost p 0 w) := by
  refine (Try.slices_IndexFunc_empty_f67 (α := Int) a c fv w).mono ?_
  rintro e w' ⟨rfl, rfl⟩
  exact ⟨-1, rfl, rfl, Below.refl _ _⟩

theorem contains_rows (a : Option Addr) (n c : Nat) (R : Nat → Row) (B : Nat) (am : Option Addr) (k cm : Nat) (g : Nat → Bool) (w : World) (hm : n ≤ 140737488355328) (hR : ∀ j, j < n → (R j).n ≤ 140737488355328) (hk : k ≤ 140737488355328)
    (h : Rws w a n R) (hB0 : B < w.heap.size) (hB : w.cell? ⟨B, 0, none⟩ = some (.slice am k cm)) (hg : HasB w am k g) :
    Calls Try.prog 40 #[.slice a n c, .func (.func 65) #[] #[.pointer (some ⟨B, 0, none⟩)]] w fun e w' => e = .returned (.bool ((List.range n).any fun j => !holdsF (R j).f (R j).n g k)) ∧ Below w.heap.size w w' := by
  have hi : Calls Try.prog 67 #[.slice a n c, .func (.func 65) #[] #[.pointer (some ⟨B, 0, none⟩)]] w (IdxPost (fun j => !holdsF (R j).f (R j).n g k) n w) := by
    rcases h with rfl | ⟨b, off, rfl, hb, hc⟩
    · exact index_zero a c _ _ w
    · exact index_rows b off n c R B am k cm g w hm hR hk hb hc hB0 hB hg
  unfold IdxPost at hi
  generalize ((List.range n).any fun j => !holdsF (R j).f (R j).n g k) = v at hi ⊢
  have HI := Lib.hid hi; clear hi h hg hB hB0 hR
  go_enter Try.func40, Try.ntmps40
  go_wp2_with fail
  refine HI.out.mono ?_
  rintro e w1 ⟨r, rfl, hr, hb⟩
  have HR := Lib.hid hr; clear hr
  go_wp2
  go_ret
  exact ⟨ret_bool HR.out, hb⟩

def AllPost (R : Nat → Row) (n : Nat) (g : Nat → Bool) (k : Nat) (w : World) (e : Ending) (w' : World) : Prop := e = .returned (.bool (allR R n g k)) ∧ Below w.heap.size w w'
set_option maxHeartbeats 400000 in
theorem all_any (a : Option Addr) (n c : Nat) (R : Nat → Row) (am : Option Addr) (k cm : Nat) (g : Nat → Bool) (w : World) (hm : n ≤ 140737488355328) (hR : ∀ j, j < n → (R j).n ≤ 140737488355328) (hk : k ≤ 140737488355328) (h : Rws w a n R) (hg : HasB w am k g) :
    Calls Try.prog 38 #[.slice a n c, .slice am k cm] w (AllPost R n g k w) := by
  have hb0 : Below w.heap.size w (w.alloc (.cells #[.slice am k cm] 34)) := (Below.refl _ _).alloc (Nat.le_refl _) _
  have hin := contains_rows a n c R w.heap.size am k cm g (w.alloc (.cells #[.slice am k cm] 34)) hm hR hk (h.below hb0) (by simp) (by go_simp) (hg.below hb0)
  have e : ((List.range n).any fun j => !holdsF (R j).f (R j).n g k) = !allR R n g k := by rw [Bool.eq_iff_iff]; simp [allR]
  rw [e] at hin
  have hbb : ∀ W, Below (w.alloc (.cells #[.slice am k cm] 34)).heap.size (w.alloc (.cells #[.slice am k cm] 34)) W → Below w.heap.size w W := fun W hW => hb0.trans (hW.mono hb0.size)
  unfold AllPost
  cases hv : allR R n g k
  all_goals
    rw [hv] at hin
    have HI := Lib.hid hin; clear hin
    have HB := Lib.hid hbb; clear hbb
    clear h hg e hv hb0 hR
    go_enter Try.func38, Try.ntmps38
    go_wp2_with fail
    refine HI.out.mono ?_
    rintro e w1 ⟨rfl, hb⟩
    have hb' := HB.out _ hb
    clear hb
    go_wp2
    go_ret
    exact ⟨rfl, hb'⟩

set_option maxHeartbeats 1000000 in
theorem refAll_core (b off n c : Nat) (R : Nat → Row) (am : Option Addr) (k cm : Nat) (g : Nat → Bool) (w : World) (hm : n ≤ 140737488355328) (hR : ∀ j, j < n → (R j).n ≤ 140737488355328) (hk : k ≤ 140737488355328)
    (hc : ∀ j, j < n → w.cell? ⟨b, off + j, none⟩ = some (.slice (R j).a (R j).n (R j).c) ∧ Has w (R j).a (R j).n (R j).f) (hg : HasB w am k g) :
    Calls Try.prog 17 #[.slice (some ⟨b, off, none⟩) n c, .slice am k cm] w fun e w' => e = .returned (.bool (allR R n g k)) ∧ w = w' := by
  have h1 : ∀ j, j < n → Calls Try.prog 18 #[.slice (R j).a (R j).n (R j).c, .slice am k cm] w fun e w' => e = .returned (.bool (holdsF (R j).f (R j).n g k)) ∧ w = w' := fun j hj =>
    refHolds_any _ _ _ _ am k cm g w (hR j hj) hk (hc j hj).2 hg
  have H1 := Lib.hid h1; clear h1
  have HC := Lib.hid (fun j hj => (hc j hj).1); clear hc hg hR
  go_enter Try.func17, Try.ntmps17
  go_wp2
  go_loop [5] (fun i => ∃ t : Nat, t ≤ n ∧ i = .int .i64 t ∧ Hid (∀ j, j < t → holdsF (R j).f (R j).n g k = true)) (fun i => n - (intOf i).toNat)
  case atStart => exact ⟨0, Nat.zero_le _, rfl, Lib.hid fun _ h => absurd h (Nat.not_lt_zero _)⟩
  case round =>
    obtain ⟨t, ht, rfl, hn⟩ := hrel
    by_cases hlt : t < n
    · have hcl := HC.out t hlt
      have hcall := H1.out t hlt
      have hret : holdsF (R t).f (R t).n g k = false → allR R n g k = false := fun h0 => allR_not hlt h0
      have hnext : holdsF (R t).f (R t).n g k = true → Hid (∀ j, j < t + 1 → holdsF (R j).f (R j).n g k = true) := fun h0 => Lib.hid fun j hj => by
        by_cases e : j = t
        · subst e; exact h0
        · exact hn.out j (by omega)
      generalize holdsF (R t).f (R t).n g k = v at hcall hret hnext
      generalize R t = r at hcl hcall
      obtain ⟨ra, rn, rc, rf⟩ := r
      simp only at hcl hcall
      have HRET := Lib.hid hret; clear hret
      have HNX := Lib.hid hnext; clear hnext
      cases v
      · have HCL := Lib.hid hcall; clear hcall
        go_wp2_with fail
        refine HCL.out.mono ?_
        rintro e w1 ⟨rfl, rfl⟩
        go_wp2
        go_ret
        exact ⟨ret_bool (HRET.out (by trivial)).symm, rfl⟩
      · have HCL := Lib.hid hcall; clear hcall
        go_wp2_with fail
        refine HCL.out.mono ?_
        rintro e w1 ⟨rfl, rfl⟩
        go_wp2
        go_round
        case rel => exact ⟨t + 1, by omega, by go_num, HNX.out (by trivial)⟩
        case measure => simp [intOf]; omega
    · go_wp2
      go_ret
      exact ⟨ret_bool (allR_iff.2 fun j hj => hn.out j (by omega)).symm, rfl⟩
theorem refAll_zero (a : Option Addr) (c : Nat) (R : Nat → Row) (mv : Value) (k : Nat) (g : Nat → Bool) (w : World) :
    Calls Try.prog 17 #[.slice a 0 c, mv] w fun e w' => e = .returned (.bool (allR R 0 g k)) ∧ w = w' := by
  go_enter Try.func17, Try.ntmps17
  go_wp2
  go_loop [5] (fun i => i = .int .i64 0) (fun _ => 0)
  case atStart => rfl
  case round =>
    subst hrel
    go_wp2
    go_ret
    exact ⟨rfl, rfl⟩
theorem refAll_any (a : Option Addr) (n c : Nat) (R : Nat → Row) (am : Option Addr) (k cm : Nat) (g : Nat → Bool) (w : World) (hm : n ≤ 140737488355328) (hR : ∀ j, j < n → (R j).n ≤ 140737488355328) (hk : k ≤ 140737488355328) (h : Rws w a n R) (hg : HasB w am k g) :
    Calls Try.prog 17 #[.slice a n c, .slice am k cm] w fun e w' => e = .returned (.bool (allR R n g k)) ∧ w = w' := by
  rcases h with rfl | ⟨b, off, rfl, _, hc⟩
  · exact refAll_zero a c R _ k g w
  · exact refAll_core b off n c R am k cm g w hm hR hk hc hg
end Go.Proofs.Ytoffhgiljnagcaa
