/- Contracts: awake. -/
import Derived.Test.YtoffhgiljnagcaaQF
namespace Go.Proofs.Ytoffhgiljnagcaa
open Go.RowKit Go.Lib Go.Maps
set_option maxRecDepth 100000

/-- The document's two clauses. -/
def awf (j i : Nat) : Int := if i = 0 then (if j = 0 then 1 else -1) else 2
def awR (b : Nat) (j : Nat) : Row := ⟨some ⟨b + j, 0, none⟩, 2, 2, awf j⟩
theorem aw_litR (b : Nat) : litR (awR b) 2 = true := by
  rw [litR_iff]
  intro j hj
  match j, hj with
  | 0, _ | 1, _ => rfl
theorem aw_lof (b : Nat) (j : Nat) : lof (awR b j).f (awR b j).n = [if j = 0 then 1 else -1, 2] := by
  simp [lof, awR, awf, List.range_succ]
theorem aw_litF (x : Int) (hx : x = 1 ∨ x = 2) : litF (fun _ => x) 1 = true := by
  rcases hx with rfl | rfl <;> decide
theorem aw_conf (b : Nat) (x : Int) (hx : x = 1 ∨ x = 2) : Conf (RowC (awR b) 2) (Den (fun _ => x) 1) ↔ x = 2 := by
  constructor
  · intro h
    rcases hx with rfl | rfl
    · exfalso
      refine h.sound (T := fun l => l = -1 ∨ l = 2) (fun l h1 h2 => by omega) (fun c hc => ?_) ?_
      · obtain ⟨j, hj, rfl⟩ := hc
        exact ⟨2, by rw [aw_lof]; simp, .inr rfl⟩
      · rintro l ⟨j, hj, rfl⟩; exact .inl rfl
    · rfl
  · rintro rfl
    refine .unit [1, 2] 1 ⟨0, by omega, (aw_lof b 0).symm⟩ (by simp) (fun m hm hne => ?_) (.none [-1, 2] ⟨1, by omega, (aw_lof b 1).symm⟩ fun l hl => ?_)
    · have : m = 2 := by simpa [hne] using hm
      exact ⟨0, by omega, by rw [this]⟩
    · have : l = -1 ∨ l = 2 := by simpa using hl
      rcases this with rfl | rfl
      · exact .inl rfl
      · exact .inr ⟨0, by omega, rfl⟩
theorem aw_has (W : World) (x : Int) (t : TypeId) : Has (W.alloc (.cells #[.int .i64 x] t)) (some ⟨W.heap.size, 0, none⟩) 1 (fun _ => x) := by
  refine .inr ⟨W.heap.size, 0, rfl, by simp, fun j hj => ?_⟩
  obtain rfl : j = 0 := by omega
  exact (World.rowIs_alloc W #[.int .i64 x] t (fun _ => .int .i64 x) (fun i hi => by
    have hi' : i < 1 := hi
    obtain rfl : i = 0 := by omega
    rfl)).cell (by show 0 < 1; omega)
theorem aw_fol {W : World} {a : Option Addr} {b g : Nat} (h : Rws W a 2 (awR b)) (hg : g = W.heap.size) (x : Int) (hx : x = 1 ∨ x = 2) (t : TypeId) :
    Calls Try.prog 10 #[.slice a 2 2, .slice (some ⟨g, 0, none⟩) 1 1] (W.alloc (.cells #[.int .i64 x] t)) fun e w' => e = .returned (.bool (decide (x = 2))) ∧ Rws w' a 2 (awR b) ∧ Hid (Below W.heap.size W w') := by
  subst hg
  have hb : Below W.heap.size W (W.alloc (.cells #[.int .i64 x] t)) := (Below.refl _ W).alloc (Nat.le_refl _) _
  refine (follows_any a 2 2 (awR b) _ 1 1 (fun _ => x) _ (by omega) (fun j hj => by show 2 ≤ 1000; omega) (by omega) (h.below hb) (aw_has W x t)).mono ?_
  rintro e w' ⟨r, rfl, h1, h2⟩
  have h3 := hb.trans (h2.mono hb.size)
  refine ⟨?_, h.below h3, Lib.hid h3⟩
  rw [aw_conf b x hx] at h1
  congr 2
  rw [Bool.eq_iff_iff, h1]
  simp [aw_litR, aw_litF x hx]
theorem aw_chk {W : World} {a : Option Addr} {b g : Nat} (h : Rws W a 2 (awR b)) (hg : g = W.heap.size) (x : Int) (hx : x = 1 ∨ x = 2) (t : TypeId) :
    Calls Try.prog 14 #[.slice a 2 2, .slice none 0 0, .slice (some ⟨g, 0, none⟩) 1 1] (W.alloc (.cells #[.int .i64 x] t)) fun e w' => e = .returned (.int .i64 (if x = 2 then 0 else 1)) ∧ Rws w' a 2 (awR b) ∧ Hid (Below W.heap.size W w') := by
  subst hg
  have hb : Below W.heap.size W (W.alloc (.cells #[.int .i64 x] t)) := (Below.refl _ W).alloc (Nat.le_refl _) _
  refine (checkNil_any a 2 2 (awR b) _ 1 1 (fun _ => x) _ (by omega) (fun j hj => by show 2 ≤ 1000; omega) (by omega) (h.below hb) (aw_has W x t) (aw_litR b) (aw_litF x hx)).mono ?_
  rintro e w' ⟨r, rfl, h1, h2⟩
  have h3 := hb.trans (h2.mono hb.size)
  refine ⟨?_, h.below h3, Lib.hid h3⟩
  rw [aw_conf b x hx] at h1
  rcases h1 (aw_litR b) (aw_litF x hx) with ⟨rfl, e⟩ | ⟨rfl, e⟩
  · rw [if_pos e]
  · rw [if_neg e]
theorem aw_fol2 {W : World} {a : Option Addr} {b g : Nat} (h : Rws W a 2 (awR b)) (hg : g = W.heap.size) (t : TypeId) :
    Calls Try.prog 10 #[.slice a 2 2, .slice (some ⟨g, 0, none⟩) 1 1] (W.alloc (.cells #[.int .i64 2] t)) fun e w' => e = .returned (.bool true) ∧ Rws w' a 2 (awR b) ∧ Hid (Below W.heap.size W w') :=
  (aw_fol h hg 2 (.inr rfl) t).mono fun _ _ ⟨h1, h2⟩ => ⟨h1.trans (by simp), h2⟩
theorem aw_fol1 {W : World} {a : Option Addr} {b g : Nat} (h : Rws W a 2 (awR b)) (hg : g = W.heap.size) (t : TypeId) :
    Calls Try.prog 10 #[.slice a 2 2, .slice (some ⟨g, 0, none⟩) 1 1] (W.alloc (.cells #[.int .i64 1] t)) fun e w' => e = .returned (.bool false) ∧ Rws w' a 2 (awR b) ∧ Hid (Below W.heap.size W w') :=
  (aw_fol h hg 1 (.inl rfl) t).mono fun _ _ ⟨h1, h2⟩ => ⟨h1.trans (by simp), h2⟩
theorem aw_chk2 {W : World} {a : Option Addr} {b g : Nat} (h : Rws W a 2 (awR b)) (hg : g = W.heap.size) (t : TypeId) :
    Calls Try.prog 14 #[.slice a 2 2, .slice none 0 0, .slice (some ⟨g, 0, none⟩) 1 1] (W.alloc (.cells #[.int .i64 2] t)) fun e w' => e = .returned (.int .i64 0) ∧ Rws w' a 2 (awR b) ∧ Hid (Below W.heap.size W w') :=
  (aw_chk h hg 2 (.inr rfl) t).mono fun _ _ ⟨h1, h2⟩ => ⟨h1.trans (by simp), h2⟩
theorem aw_chk1 {W : World} {a : Option Addr} {b g : Nat} (h : Rws W a 2 (awR b)) (hg : g = W.heap.size) (t : TypeId) :
    Calls Try.prog 14 #[.slice a 2 2, .slice none 0 0, .slice (some ⟨g, 0, none⟩) 1 1] (W.alloc (.cells #[.int .i64 1] t)) fun e w' => e = .returned (.int .i64 1) ∧ Rws w' a 2 (awR b) ∧ Hid (Below W.heap.size W w') :=
  (aw_chk h hg 1 (.inl rfl) t).mono fun _ _ ⟨h1, h2⟩ => ⟨h1.trans (by simp), h2⟩
theorem aw_rows (w : World) (t u : TypeId) : Rws (((w.alloc (.cells #[.int .i64 1, .int .i64 2] t)).alloc (.cells #[.int .i64 (-1), .int .i64 2] t)).alloc (.cells #[.slice (some ⟨w.heap.size, 0, none⟩) 2 2, .slice (some ⟨w.heap.size + 1, 0, none⟩) 2 2] u)) (some ⟨w.heap.size + 1 + 1, 0, none⟩) 2 (awR w.heap.size) := by
  have h0 := World.rowIs_alloc w #[.int .i64 1, .int .i64 2] t (fun i => .int .i64 (awf 0 i)) (fun i hi => by
    have hi' : i < 2 := hi
    match i, hi' with
    | 0, _ | 1, _ => rfl)
  have h1 := World.rowIs_alloc (w.alloc (.cells #[.int .i64 1, .int .i64 2] t)) #[.int .i64 (-1), .int .i64 2] t (fun i => .int .i64 (awf 1 i)) (fun i hi => by
    have hi' : i < 2 := hi
    match i, hi' with
    | 0, _ | 1, _ => rfl)
  have h2 := World.rowIs_alloc ((w.alloc (.cells #[.int .i64 1, .int .i64 2] t)).alloc (.cells #[.int .i64 (-1), .int .i64 2] t)) #[.slice (some ⟨w.heap.size, 0, none⟩) 2 2, .slice (some ⟨w.heap.size + 1, 0, none⟩) 2 2] u (fun j => .slice (some ⟨w.heap.size + j, 0, none⟩) 2 2) (fun i hi => by
    have hi' : i < 2 := hi
    match i, hi' with
    | 0, _ | 1, _ => rfl)
  rw [World.size_alloc] at h1
  rw [World.size_alloc, World.size_alloc] at h2
  refine .inr ⟨w.heap.size + 1 + 1, 0, rfl, h2.lt, fun j hj => ⟨by rw [Nat.zero_add]; exact h2.cell hj, ?_⟩⟩
  have key : (((w.alloc (.cells #[.int .i64 1, .int .i64 2] t)).alloc (.cells #[.int .i64 (-1), .int .i64 2] t)).alloc (.cells #[.slice (some ⟨w.heap.size, 0, none⟩) 2 2, .slice (some ⟨w.heap.size + 1, 0, none⟩) 2 2] u)).rowIs (w.heap.size + j) t 2 (fun i => .int .i64 (awf j i)) := by
    match j, hj with
    | 0, _ => exact (h0.alloc _).alloc _
    | 1, _ => exact h1.alloc _
  exact .inr ⟨w.heap.size + j, 0, rfl, key.lt, fun i hi => by rw [Nat.zero_add]; exact key.cell hi⟩

set_option maxHeartbeats 4000000 in
theorem awake_any (w : World) : Calls Try.prog 8 #[] w fun e w' => e = .returned (.bool true) ∧ Below w.heap.size w w' := by
  have HR := Lib.hid (aw_rows w)
  have HB := Lib.hid (show ∀ t u, Below w.heap.size w (((w.alloc (.cells #[.int .i64 1, .int .i64 2] t)).alloc (.cells #[.int .i64 (-1), .int .i64 2] t)).alloc (.cells #[.slice (some ⟨w.heap.size, 0, none⟩) 2 2, .slice (some ⟨w.heap.size + 1, 0, none⟩) 2 2] u)) from fun t u => (((Below.refl _ w).alloc (Nat.le_refl _) _).alloc (by simp) _).alloc (by simp; omega) _)
  go_enter Try.func8, Try.ntmps8
  go_wp2_with (first
    | (go_at_call 14; refine (aw_chk1 r3 rfl 3).mono ?_; rintro e w4 ⟨rfl, r4, HB4⟩)
    | (go_at_call 14; refine (aw_chk2 r2 rfl 3).mono ?_; rintro e w3 ⟨rfl, r3, HB3⟩)
    | (go_at_call 10; refine (aw_fol1 r1 rfl 3).mono ?_; rintro e w2 ⟨rfl, r2, HB2⟩)
    | (go_at_call 10; refine (aw_fol2 (HR.out 3 23) (by simp) 3).mono ?_; rintro e w1 ⟨rfl, r1, HB1⟩))
  go_ret
  refine ⟨rfl, ?_⟩
  have b0 := HB.out 3 23
  have b1 := b0.trans (HB1.out.mono b0.size)
  have b2 := b1.trans (HB2.out.mono b1.size)
  have b3 := b2.trans (HB3.out.mono b2.size)
  exact b3.trans (HB4.out.mono b3.size)
end Go.Proofs.Ytoffhgiljnagcaa
