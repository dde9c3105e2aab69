/- A heap made by a law: what holds of it from call to call; the document's example. -/
import Derived.Test.YtbhbokcgkhgljaaG
namespace Go.Proofs.Ytbhbokcgkhgljaa
open Go.RowKit Go.Lib

/-- A heap that the law has made: its blocks lie from S on and below T; below S nothing has turned since w0. -/
structure Hs (w0 : World) (T : Nat) (w : World) (hb ob pb ab n : Nat) (A : Nat → Int) (In : Nat → Bool) : Prop where
  heap : Heap w hb ob pb ab n A In
  bel : Below w0.heap.size w0 w
  ge : w0.heap.size ≤ hb ∧ w0.heap.size ≤ ob ∧ w0.heap.size ≤ pb ∧ w0.heap.size ≤ ab
  lt : hb < T ∧ ob < T ∧ pb < T ∧ ab < T
  top : T ≤ w.heap.size
theorem Heap.lt {w : World} {hb ob pb ab n : Nat} {A : Nat → Int} {In : Nat → Bool} (h : Heap w hb ob pb ab n A In) : hb < w.heap.size ∧ ob < w.heap.size ∧ pb < w.heap.size ∧ ab < w.heap.size := by
  obtain ⟨_, m, O, P, hM, _⟩ := h
  obtain ⟨F, hF, _⟩ := hM.od
  exact ⟨hM.hd.lt, hF.lt, hM.pl.lt, hM.ac.lt⟩
theorem Bk.ge {hb ob pb ab S : Nat} (h : S ≤ hb ∧ S ≤ ob ∧ S ≤ pb ∧ S ≤ ab) : ∀ k, Bk hb ob pb ab k → S ≤ k := fun k hk => by
  rcases hk with rfl | rfl | rfl | rfl
  · exact h.1
  · exact h.2.1
  · exact h.2.2.1
  · exact h.2.2.2
theorem Bk.lt {hb ob pb ab T : Nat} (h : hb < T ∧ ob < T ∧ pb < T ∧ ab < T) : ∀ k, Bk hb ob pb ab k → k < T := fun k hk => by
  rcases hk with rfl | rfl | rfl | rfl
  · exact h.1
  · exact h.2.1
  · exact h.2.2.1
  · exact h.2.2.2

section
variable {w0 w : World} {T hb ob pb ab n : Nat} {A : Nat → Int} {In : Nat → Bool}
theorem Hs.step {w' : World} {A' : Nat → Int} {In' : Nat → Bool} (h : Hs w0 T w hb ob pb ab n A In) (h' : Heap w' hb ob pb ab n A' In') (hf : Fr (Bk hb ob pb ab) w w') : Hs w0 T w' hb ob pb ab n A' In' :=
  ⟨h', h.bel.trans (hf.below h.bel.size (Bk.ge h.ge)), h.ge, h.lt, Nat.le_trans h.top hf.size⟩
/-- Under what leaves all below T as it was. -/
theorem Hs.below {w' : World} (h : Hs w0 T w hb ob pb ab n A In) (hb' : Below T w w') : Hs w0 T w' hb ob pb ab n A In := by
  have hf : Fr (fun k => T ≤ k) w w' := ⟨hb'.os, hb'.tape, hb'.output, hb'.size, fun k _ hk => hb'.block k (by omega)⟩
  exact ⟨h.heap.fr hf (by have := h.lt; omega) (by have := h.lt; omega) (by have := h.lt; omega) (by have := h.lt; omega), h.bel.trans (hb'.mono (by have := h.lt; have := h.ge; omega)), h.ge, h.lt, Nat.le_trans h.top hb'.size⟩
theorem Hs.le (h : Hs w0 T w hb ob pb ab n A In) : n ≤ 100000 := h.heap.1
theorem hs_new (n : Nat) (hn : n ≤ 100000) (w0 w : World) (hb0 : Below w0.heap.size w0 w) : Calls Try.prog 9 #[.int .i64 n] w fun e w' => ∃ hb ob pb ab, e = .returned (.tuple #[.pointer (some ⟨hb, 0, none⟩), .int .i64 0]) ∧ Hs w0 w'.heap.size w' hb ob pb ab n (fun _ => 0) (fun _ => true) := by
  refine (new_any n hn w).mono ?_
  rintro e w' ⟨hb, ob, pb, ab, rfl, hge, hH, hbel⟩
  have := hb0.size
  exact ⟨hb, ob, pb, ab, rfl, hH, hb0.trans (hbel.mono this), ⟨by omega, by omega, by omega, by omega⟩, hH.lt, Nat.le_refl _⟩
theorem Hs.has (h : Hs w0 T w hb ob pb ab n A In) (v : Int) : Calls Try.prog 21 #[.pointer (some ⟨hb, 0, none⟩), .int .i64 v] w fun e w' => e = .returned (.bool (isV n v && In v.toNat)) ∧ w = w' := has_any h.heap v
theorem Hs.len (h : Hs w0 T w hb ob pb ab n A In) : Calls Try.prog 19 #[.pointer (some ⟨hb, 0, none⟩)] w fun e w' => e = .returned (.int .i64 (cnt In n)) ∧ w = w' := len_any h.heap
theorem Hs.activity (h : Hs w0 T w hb ob pb ab n A In) (v : Int) : Calls Try.prog 22 #[.pointer (some ⟨hb, 0, none⟩), .int .i64 v] w fun e w' => e = .returned (.int .i64 (if isV n v then A v.toNat else 0)) ∧ w = w' := activity_any h.heap v
theorem Hs.next0 (h : Hs w0 T w hb ob pb ab n A In) (h0 : cnt In n = 0) : Calls Try.prog 13 #[.pointer (some ⟨hb, 0, none⟩)] w fun e w' => e = .returned (.tuple #[.int .i64 0, .bool false]) ∧ w = w' := next_none h.heap h0
theorem Hs.next (h : Hs w0 T w hb ob pb ab n A In) (h0 : 0 < cnt In n) : Calls Try.prog 13 #[.pointer (some ⟨hb, 0, none⟩)] w fun e w' => ∃ v, IsNext n A In v ∧ e = .returned (.tuple #[.int .i64 v, .bool true]) ∧ Hs w0 T w' hb ob pb ab n A (upd In v false) ∧ Fr (Bk hb ob pb ab) w w' := by
  refine (next_some h.heap h0).mono ?_
  rintro e w' ⟨v, hv, rfl, hH, hF⟩
  exact ⟨v, hv, rfl, h.step hH hF, hF⟩
/-- .. where it is known which one is next. -/
theorem Hs.nextV (h : Hs w0 T w hb ob pb ab n A In) {v : Nat} (hv : IsNext n A In v) : Calls Try.prog 13 #[.pointer (some ⟨hb, 0, none⟩)] w fun e w' => e = .returned (.tuple #[.int .i64 v, .bool true]) ∧ Hs w0 T w' hb ob pb ab n A (upd In v false) ∧ Fr (Bk hb ob pb ab) w w' := by
  refine (h.next (cnt_pos hv.1 hv.2.1 hv.2.2.1)).mono ?_
  rintro e w' ⟨u, hu, rfl, hH, hF⟩
  obtain rfl := hu.uniq hv
  exact ⟨rfl, hH, hF⟩
theorem Hs.put (h : Hs w0 T w hb ob pb ab n A In) {v : Nat} (h1 : 1 ≤ v) (h2 : v ≤ n) (hv : In v = false) : Calls Try.prog 11 #[.pointer (some ⟨hb, 0, none⟩), .int .i64 v] w fun e w' => e = .returned (.bool true) ∧ Hs w0 T w' hb ob pb ab n A (upd In v true) ∧ Fr (Bk hb ob pb ab) w w' := by
  refine (put_yes h.heap v h1 h2 hv).mono ?_
  rintro e w' ⟨rfl, hH, hF⟩
  exact ⟨rfl, h.step hH hF, hF⟩
theorem Hs.put0 (h : Hs w0 T w hb ob pb ab n A In) (v : Int) (hv : (isV n v && !In v.toNat) = false) : Calls Try.prog 11 #[.pointer (some ⟨hb, 0, none⟩), .int .i64 v] w fun e w' => e = .returned (.bool false) ∧ w = w' := put_no h.heap v hv
theorem Hs.bump (h : Hs w0 T w hb ob pb ab n A In) {v : Nat} {b : Int} (h1 : 1 ≤ v) (h2 : v ≤ n) (hb0 : 0 ≤ b) (hb1 : b ≤ 9223372036854775807) : Calls Try.prog 15 #[.pointer (some ⟨hb, 0, none⟩), .int .i64 v, .int .i64 b] w fun e w' => e = .returned (.bool true) ∧ Hs w0 T w' hb ob pb ab n (updI A v (bmp (A v) b)) In ∧ Fr (Bk hb ob pb ab) w w' := by
  refine (bump_yes h.heap v b h1 h2 hb0 hb1).mono ?_
  rintro e w' ⟨rfl, hH, hF⟩
  exact ⟨rfl, h.step hH hF, hF⟩
theorem Hs.bump0 (h : Hs w0 T w hb ob pb ab n A In) (v b : Int) (hv : isV n v = false ∨ b < 0) : Calls Try.prog 15 #[.pointer (some ⟨hb, 0, none⟩), .int .i64 v, .int .i64 b] w fun e w' => e = .returned (.bool false) ∧ w = w' := bump_no h.heap v b hv
theorem Hs.halve (h : Hs w0 T w hb ob pb ab n A In) : Calls Try.prog 17 #[.pointer (some ⟨hb, 0, none⟩)] w fun e w' => e = .returned (.tuple #[]) ∧ Hs w0 T w' hb ob pb ab n (fun v => A v / 2) In ∧ Fr (Bk hb ob pb ab) w w' := by
  refine (halve_any h.heap).mono ?_
  rintro e w' ⟨rfl, hH, hF⟩
  exact ⟨rfl, h.step hH hF, hF⟩
end

/-- The document's example. -/
def exA : Nat → Int := updI (fun _ => 0) 2 (bmp 0 5)
theorem exA_eq (v : Nat) : exA v = if v = 2 then 5 else 0 := by simp [exA, updI, bmp]
def ex1 : Nat → Bool := upd (fun _ => true) 2 false
def ex2 : Nat → Bool := upd ex1 1 false
def ex3 : Nat → Bool := upd ex2 3 false
theorem ex_n1 : IsNext 3 exA (fun _ => true) 2 := ⟨by omega, by omega, rfl, fun u _ _ _ => by
  by_cases e : u = 2
  · subst e; exact bef_irrefl _ _
  · unfold bef; rw [exA_eq, exA_eq]; simp [e]⟩
theorem ex_n2 : IsNext 3 exA ex1 1 := ⟨by omega, by omega, rfl, fun u h1 h2 h3 => by
  have : u ≠ 2 := fun e => by subst e; cases h3
  unfold bef; rw [exA_eq, exA_eq]; simp [this]; omega⟩
theorem ex_n3 : IsNext 3 exA ex2 3 := ⟨by omega, by omega, rfl, fun u h1 h2 h3 => by
  have : u ≠ 2 := fun e => by subst e; cases h3
  have : u ≠ 1 := fun e => by subst e; cases h3
  have : u = 3 := by omega
  subst this
  exact bef_irrefl _ _⟩
theorem ex_c : cnt ex3 3 = 0 := rfl

theorem awake_any (w : World) : Calls Try.prog 8 #[] w fun e w' => e = .returned (.bool true) ∧ Below w.heap.size w w' := by
  have h3 := hs_new 3 (by omega) w w (Below.refl _ _)
  have H3 := Lib.hid h3; clear h3
  go_enter Try.func8, Try.ntmps8
  go_wp2_with fail
  refine H3.out.mono ?_
  rintro e w1 ⟨hb, ob, pb, ab, rfl, hs1⟩
  have hC := hs1.bump (v := 2) (b := 5) (by omega) (by omega) (by omega) (by omega)
  have HC := Lib.hid hC
  clear hs1 hC
  go_wp2_with fail
  refine HC.out.mono ?_
  rintro e w2 ⟨rfl, hs2, _⟩
  have hC2 := hs2.nextV ex_n1
  have HC2 := Lib.hid hC2
  clear hs2 hC2 HC
  go_wp2_with fail
  refine HC2.out.mono ?_
  rintro e w3 ⟨rfl, hs3, _⟩
  have hC3 := hs3.nextV ex_n2
  have HC3 := Lib.hid hC3
  clear hs3 hC3 HC2
  go_wp2_with fail
  refine HC3.out.mono ?_
  rintro e w4 ⟨rfl, hs4, _⟩
  have hC4 := hs4.nextV ex_n3
  have HC4 := Lib.hid hC4
  clear hs4 hC4 HC3
  go_wp2_with fail
  refine HC4.out.mono ?_
  rintro e w5 ⟨rfl, hs5, _⟩
  have hC5 := hs5.len
  have HB := Lib.hid hs5.bel
  rw [show cnt (upd (upd (upd (fun _ => true) 2 false) 1 false) 3 false) 3 = 0 from rfl] at hC5
  have HC5 := Lib.hid hC5
  clear hs5 hC5 HC4
  go_wp2_with fail
  refine HC5.out.mono ?_
  rintro e w6 ⟨rfl, rfl⟩
  go_wp2_with fail
  go_ret
  exact ⟨rfl, HB.out⟩
end Go.Proofs.Ytbhbokcgkhgljaa
