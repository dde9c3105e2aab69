/- Contracts: Model. -/
import Derived.Test.YtoffhgiljnagcaaRS
import Derived.Test.YtoffhgiljnagcaaZc
namespace Go.Proofs.Ytoffhgiljnagcaa
open Go.RowKit Go.Lib
set_option maxRecDepth 100000

theorem holds_one (g : Nat → Bool) (k : Nat) (x : Int) : holdsF (fun _ => x) 1 g k = hv g k x := by simp [holdsF]
theorem one_has (W : World) (x : Int) (t : TypeId) : Has (W.alloc (.cells #[.int .i64 x] t)) (some ⟨W.heap.size, 0, none⟩) 1 (fun _ => x) := by
  refine .inr ⟨W.heap.size, 0, rfl, by simp, fun j hj => ?_⟩
  obtain rfl : j = 0 := by omega
  exact (World.rowIs_alloc W #[.int .i64 x] t (fun _ => .int .i64 x) (fun i hi => by
    have hi' : i < 1 := hi
    obtain rfl : i = 0 := by omega
    rfl)).cell (by show 0 < 1; omega)
set_option maxHeartbeats 400000 in
theorem wrong1_any (x : Int) (B : Nat) (am : Option Addr) (k cm : Nat) (g : Nat → Bool) (w : World) (hk : k ≤ 140737488355328) (hB0 : B < w.heap.size) (hB : w.cell? ⟨B, 0, none⟩ = some (.slice am k cm)) (hg : HasB w am k g) :
    Calls Try.prog 36 #[.int .i64 x, .pointer (some ⟨B, 0, none⟩)] w fun e w' => e = .returned (.bool (!hv g k x)) ∧ Below w.heap.size w w' := by
  have hb0 : Below w.heap.size w (w.alloc (.cells #[.int .i64 x] 3)) := (Below.refl _ _).alloc (Nat.le_refl _) _
  have hc := holds_any (some ⟨w.heap.size, 0, none⟩) 1 1 (fun _ => x) am k cm g _ (by omega) hk (one_has w x 3) (hg.below hb0)
  unfold HoldsPost at hc
  rw [holds_one] at hc
  have hB' : (w.alloc (.cells #[.int .i64 x] 3)).cell? ⟨B, 0, none⟩ = some (.slice am k cm) := (hb0.cell (p := ⟨B, 0, none⟩) hB0).trans hB
  have HB := Lib.hid (show ∀ W, Below (w.alloc (.cells #[.int .i64 x] 3)).heap.size (w.alloc (.cells #[.int .i64 x] 3)) W → Below w.heap.size w W from fun W hW => hb0.trans (hW.mono hb0.size))
  have HC := Lib.hid hc; clear hc hg hB hb0 hB0
  go_enter Try.func36, Try.ntmps36
  go_wp2_with (go_at_call 37; refine HC.out.mono ?_; rintro e w1 ⟨rfl, hb⟩)
  go_ret
  exact ⟨rfl, HB.out _ hb⟩

set_option maxHeartbeats 1000000 in
theorem index_ints (b off n c : Nat) (f : Nat → Int) (B : Nat) (am : Option Addr) (k cm : Nat) (g : Nat → Bool) (w : World) (hm : n ≤ 140737488355328) (hk : k ≤ 140737488355328)
    (hb : b < w.heap.size) (hc : ∀ j, j < n → w.cell? ⟨b, off + j, none⟩ = some (.int .i64 (f j))) (hB0 : B < w.heap.size) (hB : w.cell? ⟨B, 0, none⟩ = some (.slice am k cm)) (hg : HasB w am k g) :
    Calls Try.prog 66 #[.slice (some ⟨b, off, none⟩) n c, .func (.func 36) #[] #[.pointer (some ⟨B, 0, none⟩)]] w (IdxPost (fun j => !hv g k (f j)) n w) := by
  have h1 : ∀ j, j < n → ∀ W, Below w.heap.size w W → Calls Try.prog 36 #[.int .i64 (f j), .pointer (some ⟨B, 0, none⟩)] W fun e w' => e = .returned (.bool (!hv g k (f j))) ∧ Below w.heap.size w w' := fun j hj W hbW =>
    (wrong1_any (f j) B am k cm g W hk (Nat.lt_of_lt_of_le hB0 hbW.size) (by rw [← hB]; exact hbW.cell (p := ⟨B, 0, none⟩) hB0) (hg.below hbW)).mono fun _ _ ⟨he, h3⟩ => ⟨he, hbW.trans (h3.mono hbW.size)⟩
  have hcell : ∀ j, j < n → ∀ W, Below w.heap.size w W → W.cell? ⟨b, off + j, none⟩ = some (.int .i64 (f j)) := fun j hj W hbW => by
    rw [← hc j hj]; exact hbW.cell (p := ⟨b, off + j, none⟩) hb
  have H1 := Lib.hid h1; clear h1
  have HC := Lib.hid hcell; clear hcell
  clear hc hg hB hB0
  go_enter Try.func66, Try.ntmps66
  go_wp2_with fail
  go_loopw [8] (fun i wr => ∃ t : Nat, t ≤ n ∧ i = .int .i64 t ∧ Below w.heap.size w wr ∧ Hid (∀ j, j < t → hv g k (f j) = true)) (fun i _ => n - (intOf i).toNat)
  case atStart => exact ⟨0, Nat.zero_le _, rfl, Below.refl _ _, Lib.hid fun _ h => absurd h (Nat.not_lt_zero _)⟩
  case round =>
    obtain ⟨t, ht, rfl, hbw, hn⟩ := hrel
    by_cases hlt : t < n
    · have hcl := HC.out t hlt wr hbw
      have hcall := H1.out t hlt wr hbw
      have hret : hv g k (f t) = false → ∀ W, Below w.heap.size w W → IdxPost (fun j => !hv g k (f j)) n w (.returned (.int .i64 t)) W := fun h0 W hbW =>
        ⟨t, rfl, by rw [decide_eq_true (by omega)]; symm; rw [List.any_eq_true]; exact ⟨t, List.mem_range.2 hlt, by rw [h0]; rfl⟩, hbW⟩
      have hnext : hv g k (f t) = true → Hid (∀ j, j < t + 1 → hv g k (f j) = true) := fun h0 => Lib.hid fun j hj => by
        by_cases e : j = t
        · subst e; exact h0
        · exact hn.out j (by omega)
      generalize hv g k (f t) = v at hcall hret hnext
      generalize f t = r at hcl hcall
      have HRET := Lib.hid hret; clear hret
      have HNX := Lib.hid hnext; clear hnext
      cases v
      · have HCL := Lib.hid hcall; clear hcall
        go_wp2_with fail
        refine HCL.out.mono ?_
        rintro e w1 ⟨rfl, hb1⟩
        go_wp2
        go_ret
        exact HRET.out (by trivial) _ hb1
      · have HCL := Lib.hid hcall; clear hcall
        go_wp2_with fail
        refine HCL.out.mono ?_
        rintro e w1 ⟨rfl, hb1⟩
        go_wp2
        go_roundw
        case rel => exact ⟨t + 1, by omega, by go_num, hb1, HNX.out (by trivial)⟩
        case measure => simp [intOf]; omega
    · have hfin : ∀ W, Below w.heap.size w W → IdxPost (fun j => !hv g k (f j)) n w (.returned (.int .i64 (-1))) W := fun W hbW =>
        ⟨-1, rfl, by
          rw [decide_eq_false (by omega)]; symm; rw [List.any_eq_false]
          intro j hj
          rw [hn.out j (by have := List.mem_range.1 hj; omega)]; decide, hbW⟩
      have HF := Lib.hid hfin; clear hfin
      go_wp2
      go_ret
      exact HF.out _ hbw
theorem contains_ints (a : Option Addr) (n c : Nat) (f : Nat → Int) (B : Nat) (am : Option Addr) (k cm : Nat) (g : Nat → Bool) (w : World) (hm : n ≤ 140737488355328) (hk : k ≤ 140737488355328)
    (h : Has w a n f) (hB0 : B < w.heap.size) (hB : w.cell? ⟨B, 0, none⟩ = some (.slice am k cm)) (hg : HasB w am k g) :
    Calls Try.prog 39 #[.slice a n c, .func (.func 36) #[] #[.pointer (some ⟨B, 0, none⟩)]] w fun e w' => e = .returned (.bool ((List.range n).any fun j => !hv g k (f j))) ∧ Below w.heap.size w w' := by
  have hi : Calls Try.prog 66 #[.slice a n c, .func (.func 36) #[] #[.pointer (some ⟨B, 0, none⟩)]] w (IdxPost (fun j => !hv g k (f j)) n w) := by
    rcases h with rfl | ⟨b, off, rfl, hb, hc⟩
    · refine (Try.slices_IndexFunc_empty_f66 (α := Int) a c _ w).mono ?_
      rintro e w' ⟨rfl, rfl⟩
      exact ⟨-1, rfl, rfl, Below.refl _ _⟩
    · exact index_ints b off n c f B am k cm g w hm hk hb hc hB0 hB hg
  unfold IdxPost at hi
  generalize ((List.range n).any fun j => !hv g k (f j)) = v at hi ⊢
  have HI := Lib.hid hi; clear hi h hg hB hB0
  go_enter Try.func39, Try.ntmps39
  go_wp2_with fail
  refine HI.out.mono ?_
  rintro e w1 ⟨r, rfl, hr, hb⟩
  have HR := Lib.hid hr; clear hr
  go_wp2
  go_ret
  exact ⟨ret_bool HR.out, hb⟩
/-- Each assumption is a literal that is true. -/
def assF (f : Nat → Int) (n : Nat) (g : Nat → Bool) (k : Nat) : Bool := (List.range n).all fun j => hv g k (f j)
theorem assF_iff {f : Nat → Int} {n : Nat} {g : Nat → Bool} {k : Nat} : assF f n g k = true ↔ ∀ j, j < n → hv g k (f j) = true := by simp [assF]

set_option maxHeartbeats 2000000 in
theorem model_any (a : Option Addr) (n c : Nat) (R : Nat → Row) (am : Option Addr) (k cm : Nat) (g : Nat → Bool) (a2 : Option Addr) (m c2 : Nat) (f : Nat → Int) (w : World) (hn : n ≤ 140737488355328) (hR : ∀ j, j < n → (R j).n ≤ 140737488355328) (hk : k ≤ 140737488355328) (hm : m ≤ 140737488355328) (h : Rws w a n R) (hg : HasB w am k g) (hf : Has w a2 m f) :
    Calls Try.prog 19 #[.slice a n c, .slice am k cm, .slice a2 m c2] w fun e w' => e = .returned (.bool (litR R n && allR R n g k && assF f m g k)) ∧ Below w.heap.size w w' := by
  have hb0 : Below w.heap.size w (w.alloc (.cells #[.slice am k cm] 34)) := (Below.refl _ _).alloc (Nat.le_refl _) _
  have hv := validAll_any a n c R _ hn hR (h.below hb0)
  unfold ValPost at hv
  have hcell : ∀ W, Below w.heap.size w W → (∃ q, W = (w.alloc (.cells #[.slice am k cm] 34)).drewN q) → True := fun _ _ _ => trivial
  have hal := fun q => all_any a n c R am k cm g ((w.alloc (.cells #[.slice am k cm] 34)).drewN q) hn hR hk (h.below (below_drewN hb0 q)) (hg.below (below_drewN hb0 q))
  unfold AllPost at hal
  have hcon : ∀ W, Below (w.alloc (.cells #[.slice am k cm] 34)).heap.size (w.alloc (.cells #[.slice am k cm] 34)) W → Calls Try.prog 39 #[.slice a2 m c2, .func (.func 36) #[] #[.pointer (some ⟨w.heap.size, 0, none⟩)]] W fun e w' => e = .returned (.bool (!assF f m g k)) ∧ Below w.heap.size w w' := fun W hW => by
    have hb1 := hb0.trans (hW.mono hb0.size)
    have h0 : (w.alloc (.cells #[.slice am k cm] 34)).cell? ⟨w.heap.size, 0, none⟩ = some (.slice am k cm) := by go_simp
    have hsz : w.heap.size < (w.alloc (.cells #[.slice am k cm] 34)).heap.size := by simp
    refine (contains_ints a2 m c2 f w.heap.size am k cm g W hm hk (hf.below hb1) (Nat.lt_of_lt_of_le hsz hW.size) ((hW.cell (p := ⟨w.heap.size, 0, none⟩) hsz).trans h0) (hg.below hb1)).mono ?_
    rintro e w' ⟨rfl, h2⟩
    refine ⟨?_, hb1.trans (h2.mono hb1.size)⟩
    congr 2
    rw [Bool.eq_iff_iff]; simp [assF]
  have hbe : ∀ q W, Below ((w.alloc (.cells #[.slice am k cm] 34)).drewN q).heap.size ((w.alloc (.cells #[.slice am k cm] 34)).drewN q) W → Below (w.alloc (.cells #[.slice am k cm] 34)).heap.size (w.alloc (.cells #[.slice am k cm] 34)) W := fun q W hW => (below_drewN (.refl _ _) q).trans hW
  have HB0 := Lib.hid hb0
  have HBE := Lib.hid hbe
  have HD := Lib.hid (show ∀ q, Below w.heap.size w ((w.alloc (.cells #[.slice am k cm] 34)).drewN q) from fun q => below_drewN hb0 q)
  clear h hg hf hR hcell hbe
  generalize assF f m g k = x3 at *
  cases hl : litR R n
  · rw [hl] at hv
    have HV := Lib.hid hv; clear hv hal hcon hb0
    go_enter Try.func19, Try.ntmps19
    go_wp2_with (go_at_call 20; refine HV.out.mono ?_; rintro e w' ⟨rfl, q, rfl⟩)
    go_ret
    exact ⟨rfl, HD.out q⟩
  · rw [hl] at hv
    cases ha : allR R n g k
    · rw [ha] at hal
      have HV := Lib.hid hv
      have HA := Lib.hid hal
      clear hv hal hcon hb0
      go_enter Try.func19, Try.ntmps19
      go_wp2_with (first
        | (go_at_call 20; refine HV.out.mono ?_; rintro e w' ⟨rfl, q, rfl⟩)
        | (go_at_call 38; refine (HA.out _).mono ?_; rintro e w2 ⟨rfl, hb2⟩))
      go_ret
      exact ⟨rfl, HB0.out.trans ((HBE.out _ _ hb2).mono HB0.out.size)⟩
    · rw [ha] at hal
      have HV := Lib.hid hv
      have HA := Lib.hid hal
      have HC := Lib.hid hcon
      clear hv hal hcon hb0
      go_enter Try.func19, Try.ntmps19
      go_wp2_with (first
        | (go_at_call 20; refine HV.out.mono ?_; rintro e w' ⟨rfl, q, rfl⟩)
        | (go_at_call 38; refine (HA.out _).mono ?_; rintro e w2 ⟨rfl, hb2⟩)
        | (go_at_call 39; refine (HC.out _ (HBE.out _ _ hb2)).mono ?_; rintro e w3 ⟨rfl, hb3⟩))
      go_ret
      exact ⟨ret_bool (by simp), hb3⟩
end Go.Proofs.Ytoffhgiljnagcaa
