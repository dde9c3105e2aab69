/- Joined: TG, VD, VE, VF, VG. -/
import Derived.Test.YtoffhgiljnagcaaZh
import Derived.Test.YtoffhgiljnagcaaZe
import Derived.Test.YtoffhgiljnagcaaQI
import Derived.Deep.DeepHandedRow
import Derived.ChangeSame
/- The law: what follows: all arguments. -/
namespace Go.Proofs.Ytoffhgiljnagcaa
open Go.ChangeShapes Go.WideShapes Go.ChangeAt Go.RowKit Go.Lib

section
variable {H : Type} {enc : TypeId × Value → H} {w : World} {base : Nat} {held : Bool}
/-- A list of lists of numbers, with room in each. -/
theorem in_rowsC {a0 : Option Addr} {len0 cap0 : Nat} {x : DataW H × List MemPlace} {fuel : Nat}
    (hf : DataW.trod enc Try.prog w base (fun _ => true) held fuel 22 (Value.slice a0 len0 cap0).cells.toList = some x) :
    ∃ R : Nat → Row, Rws w a0 len0 R ∧ len0 ≤ 9223372036854775807 ∧ len0 ≤ cap0 ∧ (∀ j, j < len0 → (R j).n ≤ 9223372036854775807) ∧ (∀ j, j < len0 → (R j).n ≤ (R j).c ∧ (R j).c ≤ 9223372036854775807) ∧ (a0 = none → len0 = 0 ∧ cap0 = 0) ∧ ∀ j, j < len0 → (R j).a = none → (R j).n = 0 ∧ (R j).c = 0 := by
  rcases Deep.open_int_rows Try.underlying22 Try.underlying23 Try.underlying3 cells23 cells3 hf with ⟨hcs, _⟩ | ⟨x, l, c, A, L, C, Z, hcs, _, hl, hm, _, hcell⟩
  · simp [Value.cells] at hcs
    obtain ⟨rfl, rfl, rfl⟩ := hcs
    exact ⟨fun _ => ⟨none, 0, 0, fun _ => 0⟩, .inl rfl, by omega, Nat.le_refl _, fun _ _ => Nat.zero_le _, fun _ _ => ⟨Nat.le_refl _, Nat.zero_le _⟩, fun _ => ⟨rfl, rfl⟩, fun _ _ _ => ⟨rfl, rfl⟩⟩
  · simp [Value.cells] at hcs
    obtain ⟨rfl, rfl, rfl⟩ := hcs
    refine ⟨fun j => ⟨A j, L j, C j, fun i => (Z j).getD i 0⟩, ?_, by unfold maxLen at hm; omega, hl, fun j hj => ?_, fun j hj => ?_, (fun h => by cases h), fun j hj h => ?_⟩
    · by_cases h0 : len0 = 0
      · exact .inl h0
      · obtain ⟨b, off, rfl, hb, hc⟩ := addr_all (n := cap0) (f := fun i => .slice (A i) (L i) (C i)) (by omega) (fun i hi => (hcell i hi).1)
        refine .inr ⟨b, off, rfl, hb, fun j hj => ⟨hc j (by omega), ?_⟩⟩
        obtain ⟨_, h2, _, _, _, h6, h7⟩ := hcell j (by omega)
        by_cases hj0 : L j = 0
        · exact .inl hj0
        · cases hA : A j with
          | none => have := h6 hA; omega
          | some a' =>
            obtain ⟨b', off', rfl, hb', hc'⟩ := addr_all (n := C j) (f := fun i => .int .i64 ((Z j).getD i 0)) (by omega) (h7 a' hA).2
            exact .inr ⟨b', off', hA, hb', fun i hi => hc' i (by simp only at hi; omega)⟩
    · obtain ⟨_, h2, h3, _⟩ := hcell j (by omega)
      unfold maxLen at h3; simp only; omega
    · obtain ⟨_, h2, h3, _⟩ := hcell j (by omega)
      unfold maxLen at h3; simp only; omega
    · obtain ⟨_, h2, _, _, _, h6, h7⟩ := hcell j (by omega)
      have := h6 h
      simp only; omega
end
theorem lawFollows_any (a0 a1 : Option Addr) (n0 c0 n1 c1 : Nat) (R : Nat → Row) (f : Nat → Int) (W : World) (hn0 : n0 ≤ 9223372036854775807) (hnc : n0 ≤ c0) (hc0 : c0 ≤ 9223372036854775807) (hR : ∀ j, j < n0 → (R j).n ≤ 9223372036854775807) (hcap : ∀ j, j < n0 → (R j).n ≤ (R j).c ∧ (R j).c ≤ 9223372036854775807) (hr : Rws W a0 n0 R) (hnil : a0 = none → n0 = 0 ∧ c0 = 0) (hf : Has W a1 n1 f) :
    Calls Try.prog 3 #[.slice a0 n0 c0, .slice a1 n1 c1] W fun e w' => e = .returned (.bool true) ∧ Below W.heap.size W w' := by
  have hS : ∀ w1, Below W.heap.size W w1 → Calls Try.prog 9 #[.slice a0 n0 c0, .int .i64 40, .int .i64 100000] w1 fun e w' => e = .returned (.bool (small R n0 40)) ∧ w1 = w' := fun w1 hb =>
    small_any a0 n0 c0 R 40 100000 (by omega) w1 hn0 (by omega) hnc hc0 hR (hr.below hb)
  by_cases h : small R n0 40 = false ∨ 12 < n1
  · exact follows_out W a0 a1 n0 c0 n1 c1 R hS h
  · have h' : small R n0 40 = true := by
      cases e : small R n0 40
      · exact absurd (.inl e) h
      · rfl
    exact follows_in W a0 a1 n0 c0 n1 c1 R f hS h' (by omega) hcap hr hnil hf
end Go.Proofs.Ytoffhgiljnagcaa
/- Opening the arguments that come in: lines of a proof. -/
namespace Go.Proofs.Ytoffhgiljnagcaa
open Go.ChangeShapes Go.WideShapes Go.ChangeAt Go.RowKit Go.Lib

instance : Inhabited Lin := ⟨⟨false, none, 0, 0, fun _ => 0⟩⟩
theorem cells31 : Try.prog.cellsOf 31 = 2 := by kernel_rfl
set_option maxRecDepth 100000 in
/-- One line's two cells. -/
theorem line_cells {H : Type} {enc : TypeId × Value → H} {w : World} {base : Nat} {held : Bool} {n : Nat} {a : Addr} {cs : List Value} {x : DataW H × List MemPlace}
    (hc : w.cells? base a 2 = some cs) (h : DataW.trod enc Try.prog w base (fun _ => true) held n 31 cs = some x) :
    ∃ y : Lin, w.cell? (a.add 0) = some (.bool y.d) ∧ w.cell? (a.add 1) = some (.slice y.a y.n y.c) ∧ Has w y.a y.n y.f ∧ y.n ≤ y.c ∧ y.c ≤ 9223372036854775807 := by
  obtain ⟨y0, y1, m, _, hlen, h0, h1⟩ := trod_struct2 Try.underlying31 h
  simp only [cells31] at hlen
  obtain ⟨_, hcl, hat⟩ := World.cells?_some hc
  match cs, hlen with
  | [c0, c1], _ =>
    simp [cells4, cells23] at h0 h1
    obtain ⟨b, e0, _⟩ := DataW.trod_bool Try.underlying4 h0
    simp at e0
    subst e0
    have hz := hat 0 (by omega)
    have ho := hat 1 (by omega)
    rcases open_ints Try.underlying23 Try.underlying3 cells3 h1 with ⟨e1, _⟩ | ⟨ad, l, c, zs, e1, _, hl, hm, hzs, _, hcell, hwz⟩
    · simp at e1
      subst e1
      exact ⟨⟨b, none, 0, 0, fun _ => 0⟩, by simpa using hz, by simpa using ho, .inl rfl, Nat.le_refl _, Nat.zero_le _⟩
    · simp at e1
      subst e1
      have hzl : zs.length = c := by simpa using hzs
      refine ⟨⟨b, some ad, l, c, fun j => zs.getD j 0⟩, by simpa using hz, by simpa using ho, ?_, hl, by unfold maxLen at hm; exact hm⟩
      by_cases h0 : l = 0
      · exact .inl h0
      · obtain ⟨bb, off, rfl, hb, hcc⟩ := addr_all (n := c) (f := fun i => .int .i64 (zs.getD i 0)) (by omega) (fun i hi => hcell i (by omega))
        exact .inr ⟨bb, off, rfl, hb, fun j hj => hcc j (by simp only at hj; omega)⟩
/-- Lines. -/
theorem in_lines {H : Type} {enc : TypeId × Value → H} {w : World} {base : Nat} {held : Bool} {a0 : Option Addr} {len0 cap0 : Nat} {x : DataW H × List MemPlace} {fuel : Nat}
    (h : DataW.trod enc Try.prog w base (fun _ => true) held fuel 29 (Value.slice a0 len0 cap0).cells.toList = some x) :
    ∃ X : Nat → Lin, Lns w a0 len0 X ∧ (∀ j, j < len0 → (X j).n ≤ (X j).c ∧ (X j).c ≤ 9223372036854775807) ∧ len0 ≤ 9223372036854775807 := by
  rcases Go.Deep.open_slice Try.underlying29 h with ⟨hcs, _⟩ | ⟨x, l, c, m, n', D, Pl, hcs, _, hl, hm, hmm, _, hx⟩
  · simp [Value.cells] at hcs
    obtain ⟨rfl, rfl, rfl⟩ := hcs
    exact ⟨fun _ => ⟨false, none, 0, 0, fun _ => 0⟩, .inl rfl, fun j hj => by omega, by omega⟩
  · simp [Value.cells] at hcs
    obtain ⟨rfl, rfl, rfl⟩ := hcs
    by_cases h0 : len0 = 0
    · exact ⟨fun _ => ⟨false, none, 0, 0, fun _ => 0⟩, .inl h0, fun j hj => by omega, by omega⟩
    · have hle : len0 ≤ m := by rw [hmm]; split <;> omega
      have hall : ∀ i, i < len0 → ∃ y : Lin, w.cell? ((x.add (i * 2)).add 0) = some (.bool y.d) ∧ w.cell? ((x.add (i * 2)).add 1) = some (.slice y.a y.n y.c) ∧ Has w y.a y.n y.f ∧ y.n ≤ y.c ∧ y.c ≤ 9223372036854775807 := fun i hi => by
        obtain ⟨cs', hc, ht⟩ := hx i (by omega)
        rw [cells31] at hc
        exact line_cells hc ht
      obtain ⟨X, hX⟩ := Go.Deep.choose_lt hall
      obtain ⟨b, off, spot⟩ := x
      have hspot : spot = none := by
        have := (hX 0 (by omega)).1
        rw [Go.Deep.add_add] at this
        simpa [Addr.add] using World.cell?_spot this
      subst hspot
      have hc : ∀ j, j < len0 → w.cell? ⟨b, off + j * 2, none⟩ = some (.bool (X j).d) ∧ w.cell? ⟨b, off + j * 2 + 1, none⟩ = some (.slice (X j).a (X j).n (X j).c) ∧ Has w (X j).a (X j).n (X j).f := fun j hj => by
        obtain ⟨h1, h2, h3, _⟩ := hX j hj
        rw [Go.WideShapes.add_plain, Go.WideShapes.add_plain] at h1 h2
        exact ⟨h1, h2, h3⟩
      exact ⟨X, .inr ⟨b, off, rfl, lt_of_cell (hc 0 (by omega)).1, hc⟩, fun j hj => (hX j hj).2.2.2, by unfold maxLen at hm; omega⟩
end Go.Proofs.Ytoffhgiljnagcaa
/- What is shown holds in each model; the law: checks: what is let go. -/
namespace Go.Proofs.Ytoffhgiljnagcaa
open Go.RowKit Go.Lib
set_option maxRecDepth 100000

theorem hv_total {g : Nat → Bool} {k : Nat} {x : Int} (hl : lit x = true) : hv g k x = true ∨ hv g k (-x) = true := by
  have h := lit_iff.1 hl
  have hl2 : lit (-x) = true := lit_iff.2 (by omega)
  have hav : av (-x) = av x := by unfold av; split <;> split <;> omega
  have hd : decide (0 < -x) = !decide (0 < x) := by
    by_cases h0 : 0 < x
    · rw [decide_eq_true h0, decide_eq_false (by omega)]; rfl
    · rw [decide_eq_false h0, decide_eq_true (by omega)]; rfl
  unfold hv isM
  rw [hl, hl2, hav, hd]
  cases (decide (av x ≤ k) && g (av x - 1).toNat) <;> cases decide (0 < x) <;> simp
/-- Each clause that is present holds. -/
theorem run_sound {R : Nat → Row} {n : Nat} {X : Nat → Lin} {g : Nat → Bool} (hl : litR R n = true) (hR : ∀ j, j < n → ∃ x ∈ lof (R j).f (R j).n, hv g 8 x = true) : ∀ i, okTo (cntR R n) X i → ∀ F, runL (cntR R n) X i F ≠ 0 → ∃ x ∈ F, hv g 8 x = true
  | 0, _, F, h => by
    obtain ⟨j, hj, rfl⟩ := cntR_ex h
    obtain ⟨x, hx, hv⟩ := hR j hj
    exact ⟨x, (nfv_mem (litF_mem (litR_iff.1 hl j hj)) x).2 hx, hv⟩
  | i + 1, ho, F, h => by
    have ih := run_sound hl hR i fun j hj => ho j (by omega)
    obtain ⟨hli, hok⟩ := ho i (Nat.lt_succ_self _)
    have h' : nxt (runL (cntR R n) X i) (X i).d (X i).f (X i).n F ≠ 0 := h
    unfold nxt at h'
    rcases hok with ⟨hd, _⟩ | ⟨hd, hc⟩
    · rw [hd] at h'
      refine ih F fun e => h' ?_
      show dec _ _ F = 0
      unfold dec
      split
      · next e2 => rw [← e2, e]
      · exact e
    · rw [hd] at h'
      by_cases e : F = nfv (lof (X i).f (X i).n)
      · have hlm := litF_mem hli
        by_cases hx : ∃ x ∈ lof (X i).f (X i).n, hv g 8 x = true
        · obtain ⟨x, hx, hv⟩ := hx
          exact ⟨x, by rw [e]; exact (nfv_mem hlm x).2 hx, hv⟩
        · exfalso
          refine conf_sound hc (I := fun l => hv g 8 l = true) (fun l => hv_neg) (fun c hcc => ?_) fun l ⟨j, hj, el⟩ => ?_
          · obtain ⟨F', h1, h2⟩ := hcc
            obtain ⟨x, hx, hv⟩ := ih F' h1
            exact ⟨x, (h2 x).2 hx, hv⟩
          · have hm : (X i).f j ∈ lof (X i).f (X i).n := lof_mem.2 ⟨j, hj, rfl⟩
            rcases hv_total (g := g) (k := 8) (hlm _ hm) with h | h
            · exact absurd ⟨_, hm, h⟩ hx
            · show hv g 8 l = true
              rw [el]; exact h
      · refine ih F ?_
        have h2 : inc (runL (cntR R n) X i) (nfv (lof (X i).f (X i).n)) F ≠ 0 := h'
        rw [inc_ne e] at h2; exact h2
theorem no_model2 {R : Nat → Row} {n m l : Nat} {X : Nat → Lin} {f : Nat → Int} {B : Nat → Nat} (h : ChkIs R n X m f l 0) (g : Nat → Bool) : ¬ allR (apR R n (onR B f)) (n + l) g 8 = true := by
  intro ha
  rw [allR_iff] at ha
  rcases h with ⟨_, h⟩ | ⟨hl, hlf, ⟨i, h, _⟩ | ⟨ho, ⟨_, hc⟩ | ⟨h, _⟩⟩⟩
  · omega
  · omega
  · have hR : ∀ j, j < n → ∃ x ∈ lof (R j).f (R j).n, hv g 8 x = true := fun j hj => by
      have := ha j (by omega)
      rw [show apR R n (onR B f) j = R j from if_pos hj] at this
      obtain ⟨i, hi, hv⟩ := holdsF_iff.1 this
      exact ⟨_, lof_mem.2 ⟨i, hi, rfl⟩, hv⟩
    refine conf_sound hc (I := fun l => hv g 8 l = true) (fun l => hv_neg) (fun c hcc => ?_) fun x ⟨j, hj, e⟩ => ?_
    · obtain ⟨F', h1, h2⟩ := hcc
      obtain ⟨x, hx, hv⟩ := run_sound hl hR m ho F' h1
      exact ⟨x, (h2 x).2 hx, hv⟩
    · have := ha (n + j) (by omega)
      rw [show apR R n (onR B f) (n + j) = onR B f j from by rw [apR, if_neg (by omega), Nat.add_sub_cancel_left]] at this
      obtain ⟨i, hi, hv⟩ := holdsF_iff.1 this
      have hv : Go.Proofs.Ytoffhgiljnagcaa.hv g 8 (ng f j) = true := hv
      rw [ng_lit hlf hj, ← e] at hv
      exact hv
  · omega
theorem ref4Check_any (a : Option Addr) (n c : Nat) (R : Nat → Row) (a1 : Option Addr) (m c1 : Nat) (X : Nat → Lin) (a2 : Option Addr) (l c2 : Nat) (f : Nat → Int) (w : World) (hn : n ≤ 100) (hm : m ≤ 100) (hl : l ≤ 30) (h : Rws w a n R) (hnil : a = none → n = 0 ∧ c = 0) (hR : ∀ j, j < n → RowPre w (R j)) (hX : Lns w a1 m X) (hXp : ∀ j, j < m → RowPre w (rowX (X j))) (hf : Has w a2 l f) :
    Calls Try.prog 15 #[.slice a n c, .slice a1 m c1, .slice a2 l c2] w (ChkOk R n X m f l w) := by
  have H := Lib.hid (refCheck_any a n c R a1 m c1 X a2 l c2 f w hn hm hl h hnil hR hX hXp hf)
  clear h hR hX hXp hf hnil
  go_enter Try.func15, Try.ntmps15
  go_wp2_with (go_at_call 35; refine H.out.mono ?_; rintro e w' ⟨r, rfl, h1, h2⟩)
  go_ret
  exact ⟨r, rfl, h1, h2⟩

set_option maxHeartbeats 4000000 in
theorem checks_out (W : World) (a0 a1 a2 : Option Addr) (n0 c0 m c1 l c2 : Nat) (R : Nat → Row)
    (hS : ∀ w1, Below W.heap.size W w1 → Calls Try.prog 9 #[.slice a0 n0 c0, .int .i64 30, .int .i64 100000] w1 fun e w' => e = .returned (.bool (small R n0 30)) ∧ w1 = w')
    (h : small R n0 30 = false ∨ 20 < m ∨ 12 < l) :
    Calls Try.prog 4 #[.slice a0 n0 c0, .slice a1 m c1, .slice a2 l c2] W fun e w' => e = .returned (.bool true) ∧ Below W.heap.size W w' := by
  have HA := Lib.hid (awake_at (W := W))
  have HS := Lib.hid hS
  clear hS
  have HB0 := Lib.hid (Below.refl W.heap.size W)
  cases hs : small R n0 30
  · rw [hs] at HS
    go_enter Try.func4, Try.ntmps4
    go_wp2_with (first
      | (go_at_call 8; refine (HA.out _ HB1.out).mono ?_; rintro e w2 ⟨rfl, HB2⟩)
      | (go_at_call 8; refine (HA.out _ HB0.out).mono ?_; rintro e w1 ⟨rfl, HB1⟩)
      | (go_at_call 9; refine (HS.out _ HB1.out).mono ?_; rintro e w' ⟨rfl, rfl⟩))
    go_ret
    exact ⟨rfl, HB2.out⟩
  · rw [hs] at HS
    by_cases h1 : 20 < m
    · have h1I : (20 : Int) < (m : Int) := by omega
      go_enter Try.func4, Try.ntmps4
      go_wp2_with (first
        | (go_at_call 8; refine (HA.out _ HB1.out).mono ?_; rintro e w2 ⟨rfl, HB2⟩)
        | (go_at_call 8; refine (HA.out _ HB0.out).mono ?_; rintro e w1 ⟨rfl, HB1⟩)
        | (go_at_call 9; refine (HS.out _ HB1.out).mono ?_; rintro e w' ⟨rfl, rfl⟩))
      go_ret
      exact ⟨rfl, HB2.out⟩
    · have h1I : ¬ (20 : Int) < (m : Int) := by omega
      have h2I : (12 : Int) < (l : Int) := by
        rcases h with h | h | h
        · rw [hs] at h; cases h
        · omega
        · omega
      go_enter Try.func4, Try.ntmps4
      go_wp2_with (first
        | (go_at_call 8; refine (HA.out _ HB1.out).mono ?_; rintro e w2 ⟨rfl, HB2⟩)
        | (go_at_call 8; refine (HA.out _ HB0.out).mono ?_; rintro e w1 ⟨rfl, HB1⟩)
        | (go_at_call 9; refine (HS.out _ HB1.out).mono ?_; rintro e w' ⟨rfl, rfl⟩))
      go_ret
      exact ⟨rfl, HB2.out⟩
end Go.Proofs.Ytoffhgiljnagcaa
/- The law: checks. -/
namespace Go.Proofs.Ytoffhgiljnagcaa
open Go.RowKit Go.Lib
set_option maxRecDepth 100000

theorem lnsB {w w' : World} {a : Option Addr} {m : Nat} {X : Nat → Lin} (h : Lns w a m X) (hb : Below w.heap.size w w') : Lns w' a m X := by
  rcases h with h | ⟨b, off, h1, h2, h3⟩
  · exact .inl h
  · exact .inr ⟨b, off, h1, Nat.lt_of_lt_of_le h2 hb.size, fun j hj => ⟨(hb.cell (p := ⟨b, off + j * 2, none⟩) h2).trans (h3 j hj).1, (hb.cell (p := ⟨b, off + j * 2 + 1, none⟩) h2).trans (h3 j hj).2.1, (h3 j hj).2.2.below hb⟩⟩
/-- There is an answer. -/
theorem ChkIs.ex (R : Nat → Row) (n : Nat) (X : Nat → Lin) (m : Nat) (f : Nat → Int) (l : Nat) : ∃ r, ChkIs R n X m f l r := by
  by_cases h : litR R n = true ∧ litF f l = true
  · have hk : ∀ k, k ≤ m → okTo (cntR R n) X k ∨ ∃ i, i < k ∧ okTo (cntR R n) X i ∧ ¬ okL (runL (cntR R n) X i) (X i).d (X i).f (X i).n := by
      intro k
      induction k with
      | zero => intro _; exact .inl (okTo_zero _ _)
      | succ k ih =>
        intro hk
        rcases ih (by omega) with h | ⟨i, h1, h2, h3⟩
        · by_cases e : okL (runL (cntR R n) X k) (X k).d (X k).f (X k).n
          · exact .inl (okTo_succ h e)
          · exact .inr ⟨k, by omega, h, e⟩
        · exact .inr ⟨i, by omega, h2, h3⟩
    rcases hk m (Nat.le_refl _) with h1 | ⟨i, h1, h2, h3⟩
    · by_cases hc : Conf (PCl (runL (cntR R n) X m)) (Den f l)
      · exact ⟨0, .inr ⟨h.1, h.2, .inr ⟨h1, .inl ⟨rfl, hc⟩⟩⟩⟩
      · exact ⟨m + 1, .inr ⟨h.1, h.2, .inr ⟨h1, .inr ⟨rfl, hc⟩⟩⟩⟩
    · exact ⟨i + 1, .inr ⟨h.1, h.2, .inl ⟨i, rfl, h1, h2, h3⟩⟩⟩
  · exact ⟨-1, .inl ⟨h, rfl⟩⟩

set_option maxHeartbeats 8000000 in
theorem checks_in (W : World) (a0 a1 a2 : Option Addr) (n0 c0 m c1 l c2 : Nat) (R : Nat → Row) (X : Nat → Lin) (f : Nat → Int)
    (hS : ∀ w1, Below W.heap.size W w1 → Calls Try.prog 9 #[.slice a0 n0 c0, .int .i64 30, .int .i64 100000] w1 fun e w' => e = .returned (.bool (small R n0 30)) ∧ w1 = w')
    (hs : small R n0 30 = true) (hm : m ≤ 20) (hl : l ≤ 12) (hcap : ∀ j, j < n0 → (R j).n ≤ (R j).c ∧ (R j).c ≤ 9223372036854775807) (hr : Rws W a0 n0 R) (hnil : a0 = none → n0 = 0 ∧ c0 = 0) (hX : Lns W a1 m X) (hXcap : ∀ j, j < m → (X j).n ≤ (X j).c ∧ (X j).c ≤ 9223372036854775807) (hf : Has W a2 l f) :
    Calls Try.prog 4 #[.slice a0 n0 c0, .slice a1 m c1, .slice a2 l c2] W fun e w' => e = .returned (.bool true) ∧ Below W.heap.size W w' := by
  obtain ⟨hn0, hR⟩ := small_iff.1 hs
  have HA := Lib.hid (awake_at (W := W))
  rw [hs] at hS
  have HS := Lib.hid hS
  have HB0 := Lib.hid (Below.refl W.heap.size W)
  have hRH := rws_has hr
  have hXH : ∀ j, j < m → Has W (X j).a (X j).n (X j).f := fun j hj => by
    rcases hX with h0 | ⟨b, off, _, _, hc⟩
    · omega
    · exact (hc j hj).2.2
  obtain ⟨r, hri⟩ := ChkIs.ex R n0 X m f l
  have HF1 := Lib.hid (show ∀ w1, (∀ j, j < m → (X j).n ≤ 12) → Below W.heap.size W w1 → Calls Try.prog 14 #[.slice a0 n0 c0, .slice a1 m c1, .slice a2 l c2] w1 fun e w' => e = .returned (.int .i64 r) ∧ Hid (Below W.heap.size W w') from fun w1 h12 hb =>
    (check_any a0 n0 c0 R a1 m c1 X a2 l c2 f w1 (by omega) (fun j hj => by have := hR j hj; omega) (by omega) (fun j hj => by have := h12 j hj; omega) (by omega) (hr.below hb) (lnsB hX hb) (hf.below hb)).mono fun e w' ⟨b, h1, h2, h3⟩ => ⟨by rw [h1, h2.out.one hri], Lib.hid (hb.trans (h3.out.mono hb.size))⟩)
  have HF2 := Lib.hid (show ∀ w1, (∀ j, j < m → (X j).n ≤ 12) → Below W.heap.size W w1 → Calls Try.prog 15 #[.slice a0 n0 c0, .slice a1 m c1, .slice a2 l c2] w1 fun e w' => e = .returned (.int .i64 r) ∧ Hid (Below W.heap.size W w') from fun w1 h12 hb =>
    (ref4Check_any a0 n0 c0 R a1 m c1 X a2 l c2 f w1 (by omega) (by omega) (by omega) (hr.below hb) hnil (fun j hj => ⟨(hRH j hj).below hb, hR j hj, (hcap j hj).1, (hcap j hj).2⟩) (lnsB hX hb) (fun j hj => ⟨(hXH j hj).below hb, by have := h12 j hj; show (X j).n ≤ 30; omega, (hXcap j hj).1, (hXcap j hj).2⟩) (hf.below hb)).mono fun e w' ⟨b, h1, h2, h3⟩ => ⟨by rw [h1, h2.out.one hri], Lib.hid (hb.trans (h3.out.mono hb.size))⟩)
  have h1I : ¬ (20 : Int) < (m : Int) := by omega
  have h2I : ¬ (12 : Int) < (l : Int) := by omega
  have HSRC := Lib.hid (show ∀ w1 o, Below W.heap.size W w1 → Src (w1.alloc o) a0 n0 c0 (fun j => .slice (R j).a (R j).n (R j).c) from fun w1 o hb => (hr.below (hb.alloc hb.size o)).src hnil)
  have hRs : ∀ j, j < 1 + n0 → (apR (fun _ => (⟨a2, l, c2, f⟩ : Row)) 1 R j).n ≤ 140737488355328 := fun j hj => by
    unfold apR
    split
    · show l ≤ _; omega
    · have := hR (j - 1) (by omega); omega
  have HGR := Lib.hid (show ∀ w3 a c, Hid (Frs 23 W w3 (.slice a (1 + n0) c) (1 + n0) (catV (fun _ => .slice a2 l c2) 1 (fun j => .slice (R j).a (R j).n (R j).c))) → Calls Try.prog 12 #[.slice a (1 + n0) c] w3 fun e w' => e = .returned (.int .i64 (gr (rowsL (apR (fun _ => (⟨a2, l, c2, f⟩ : Row)) 1 R) (1 + n0)))) ∧ w3 = w' from fun w3 a c H =>
    refGreatest_any a (1 + n0) c _ w3 (by omega) hRs (one_rows hRH hf H.out))
  generalize gr (rowsL (apR (fun _ => (⟨a2, l, c2, f⟩ : Row)) 1 R) (1 + n0)) = G at HGR
  have HBR := Lib.hid (show r = 0 → ∀ wr w3 v k c a cc B, Hid (Offs W wr v l f B) → Hid (Frs 23 wr w3 (.slice a (n0 + l) c) (n0 + l) (catV (fun j => .slice (R j).a (R j).n (R j).c) n0 (fun j => .slice (some ⟨B j, 0, none⟩) 1 1))) → k = n0 + l → cc = c → Calls Try.prog 13 #[.slice a k cc, .int .i64 8] w3 fun e w' => e = .returned (.bool false) ∧ Hid (Below W.heap.size W w') from fun hr0 wr w3 v k c a cc B HO H3 hk hcc => by
    subst hk hcc
    refine (refBrute_any a (n0 + l) cc (apR R n0 (onR B f)) w3 (by omega) (fun j hj => ?_) (HO.out.rows hRH H3.out)).mono fun e w' ⟨b, h1, h2, h3⟩ => ?_
    · unfold apR
      split
      · rename_i h; have := hR j h; omega
      · show 1 ≤ 1000; omega
    · have hbf : b = false := by
        cases b
        · rfl
        · obtain ⟨g, hg⟩ := h2.out rfl
          exact absurd hg (no_model2 (hr0 ▸ hri) g)
      have hb1 := HO.out.fr.bel
      have hb2 := hb1.trans (H3.out.bel.mono hb1.size)
      exact ⟨by rw [h1, hbf], Lib.hid (hb2.trans (h3.out.mono hb2.size))⟩)
  have HC := Lib.hid hf
  have HX := Lib.hid hX
  clear hri hS hcap hr hnil hf hR hRH hRs hX hXH hXcap
  go_enter Try.func4, Try.ntmps4
  go_wp2_with (first
    | (go_at_call 8; refine (HA.out _ HB0.out).mono ?_; rintro e w1 ⟨rfl, HB1⟩)
    | (go_at_call 9; refine (HS.out _ HB1.out).mono ?_; rintro e w' ⟨rfl, rfl⟩))
  go_loop [7] (fun v => ∃ i : Nat, i ≤ m ∧ v = .int .i64 i ∧ Hid (∀ j, j < i → (X j).n ≤ 12)) (fun v => m - (intOf v).toNat)
  case atStart => exact ⟨0, Nat.zero_le _, rfl, Lib.hid fun j h => absurd h (Nat.not_lt_zero _)⟩
  case round =>
    obtain ⟨i, hi, rfl, HI⟩ := hrel
    by_cases hlt : i < m
    · have hltI : (i : Int) < (m : Int) := by omega
      rcases HX.out with h0 | ⟨b, off, rfl, hb, hc⟩
      · omega
      have xc := (HB1.out.cell (p := ⟨b, off + i * 2 + 1, none⟩) hb).trans (hc i hlt).2.1
      clear hc hb HGR HBR HSRC HF1 HF2 HA HS HX
      by_cases h12 : 12 < (X i).n
      · have h12I : (12 : Int) < ((X i).n : Int) := by omega
        go_wp2
        go_ret
        exact ⟨rfl, HB1.out⟩
      · have h12I : ¬ (12 : Int) < ((X i).n : Int) := by omega
        have HN := Lib.hid (show ∀ j, j < i + 1 → (X j).n ≤ 12 from fun j hj => by
          by_cases e : j = i
          · subst e; omega
          · exact HI.out j (by omega))
        go_wp2
        go_round
        case rel => exact ⟨i + 1, by omega, by go_num, HN⟩
        case measure => simp [intOf]; omega
    · obtain rfl : i = m := by omega
      have hltI : ¬ (i : Int) < (i : Int) := by omega
      clear hlt HX
      by_cases hr0 : r = 0
      · subst hr0
        by_cases hG : 8 < G
        · go_wp2_with (first
            | (go_at_call 14; refine (HF1.out _ HI.out HB1.out).mono ?_; rintro e w2 ⟨rfl, HB2⟩)
            | (go_at_call 15; refine (HF2.out _ HI.out HB2.out).mono ?_; rintro e w3 ⟨rfl, HB3⟩)
            | (at_builtin; refine wpList_unguard (by first | rfl | (go_simp; done)) ?_; refine Frs.app11 elemRow HB3.out _ (HSRC.out _ _ HB3.out) (by unfold maxLen; omega) (by omega) rfl _ _ rfl rfl rfl ?_; intro a4 c4 w4 H4)
            | (go_at_call 12; refine (HGR.out _ _ _ H4).mono ?_; rintro e w' ⟨rfl, rfl⟩))
          go_ret
          exact ⟨rfl, H4.out.bel⟩
        · go_wp2_with (first
            | (go_at_call 14; refine (HF1.out _ HI.out HB1.out).mono ?_; rintro e w2 ⟨rfl, HB2⟩)
            | (go_at_call 15; refine (HF2.out _ HI.out HB2.out).mono ?_; rintro e w3 ⟨rfl, HB3⟩)
            | (at_builtin; refine wpList_unguard (by first | rfl | (go_simp; done)) ?_; refine Frs.app11 elemRow HB3.out _ (HSRC.out _ _ HB3.out) (by unfold maxLen; omega) (by omega) rfl _ _ rfl rfl rfl ?_; intro a4 c4 w4 H4)
            | (go_at_call 12; refine (HGR.out _ _ _ H4).mono ?_; rintro e w' ⟨rfl, rfl⟩))
          go_loopw [9, 10] (fun s v wr => ∃ (k : Nat) (a : Option Addr) (c : Nat) (B : Nat → Nat), k ≤ l ∧ s = .slice a k c ∧ v = .int .i64 k ∧ Hid (Offs W wr (.slice a k c) k f B)) (fun _ v _ => l - (intOf v).toNat)
          case atStart => exact ⟨0, none, 0, _, Nat.zero_le _, rfl, rfl, Lib.hid (Offs.nil H4.out.bel f)⟩
          case round =>
            obtain ⟨k, a, c, B, hk, rfl, rfl, HO⟩ := hrel
            by_cases hlt : k < l
            · have hltJ : (k : Int) < (l : Int) := by omega
              rcases HC.out with h0 | ⟨b, off, rfl, hb, hc⟩
              · omega
              have xc := (HO.out.fr.bel.cell (p := ⟨b, off + k, none⟩) hb).trans (hc k hlt)
              clear hc hb HGR HBR HSRC HF1 HF2 HA HS
              go_wp2_with (at_builtin; refine Offs.step (f := f) (k := k) HO (by omega) rfl _ _ rfl rfl rfl ?_; intro a' c' w' B' HO')
              go_roundw
              case rel => exact ⟨k + 1, a', c', B', by omega, rfl, by go_num, HO'⟩
              case measure => simp [intOf]; omega
            · obtain rfl : k = l := by omega
              have hltJ : ¬ (k : Int) < (k : Int) := by omega
              clear hlt
              have HS2 := Lib.hid (HSRC.out _ (.cells #[] 23) HO.out.fr.bel)
              go_wp2_with (first
                | (at_builtin; refine Frs.app elemRow H5 (Below.refl _ _) ((HO.out.fr.then H5.out.bel).src fun _ _ => rfl) (by unfold maxLen; omega) (by omega) rfl _ _ rfl rfl rfl ?_; intro a6 c6 w6 H6)
                | (at_builtin; refine Frs.app0 elemRow (Below.refl _ _) HS2.out (by unfold maxLen; omega) (by omega) rfl _ _ rfl rfl rfl ?_; intro a5 c5 w5 H5)
                | (go_at_call 13; refine (HBR.out trivial _ _ _ _ _ _ _ _ HO H6 rfl rfl).mono ?_; rintro e w7 ⟨rfl, HB7⟩))
              go_ret
              exact ⟨rfl, HB7.out⟩
      · go_wp2_with (first
          | (go_at_call 14; refine (HF1.out _ HI.out HB1.out).mono ?_; rintro e w2 ⟨rfl, HB2⟩)
          | (go_at_call 15; refine (HF2.out _ HI.out HB2.out).mono ?_; rintro e w3 ⟨rfl, HB3⟩))
        go_ret
        exact ⟨rfl, HB3.out⟩
end Go.Proofs.Ytoffhgiljnagcaa
/- The law: checks: all arguments. -/
namespace Go.Proofs.Ytoffhgiljnagcaa
open Go.RowKit Go.Lib
set_option maxRecDepth 100000

theorem checks_any (a0 a1 a2 : Option Addr) (n0 c0 m c1 l c2 : Nat) (R : Nat → Row) (X : Nat → Lin) (f : Nat → Int) (W : World) (hn0 : n0 ≤ 9223372036854775807) (hnc : n0 ≤ c0) (hc0 : c0 ≤ 9223372036854775807) (hR : ∀ j, j < n0 → (R j).n ≤ 9223372036854775807) (hcap : ∀ j, j < n0 → (R j).n ≤ (R j).c ∧ (R j).c ≤ 9223372036854775807) (hr : Rws W a0 n0 R) (hnil : a0 = none → n0 = 0 ∧ c0 = 0) (hX : Lns W a1 m X) (hXcap : ∀ j, j < m → (X j).n ≤ (X j).c ∧ (X j).c ≤ 9223372036854775807) (hf : Has W a2 l f) :
    Calls Try.prog 4 #[.slice a0 n0 c0, .slice a1 m c1, .slice a2 l c2] W fun e w' => e = .returned (.bool true) ∧ Below W.heap.size W w' := by
  have hS : ∀ w1, Below W.heap.size W w1 → Calls Try.prog 9 #[.slice a0 n0 c0, .int .i64 30, .int .i64 100000] w1 fun e w' => e = .returned (.bool (small R n0 30)) ∧ w1 = w' := fun w1 hb =>
    small_any a0 n0 c0 R 30 100000 (by omega) w1 hn0 (by omega) hnc hc0 hR (hr.below hb)
  by_cases h : small R n0 30 = false ∨ 20 < m ∨ 12 < l
  · exact checks_out W a0 a1 a2 n0 c0 m c1 l c2 R hS h
  · have h' : small R n0 30 = true := by
      cases e : small R n0 30
      · exact absurd (.inl e) h
      · rfl
    exact checks_in W a0 a1 a2 n0 c0 m c1 l c2 R X f hS h' (by omega) (by omega) hcap hr hnil hX hXcap hf
end Go.Proofs.Ytoffhgiljnagcaa
