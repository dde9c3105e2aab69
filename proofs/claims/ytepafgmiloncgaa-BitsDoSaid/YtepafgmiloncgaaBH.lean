/- Contracts: slices.Grow of the nil slice, slices.Concat of two. -/
import Derived.Test.YtepafgmiloncgaaBG
import Derived.Lib.AppendZerosOnto
namespace Go.Proofs.Ytepafgmiloncgaa
open Go.RowKit Go.Lib Go.Maps
set_option maxRecDepth 100000

set_option maxHeartbeats 1000000 in
/-- slices.Grow, of the nil slice -/
theorem grow_nil (n : Nat) (hn : 1 ≤ n ∧ n ≤ 100) (w : World) : Calls Try.prog 57 #[.slice none 0 0, .int .i64 (n : Nat)] w fun e w' => ∃ a c, e = .returned (.slice a 0 c) ∧ Hid (∀ F, Frs 3 w w' (.slice a 0 c) 0 F) := by
  obtain ⟨i0, hi0, hz0, hs0, hb0⟩ := info_parts info3
  replace hb0 : i0.bytes = 8 := hb0
  replace hs0 : i0.size = 1 := hs0
  have hold : (Builtin.firstCells i0.size 0 (.slice none 0 0)).run Try.prog w.drew = .ok (([] : List Value).toArray) w.drew := run_firstCells_none w.drew i0.size 0 0 0
  have hrz : ∀ ty, (Builtin.append_ #[26, 3] ty #[.slice none 0 0, .int .i64 (n : Nat)]).run Try.prog w =
      .ok (.slice (some ⟨w.heap.size, 0, none⟩) n (grownCap w n 0 3)) (w.drew.alloc (.cells (([] : List Value).toArray ++ Builtin.zeroCells (Value.int .i64 0).cells n ++ Builtin.zeroCells (Value.int .i64 0).cells (grownCap w n 0 3 - n)) 3)) := fun ty => by
    have h := Lib.run_append_grow_zeros w 26 3 ty 3 i0 (.int .i64 0) .i64 .i64 Try.underlying26 Try.underlying3 hi0 hz0 none 0 0 [] hold n (by omega) (by rw [hs0]; omega) (by omega) (by omega) (by rw [hb0]; omega)
      (growslice_fits (by omega) (by rw [hb0]; omega))
    rw [Nat.zero_add] at h
    exact h
  have hGn : n ≤ grownCap w n 0 3 := grownCap_ge w _ _ _
  have hGm := grownCap_le_maxLen w n 0 3 (by unfold maxLen; omega)
  obtain ⟨C, hC⟩ : ∃ C, C = grownCap w n 0 3 := ⟨_, rfl⟩
  rw [← hC] at hrz hGn hGm
  obtain ⟨xs, hxs⟩ : ∃ xs, xs = ([] : List Value).toArray ++ Builtin.zeroCells (Value.int .i64 0).cells n ++ Builtin.zeroCells (Value.int .i64 0).cells (C - n) := ⟨_, rfl⟩
  have hsz : xs.size = C := by rw [hxs]; simp [size_zeroCells, Value.cells]; omega
  rw [← hxs] at hrz
  have HF := Lib.hid (show ∀ F, Frs 3 w (w.drew.alloc (.cells xs 3)) (.slice (some ⟨w.heap.size, 0, none⟩) 0 C) 0 F from fun F => by
    have r := World.rowIs_alloc w.drew xs 3 (fun j => (xs[j]?).getD (.bool false)) (fun i hi => by simp [hi])
    refine ⟨.inr ⟨w.heap.size, C, _, rfl, Nat.zero_le _, hGm, by rw [Nat.mul_one, ← hsz]; exact r, fun j hj => by omega⟩, ?_, fun b e => ?_⟩
    · exact (Below.refl w.heap.size w).drew.alloc (Nat.le_refl _) _
    · cases e; exact Nat.le_refl _)
  clear hold hC hxs hi0 hz0 hs0 hb0
  have hnI : ¬ (n : Int) < 0 := by omega
  have hnP : (0 : Int) < (n : Int) := by omega
  unfold maxLen at hGm
  clear hsz
  go_enter Try.func57, Try.ntmps57
  go_wp2_with (at_builtin; refine Lib.wpList_append_run _ rfl _ _ _ _ rfl _ _ rfl rfl _ _ (hrz _) ?_)
  all_goals
    go_ret
    exact ⟨_, _, rfl, HF⟩
/-- The sizes behind k parts. -/
def csz (m k : Nat) : Nat := if k = 0 then 0 else if k = 1 then 1 else 1 + m
/-- A part. -/
structure Part (w : World) (v : Value) (b off n c : Nat) (g : Nat → Nat) : Prop where
  eq : v = .slice (some ⟨b, off, none⟩) n c
  lt : b < w.heap.size
  cell : ∀ j, j < n → w.cell? ⟨b, off + j, none⟩ = some (.int .i64 (g j : Nat))
theorem Part.below {w w' : World} {v : Value} {b off n c : Nat} {g : Nat → Nat} (h : Part w v b off n c g) (hb : Below w.heap.size w w') : Part w' v b off n c g :=
  ⟨h.eq, Nat.lt_of_lt_of_le h.lt hb.size, fun j hj => by rw [← h.cell j hj]; exact hb.cell (p := ⟨b, off + j, none⟩) h.lt⟩
theorem Part.src {w : World} {v : Value} {b off n c : Nat} {g : Nat → Nat} (h : Part w v b off n c g) : Src w (some ⟨b, off, none⟩) n c (fun j => .int .i64 (g j : Nat)) :=
  .inr ⟨_, rfl, fun j hj => ⟨by rw [adr]; exact h.cell j hj, rfl⟩⟩
/-- One ahead of the others. -/
def ahd (g1 g2 : Nat → Nat) (j : Nat) : Nat := if j < 1 then g1 j else g2 (j - 1)
set_option maxHeartbeats 2000000 in
/-- slices.Concat, of one and m -/
theorem concat_two {w : World} {bb b1 o1 c1 b2 o2 c2 m cc : Nat} {g1 g2 : Nat → Nat} {v1 v2 : Value} (hm : m ≤ 50) (hbb : bb < w.heap.size) (x1 : w.cell? ⟨bb, 0, none⟩ = some v1) (x2 : w.cell? ⟨bb, 1, none⟩ = some v2) (h1 : Part w v1 b1 o1 1 c1 g1) (h2 : Part w v2 b2 o2 m c2 g2) :
    Calls Try.prog 56 #[.slice (some ⟨bb, 0, none⟩) 2 cc] w fun e w' => ∃ a c, e = .returned (.slice a (1 + m) c) ∧ Hid (Frs 3 w w' (.slice a (1 + m) c) (1 + m) (fun j => .int .i64 (ahd g1 g2 j : Nat))) := by
  have HX := Lib.hid (show ∀ wr, Below w.heap.size w wr → wr.cell? ⟨bb, 0, none⟩ = some v1 ∧ wr.cell? ⟨bb, 1, none⟩ = some v2 from fun wr hb => ⟨(hb.cell (p := ⟨bb, 0, none⟩) hbb).trans x1, (hb.cell (p := ⟨bb, 1, none⟩) hbb).trans x2⟩)
  have H1 := Lib.hid h1
  have H2 := Lib.hid h2
  have HG := Lib.hid (grow_nil (1 + m) (by omega) w)
  obtain rfl := h1.eq
  obtain rfl := h2.eq
  have s0 : csz m 0 = 0 := rfl
  have s1 : csz m 1 = 1 := rfl
  have s2 : csz m 2 = 1 + m := rfl
  clear h1 h2
  go_enter Try.func56, Try.ntmps56
  go_wp2
  go_loopw [3, 11] (fun x i wr => ∃ k : Nat, k ≤ 2 ∧ x = .int .i64 (csz m k : Nat) ∧ i = .int .i64 k ∧ w = wr) (fun _ i _ => 2 - (intOf i).toNat)
  case atStart => exact ⟨0, by omega, rfl, rfl, rfl⟩
  case round =>
    obtain ⟨k, hk, rfl, rfl, rfl⟩ := hrel
    have hk3 : k = 0 ∨ k = 1 ∨ k = 2 := by omega
    rcases hk3 with rfl | rfl | rfl
    · simp only [s0]
      go_wp2
      go_roundw
      case rel => exact ⟨1, by omega, by rw [s1]; rfl, rfl, trivial⟩
      case measure => simp [intOf]
    · simp only [s1]
      have q1 : wrap64 (1 + (m : Int)) = ((1 + m : Nat) : Int) := by unfold wrap64; omega
      have q2 : ¬ (1 + (m : Int)) < 0 := by omega
      go_wp2
      go_roundw
      case rel => exact ⟨2, by omega, by rw [s2]; go_num, rfl, trivial⟩
      case measure => simp [intOf]
    · simp only [s2]
      go_wp2_with (go_at_call 57; refine HG.out.mono ?_; rintro e w1 ⟨a, c, rfl, HF⟩)
      have HF0 := Lib.hid (show Frs 3 w w1 (.slice a (csz m 0) c) (csz m 0) (fun j => .int .i64 (ahd g1 g2 j : Nat)) from HF.out _)
      go_loopw [6, 27] (fun x i wr => ∃ (k : Nat) (a : Option Addr) (c : Nat), k ≤ 2 ∧ x = .slice a (csz m k) c ∧ i = .int .i64 k ∧ Hid (Frs 3 w wr (.slice a (csz m k) c) (csz m k) (fun j => .int .i64 (ahd g1 g2 j : Nat)))) (fun _ i _ => 2 - (intOf i).toNat)
      case atStart => exact ⟨0, a, c, by omega, rfl, rfl, HF0⟩
      case round =>
        obtain ⟨k, a, c, hk, rfl, rfl, HR⟩ := hrel
        have hk3 : k = 0 ∨ k = 1 ∨ k = 2 := by omega
        rcases hk3 with rfl | rfl | rfl
        · obtain ⟨y1, y2⟩ := HX.out _ HR.out.bel
          have HS := Lib.hid (H1.out.below HR.out.bel).src
          rw [s0] at HR
          simp only [s0]
          go_wp2_with (at_builtin; refine Frs.app elemInt HR (Below.refl _ _) HS.out (by unfold maxLen; omega) (by omega) rfl _ _ rfl rfl rfl ?_; intro a' c' w' HF')
          have HFN := Lib.hid (show Frs 3 w w' (.slice a' (csz m 1) c') (csz m 1) (fun j => .int .i64 (ahd g1 g2 j : Nat)) from HF'.out.congr fun j hj => by
            unfold catV ahd; rw [if_neg (by omega), if_pos (by omega)]; rfl)
          go_roundw
          case rel => exact ⟨1, a', c', by omega, rfl, rfl, HFN⟩
          case measure => simp [intOf]
        · obtain ⟨y1, y2⟩ := HX.out _ HR.out.bel
          have HS := Lib.hid (H2.out.below HR.out.bel).src
          rw [s1] at HR
          simp only [s1]
          go_wp2_with (at_builtin; refine Frs.app elemInt HR (Below.refl _ _) HS.out (by unfold maxLen; omega) (by omega) rfl _ _ rfl rfl rfl ?_; intro a' c' w' HF')
          have HFN := Lib.hid (show Frs 3 w w' (.slice a' (csz m 2) c') (csz m 2) (fun j => .int .i64 (ahd g1 g2 j : Nat)) from HF'.out.congr fun j hj => by
            by_cases e : j < 1
            · simp [catV, ahd, e]
            · simp [catV, ahd, e])
          go_roundw
          case rel => exact ⟨2, a', c', by omega, rfl, rfl, HFN⟩
          case measure => simp [intOf]
        · simp only [s2]
          rw [s2] at HR
          go_wp2
          go_ret
          exact ⟨_, _, rfl, HR⟩
end Go.Proofs.Ytepafgmiloncgaa
