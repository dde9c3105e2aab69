/- Contracts: gaps, signs, tokens, names, places. -/
import Derived.Test.YtgikihbnafadjaaDoorD
import Derived.Test.YtgikihbnafadjaaDoorE
namespace Go.Proofs.YtgikihbnafadjaaDoor
open Go Go.RowKit Go.Lib

theorem anyK0 : anyK [0] = isB := by funext c; simp [anyK, isK0]
theorem anyK1 : anyK [1] = isL := by funext c; simp [anyK, isK1]
theorem anyK2 : anyK [2] = isD := by funext c; simp [anyK, isK2]
theorem anyK3 : anyK [1, 2, 3] = isW := by
  funext c
  rw [← isK123]; simp [anyK, Bool.or_assoc]
theorem Gl.alloc {w : World} (h : Gl w) (o : Obj) : Gl (w.alloc o) := h.below ((Below.refl _ _).alloc (Nat.le_refl _) _)
theorem cell_new (W : World) (xs : Array Value) (t : TypeId) (j : Nat) : (W.alloc (.cells xs t)).cell? ⟨W.heap.size, j, none⟩ = xs[j]? := by
  exact cell_of_block (heap_alloc_new W _) j
theorem run0_any (l : Wd) (hl : l.length ≤ 100000) {W : World} (h : Gl W) : Calls Tryd.prog 29 #[.string (bs l), .slice (some ⟨W.heap.size, 0, none⟩) 1 1] (W.alloc (.cells #[.int .i64 0] 3)) fun e w' => e = .returned (.int .i64 (span isB l)) ∧ W.alloc (.cells #[.int .i64 0] 3) = w' := by
  have := run_core l hl [0] (by decide) (by decide) W.heap.size 1 (h.alloc (.cells #[.int .i64 0] 3)) (fun j hj => by
    obtain rfl : j = 0 := by simpa using hj
    rw [cell_new]; rfl)
  rw [anyK0] at this
  exact this
theorem run1_any (l : Wd) (hl : l.length ≤ 100000) {W : World} (h : Gl W) : Calls Tryd.prog 29 #[.string (bs l), .slice (some ⟨W.heap.size, 0, none⟩) 1 1] (W.alloc (.cells #[.int .i64 1] 3)) fun e w' => e = .returned (.int .i64 (span isL l)) ∧ W.alloc (.cells #[.int .i64 1] 3) = w' := by
  have := run_core l hl [1] (by decide) (by decide) W.heap.size 1 (h.alloc (.cells #[.int .i64 1] 3)) (fun j hj => by
    obtain rfl : j = 0 := by simpa using hj
    rw [cell_new]; rfl)
  rw [anyK1] at this
  exact this
theorem run2_any (l : Wd) (hl : l.length ≤ 100000) {W : World} (h : Gl W) : Calls Tryd.prog 29 #[.string (bs l), .slice (some ⟨W.heap.size, 0, none⟩) 1 1] (W.alloc (.cells #[.int .i64 2] 3)) fun e w' => e = .returned (.int .i64 (span isD l)) ∧ W.alloc (.cells #[.int .i64 2] 3) = w' := by
  have := run_core l hl [2] (by decide) (by decide) W.heap.size 1 (h.alloc (.cells #[.int .i64 2] 3)) (fun j hj => by
    obtain rfl : j = 0 := by simpa using hj
    rw [cell_new]; rfl)
  rw [anyK2] at this
  exact this
theorem run3_any (l : Wd) (hl : l.length ≤ 100000) {W : World} (h : Gl W) : Calls Tryd.prog 29 #[.string (bs l), .slice (some ⟨W.heap.size, 0, none⟩) 3 3] (W.alloc (.cells #[.int .i64 1, .int .i64 2, .int .i64 3] 3)) fun e w' => e = .returned (.int .i64 (span isW l)) ∧ W.alloc (.cells #[.int .i64 1, .int .i64 2, .int .i64 3] 3) = w' := by
  have := run_core l hl [1, 2, 3] (by decide) (by decide) W.heap.size 3 (h.alloc (.cells #[.int .i64 1, .int .i64 2, .int .i64 3] 3)) (fun j hj => by
    have : j = 0 ∨ j = 1 ∨ j = 2 := by simp at hj; omega
    rw [cell_new]
    rcases this with rfl | rfl | rfl <;> rfl)
  rw [anyK3] at this
  exact this
theorem span_drop {p : UInt8 → Bool} (l : Wd) : span p (l.drop (span p l)) = 0 := by
  rcases Nat.lt_or_ge (span p l) l.length with h | h
  · have := span_stop l h
    rw [List.drop_eq_getElem_cons h]
    simp [span, this]
  · rw [List.drop_of_length_le h]; rfl
/-- HasPrefix -/
theorem prefix_any (l x : Wd) (w : World) : Calls Tryd.prog 30 #[.string (bs l), .string (bs x)] w fun e w' => e = .returned (.bool (x.isPrefixOf l)) ∧ w = w' := by
  have := Go.Proofs.Tryd.strings_HasPrefix (bs l) (bs x) w
  rw [bs_data, bs_data] at this
  exact this.mono fun e w' ⟨h, h2⟩ => ⟨h, h2.symm⟩
theorem drop_ext {l : Wd} {n : Nat} : (bs l).extract n l.length = bs (l.drop n) := by
  rw [bs_extract]; congr 1
  exact List.take_of_length_le (by simp)

set_option maxRecDepth 100000 in
set_option maxHeartbeats 4000000 in
/-- gap -/
theorem gap_any (l : Wd) (hl : l.length ≤ 100000) {w : World} (h : Gl w) : Calls Tryd.prog 19 #[.string (bs l)] w fun e w' => e = .returned (.int .i64 (skip l)) ∧ Below w.heap.size w w' := by
  have hsz := bs_size l
  have HR := Lib.hid (run0_any l hl h)
  have HG := Lib.hid h; clear h
  have hle1 := span_le (p := isB) l
  have hle2 := skip_le l
  go_enter Tryd.func19, Tryd.ntmps19
  go_wp2_with fail
  refine HR.out.mono ?_
  rintro e w1 ⟨rfl, hw1⟩
  have HB1 : Hid (Below w.heap.size w w1) := Lib.hid (by rw [← hw1]; exact (Below.refl _ _).alloc (Nat.le_refl _) _)
  clear hw1
  go_wp2
  go_loopw [3, 4] (fun s3 _ wr => ∃ n : Nat, n ≤ l.length ∧ s3 = .int .i64 n ∧ Hid (n + skip (l.drop n) = skip l) ∧ Hid (span isB (l.drop n) = 0) ∧ Hid (Below w.heap.size w wr)) (fun s3 _ _ => l.length - (Lib.intOf s3).toNat)
  case atStart =>
    exact ⟨span isB l, hle1, rfl, Lib.hid (skip_run l), Lib.hid (span_drop l), HB1⟩
  case round =>
    obtain ⟨n, hn, rfl, HS, HZ, HB⟩ := hrel
    have hx := drop_ext (l := l) (n := n)
    have HP := Lib.hid (prefix_any (l.drop n) [47, 47] wr)
    have hpre := pre2 47 (l.drop n)
    have hlen : (l.drop n).length = l.length - n := by simp
    have HLEN := Lib.hid hlen; clear hlen
    by_cases hp : (l.drop n).take 2 = [47, 47]
    · rw [hpre, decide_eq_true hp] at HP
      have h2 := skip_cmt2 (l.drop n) hp
      have h2len : 2 ≤ l.length - n := by
        have := congrArg List.length hp
        simp at this; omega
      have hsp := span_le (p := nl) (l.drop n)
      rw [HLEN.out] at hsp
      have hpos : 2 ≤ span nl (l.drop n) := by
        match hq : l.drop n, hp with
        | a :: b :: r, hp =>
          simp at hp
          obtain ⟨rfl, rfl⟩ := hp
          simp [span, nl]
      have HI := Lib.hid (index_any (l.drop n) 10 wr)
      have HP2 := Lib.hid hp; clear hp hpre
      cases hc : (l.drop n).contains 10 with
      | false =>
        rw [hc] at HI
        have hall : span nl (l.drop n) = l.length - n := by rw [← HLEN.out]; exact not_contains hc
        have hfin : skip l = l.length := by
          have := HS.out
          have h3 := skip_le (l.drop n)
          rw [HLEN.out] at h3
          rw [hall] at h2
          omega
        have HF := Lib.hid hfin; clear hfin hc hall hsp hpos h2
        go_wp2_with fail
        refine HP.out.mono ?_
        rintro e w2 ⟨rfl, hw2⟩
        have hw3 := hw2.symm; subst hw3; clear hw2
        go_wp2_with fail
        refine HI.out.mono ?_
        rintro e w2 ⟨rfl, hw2⟩
        have hw3 := hw2.symm; subst hw3; clear hw2
        go_wp2
        go_ret
        exact ⟨ret_int (by rw [HF.out]), HB.out⟩
      | true =>
        rw [hc] at HI
        have hlt : span nl (l.drop n) < l.length - n := by
          rcases Nat.lt_or_ge (span nl (l.drop n)) (l.length - n) with h | h
          · exact h
          · have he : span nl (l.drop n) = (l.drop n).length := by rw [HLEN.out]; omega
            rw [List.contains_eq_mem] at hc
            obtain ⟨j, hj, e⟩ := List.getElem_of_mem (of_decide_eq_true hc)
            have := span_all (p := nl) (l.drop n) j hj (by omega)
            rw [e] at this; cases this
        generalize hm : span nl (l.drop n) = m at *
        have HM := Lib.hid hm
        rw [show span (fun x => x != 10) (l.drop n) = m from hm] at HI
        have hx2 := drop_ext (l := l) (n := n + m)
        have hsp2 := span_le (p := isB) (l.drop (n + m))
        have hlen2 : (l.drop (n + m)).length = l.length - (n + m) := by simp
        rw [hlen2] at hsp2
        have hskip : (n + m + span isB (l.drop (n + m))) + skip (l.drop (n + m + span isB (l.drop (n + m)))) = skip l := by
          have h3 := skip_run (l.drop (n + m))
          rw [List.drop_drop] at h3 h2
          have := HS.out
          omega
        have hz : span isB (l.drop (n + m + span isB (l.drop (n + m)))) = 0 := by
          rw [← List.drop_drop]; exact span_drop _
        have HR := Lib.hid (run0_any (l.drop (n + m)) (by rw [hlen2]; omega) (HG.out.below HB.out))
        generalize hq : span isB (l.drop (n + m)) = q at *
        have HK := Lib.hid hskip
        have HZ2 := Lib.hid hz
        clear hskip hz hc hm hlen2 hq h2
        go_wp2_with fail
        refine HP.out.mono ?_
        rintro e w2 ⟨rfl, hw2⟩
        have hw3 := hw2.symm; subst hw3; clear hw2
        go_wp2_with fail
        refine HI.out.mono ?_
        rintro e w2 ⟨rfl, hw2⟩
        have hw3 := hw2.symm; subst hw3; clear hw2
        go_wp2_with fail
        refine HR.out.mono ?_
        rintro e w2 ⟨rfl, hw2⟩
        have HB2 : Hid (Below w.heap.size w w2) := Lib.hid (by rw [← hw2]; exact HB.out.alloc HB.out.size _)
        clear hw2
        go_wp2
        go_roundw
        case rel => exact ⟨n + m + q, by omega, by go_num, HK, HZ2, HB2⟩
        case measure => simp [Lib.intOf]; omega
    · rw [hpre, decide_eq_false hp] at HP
      have hfin : skip l = n := by
        have := HS.out
        rw [skip_no _ HZ.out hp] at this
        omega
      have HF := Lib.hid hfin; clear hfin hp hpre
      go_wp2_with fail
      refine HP.out.mono ?_
      rintro e w2 ⟨rfl, hw2⟩
      have hw3 := hw2.symm; subst hw3; clear hw2
      go_wp2
      go_ret
      exact ⟨ret_int (by rw [HF.out]), HB.out⟩
end Go.Proofs.YtgikihbnafadjaaDoor
