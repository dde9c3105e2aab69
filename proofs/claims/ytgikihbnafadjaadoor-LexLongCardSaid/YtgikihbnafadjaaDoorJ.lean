/- Contract: Tokens. -/
import Derived.Test.YtgikihbnafadjaaDoorI
namespace Go.Proofs.YtgikihbnafadjaaDoor
open Go Go.RowKit Go.Lib Go.Maps

theorem mid_ext {l : Wd} {k n : Nat} : (bs l).extract k (k + n) = bs ((l.drop k).take n) := by
  rw [bs_extract, Nat.add_sub_cancel_left]
/-- Where the scan stands. -/
def At (l : Wd) (k : Nat) (T : List Tk) : Prop := T ++ (lexL k (l.drop k)).1 = (lexL 0 l).1 ∧ (lexL k (l.drop k)).2 = (lexL 0 l).2 ∧ T.length ≤ k
theorem At.start (l : Wd) : At l 0 [] := ⟨by simp, by simp, Nat.le_refl _⟩
theorem At.gap {l : Wd} {k : Nat} {T : List Tk} (h : At l k T) {g : Nat} (hg : g + skip (l.drop (k + g)) = skip (l.drop k)) (hk : k + g ≤ l.length) : At l (k + g) T := by
  have := lex_skip k g (l.drop k) (by rw [List.drop_drop]; exact hg) (by rw [List.length_drop]; omega)
  rw [List.drop_drop] at this
  exact ⟨by rw [this]; exact h.1, by rw [this]; exact h.2.1, by have := h.2.2; omega⟩
theorem At.gap0 {l : Wd} {k : Nat} {T : List Tk} (h : At l k T) (hk : k ≤ l.length) : At l (k + skip (l.drop k)) T ∧ skip (l.drop (k + skip (l.drop k))) = 0 ∧ k + skip (l.drop k) ≤ l.length := by
  have h0 := skip_drop (l.drop k)
  rw [List.drop_drop] at h0
  have h1 := skip_le (l.drop k)
  rw [List.length_drop] at h1
  exact ⟨h.gap (by omega) (by omega), h0, by omega⟩
theorem At.token {l : Wd} {k : Nat} {T : List Tk} (h : At l k T) (hs : skip (l.drop k) = 0) (hk : k < l.length) {kd n : Nat} (ht : tok (l.drop k) = (kd, n)) (hn : 0 < n) : At l (k + n) (T ++ [⟨kd, (l.drop k).take n, k⟩]) := by
  have := lex_one (i := k) (l := l.drop k) (k := kd) (n := n) (by rw [hs, List.length_drop]; omega) (by rw [hs, List.drop_zero]; exact ht) hn
  rw [hs, List.drop_zero, Nat.add_zero, List.drop_drop] at this
  obtain ⟨h1, h2, h3⟩ := h
  rw [this] at h1 h2
  refine ⟨by simpa using h1, h2, ?_⟩
  simp; omega
theorem At.bad {l : Wd} {k : Nat} {T : List Tk} (h : At l k T) (hs : skip (l.drop k) = 0) (hk : k < l.length) (ht : (tok (l.drop k)).2 = 0) : (lexL 0 l).2 = some k := by
  have := lex_bad (i := k) (l := l.drop k) (by rw [hs, List.length_drop]; omega) (by rw [hs, List.drop_zero]; exact ht)
  have h2 := h.2.1
  rw [this, hs] at h2
  exact h2.symm
theorem At.done {l : Wd} {k : Nat} {T : List Tk} (h : At l k T) (hk : l.length ≤ k) : lexL 0 l = (T, none) := by
  have := lex_end (i := k) (l := l.drop k) (by rw [List.drop_of_length_le hk]; exact Nat.zero_le _)
  obtain ⟨h1, h2, _⟩ := h
  rw [this] at h1 h2
  exact Prod.ext (by simpa using h1.symm) h2.symm

set_option maxRecDepth 100000 in
set_option maxHeartbeats 4000000 in
theorem tokens_any (l : Wd) (hl : l.length ≤ 100000) {w : World} (h : Gl w) : Calls Tryd.prog 10 #[.string (bs l)] w (TksPost l w) := by
  have hsz := bs_size l
  by_cases h4 : 4000 < l.length
  · have h4' : (4000 : Int) < l.length := by omega
    have HF := Lib.hid (lexR_big h4)
    go_enter Tryd.func10, Tryd.ntmps10
    go_wp2
    (try simp only [Exit.inBlock, Exit.then])
    refine bodyPost_ret (results_two rfl _ (w.alloc (.cells #[.int .i64 12, .int .i64 0] 26)) w.heap.size 26 _ _ rfl (heap_alloc_new _ _) (size26 _ _)) rfl ?_
    exact tksPost_of HF.out rfl rfl (Tks.nil ((Below.refl _ _).alloc (Nat.le_refl _) _))
  · have h4' : ¬ (4000 : Int) < l.length := by omega
    obtain ⟨W1, hW1⟩ : ∃ W1, W1 = w.alloc (.cells #[.int .i64 0, .int .i64 0] 26) := ⟨_, rfl⟩
    have hWb : Below w.heap.size w W1 := by rw [hW1]; exact (Below.refl _ _).alloc (Nat.le_refl _) _
    have hg0 : W1.heap[w.heap.size]? = some (.cells #[.int .i64 0, .int .i64 0] 26 (0, 0)) := by rw [hW1]; exact heap_alloc_new _ _
    have hlt0 : w.heap.size < W1.heap.size := lt_of_block hg0
    have HG := Lib.hid (h.below hWb)
    have HGAP := Lib.hid (gap_any l hl (h.below hWb))
    have HN := Lib.hid h4
    have HW1 := Lib.hid hW1
    have HG0 := Lib.hid hg0
    have h40 : l.length ≤ 4000 := by omega
    have hskl := skip_le l
    clear h hWb hg0 h4
    go_enter Tryd.func10, Tryd.ntmps10
    go_wp2_with fail
    rw [← HW1.out]
    refine HGAP.out.mono ?_
    rintro e w1 ⟨rfl, hb1⟩
    have HT0 := Lib.hid (Tks.nil hb1)
    have hA := (At.start l).gap0 (Nat.zero_le _)
    rw [Nat.zero_add, List.drop_zero] at hA
    have HA := Lib.hid hA
    clear hb1 hA
    generalize hge : w.heap.size = g0 at *
    have HGE := Lib.hid hge; clear hge
    go_wp2
    go_loopw [4, 5, 6, 7] (fun s4 s5 _ _ wr => ∃ (k : Nat) (T : List Tk) (a : Option Addr) (c : Nat), k ≤ l.length ∧ s5 = .int .i64 k ∧ s4 = .slice a T.length c ∧ Hid (Tks W1 wr (.slice a T.length c) T) ∧ Hid (At l k T) ∧ Hid (skip (l.drop k) = 0)) (fun _ s5 _ _ _ => l.length - (Lib.intOf s5).toNat)
    case atStart => exact ⟨skip l, [], none, 0, hskl, rfl, rfl, HT0, Lib.hid HA.out.1, Lib.hid HA.out.2.1⟩
    case round =>
      obtain ⟨k, T, a, c, hk, rfl, rfl, HT, HAt, HS⟩ := hrel
      have hTl : T.length ≤ 4000 := by have := HAt.out.2.2; omega
      have HB := Lib.hid (HT.out.bel)
      have HG2 := Lib.hid (HG.out.below HB.out)
      have hg0 : wr.heap[g0]? = some (.cells #[.int .i64 0, .int .i64 0] 26 (0, 0)) := by rw [HB.out.block g0 hlt0]; exact HG0.out
      by_cases hlt : k < l.length
      · have hx1 := drop_ext (l := l) (n := k)
        have hlen : (l.drop k).length = l.length - k := by simp
        have HTK := Lib.hid (token_any (l.drop k) (by rw [hlen]; omega) HG2.out)
        have hle := tok_le (l.drop k)
        have hbad := Lib.hid (HAt.out.bad HS.out hlt)
        have hgood := Lib.hid (fun kd n => HAt.out.token (kd := kd) (n := n) HS.out hlt)
        unfold TokPost at HTK
        rw [hlen] at hle
        generalize hkn : tok (l.drop k) = kn at *
        clear hkn
        obtain ⟨kd, n⟩ := kn
        simp only at *
        by_cases hn0 : n = 0
        · subst hn0
          have HF := Lib.hid (lexR_bad HN.out (hbad.out rfl))
          clear hbad hgood
          go_wp2_with fail
          refine HTK.out.mono ?_
          rintro e w2 ⟨rfl, hb2⟩
          have HB2 := Lib.hid hb2
          have hg2 : w2.heap[g0]? = some (.cells #[.int .i64 0, .int .i64 0] 26 (0, 0)) := by rw [hb2.block g0 (lt_of_block hg0)]; exact hg0
          clear hb2
          obtain ⟨c0, c1, f0, f1, c2, f2⟩ := res_cells hg2 (.int .i64 10)
          have HG3 := Lib.hid hg2; clear hg2 hg0
          go_wp2
          (try simp only [Exit.inBlock, Exit.then])
          rw [set2_eq HG3.out]
          refine bodyPost_ret (results_two rfl _ _ g0 26 _ _ rfl (setRow_cells HG3.out _) (size26 _ _)) rfl ?_
          refine tksPost_of HF.out rfl rfl ?_
          rw [← HGE.out]
          exact Tks.setRow HW1.out (Tks.nil (HB.out.trans (HB2.out.mono HB.out.size))) _
        · have hA1 := hgood.out kd n rfl (by omega)
          have hA2 := hA1.gap0 (by omega)
          have HA1 := Lib.hid hA1
          have HA2 := Lib.hid hA2
          have hx2 := mid_ext (l := l) (k := k) (n := n)
          have hx3 := drop_ext (l := l) (n := k + n)
          have hszn := bs_size ((l.drop k).take n)
          rw [List.length_take, hlen, Nat.min_eq_left hle] at hszn
          have HCL := Lib.hid (clone_any (bs ((l.drop k).take n)) (by rw [hszn]; omega))
          have hn0' : ((n : Int) == 0) = false := by simp; omega
          have hsk := hA2.2.2
          clear hbad hgood hA1 hA2 hg0
          go_wp2_with fail
          refine HTK.out.mono ?_
          rintro e w2 ⟨rfl, hb2⟩
          have HB2 := Lib.hid hb2; clear hb2
          go_wp2_with fail
          refine (HCL.out _).mono ?_
          rintro e w3 ⟨rfl, hb3⟩
          have HB3 := Lib.hid (HB2.out.trans (hb3.mono HB2.out.size)); clear hb3
          go_wp2_with (first | (at_builtin; refine Tks.app HT ⟨kd, (l.drop k).take n, k⟩ (by omega) HB3.out rfl rfl _ _ rfl rfl rfl ?_; intro a4 c4 w4 HT4) | fail)
          refine (gap_any (l.drop (k + n)) (by rw [List.length_drop]; omega) (HG.out.below HT4.out.bel)).mono ?_
          rintro e w5 ⟨rfl, hb5⟩
          have HT5 := Lib.hid (HT4.out.then hb5); clear hb5
          go_wp2
          go_roundw
          case rel => exact ⟨k + n + skip (l.drop (k + n)), T ++ [⟨kd, (l.drop k).take n, k⟩], a4, c4, hsk, by go_num, by simp, by simpa using HT5, Lib.hid HA2.out.1, Lib.hid HA2.out.2.1⟩
          case measure => simp [Lib.intOf]; omega
      · have HF := Lib.hid (lexR_good HN.out (HAt.out.done (by omega)))
        clear hg0
        go_wp2_with (first | (at_builtin; refine Tks.app HT ⟨3, [], l.length⟩ (by omega) (Below.refl _ _) rfl rfl _ _ rfl rfl rfl ?_; intro a4 c4 w4 HT4; have hg4 : w4.heap[g0]? = some (.cells #[.int .i64 0, .int .i64 0] 26 (0, 0)) := by { rw [HT4.out.bel.block g0 hlt0]; exact HG0.out }; obtain ⟨c0, c1, f0, f1, c2, f2⟩ := res_cells hg4 (.int .i64 0); have HG4 := Lib.hid hg4; clear hg4) | fail)
        (try simp only [Exit.inBlock, Exit.then])
        rw [set2_eq HG4.out]
        refine bodyPost_ret (results_two rfl _ _ g0 26 _ _ rfl (setRow_cells HG4.out _) (size26 _ _)) rfl ?_
        refine tksPost_of HF.out rfl rfl ?_
        rw [← HGE.out]
        exact Tks.setRow HW1.out HT4.out _
end Go.Proofs.YtgikihbnafadjaaDoor
