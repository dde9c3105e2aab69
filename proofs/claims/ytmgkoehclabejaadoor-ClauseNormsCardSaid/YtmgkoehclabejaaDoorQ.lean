/- The walk of ClauseNorms. -/
import Derived.Test.YtmgkoehclabejaaDoorP
import Derived.Test.YtmgkoehclabejaaDoorK
namespace Go.Proofs.YtmgkoehclabejaaDoor
open Go.RowKit Go.Lib Go.Sort

theorem holds_nf {l : List Int} (hl : ∀ x ∈ l, lit x = true) (g : Nat → Bool) (k : Nat) : holdsF (gd (nfv l)) (nfv l).length g k = l.any (hv g k) := by
  rw [← any_hv, lof_gd, nfv_lit l hl, Bool.eq_iff_iff, List.any_eq_true, List.any_eq_true]
  exact ⟨fun ⟨x, h1, h2⟩ => ⟨x, mem_nf h1, h2⟩, fun ⟨x, h1, h2⟩ => ⟨x, (nf_facts l hl).1 x h1, h2⟩⟩
theorem taut_holds {l : List Int} (hl : ∀ x ∈ l, lit x = true) (g : Nat → Bool) (k : Nat) (h : tautv l = true) : l.any (hv g k) = true := by
  have hb : both l 100000 = true := by
    rw [both_taut hl (fun x hx => (av_pos (hl x hx)).2)]; exact h
  obtain ⟨x, h1, h2, _, h3⟩ := both_iff.1 hb
  rw [List.any_eq_true]
  cases hm : isM g k x
  · refine ⟨-x, h3, ?_⟩
    have e : isM g k (-x) = isM g k x := by unfold isM; rw [av_neg]
    unfold hv
    rw [hl _ h3, e, hm, decide_eq_false (by omega)]; rfl
  · refine ⟨x, h1, ?_⟩
    unfold hv
    rw [hl _ h1, hm, decide_eq_true h2]; rfl

set_option maxHeartbeats 1000000 in
theorem norms_long (a am : Option Addr) (n c k cm : Nat) (w : World) (hT : Tab w) (hm : n ≤ 9223372036854775807) (hk : k ≤ 9223372036854775807) (hn : 40 < n ∨ 60 < k) : Calls Tryd.prog 3 #[.slice a n c, .slice am k cm] w (LawPost w) := by
  have haw := fun W => awake_later w W hT
  have HA := Lib.hid haw; clear haw
  have hb0 : Below w.heap.size w w := Below.refl _ _
  clear hT
  by_cases h40 : 40 < n
  · clear hn
    go_enter Tryd.func3, Tryd.ntmps3
    go_wp2_with fail
    refine (HA.out _ hb0).mono ?_
    rintro e w1 ⟨rfl, hb1⟩
    go_wp2_with fail
    refine (HA.out _ hb1).mono ?_
    rintro e w2 ⟨rfl, hb2⟩
    go_wp2
    go_ret
    exact ⟨rfl, hb2⟩
  · have h60 : 60 < k := by omega
    clear hn
    go_enter Tryd.func3, Tryd.ntmps3
    go_wp2_with fail
    refine (HA.out _ hb0).mono ?_
    rintro e w1 ⟨rfl, hb1⟩
    go_wp2_with fail
    refine (HA.out _ hb1).mono ?_
    rintro e w2 ⟨rfl, hb2⟩
    go_wp2
    go_ret
    exact ⟨rfl, hb2⟩

/-- What the walk of ClauseNorms takes: all that it calls, at these arguments. -/
structure NormsIn (w : World) (cv mv : Value) (m : Nat) (g : Nat → Int) (v T h : Bool) : Prop where
  c9 : ∀ W, Below w.heap.size w W → Calls Tryd.prog 9 #[] W fun e w' => e = .returned (.bool true) ∧ Below w.heap.size w w'
  c10 : ∀ W, Below w.heap.size w W → Calls Tryd.prog 10 #[cv] W fun e w' => ∃ a' c', e = .returned (.tuple #[.slice a' m c', .bool T]) ∧ Has w' a' m g ∧ Below w.heap.size w w'
  c11 : ∀ W, Below w.heap.size w W → Calls Tryd.prog 11 #[cv] W fun e w' => ∃ a' c', e = .returned (.tuple #[.slice a' m c', .bool T]) ∧ Has w' a' m g ∧ Below W.heap.size W w' ∧ Below w.heap.size w w'
  c12 : ∀ W a' a'' c' c'', Has W a' m g → Has W a'' m g → Below w.heap.size w W → Calls Tryd.prog 12 #[.slice a' m c', .slice a'' m c''] W fun e w' => e = .returned (.bool true) ∧ Has w' a' m g ∧ Below w.heap.size w w'
  c13 : ∀ W a', Has W a' m g → Below w.heap.size w W → Calls Tryd.prog 13 #[cv] W fun e w' => e = .returned (.bool v) ∧ Has w' a' m g ∧ Below w.heap.size w w'
  c14 : ∀ W, Below w.heap.size w W → Calls Tryd.prog 14 #[cv] W fun e w' => e = .returned (.bool v) ∧ W = w'
  c15 : ∀ W a', Has W a' m g → Below w.heap.size w W → Calls Tryd.prog 15 #[cv, mv] W fun e w' => e = .returned (.bool h) ∧ Has w' a' m g ∧ Below w.heap.size w w'
  c15a : v = true → ∀ W a' c', Has W a' m g → Below w.heap.size w W → Calls Tryd.prog 15 #[.slice a' m c', mv] W fun e w' => e = .returned (.bool h) ∧ Has w' a' m g ∧ Below w.heap.size w w'
  c16 : ∀ W, Below w.heap.size w W → Calls Tryd.prog 16 #[cv, mv] W fun e w' => e = .returned (.bool h) ∧ W = w'

theorem normsIn (a am : Option Addr) (n c k cm : Nat) (f : Nat → Int) (g : Nat → Bool) (w : World) (hT : Tab w) (hn : n ≤ 40) (hk : k ≤ 60) (h : Has w a n f) (hg : HasB w am k g) :
    NormsIn w (.slice a n c) (.slice am k cm) (nfv (lof f n)).length (gd (nfv (lof f n))) (litF f n) (tautv (lof f n)) (holdsF f n g k) := by
  have hml : (nfv (lof f n)).length ≤ 40 := by
    unfold nfv; split
    · have := nf_length (lof f n); rw [lof_length] at this; omega
    · simp
  refine ⟨fun W => awake_later w W hT, fun W hb => ?_, fun W hb => ?_, fun W a' a'' c' c'' h1 h2 hb => ?_, fun W a' h1 hb => ?_, fun W hb => ?_, fun W a' h1 hb => ?_, fun hv W a' c' h1 hb => ?_, fun W hb => ?_⟩
  · exact (norm_any a n c f W (by omega) (h.below hb)).mono fun _ _ ⟨a', c', he, h1, _, h3⟩ => ⟨a', c', he, h1, hb.trans (h3.mono hb.size)⟩
  · exact (refNorm_any a n c f W (by omega) (h.below hb)).mono fun _ _ ⟨a', c', he, h1, h3⟩ => ⟨a', c', he, h1, h3, hb.trans (h3.mono hb.size)⟩
  · have := ints_any a' a'' _ _ c' c'' (gd (nfv (lof f n))) (gd (nfv (lof f n))) W (by omega) h1 h2
    unfold SamePost at this
    rw [sameF_iff.2 ⟨rfl, fun _ _ => rfl⟩] at this
    exact this.mono fun _ _ ⟨he, q, hq⟩ => ⟨he, hq ▸ h1.drewN q, hq ▸ below_drewN hb q⟩
  · exact (right_any a n c f W (by omega) (h.below hb)).mono fun _ _ ⟨he, q, hq⟩ => ⟨he, hq ▸ h1.drewN q, hq ▸ below_drewN hb q⟩
  · exact refRight_any a n c f W (by omega) (h.below hb)
  · exact (holds_any a n c f am k cm g W (by omega) (by omega) (h.below hb) (hg.below hb)).mono fun _ _ ⟨he, h3⟩ => ⟨he, h1.below h3, hb.trans (h3.mono hb.size)⟩
  · have := holds_any a' _ c' (gd (nfv (lof f n))) am k cm g W (by omega) (by omega) h1 (hg.below hb)
    unfold HoldsPost at this
    rw [holds_nf (lof_lit hv), any_hv] at this
    exact this.mono fun _ _ ⟨he, h3⟩ => ⟨he, h1.below h3, hb.trans (h3.mono hb.size)⟩
  · exact refHolds_any a n c f am k cm g W (by omega) (by omega) (h.below hb) (hg.below hb)

set_option maxHeartbeats 4000000 in
theorem norms_walk (a am : Option Addr) (n c k cm m : Nat) (g : Nat → Int) (v T h : Bool) (w : World) (hn : n ≤ 40) (hk : k ≤ 60) (H : NormsIn w (.slice a n c) (.slice am k cm) m g v T h) (hth : v = true → T = true → h = true) :
    Calls Tryd.prog 3 #[.slice a n c, .slice am k cm] w (LawPost w) := by
  obtain ⟨h9, h10, h11, h12, h13, h14, h15, h15a, h16⟩ := H
  have hb0 : Below w.heap.size w w := Below.refl _ _
  have H9 := Lib.hid h9; clear h9
  have H10 := Lib.hid h10; clear h10
  have H11 := Lib.hid h11; clear h11
  have H12 := Lib.hid h12; clear h12
  cases v
  · cases T
    · cases h
      · have H13 := Lib.hid h13
        have H14 := Lib.hid h14
        have H15 := Lib.hid h15
        have H16 := Lib.hid h16
        clear h13 h14 h15 h16 h15a hth
        go_enter Tryd.func3, Tryd.ntmps3
        go_wp2_with fail
        refine (H9.out _ hb0).mono ?_
        rintro e w1 ⟨rfl, hb1⟩
        go_wp2_with fail
        refine (H10.out _ hb1).mono ?_
        rintro e w2 ⟨a1, c1, rfl, hh2, hb2⟩
        go_wp2_with fail
        refine (H11.out _ hb2).mono ?_
        rintro e w3 ⟨a2, c2, rfl, hh3', hbb, hb3⟩
        have hh3 := hh2.below hbb
        clear hbb hh2
        go_wp2_with fail
        refine (H12.out _ _ _ _ _ hh3 hh3' hb3).mono ?_
        rintro e w4 ⟨rfl, hh4, hb4⟩
        clear hh3 hh3'
        go_wp2_with fail
        refine (H13.out _ _ hh4 hb4).mono ?_
        rintro e w5 ⟨rfl, hh5, hb5⟩
        clear hh4
        go_wp2_with fail
        refine (H14.out _ hb5).mono ?_
        rintro e w6 ⟨rfl, rfl⟩
        go_wp2_with fail
        refine (H15.out _ _ hh5 hb5).mono ?_
        rintro e w6 ⟨rfl, hh6, hb6⟩
        clear hh5
        go_wp2_with fail
        refine (H16.out _ hb6).mono ?_
        rintro e w7 ⟨rfl, rfl⟩
        go_wp2_with fail
        refine (H14.out _ hb6).mono ?_
        rintro e w7 ⟨rfl, rfl⟩
        go_wp2
        go_ret
        exact ⟨rfl, hb6⟩
      · have H13 := Lib.hid h13
        have H14 := Lib.hid h14
        have H15 := Lib.hid h15
        have H16 := Lib.hid h16
        clear h13 h14 h15 h16 h15a hth
        go_enter Tryd.func3, Tryd.ntmps3
        go_wp2_with fail
        refine (H9.out _ hb0).mono ?_
        rintro e w1 ⟨rfl, hb1⟩
        go_wp2_with fail
        refine (H10.out _ hb1).mono ?_
        rintro e w2 ⟨a1, c1, rfl, hh2, hb2⟩
        go_wp2_with fail
        refine (H11.out _ hb2).mono ?_
        rintro e w3 ⟨a2, c2, rfl, hh3', hbb, hb3⟩
        have hh3 := hh2.below hbb
        clear hbb hh2
        go_wp2_with fail
        refine (H12.out _ _ _ _ _ hh3 hh3' hb3).mono ?_
        rintro e w4 ⟨rfl, hh4, hb4⟩
        clear hh3 hh3'
        go_wp2_with fail
        refine (H13.out _ _ hh4 hb4).mono ?_
        rintro e w5 ⟨rfl, hh5, hb5⟩
        clear hh4
        go_wp2_with fail
        refine (H14.out _ hb5).mono ?_
        rintro e w6 ⟨rfl, rfl⟩
        go_wp2_with fail
        refine (H15.out _ _ hh5 hb5).mono ?_
        rintro e w6 ⟨rfl, hh6, hb6⟩
        clear hh5
        go_wp2_with fail
        refine (H16.out _ hb6).mono ?_
        rintro e w7 ⟨rfl, rfl⟩
        go_wp2_with fail
        refine (H14.out _ hb6).mono ?_
        rintro e w7 ⟨rfl, rfl⟩
        go_wp2
        go_ret
        exact ⟨rfl, hb6⟩
    · cases h
      · have H13 := Lib.hid h13
        have H14 := Lib.hid h14
        have H15 := Lib.hid h15
        have H16 := Lib.hid h16
        clear h13 h14 h15 h16 h15a hth
        go_enter Tryd.func3, Tryd.ntmps3
        go_wp2_with fail
        refine (H9.out _ hb0).mono ?_
        rintro e w1 ⟨rfl, hb1⟩
        go_wp2_with fail
        refine (H10.out _ hb1).mono ?_
        rintro e w2 ⟨a1, c1, rfl, hh2, hb2⟩
        go_wp2_with fail
        refine (H11.out _ hb2).mono ?_
        rintro e w3 ⟨a2, c2, rfl, hh3', hbb, hb3⟩
        have hh3 := hh2.below hbb
        clear hbb hh2
        go_wp2_with fail
        refine (H12.out _ _ _ _ _ hh3 hh3' hb3).mono ?_
        rintro e w4 ⟨rfl, hh4, hb4⟩
        clear hh3 hh3'
        go_wp2_with fail
        refine (H13.out _ _ hh4 hb4).mono ?_
        rintro e w5 ⟨rfl, hh5, hb5⟩
        clear hh4
        go_wp2_with fail
        refine (H14.out _ hb5).mono ?_
        rintro e w6 ⟨rfl, rfl⟩
        go_wp2_with fail
        refine (H15.out _ _ hh5 hb5).mono ?_
        rintro e w6 ⟨rfl, hh6, hb6⟩
        clear hh5
        go_wp2_with fail
        refine (H16.out _ hb6).mono ?_
        rintro e w7 ⟨rfl, rfl⟩
        go_wp2_with fail
        refine (H14.out _ hb6).mono ?_
        rintro e w7 ⟨rfl, rfl⟩
        go_wp2
        go_ret
        exact ⟨rfl, hb6⟩
      · have H13 := Lib.hid h13
        have H14 := Lib.hid h14
        have H15 := Lib.hid h15
        have H16 := Lib.hid h16
        clear h13 h14 h15 h16 h15a hth
        go_enter Tryd.func3, Tryd.ntmps3
        go_wp2_with fail
        refine (H9.out _ hb0).mono ?_
        rintro e w1 ⟨rfl, hb1⟩
        go_wp2_with fail
        refine (H10.out _ hb1).mono ?_
        rintro e w2 ⟨a1, c1, rfl, hh2, hb2⟩
        go_wp2_with fail
        refine (H11.out _ hb2).mono ?_
        rintro e w3 ⟨a2, c2, rfl, hh3', hbb, hb3⟩
        have hh3 := hh2.below hbb
        clear hbb hh2
        go_wp2_with fail
        refine (H12.out _ _ _ _ _ hh3 hh3' hb3).mono ?_
        rintro e w4 ⟨rfl, hh4, hb4⟩
        clear hh3 hh3'
        go_wp2_with fail
        refine (H13.out _ _ hh4 hb4).mono ?_
        rintro e w5 ⟨rfl, hh5, hb5⟩
        clear hh4
        go_wp2_with fail
        refine (H14.out _ hb5).mono ?_
        rintro e w6 ⟨rfl, rfl⟩
        go_wp2_with fail
        refine (H15.out _ _ hh5 hb5).mono ?_
        rintro e w6 ⟨rfl, hh6, hb6⟩
        clear hh5
        go_wp2_with fail
        refine (H16.out _ hb6).mono ?_
        rintro e w7 ⟨rfl, rfl⟩
        go_wp2_with fail
        refine (H14.out _ hb6).mono ?_
        rintro e w7 ⟨rfl, rfl⟩
        go_wp2
        go_ret
        exact ⟨rfl, hb6⟩
  · cases T
    · cases h
      · have H15a := Lib.hid (h15a rfl)
        have H13 := Lib.hid h13
        have H14 := Lib.hid h14
        have H15 := Lib.hid h15
        have H16 := Lib.hid h16
        clear h13 h14 h15 h16 h15a hth
        go_enter Tryd.func3, Tryd.ntmps3
        go_wp2_with fail
        refine (H9.out _ hb0).mono ?_
        rintro e w1 ⟨rfl, hb1⟩
        go_wp2_with fail
        refine (H10.out _ hb1).mono ?_
        rintro e w2 ⟨a1, c1, rfl, hh2, hb2⟩
        go_wp2_with fail
        refine (H11.out _ hb2).mono ?_
        rintro e w3 ⟨a2, c2, rfl, hh3', hbb, hb3⟩
        have hh3 := hh2.below hbb
        clear hbb hh2
        go_wp2_with fail
        refine (H12.out _ _ _ _ _ hh3 hh3' hb3).mono ?_
        rintro e w4 ⟨rfl, hh4, hb4⟩
        clear hh3 hh3'
        go_wp2_with fail
        refine (H13.out _ _ hh4 hb4).mono ?_
        rintro e w5 ⟨rfl, hh5, hb5⟩
        clear hh4
        go_wp2_with fail
        refine (H14.out _ hb5).mono ?_
        rintro e w6 ⟨rfl, rfl⟩
        go_wp2_with fail
        refine (H15.out _ _ hh5 hb5).mono ?_
        rintro e w6 ⟨rfl, hh6, hb6⟩
        clear hh5
        go_wp2_with fail
        refine (H16.out _ hb6).mono ?_
        rintro e w7 ⟨rfl, rfl⟩
        go_wp2_with fail
        refine (H14.out _ hb6).mono ?_
        rintro e w7 ⟨rfl, rfl⟩
        go_wp2_with fail
        refine (H15a.out _ _ _ hh6 hb6).mono ?_
        rintro e w7 ⟨rfl, hh7, hb7⟩
        clear hh6
        go_wp2_with fail
        refine (H15.out _ _ hh7 hb7).mono ?_
        rintro e w8 ⟨rfl, hh8, hb8⟩
        clear hh7
        go_wp2
        go_ret
        exact ⟨rfl, hb8⟩
      · have H15a := Lib.hid (h15a rfl)
        have H13 := Lib.hid h13
        have H14 := Lib.hid h14
        have H15 := Lib.hid h15
        have H16 := Lib.hid h16
        clear h13 h14 h15 h16 h15a hth
        go_enter Tryd.func3, Tryd.ntmps3
        go_wp2_with fail
        refine (H9.out _ hb0).mono ?_
        rintro e w1 ⟨rfl, hb1⟩
        go_wp2_with fail
        refine (H10.out _ hb1).mono ?_
        rintro e w2 ⟨a1, c1, rfl, hh2, hb2⟩
        go_wp2_with fail
        refine (H11.out _ hb2).mono ?_
        rintro e w3 ⟨a2, c2, rfl, hh3', hbb, hb3⟩
        have hh3 := hh2.below hbb
        clear hbb hh2
        go_wp2_with fail
        refine (H12.out _ _ _ _ _ hh3 hh3' hb3).mono ?_
        rintro e w4 ⟨rfl, hh4, hb4⟩
        clear hh3 hh3'
        go_wp2_with fail
        refine (H13.out _ _ hh4 hb4).mono ?_
        rintro e w5 ⟨rfl, hh5, hb5⟩
        clear hh4
        go_wp2_with fail
        refine (H14.out _ hb5).mono ?_
        rintro e w6 ⟨rfl, rfl⟩
        go_wp2_with fail
        refine (H15.out _ _ hh5 hb5).mono ?_
        rintro e w6 ⟨rfl, hh6, hb6⟩
        clear hh5
        go_wp2_with fail
        refine (H16.out _ hb6).mono ?_
        rintro e w7 ⟨rfl, rfl⟩
        go_wp2_with fail
        refine (H14.out _ hb6).mono ?_
        rintro e w7 ⟨rfl, rfl⟩
        go_wp2_with fail
        refine (H15a.out _ _ _ hh6 hb6).mono ?_
        rintro e w7 ⟨rfl, hh7, hb7⟩
        clear hh6
        go_wp2_with fail
        refine (H15.out _ _ hh7 hb7).mono ?_
        rintro e w8 ⟨rfl, hh8, hb8⟩
        clear hh7
        go_wp2
        go_ret
        exact ⟨rfl, hb8⟩
    · cases h
      · exact absurd (hth rfl rfl) (by decide)
      · have H15a := Lib.hid (h15a rfl)
        have H13 := Lib.hid h13
        have H14 := Lib.hid h14
        have H15 := Lib.hid h15
        have H16 := Lib.hid h16
        clear h13 h14 h15 h16 h15a hth
        go_enter Tryd.func3, Tryd.ntmps3
        go_wp2_with fail
        refine (H9.out _ hb0).mono ?_
        rintro e w1 ⟨rfl, hb1⟩
        go_wp2_with fail
        refine (H10.out _ hb1).mono ?_
        rintro e w2 ⟨a1, c1, rfl, hh2, hb2⟩
        go_wp2_with fail
        refine (H11.out _ hb2).mono ?_
        rintro e w3 ⟨a2, c2, rfl, hh3', hbb, hb3⟩
        have hh3 := hh2.below hbb
        clear hbb hh2
        go_wp2_with fail
        refine (H12.out _ _ _ _ _ hh3 hh3' hb3).mono ?_
        rintro e w4 ⟨rfl, hh4, hb4⟩
        clear hh3 hh3'
        go_wp2_with fail
        refine (H13.out _ _ hh4 hb4).mono ?_
        rintro e w5 ⟨rfl, hh5, hb5⟩
        clear hh4
        go_wp2_with fail
        refine (H14.out _ hb5).mono ?_
        rintro e w6 ⟨rfl, rfl⟩
        go_wp2_with fail
        refine (H15.out _ _ hh5 hb5).mono ?_
        rintro e w6 ⟨rfl, hh6, hb6⟩
        clear hh5
        go_wp2_with fail
        refine (H16.out _ hb6).mono ?_
        rintro e w7 ⟨rfl, rfl⟩
        go_wp2_with fail
        refine (H14.out _ hb6).mono ?_
        rintro e w7 ⟨rfl, rfl⟩
        go_wp2_with fail
        refine (H15a.out _ _ _ hh6 hb6).mono ?_
        rintro e w7 ⟨rfl, hh7, hb7⟩
        clear hh6
        go_wp2_with fail
        refine (H15.out _ _ hh7 hb7).mono ?_
        rintro e w8 ⟨rfl, hh8, hb8⟩
        clear hh7
        go_wp2_with fail
        refine (H15.out _ _ hh8 hb8).mono ?_
        rintro e w9 ⟨rfl, hh9, hb9⟩
        clear hh8
        go_wp2
        go_ret
        exact ⟨rfl, hb9⟩

theorem norms_any (a am : Option Addr) (n c k cm : Nat) (f : Nat → Int) (g : Nat → Bool) (w : World) (hT : Tab w) (hm : n ≤ 9223372036854775807) (hk : k ≤ 9223372036854775807) (h : Has w a n f) (hg : HasB w am k g) :
    Calls Tryd.prog 3 #[.slice a n c, .slice am k cm] w (LawPost w) := by
  by_cases hn : 40 < n ∨ 60 < k
  · exact norms_long a am n c k cm w hT hm hk hn
  · refine norms_walk a am n c k cm _ _ _ _ _ w (by omega) (by omega) (normsIn a am n c k cm f g w hT (by omega) (by omega) h hg) (fun h1 h2 => ?_)
    rw [← any_hv]
    exact taut_holds (lof_lit h1) g k h2
end Go.Proofs.YtmgkoehclabejaaDoor
