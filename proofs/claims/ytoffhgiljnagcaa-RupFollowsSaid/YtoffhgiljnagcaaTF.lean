/- The law: what follows. -/
import Derived.Test.YtoffhgiljnagcaaTE
import Derived.Test.YtoffhgiljnagcaaQI
namespace Go.Proofs.Ytoffhgiljnagcaa
open Go.RowKit Go.Lib
set_option maxRecDepth 100000

set_option maxHeartbeats 4000000 in
theorem follows_out (W : World) (a0 a1 : Option Addr) (n0 c0 n1 c1 : Nat) (R : Nat → Row)
    (hS : ∀ w1, Below W.heap.size W w1 → Calls Try.prog 9 #[.slice a0 n0 c0, .int .i64 40, .int .i64 100000] w1 fun e w' => e = .returned (.bool (small R n0 40)) ∧ w1 = w')
    (h : small R n0 40 = false ∨ 12 < n1) :
    Calls Try.prog 3 #[.slice a0 n0 c0, .slice a1 n1 c1] W fun e w' => e = .returned (.bool true) ∧ Below W.heap.size W w' := by
  have HA := Lib.hid (awake_at (W := W))
  have HS := Lib.hid hS
  clear hS
  have HB0 := Lib.hid (Below.refl W.heap.size W)
  cases hs : small R n0 40
  · rw [hs] at HS
    go_enter Try.func3, Try.ntmps3
    go_wp2_with (first
      | (go_at_call 8; refine (HA.out _ HB1.out).mono ?_; rintro e w2 ⟨rfl, HB2⟩)
      | (go_at_call 8; refine (HA.out _ HB0.out).mono ?_; rintro e w1 ⟨rfl, HB1⟩)
      | (go_at_call 9; refine (HS.out _ HB1.out).mono ?_; rintro e w' ⟨rfl, rfl⟩))
    go_ret
    exact ⟨rfl, HB2.out⟩
  · rw [hs] at HS
    have h1I : (12 : Int) < (n1 : Int) := by
      rcases h with h | h
      · rw [hs] at h; cases h
      · omega
    go_enter Try.func3, Try.ntmps3
    go_wp2_with (first
      | (go_at_call 8; refine (HA.out _ HB1.out).mono ?_; rintro e w2 ⟨rfl, HB2⟩)
      | (go_at_call 8; refine (HA.out _ HB0.out).mono ?_; rintro e w1 ⟨rfl, HB1⟩)
      | (go_at_call 9; refine (HS.out _ HB1.out).mono ?_; rintro e w' ⟨rfl, rfl⟩))
    go_ret
    exact ⟨rfl, HB2.out⟩

theorem rws_has {w : World} {a : Option Addr} {n : Nat} {R : Nat → Row} (hr : Rws w a n R) : ∀ j, j < n → Has w (R j).a (R j).n (R j).f := fun j hj => by
  rcases hr with h0 | ⟨b, off, _, _, hc⟩
  · omega
  · exact (hc j hj).2
theorem one_rows {W w3 : World} {a a1 : Option Addr} {n c n1 c1 : Nat} {R : Nat → Row} {f : Nat → Int} (hR : ∀ j, j < n → Has W (R j).a (R j).n (R j).f) (hf : Has W a1 n1 f) (h3 : Frs 23 W w3 (.slice a (1 + n) c) (1 + n) (catV (fun _ => .slice a1 n1 c1) 1 (fun j => .slice (R j).a (R j).n (R j).c))) :
    Rws w3 a (1 + n) (apR (fun _ => ⟨a1, n1, c1, f⟩) 1 R) := by
  refine h3.rows fun j hj => ?_
  by_cases hj1 : j < 1
  · rw [show apR (fun _ => ⟨a1, n1, c1, f⟩) 1 R j = ⟨a1, n1, c1, f⟩ from if_pos hj1, catV, if_pos hj1]
    exact ⟨rfl, hf.below h3.bel⟩
  · rw [show apR (fun _ => ⟨a1, n1, c1, f⟩) 1 R j = R (j - 1) from if_neg hj1, catV, if_neg hj1]
    exact ⟨rfl, (hR (j - 1) (by omega)).below h3.bel⟩

set_option maxHeartbeats 8000000 in
theorem follows_in (W : World) (a0 a1 : Option Addr) (n0 c0 n1 c1 : Nat) (R : Nat → Row) (f : Nat → Int)
    (hS : ∀ w1, Below W.heap.size W w1 → Calls Try.prog 9 #[.slice a0 n0 c0, .int .i64 40, .int .i64 100000] w1 fun e w' => e = .returned (.bool (small R n0 40)) ∧ w1 = w')
    (hs : small R n0 40 = true) (h1 : n1 ≤ 12) (hcap : ∀ j, j < n0 → (R j).n ≤ (R j).c ∧ (R j).c ≤ 9223372036854775807) (hr : Rws W a0 n0 R) (hnil : a0 = none → n0 = 0 ∧ c0 = 0) (hf : Has W a1 n1 f) :
    Calls Try.prog 3 #[.slice a0 n0 c0, .slice a1 n1 c1] W fun e w' => e = .returned (.bool true) ∧ Below W.heap.size W w' := by
  obtain ⟨hn0, hR⟩ := small_iff.1 hs
  have HA := Lib.hid (awake_at (W := W))
  rw [hs] at hS
  have HS := Lib.hid hS
  have HB0 := Lib.hid (Below.refl W.heap.size W)
  have hRH := rws_has hr
  obtain ⟨bb, hbb⟩ : ∃ bb : Bool, bb = true ↔ litR R n0 = true ∧ litF f n1 = true ∧ Conf (RowC R n0) (Den f n1) := by
    by_cases h : litR R n0 = true ∧ litF f n1 = true ∧ Conf (RowC R n0) (Den f n1)
    · exact ⟨true, fun _ => h, fun _ => rfl⟩
    · exact ⟨false, fun e => by simp at e, fun e => absurd e h⟩
  have HF1 := Lib.hid (show ∀ w1, Below W.heap.size W w1 → Calls Try.prog 10 #[.slice a0 n0 c0, .slice a1 n1 c1] w1 fun e w' => e = .returned (.bool bb) ∧ Hid (Below W.heap.size W w') from fun w1 hb =>
    (follows_any a0 n0 c0 R a1 n1 c1 f w1 (by omega) (fun j hj => by have := hR j hj; omega) (by omega) (hr.below hb) (hf.below hb)).mono fun e w' ⟨b, h1, h2, h3⟩ => ⟨by rw [h1, Bool.eq_iff_iff.2 (h2.trans hbb.symm)], Lib.hid (hb.trans (h3.mono hb.size))⟩)
  have HF2 := Lib.hid (show ∀ w1, Below W.heap.size W w1 → Calls Try.prog 11 #[.slice a0 n0 c0, .slice a1 n1 c1] w1 fun e w' => e = .returned (.bool bb) ∧ Hid (Below W.heap.size W w') from fun w1 hb =>
    (ref4Follows_any a0 a1 n0 c0 n1 c1 R f w1 (by omega) (by omega) (fun j hj => ⟨hR j hj, hcap j hj⟩) (hr.below hb) (hf.below hb)).mono fun e w' ⟨b, h1, h2, h3⟩ => ⟨by rw [h1, Bool.eq_iff_iff.2 (h2.out.trans hbb.symm)], Lib.hid (hb.trans (h3.out.mono hb.size))⟩)
  have h1I : ¬ (12 : Int) < (n1 : Int) := by omega
  have h1J : decide ((12 : Int) < (n1 : Int)) = false := decide_eq_false h1I
  cases bb with
  | false =>
    clear hbb hS hcap hr hnil hf hR hRH
    go_enter Try.func3, Try.ntmps3
    go_wp2_with (first
      | (go_at_call 8; refine (HA.out _ HB0.out).mono ?_; rintro e w1 ⟨rfl, HB1⟩)
      | (go_at_call 9; refine (HS.out _ HB1.out).mono ?_; rintro e w' ⟨rfl, rfl⟩)
      | (go_at_call 10; refine (HF1.out _ HB1.out).mono ?_; rintro e w2 ⟨rfl, HB2⟩)
      | (go_at_call 11; refine (HF2.out _ HB2.out).mono ?_; rintro e w3 ⟨rfl, HB3⟩))
    go_ret
    exact ⟨rfl, HB3.out⟩
  | true =>
    obtain ⟨hl0, hl1, hcf⟩ := hbb.1 rfl
    have HSRC := Lib.hid (show ∀ w1 o, Below W.heap.size W w1 → Src (w1.alloc o) a0 n0 c0 (fun j => .slice (R j).a (R j).n (R j).c) from fun w1 o hb => (hr.below (hb.alloc hb.size o)).src hnil)
    have hRs : ∀ j, j < 1 + n0 → (apR (fun _ => (⟨a1, n1, c1, f⟩ : Row)) 1 R j).n ≤ 140737488355328 := fun j hj => by
      unfold apR
      split
      · show n1 ≤ _; omega
      · have := hR (j - 1) (by omega); omega
    have HGR := Lib.hid (show ∀ w3 a c, Hid (Frs 23 W w3 (.slice a (1 + n0) c) (1 + n0) (catV (fun _ => .slice a1 n1 c1) 1 (fun j => .slice (R j).a (R j).n (R j).c))) → Calls Try.prog 12 #[.slice a (1 + n0) c] w3 fun e w' => e = .returned (.int .i64 (gr (rowsL (apR (fun _ => (⟨a1, n1, c1, f⟩ : Row)) 1 R) (1 + n0)))) ∧ w3 = w' from fun w3 a c H =>
      refGreatest_any a (1 + n0) c _ w3 (by omega) hRs (one_rows hRH hf H.out))
    generalize gr (rowsL (apR (fun _ => (⟨a1, n1, c1, f⟩ : Row)) 1 R) (1 + n0)) = G at HGR
    have HBR := Lib.hid (show ∀ wr w3 v k c a cc B, Hid (Offs W wr v n1 f B) → Hid (Frs 23 wr w3 (.slice a (n0 + n1) c) (n0 + n1) (catV (fun j => .slice (R j).a (R j).n (R j).c) n0 (fun j => .slice (some ⟨B j, 0, none⟩) 1 1))) → k = n0 + n1 → cc = c → Calls Try.prog 13 #[.slice a k cc, .int .i64 8] w3 fun e w' => e = .returned (.bool false) ∧ Hid (Below W.heap.size W w') from fun wr w3 v k c a cc B HO H3 hk hcc => by
      subst hk hcc
      refine (refBrute_any a (n0 + n1) cc (apR R n0 (onR B f)) w3 (by omega) (fun j hj => ?_) (HO.out.rows hRH H3.out)).mono fun e w' ⟨b, h1, h2, h3⟩ => ?_
      · unfold apR
        split
        · rename_i h; have := hR j h; omega
        · show 1 ≤ 1000; omega
      · have hbf : b = false := by
          cases b
          · rfl
          · obtain ⟨g, hg⟩ := h2.out rfl
            exact absurd hg (no_model hl1 hcf g)
        have hb1 := HO.out.fr.bel
        have hb2 := hb1.trans (H3.out.bel.mono hb1.size)
        exact ⟨by rw [h1, hbf], Lib.hid (hb2.trans (h3.out.mono hb2.size))⟩)
    have HC := Lib.hid hf
    clear hbb hS hcap hr hnil hf hR hRH hRs hl0 hl1 hcf
    by_cases hG : 8 < G
    · go_enter Try.func3, Try.ntmps3
      go_wp2_with (first
        | (go_at_call 8; refine (HA.out _ HB0.out).mono ?_; rintro e w1 ⟨rfl, HB1⟩)
        | (go_at_call 9; refine (HS.out _ HB1.out).mono ?_; rintro e w' ⟨rfl, rfl⟩)
        | (go_at_call 10; refine (HF1.out _ HB1.out).mono ?_; rintro e w2 ⟨rfl, HB2⟩)
        | (go_at_call 11; refine (HF2.out _ HB2.out).mono ?_; rintro e w3 ⟨rfl, HB3⟩)
        | (at_builtin; refine wpList_unguard (by first | rfl | (go_simp; done)) ?_; refine Frs.app11 elemRow HB3.out _ (HSRC.out _ _ HB3.out) (by unfold maxLen; omega) (by omega) rfl _ _ rfl rfl rfl ?_; intro a4 c4 w4 H4)
        | (go_at_call 12; refine (HGR.out _ _ _ H4).mono ?_; rintro e w' ⟨rfl, rfl⟩))
      go_ret
      exact ⟨rfl, H4.out.bel⟩
    · go_enter Try.func3, Try.ntmps3
      go_wp2_with (first
        | (go_at_call 8; refine (HA.out _ HB0.out).mono ?_; rintro e w1 ⟨rfl, HB1⟩)
        | (go_at_call 9; refine (HS.out _ HB1.out).mono ?_; rintro e w' ⟨rfl, rfl⟩)
        | (go_at_call 10; refine (HF1.out _ HB1.out).mono ?_; rintro e w2 ⟨rfl, HB2⟩)
        | (go_at_call 11; refine (HF2.out _ HB2.out).mono ?_; rintro e w3 ⟨rfl, HB3⟩)
        | (at_builtin; refine wpList_unguard (by first | rfl | (go_simp; done)) ?_; refine Frs.app11 elemRow HB3.out _ (HSRC.out _ _ HB3.out) (by unfold maxLen; omega) (by omega) rfl _ _ rfl rfl rfl ?_; intro a4 c4 w4 H4)
        | (go_at_call 12; refine (HGR.out _ _ _ H4).mono ?_; rintro e w' ⟨rfl, rfl⟩))
      go_loopw [6, 7] (fun s v wr => ∃ (k : Nat) (a : Option Addr) (c : Nat) (B : Nat → Nat), k ≤ n1 ∧ s = .slice a k c ∧ v = .int .i64 k ∧ Hid (Offs W wr (.slice a k c) k f B)) (fun _ v _ => n1 - (intOf v).toNat)
      case atStart => exact ⟨0, none, 0, _, Nat.zero_le _, rfl, rfl, Lib.hid (Offs.nil H4.out.bel f)⟩
      case round =>
        obtain ⟨k, a, c, B, hk, rfl, rfl, HO⟩ := hrel
        by_cases hlt : k < n1
        · rcases HC.out with h0 | ⟨b, off, rfl, hb, hc⟩
          · omega
          have xc := (HO.out.fr.bel.cell (p := ⟨b, off + k, none⟩) hb).trans (hc k hlt)
          clear hc hb HGR HBR HSRC HF1 HF2 HA HS
          go_wp2_with (at_builtin; refine Offs.step (f := f) (k := k) HO (by omega) rfl _ _ rfl rfl rfl ?_; intro a' c' w' B' HO')
          go_roundw
          case rel => exact ⟨k + 1, a', c', B', by omega, rfl, by go_num, HO'⟩
          case measure => simp [intOf]; omega
        · obtain rfl : k = n1 := by omega
          have hltI : ¬ (k : Int) < (k : Int) := by omega
          clear hlt
          have HS2 := Lib.hid (HSRC.out _ (.cells #[] 23) HO.out.fr.bel)
          go_wp2_with (first
            | (at_builtin; refine Frs.app elemRow H5 (Below.refl _ _) ((HO.out.fr.then H5.out.bel).src fun _ _ => rfl) (by unfold maxLen; omega) (by omega) rfl _ _ rfl rfl rfl ?_; intro a6 c6 w6 H6)
            | (at_builtin; refine Frs.app0 elemRow (Below.refl _ _) HS2.out (by unfold maxLen; omega) (by omega) rfl _ _ rfl rfl rfl ?_; intro a5 c5 w5 H5)
            | (go_at_call 13; refine (HBR.out _ _ _ _ _ _ _ _ HO H6 rfl rfl).mono ?_; rintro e w7 ⟨rfl, HB7⟩))
          go_ret
          exact ⟨rfl, HB7.out⟩
end Go.Proofs.Ytoffhgiljnagcaa
