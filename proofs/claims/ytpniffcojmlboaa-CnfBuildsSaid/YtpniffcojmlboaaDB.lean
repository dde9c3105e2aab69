/- The laws' helpers: made. -/
import Derived.Test.YtpniffcojmlboaaDA
namespace Go.Proofs.Ytpniffcojmlboaa
open Go.RowKit Go.Lib Go.Maps
set_option maxRecDepth 100000

/-- A graph with some of its edges. -/
structure Md (w wr : World) (G M : Nat) (v iv : Value) (s : Gr) (ev : Value) (m : Nat) (F : Nat → Nat) : Prop where
  lw : Lw w wr G M v iv s ev m F
  n : s.n ≤ 3 * m
  lt : ∀ j, j < m → F j < 2 * (s.n + 1)
/-- An act's step. -/
theorem Md.step {w wr w3 : World} {G M : Nat} {v iv v2 iv2 ev ev' : Value} {s s2 : Gr} {m q x : Nat} {F : Nat → Nat} (h : Md w wr G M v iv s ev m F) (hq : q ≤ 3) (hx : Ext s s2) (hn : s2.n ≤ s.n + q) (hl : x < 2 * (s2.n + 1))
    (L : Lw w w3 G M v2 iv2 s2 ev' (m + 1) (fun j => if j < m then F j else x)) : Md w w3 G M v2 iv2 s2 ev' (m + 1) (fun j => if j < m then F j else x) :=
  ⟨L, by have := h.n; omega, fun j hj => by
    show (if j < m then F j else x) < _
    split
    · next e => have := h.lt j e; have := hx.n; omega
    · exact hl⟩
def s3 : Gr := ((s0.add none).add none).add none
set_option maxHeartbeats 8000000 in
/-- made -/
theorem made_any (a : Option Addr) (n c : Nat) (K A B C : Nat → Int) (w : World) (hn : n ≤ 40) (hA : Acts w a n K A B C) :
    Calls Try.prog 7 #[.slice a n c] w fun e w' => ∃ G M v iv s a' c' F, e = .returned (.tuple #[.pointer (some ⟨G, 0, none⟩), .slice a' (n + 4) c']) ∧ Hid (Md w w' G M v iv s (.slice a' (n + 4) c') (n + 4) F) := by
  have HN := Lib.hid new_any
  have HA := Lib.hid hA
  have HI0 := Lib.hid (show ∀ w1 G M v iv, Gm w1 G M v iv s0 → Calls Try.prog 26 #[.pointer (some ⟨G, 0, none⟩)] w1 fun e w' => e = .returned (.int .i64 2) ∧ ∃ v' iv', Hid (GmT G M w1 v iv w' v' iv' (s0.add none)) from fun w1 G M v iv g => input_any g (by show 0 ≤ _; omega))
  have HI1 := Lib.hid (show ∀ w1 G M v iv, Gm w1 G M v iv (s0.add none) → Calls Try.prog 26 #[.pointer (some ⟨G, 0, none⟩)] w1 fun e w' => e = .returned (.int .i64 4) ∧ ∃ v' iv', Hid (GmT G M w1 v iv w' v' iv' ((s0.add none).add none)) from fun w1 G M v iv g => input_any g (by show 1 ≤ _; omega))
  have HI2 := Lib.hid (show ∀ w1 G M v iv, Gm w1 G M v iv ((s0.add none).add none) → Calls Try.prog 26 #[.pointer (some ⟨G, 0, none⟩)] w1 fun e w' => e = .returned (.int .i64 6) ∧ ∃ v' iv', Hid (GmT G M w1 v iv w' v' iv' s3) from fun w1 G M v iv g => input_any g (by show 2 ≤ _; omega))
  have HM := Lib.hid (show ∀ w2 G M v iv, Gn w G M w2 v iv s3 → Md w (w2.alloc (.cells #[.int .i64 0, .int .i64 2, .int .i64 4, .int .i64 6] 3)) G M v iv s3 (.slice (some ⟨w2.heap.size, 0, none⟩) 4 4) 4 (fun j => 2 * j) from fun w2 G M v iv g =>
    ⟨Lw.made g #[.int .i64 0, .int .i64 (2 : Nat), .int .i64 (4 : Nat), .int .i64 (6 : Nat)] _ (fun j hj => by
      have hj : j < 4 := hj
      match j, hj with
      | 0, _ | 1, _ | 2, _ | 3, _ => rfl) (by show 4 ≤ _; omega), by show 3 ≤ _; omega, fun j hj => by show 2 * j < 2 * 4; omega⟩)
  clear hA
  go_enter Try.func7, Try.ntmps7
  go_wp2_with (first
    | (go_at_call 25; refine (HN.out _).mono ?_; rintro e w2 ⟨G, M, v, iv, rfl, H2⟩)
    | (go_at_call 26; refine (HI2.out _ _ _ _ _ H4.out.gm).mono ?_; rintro e w5 ⟨rfl, v5, iv5, T5⟩; have H5 := Lib.hid (HM.out _ _ _ _ _ (H4.out.next T5.out)); clear T5)
    | (go_at_call 26; refine (HI1.out _ _ _ _ _ H3.out.gm).mono ?_; rintro e w4 ⟨rfl, v4, iv4, T4⟩; have H4 := Lib.hid (H3.out.next T4.out); clear T4)
    | (go_at_call 26; refine (HI0.out _ _ _ _ _ H2.out.gm).mono ?_; rintro e w3 ⟨rfl, v3, iv3, T3⟩; have H3 := Lib.hid (H2.out.next T3.out); clear T3))
  clear HM HN HI0 HI1 HI2 H2 H3 H4
  go_loopw [5, 6] (fun es i wr => ∃ (k : Nat) (a' : Option Addr) (c' : Nat) (v iv : Value) (s : Gr) (F : Nat → Nat), k ≤ n ∧ es = .slice a' (k + 4) c' ∧ i = .int .i64 k ∧ Hid (Md w wr G M v iv s (.slice a' (k + 4) c') (k + 4) F)) (fun _ i _ => n - (intOf i).toNat)
  case atStart => exact ⟨0, _, _, _, _, _, _, Nat.zero_le _, rfl, rfl, H5⟩
  case round =>
    obtain ⟨k, a', c', v, iv, s, F, hk, rfl, rfl, HR⟩ := hrel
    by_cases hlt : k < n
    · have hltI : (k : Int) < (n : Int) := by omega
      rcases HA.out.below HR.out.lw.gn.bel with e | ⟨b, off, rfl, hb, hc⟩
      · omega
      obtain ⟨xK, xA, xB, _, mA, mB, _⟩ := hc k hlt
      have hsn := HR.out.n
      have hEa := fun q => at_any (w := wr.drewN q) (c := c') ((HR.out.lw.then (bel_drewN (Below.refl _ wr) q)).has.weak fun _ _ e => e.elim) (show 0 < k + 4 by omega) (by omega) (fun j hj => by have := HR.out.lt j hj; omega) (A k) (by omega)
      have hEa := fun q => (hEa q).mono fun e w' ⟨he, hw⟩ => (⟨he, hw.symm⟩ : e = _ ∧ w' = wr.drewN q)
      have hEb := fun q => at_any (w := wr.drewN q) (c := c') ((HR.out.lw.then (bel_drewN (Below.refl _ wr) q)).has.weak fun _ _ e => e.elim) (show 0 < k + 4 by omega) (by omega) (fun j hj => by have := HR.out.lt j hj; omega) (B k) (by omega)
      have hEb := fun q => (hEb q).mono fun e w' ⟨he, hw⟩ => (⟨he, hw.symm⟩ : e = _ ∧ w' = wr.drewN q)
      have hpa : pick F (k + 4) (z0 (A k)) < 2 * (s.n + 1) := pick_lt (by omega) HR.out.lt
      have hpb : pick F (k + 4) (z0 (B k)) < 2 * (s.n + 1) := pick_lt (by omega) HR.out.lt
      generalize pick F (k + 4) (z0 (A k)) = pa at *
      generalize pick F (k + 4) (z0 (B k)) = pb at *
      have HEa := Lib.hid hEa
      have HEb := Lib.hid hEb
      have HSN := Lib.hid (And.intro hsn (And.intro hpa hpb))
      clear hEa hEb hpa hpb hc hsn mA mB
      go_wp2
      go_quiet (first
        | (go_at_call 24; with_reducible exact Calls.quiet_of_same (HEa.out _))
        | (go_at_call 24; with_reducible exact Calls.quiet_of_same (HEb.out _)))
      generalize hwq : wr.drewN _ = wq
      have yK : wq.cell? ⟨b, off + k * 4, none⟩ = some (.int .i64 (K k)) := by rw [← hwq]; exact xK
      have H2 := Lib.hid (show Md w wq G M v iv s (.slice a' (k + 4) c') (k + 4) F from ⟨HR.out.lw.then (hwq ▸ bel_drewN (Below.refl _ wr) _), HR.out.n, HR.out.lt⟩)
      have hk4 : k + 4 ≤ 50 := by omega
      obtain ⟨hsn, hpa, hpb⟩ := HSN.out
      have hgm := H2.out.lw.gn.gm
      clear hwq xA xB xK HR HEa HEb HSN
      have h0 := H2.out.lw.gn.gm.ok
      have hNext : ∀ x, andN s pa pb = x → True := fun _ _ => trivial
      clear hNext
      generalize K k = kk at *
      have hI := Lib.hid (show Ext s (s.add none) ∧ (s.add none).n ≤ s.n + 3 ∧ 2 * (s.n + 1) < 2 * ((s.add none).n + 1) from ⟨Ext.add _ _, by show s.n + 1 ≤ _; omega, by show _ < 2 * (s.n + 1 + 1); omega⟩)
      by_cases k0 : kk = 0
      · subst k0
        have hc := input_any hgm (by omega)
        obtain ⟨r1, hr1⟩ : ∃ r1, r1 = 2 * (s.n + 1) := ⟨_, rfl⟩
        obtain ⟨r2, hr2⟩ : ∃ r2, r2 = s.add none := ⟨_, rfl⟩
        rw [← hr1, ← hr2] at hc hI
        have HC := Lib.hid hc
        have HL := hI
        clear hc hI hr1 hr2 hgm h0 hpa hpb
        go_wp2_with (first
          | (go_at_call 26; refine HC.out.mono ?_; rintro e w3 ⟨rfl, v3, iv3, T3⟩; have H3 := Lib.hid (H2.out.lw.lay T3.out).1; clear T3)
          | (at_builtin; refine Lw.wapp H3 (by omega) r1 rfl _ _ rfl rfl rfl ?_; intro a8 c8 w8 H8 HK8))
        go_roundw
        case rel => exact ⟨k + 1, a8, c8, v3, iv3, r2, _, by omega, by rw [show k + 1 + 4 = k + 4 + 1 by omega], by go_num, Lib.hid (by rw [show k + 1 + 4 = k + 4 + 1 by omega]; exact H2.out.step (Nat.le_refl _) HL.out.1 HL.out.2.1 HL.out.2.2 H8.out)⟩
        case measure => simp [intOf]; omega
      · by_cases k1 : kk = 1 ∨ kk = 2
        · have hc := and_in hgm (by omega) pa pb hpa hpb
          have hL := andN_is (I := fun _ => false) h0 hpa hpb
          have HL := Lib.hid (show Ext s (andN s pa pb).2 ∧ (andN s pa pb).2.n ≤ s.n + 3 ∧ (andN s pa pb).1 < 2 * ((andN s pa pb).2.n + 1) from ⟨hL.ext, by have := hL.n; omega, hL.lt⟩)
          have HC := Lib.hid (show Calls Try.prog 23 #[.pointer (some ⟨G, 0, none⟩), .int .i64 pa, .int .i64 pb] wq fun e w' => e = .returned (.int .i64 ((andN s pa pb).1 : Nat)) ∧ ∃ v' iv', Hid (GmT G M wq v iv w' v' iv' (andN s pa pb).2) from hc)
          clear hc hL hgm h0 hpa hpb hI
          generalize andN s pa pb = r at *
          obtain ⟨r1, r2⟩ := r
          simp only at HL HC
          rcases k1 with rfl | rfl
          · clear k0
            go_wp2_with (first
              | (go_at_call 23; refine HC.out.mono ?_; rintro e w3 ⟨rfl, v3, iv3, T3⟩; have H3 := Lib.hid (H2.out.lw.lay T3.out).1; clear T3)
              | (at_builtin; refine Lw.wapp H3 (by omega) r1 rfl _ _ rfl rfl rfl ?_; intro a8 c8 w8 H8 HK8))
            go_roundw
            case rel => exact ⟨k + 1, a8, c8, v3, iv3, r2, _, by omega, by rw [show k + 1 + 4 = k + 4 + 1 by omega], by go_num, Lib.hid (by rw [show k + 1 + 4 = k + 4 + 1 by omega]; exact H2.out.step (Nat.le_refl _) HL.out.1 HL.out.2.1 HL.out.2.2 H8.out)⟩
            case measure => simp [intOf]; omega
          · clear k0
            go_wp2_with (first
              | (go_at_call 23; refine HC.out.mono ?_; rintro e w3 ⟨rfl, v3, iv3, T3⟩; have H3 := Lib.hid (H2.out.lw.lay T3.out).1; clear T3)
              | (at_builtin; refine Lw.wapp H3 (by omega) r1 rfl _ _ rfl rfl rfl ?_; intro a8 c8 w8 H8 HK8))
            go_roundw
            case rel => exact ⟨k + 1, a8, c8, v3, iv3, r2, _, by omega, by rw [show k + 1 + 4 = k + 4 + 1 by omega], by go_num, Lib.hid (by rw [show k + 1 + 4 = k + 4 + 1 by omega]; exact H2.out.step (Nat.le_refl _) HL.out.1 HL.out.2.1 HL.out.2.2 H8.out)⟩
            case measure => simp [intOf]; omega
        · have k1a : ¬ kk = 1 := fun e => k1 (.inl e)
          have k1b : ¬ kk = 2 := fun e => k1 (.inr e)
          clear k1
          by_cases k3 : kk = 3
          · subst k3
            have hc := xor_any hgm (by omega) pa pb (by omega) (by omega)
            rw [edg_of hpa, edg_of hpb] at hc
            have hL := xorN_is (I := fun _ => false) h0 hpa hpb
            have HL := Lib.hid (show Ext s (xorN s pa pb).2 ∧ (xorN s pa pb).2.n ≤ s.n + 3 ∧ (xorN s pa pb).1 < 2 * ((xorN s pa pb).2.n + 1) from ⟨hL.ext, by have := hL.n; omega, hL.lt⟩)
            have HC := Lib.hid (show Calls Try.prog 28 #[.pointer (some ⟨G, 0, none⟩), .int .i64 pa, .int .i64 pb] wq fun e w' => e = .returned (.int .i64 ((xorN s pa pb).1 : Nat)) ∧ ∃ v' iv', Hid (GmT G M wq v iv w' v' iv' (xorN s pa pb).2) from hc)
            clear hc hL hgm h0 hpa hpb hI k0 k1a k1b
            generalize xorN s pa pb = r at *
            obtain ⟨r1, r2⟩ := r
            simp only at HL HC
            go_wp2_with (first
              | (go_at_call 28; refine HC.out.mono ?_; rintro e w3 ⟨rfl, v3, iv3, T3⟩; have H3 := Lib.hid (H2.out.lw.lay T3.out).1; clear T3)
              | (at_builtin; refine Lw.wapp H3 (by omega) r1 rfl _ _ rfl rfl rfl ?_; intro a8 c8 w8 H8 HK8))
            go_roundw
            case rel => exact ⟨k + 1, a8, c8, v3, iv3, r2, _, by omega, by rw [show k + 1 + 4 = k + 4 + 1 by omega], by go_num, Lib.hid (by rw [show k + 1 + 4 = k + 4 + 1 by omega]; exact H2.out.step (Nat.le_refl _) HL.out.1 HL.out.2.1 HL.out.2.2 H8.out)⟩
            case measure => simp [intOf]; omega
          · have hc := or_in hgm (by omega) pa pb hpa hpb
            have hL := orN_is (I := fun _ => false) h0 hpa hpb
            have HL := Lib.hid (show Ext s (orN s pa pb).2 ∧ (orN s pa pb).2.n ≤ s.n + 3 ∧ (orN s pa pb).1 < 2 * ((orN s pa pb).2.n + 1) from ⟨hL.ext, by have := hL.n; omega, hL.lt⟩)
            have HC := Lib.hid (show Calls Try.prog 29 #[.pointer (some ⟨G, 0, none⟩), .int .i64 pa, .int .i64 pb] wq fun e w' => e = .returned (.int .i64 ((orN s pa pb).1 : Nat)) ∧ ∃ v' iv', Hid (GmT G M wq v iv w' v' iv' (orN s pa pb).2) from hc)
            clear hc hL hgm h0 hpa hpb hI
            generalize orN s pa pb = r at *
            obtain ⟨r1, r2⟩ := r
            simp only at HL HC
            have b0 : (kk == 0) = false := by rw [beq_eq_false_iff_ne]; exact k0
            have b1 : (kk == 1) = false := by rw [beq_eq_false_iff_ne]; exact k1a
            have b2 : (kk == 2) = false := by rw [beq_eq_false_iff_ne]; exact k1b
            have b3 : (kk == 3) = false := by rw [beq_eq_false_iff_ne]; exact k3
            go_wp2_with (first
              | (go_at_call 29; refine HC.out.mono ?_; rintro e w3 ⟨rfl, v3, iv3, T3⟩; have H3 := Lib.hid (H2.out.lw.lay T3.out).1; clear T3)
              | (at_builtin; refine Lw.wapp H3 (by omega) r1 rfl _ _ rfl rfl rfl ?_; intro a8 c8 w8 H8 HK8))
            go_roundw
            case rel => exact ⟨k + 1, a8, c8, v3, iv3, r2, _, by omega, by rw [show k + 1 + 4 = k + 4 + 1 by omega], by go_num, Lib.hid (by rw [show k + 1 + 4 = k + 4 + 1 by omega]; exact H2.out.step (Nat.le_refl _) HL.out.1 HL.out.2.1 HL.out.2.2 H8.out)⟩
            case measure => simp [intOf]; omega
    · obtain rfl : k = n := by omega
      have hltI : ¬ (k : Int) < (k : Int) := by omega
      clear hlt
      go_wp2
      go_ret2
      exact ⟨_, _, _, _, _, _, _, rfl, F, HR⟩
end Go.Proofs.Ytpniffcojmlboaa
