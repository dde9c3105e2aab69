/- The law CnfGrows. -/
import Derived.Test.YtpniffcojmlboaaDE
namespace Go.Proofs.Ytpniffcojmlboaa
open Go.RowKit Go.Lib Go.Maps
set_option maxRecDepth 100000

set_option maxHeartbeats 16000000 in
theorem grows_walk (a0 : Option Addr) (n0 c0 : Nat) (K0 A0 B0 C0 : Nat → Int) (a1 : Option Addr) (n1 c1 : Nat) (K1 A1 B1 C1 : Nat → Int) (w : World) (h0 : n0 ≤ 15) (h1 : n1 ≤ 15) (hA0 : Acts w a0 n0 K0 A0 B0 C0) (hA1 : Acts w a1 n1 K1 A1 B1 C1) :
    Calls Try.prog 5 #[.slice a0 n0 c0, .slice a1 n1 c1] w (laws w) := by
  have HAw := Lib.hid awake_any
  have HMd := Lib.hid (show ∀ w1, Below w.heap.size w w1 → Calls Try.prog 7 #[.slice a0 n0 c0] w1 fun e w' => ∃ G M v iv s a' c' F, e = .returned (.tuple #[.pointer (some ⟨G, 0, none⟩), .slice a' (n0 + 4) c']) ∧ Hid (Md w1 w' G M v iv s (.slice a' (n0 + 4) c') (n0 + 4) F) from fun w1 hb => made_any a0 n0 c0 _ _ _ _ w1 (by omega) (hA0.below hb))
  have HA := Lib.hid hA1
  obtain ⟨p0, hp0⟩ : ∃ p0, n0 + 4 = p0 + 1 := ⟨n0 + 3, rfl⟩
  have hnI : ¬ (15 : Int) < (n0 : Int) := by omega
  have hnJ : ¬ (15 : Int) < (n1 : Int) := by omega
  have hnD : decide ((15 : Int) < (n0 : Int)) = false := by simpa using hnI
  have hnE : decide ((15 : Int) < (n1 : Int)) = false := by simpa using hnJ
  rw [hp0] at HMd
  have hq1 : p0 ≤ 18 := by omega
  have HNEW := Lib.hid (show ∀ w1 w2 G M v iv s ev m F, Md w1 w2 G M v iv s ev m F → Calls Try.prog 9 #[.pointer (some ⟨G, 0, none⟩)] w2 fun e w' => ∃ K Mv fv hs, e = .returned (.pointer (some ⟨K, 0, none⟩)) ∧ Hid (Lo w1 w' G M v iv s K Mv fv hs [0] [[-1]] ev m (fun j => (F j : Int)) (.slice none 0 0) 0 (fun _ => 0)) from fun w1 w2 G M v iv s ev m F h =>
    (cnf_new w2 G).mono fun e w' ⟨K, Mv, fv, hs, h1, h2⟩ => ⟨K, Mv, fv, hs, h1, Lib.hid (Lo.new h.lw h2.out)⟩)
  have HONE := Lib.hid (show ∀ w1 w2 G M v iv s a' c' F K Mv fv hs, s.Ok → s.n ≤ 3 * (p0 + 1) → (∀ j, j < (p0 + 1) → F j < 2 * (s.n + 1)) → Lo w1 w2 G M v iv s K Mv fv hs [0] [[-1]] (.slice a' (p0 + 1) c') (p0 + 1) (fun j => (F j : Int)) (.slice none 0 0) 0 (fun _ => 0) →
      ∃ (g last vars : Nat) (A : Int) (Z : St), a' = some ⟨g, 0, none⟩ ∧ w2.cell? ⟨g, p0, none⟩ = some (.int .i64 last) ∧ A ≠ 0 ∧ Hid (GP s Z.1 Z.2 (p0 + 1) F last A vars (3 * (p0 + 1))) ∧
      Hid (Calls Try.prog 11 #[.pointer (some ⟨K, 0, none⟩), .int .i64 last] w2 fun r w' => r = .returned (.int .i64 A) ∧ ∃ fv' hs', Hid (Lo w1 w' G M v iv s K Mv fv' hs' Z.1 Z.2 (.slice a' (p0 + 1) c') (p0 + 1) (fun j => (F j : Int)) (.slice none 0 0) 0 (fun _ => 0))) ∧
      Hid (∀ w3 fv hs, Cm w3 K G Mv fv hs Z.1 Z.2 → Calls Try.prog 13 #[.pointer (some ⟨K, 0, none⟩)] w3 fun r w' => r = .returned (.int .i64 vars) ∧ w3 = w') from fun w1 w2 G M v iv s a' c' F K Mv fv hs ok hn hF h => by
    have hP := GP.start ok hn hF (by omega)
    rw [Nat.add_sub_cancel] at hP
    obtain ⟨g, e1, _, hc⟩ := h.es.cells1 (by omega)
    have hl := h.lit (by omega) (vs_A s) (by simp) (F (p0)) (hF _ (by omega))
    exact ⟨g, F (p0), _, _, _, e1, hc (p0) (by omega), by rw [← hP.lastLit]; exact lit_ne hP.lastIn, Lib.hid hP, Lib.hid hl, Lib.hid fun w3 fv hs hcm => vars_any hcm⟩)
  clear hA0 hA1 hnI hnJ hp0
  go_enter Try.func5, Try.ntmps5
  go_wp2_with (first
    | (go_at_call 6; refine (HAw.out _).mono ?_; rintro e w1 ⟨rfl, hb1⟩; have HB1 := Lib.hid hb1; clear hb1)
    | (go_at_call 7; refine (HMd.out _ HB1.out).mono ?_; rintro e w2 ⟨G, M, v, iv, s, a', c', F, rfl, H2⟩)
    | (go_at_call 9; refine (HNEW.out _ _ _ _ _ _ _ _ _ _ H2.out).mono ?_; rintro e w3 ⟨K, Mv, fv, hs, rfl, H3⟩; obtain ⟨g, last, vars, A, Z, rfl, hcl, hA, HP, HL, HV⟩ := HONE.out _ _ _ _ _ _ _ _ _ _ _ _ _ _ H2.out.lw.gn.gm.ok H2.out.n H2.out.lt H3.out)
    | (go_at_call 11; refine HL.out.mono ?_; rintro e w4 ⟨rfl, fv4, hs4, H4⟩)
    | (go_at_call 13; refine (HV.out _ _ _ H4.out.cm).mono ?_; rintro e w' ⟨rfl, rfl⟩))
  have HP0 := Lib.hid (show Lo w1 w4 G M v iv s K Mv fv4 hs4 Z.1 Z.2 (.slice (some ⟨g, 0, none⟩) (p0 + 1) c') (p0 + 1) (fun j => (F j : Int)) (.slice none 0 0) 0 (fun _ => 0) from H4.out)
  have HAN := Lib.hid hA
  clear HNEW HONE HMd HAw H2 H3 H4 HL HV hcl hA
  go_loopw [6, 11] (fun es i wr => ∃ (k p : Nat) (a' : Option Addr) (c' : Nat) (v iv : Value) (s : Gr) (fv : Value) (hs : Nat → Value) (Z : St) (F : Nat → Nat), k ≤ n1 ∧ es = .slice a' (p + 1) c' ∧ i = .int .i64 k ∧ Hid (p = p0 + k) ∧ Hid (Lo w1 wr G M v iv s K Mv fv hs Z.1 Z.2 (.slice a' (p + 1) c') (p + 1) (fun j => (F j : Int)) (.slice none 0 0) 0 (fun _ => 0)) ∧ Hid (GP s Z.1 Z.2 (p + 1) F last A vars (3 * (p0 + 1) + k))) (fun _ i _ => n1 - (intOf i).toNat)
  case atStart => exact ⟨0, p0, _, _, _, _, _, _, _, _, _, Nat.zero_le _, rfl, rfl, Lib.hid rfl, HP0, HP⟩
  case round =>
    obtain ⟨k, p, a', c', v, iv, s, fv, hs, Z, F, hk, rfl, rfl, HPK, HR, HG⟩ := hrel
    clear HP HP0
    have hpk := HPK.out
    have hp : p ≤ 40 := by omega
    have hsn : s.n ≤ 100 := by have := HG.out.n; omega
    clear hpk
    by_cases hlt : k < n1
    · have hltI : (k : Int) < (n1 : Int) := by omega
      have hI0 : (0 : Int) ≤ (k : Int) := by omega
      rcases HA.out.below (HB1.out.trans (HR.out.bel.mono HB1.out.size)) with e | ⟨b, off, rfl, hb, hc⟩
      · omega
      obtain ⟨_, xA, xB, _, mA, mB, _⟩ := hc k hlt
      have hLd := HR.out.quiet (Below.refl _ wr).drew
      have hpa := pick_lt (X := z0 (A1 k)) (by omega) HG.out.lt
      have hpb := pick_lt (X := z0 (B1 k)) (by omega) HG.out.lt
      have hEa := at_any (w := wr.drew) (c := c') hLd.has (show 0 < p + 1 by omega) (by omega) (fun j hj => by have := HG.out.lt j hj; omega) (A1 k) (by omega)
      have hEb := at_any (w := wr.drew) (c := c') hLd.has (show 0 < p + 1 by omega) (by omega) (fun j hj => by have := HG.out.lt j hj; omega) (B1 k) (by omega)
      have hAnd := and_in hLd.gm (by omega) _ _ hpa hpb
      have hi := andN_is (I := fun _ => false) HG.out.ok hpa hpb
      generalize pick F (p + 1) (z0 (A1 k)) = pa at *
      generalize pick F (p + 1) (z0 (B1 k)) = pb at *
      generalize andN s pa pb = r at *
      obtain ⟨r1, r2⟩ := r
      have hr2n : r2.n ≤ 101 := by have := hi.n; simp only at this; omega
      obtain ⟨hstep, hne⟩ := HG.out.step hi.ok hi.ext hi.n hi.lt
      have hr1 := hi.lt
      simp only at hr1 hstep hne
      have hvs := HG.out.vs.ext hi.ext
      simp only at hvs
      have hlen : Z.2.length ≤ 100000 := by have := HG.out.len; have := HG.out.vs.few; omega
      have HLit := Lib.hid (show ∀ w6 v6 iv6 fv hs ev n F', Lo w1 w6 G M v6 iv6 r2 K Mv fv hs Z.1 Z.2 ev n F' (.slice none 0 0) 0 (fun _ => 0) → Calls Try.prog 11 #[.pointer (some ⟨K, 0, none⟩), .int .i64 r1] w6 fun r w' => r = .returned (.int .i64 (lit (need r2 (Z.1, Z.2) (r1 / 2)).1 r1)) ∧ ∃ fv' hs', Hid (Lo w1 w' G M v6 iv6 r2 K Mv fv' hs' (need r2 (Z.1, Z.2) (r1 / 2)).1 (need r2 (Z.1, Z.2) (r1 / 2)).2 ev n F' (.slice none 0 0) 0 (fun _ => 0)) from fun w6 v6 iv6 fv hs ev n F' h => h.lit (by omega) hvs hlen r1 hr1)
      obtain ⟨lab, lac⟩ := lit_abs (V := (need r2 (Z.1, Z.2) (r1 / 2)).1) r1
      have hVb := hstep.vs.few
      generalize need r2 (Z.1, Z.2) (r1 / 2) = Z' at *
      generalize lit Z'.1 r1 = l at *
      obtain ⟨q2, hq2⟩ : ∃ q2, q2 = Z'.1.length := ⟨_, rfl⟩
      have HVar := Lib.hid (show ∀ w7 fv hs, Cm w7 K G Mv fv hs Z'.1 Z'.2 → Calls Try.prog 13 #[.pointer (some ⟨K, 0, none⟩)] w7 fun r w' => r = .returned (.int .i64 q2) ∧ w7 = w' from fun w7 fv hs h => hq2 ▸ vars_any h)
      rw [← hq2] at lab lac hVb
      have l0 : (l == 0) = false := by rw [beq_eq_false_iff_ne]; exact hne
      have l1 : ¬ (q2 : Int) < l := by omega
      have l2 : ¬ l < -(q2 : Int) := by omega
      have lq : IntKind.i64.wrap (-(q2 : Int)) = -(q2 : Int) := IntWalk.i64_in _ (by omega)
      have HSTEP := Lib.hid hstep
      have HEa := Lib.hid hEa
      have HEb := Lib.hid hEb
      have HAnd := Lib.hid hAnd
      obtain ⟨i0, hi0, hz0, hz1, hz2⟩ := info_parts info3
      have HCEL := Lib.hid (show ∀ w', Below w.heap.size w w' → w'.cell? ⟨b, off + k * 4 + 1, none⟩ = some (.int .i64 (A1 k)) ∧ w'.cell? ⟨b, off + k * 4 + 2, none⟩ = some (.int .i64 (B1 k)) from fun w' hb' => by
        rcases HA.out.below hb' with e | ⟨b2, off2, e2, _, hc2⟩
        · omega
        · cases e2
          obtain ⟨_, yA, yB, _⟩ := hc2 k hlt
          exact ⟨yA, yB⟩)
      have HAPP := Lib.hid (show ∀ w2 v2 iv2, GmT G M wr.drew v iv w2 v2 iv2 r2 → w2.cell? ⟨b, off + k * 4 + 1, none⟩ = some (.int .i64 (A1 k)) ∧ w2.cell? ⟨b, off + k * 4 + 2, none⟩ = some (.int .i64 (B1 k)) ∧ Hid (Lo w1 w2 G M v2 iv2 r2 K Mv fv hs Z.1 Z.2 (.slice a' (p + 1) c') (p + 1) (fun j => (F j : Int)) (.slice none 0 0) 0 (fun _ => 0)) from fun w2 v2 iv2 T => by
        have L2 := hLd.lay T
        obtain ⟨yA, yB⟩ := HCEL.out _ (HB1.out.trans (L2.bel.mono HB1.out.size))
        exact ⟨yA, yB, Lib.hid L2⟩)
      have HOWN := Lib.hid (show ∀ w2 v2 iv2 (W0 : World), Lo w1 w2 G M v2 iv2 r2 K Mv fv hs Z.1 Z.2 (.slice a' (p + 1) c') (p + 1) (fun j => (F j : Int)) (.slice none 0 0) 0 (fun _ => 0) → W0.heap = (w2.alloc (.cells #[.int .i64 (r1 : Nat)] 3)).heap → W0.ownsRow 0 3 1 (.slice a' (p + 1) c') (p + 1) (lst (inI fun j => (F j : Int)) ((p + 1) * 1)) from fun w2 v2 iv2 W0 L e => owns_heap (L.quiet ((Below.refl _ w2).alloc (Nat.le_refl _) _)).es.owns e)
      clear hEa hEb hAnd hc hpa hpb hi hstep hne hvs hlen hLd hr1 hq2 lab lac hVb
      go_wp2
      go_region_held3 (fun w' => w'.cell? ⟨b, off + k * 4 + 1, none⟩ = some (.int .i64 (A1 k)) ∧ w'.cell? ⟨b, off + k * 4 + 2, none⟩ = some (.int .i64 (B1 k)))
        (go_keep)
        (first
          | (go_at_call 24; (with_reducible refine HEa.out.mono ?_); rintro e w' ⟨rfl, rfl⟩)
          | (go_at_call 24; (with_reducible refine HEb.out.mono ?_); rintro e w' ⟨rfl, rfl⟩)
          | (go_at_call 23; refine HAnd.out.mono ?_; rintro e w5 ⟨rfl, v5, iv5, T5⟩; obtain ⟨yA, yB, HL5⟩ := HAPP.out _ _ _ T5.out)
          | (refine step_append_own rfl (.tmp 50) (.tmp 67) 26 rfl 0 3 i0 (.int .i64 0) 1 8 Try.underlying26 hi0 hz0 hz1 hz2 rfl (by decide) (.slice a' (p + 1) c') (p + 1) (lst (inI fun j => (F j : Int)) ((p + 1) * 1)) (by rfl) (HOWN.out _ _ _ _ HL5.out rfl) ⟨_, 0, none⟩ 1 1 [.int .i64 (r1 : Nat)] (by rfl) rfl (one_at w5 _ rfl rfl) (by intro u hu; simp at hu; subst hu; rfl) (by unfold maxLen; omega) (by omega) (Nat.zero_le _) ?_; intro v6 w6 g1 g2 g3; obtain ⟨⟨av, cv, rfl⟩, L6⟩ := HL5.out.app g1 g2 g3 rfl rfl rfl rfl; obtain ⟨zA, zB⟩ := HCEL.out _ (HB1.out.trans (L6.bel.mono HB1.out.size)); have HF := Lib.hid (show Lo w1 w6 G M v5 iv5 r2 K Mv fv hs Z.1 Z.2 (.slice av (p + 1 + 1) cv) (p + 1 + 1) (fun j => ((if j < p + 1 then F j else r1 : Nat) : Int)) (.slice none 0 0) 0 (fun _ => 0) from L6.fcongr fun j _ => by split <;> rfl); clear L6 g1 g2 g3))
      all_goals
        obtain ⟨g6, rfl, _, hc6⟩ := HF.out.es.cells1 (by omega)
        have x6 : w6.cell? ⟨g6, p + 1, none⟩ = some (.int .i64 (r1 : Nat)) := (hc6 (p + 1) (by omega)).trans (by show some (Value.int .i64 ((if p + 1 < p + 1 then F (p + 1) else r1 : Nat) : Int)) = _; rw [if_neg (Nat.lt_irrefl _)])
        clear hc6
        go_wp2_with (first
          | (go_at_call 11; refine (HLit.out _ _ _ _ _ _ _ _ HF.out).mono ?_; rintro e w7 ⟨rfl, fv7, hs7, H7⟩)
          | (go_at_call 13; refine (HVar.out _ _ _ H7.out.cm).mono ?_; rintro e w' ⟨rfl, rfl⟩))
        go_roundw
        case rel => exact ⟨k + 1, p + 1, _, cv, v5, iv5, r2, fv7, hs7, Z', _, by omega, rfl, by go_num, Lib.hid (by rw [HPK.out]; omega), H7, Lib.hid HSTEP.out⟩
        case measure => simp [intOf]; omega
    · obtain rfl : k = n1 := by omega
      have hltI : ¬ (k : Int) < (k : Int) := by omega
      have hlen : Z.2.length ≤ 100000 := by have := HG.out.len; have := HG.out.vs.few; omega
      have hLL := HR.out.lit (by omega) HG.out.vs hlen last HG.out.lastLt
      rw [need_in (st := (Z.1, Z.2)) HG.out.lastIn, HG.out.lastLit] at hLL
      have HLL := Lib.hid hLL
      obtain ⟨q2, hq2⟩ : ∃ q2, q2 = Z.1.length := ⟨_, rfl⟩
      have HVar := Lib.hid (show ∀ w7 fv hs, Cm w7 K G Mv fv hs Z.1 Z.2 → Calls Try.prog 13 #[.pointer (some ⟨K, 0, none⟩)] w7 fun r w' => r = .returned (.int .i64 q2) ∧ w7 = w' from fun w7 fv hs h => hq2 ▸ vars_any h)
      have hvq := HG.out.vars
      rw [← hq2] at hvq
      have hvq2 : (vars : Int) ≤ (q2 : Int) := by omega
      have bz : (A != 0) = true := by rw [bne_iff_ne]; exact HAN.out
      have HBZ := Lib.hid HB1.out
      clear hlt hLL hlen hq2 hvq
      go_wp2_with (first
        | (go_at_call 11; refine HLL.out.mono ?_; rintro e w7 ⟨rfl, fv7, hs7, H7⟩)
        | (go_at_call 13; refine (HVar.out _ _ _ H7.out.cm).mono ?_; rintro e w' ⟨rfl, rfl⟩))
      go_ret
      exact ⟨rfl, HBZ.out.trans (H7.out.bel.mono HBZ.out.size)⟩
set_option maxHeartbeats 2000000 in
theorem grows_long (a0 : Option Addr) (n0 c0 : Nat) (a1 : Option Addr) (n1 c1 : Nat) (w : World) (h : 15 < n0 ∨ 15 < n1) (hn0 : n0 ≤ 9223372036854775807) (hn1 : n1 ≤ 9223372036854775807) :
    Calls Try.prog 5 #[.slice a0 n0 c0, .slice a1 n1 c1] w (laws w) := by
  have HA := Lib.hid awake_any
  have Hn0 := Lib.hid hn0
  have Hn1 := Lib.hid hn1
  clear hn0 hn1
  by_cases h0 : 15 < n0
  · have hnI : (15 : Int) < (n0 : Int) := by omega
    clear h h0
    go_enter Try.func5, Try.ntmps5
    go_wp2_with (first
      | (go_at_call 6; have := HB1; refine (HA.out _).mono ?_; rintro e w2 ⟨rfl, hb2⟩; have HB2 := Lib.hid (HB1.out.trans (hb2.mono HB1.out.size)); clear hb2)
      | (go_at_call 6; refine (HA.out _).mono ?_; rintro e w1 ⟨rfl, hb1⟩; have HB1 := Lib.hid hb1; clear hb1))
    go_ret
    exact ⟨rfl, HB2.out⟩
  · have hnJ : (15 : Int) < (n1 : Int) := by omega
    have hnI : ¬ (15 : Int) < (n0 : Int) := by omega
    clear h h0
    go_enter Try.func5, Try.ntmps5
    go_wp2_with (first
      | (go_at_call 6; have := HB1; refine (HA.out _).mono ?_; rintro e w2 ⟨rfl, hb2⟩; have HB2 := Lib.hid (HB1.out.trans (hb2.mono HB1.out.size)); clear hb2)
      | (go_at_call 6; refine (HA.out _).mono ?_; rintro e w1 ⟨rfl, hb1⟩; have HB1 := Lib.hid hb1; clear hb1))
    go_ret
    exact ⟨rfl, HB2.out⟩
theorem grows_any (a0 : Option Addr) (n0 c0 : Nat) (a1 : Option Addr) (n1 c1 : Nat) (f g : (Nat → Int) × (Nat → Int) × (Nat → Int) × (Nat → Int)) (w : World) (hA0 : Acts w a0 n0 f.1 f.2.1 f.2.2.1 f.2.2.2) (hn0 : n0 ≤ 9223372036854775807) (hA1 : Acts w a1 n1 g.1 g.2.1 g.2.2.1 g.2.2.2) (hn1 : n1 ≤ 9223372036854775807) :
    Calls Try.prog 5 #[.slice a0 n0 c0, .slice a1 n1 c1] w (laws w) := by
  by_cases h : n0 ≤ 15 ∧ n1 ≤ 15
  · exact grows_walk a0 n0 c0 _ _ _ _ a1 n1 c1 _ _ _ _ w h.1 h.2 hA0 hA1
  · exact grows_long a0 n0 c0 a1 n1 c1 w (by omega) hn0 hn1
end Go.Proofs.Ytpniffcojmlboaa
