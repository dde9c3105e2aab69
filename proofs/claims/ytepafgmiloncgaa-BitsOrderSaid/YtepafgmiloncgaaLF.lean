/- The law BitsOrder. -/
import Derived.Test.YtepafgmiloncgaaLK
namespace Go.Proofs.Ytepafgmiloncgaa
open Go.RowKit Go.Lib Go.Maps
set_option maxRecDepth 100000

/-- The bits of three numbers, one behind the other. -/
def thr (n : Nat) (a b c : Int) (j : Nat) : Bool := if j < n then bit a j else if j < n + n then bit b (j - n) else bit c (j - (n + n))
/-- How many of the first k are true. -/
def cntB (p : Nat → Bool) : Nat → Nat
  | 0 => 0
  | k + 1 => cntB p k + (p k).toNat
theorem order_sum (A B C : Int) (hA : trm 6 A = A) (hB : trm 6 B = B) : decide (A = B) = decide (trm 6 (A + C) = trm 6 (B + C)) := by
  rw [Bool.eq_iff_iff, decide_eq_true_iff, decide_eq_true_iff]
  refine ⟨fun h => by rw [h], fun h => ?_⟩
  have h1 : (A + C) % ((2 ^ 6 : Nat) : Int) = (B + C) % ((2 ^ 6 : Nat) : Int) := by rw [← trm_emod, h, trm_emod]
  have h2 := trm_sub (w := 6) h1 (rfl : C % ((2 ^ 6 : Nat) : Int) = C % ((2 ^ 6 : Nat) : Int))
  rw [show A + C - C = A by omega, show B + C - C = B by omega] at h2
  rw [← hA, ← hB]
  exact trm_of h2
theorem order_one (p : Nat → Bool) (A B : Int) (h0 : p 0 = decide (A < B)) (h1 : p 1 = decide (B < A)) (h2 : p 2 = decide (A = B)) : cntB p 3 = 1 := by
  show 0 + (p 0).toNat + (p 1).toNat + (p 2).toNat = 1
  rw [h0, h1, h2]
  rcases Int.lt_trichotomy A B with h | h | h
  · simp [h, show ¬ B < A by omega, show ¬ A = B by omega]
  · subst h; simp
  · simp [h, show ¬ A < B by omega, show ¬ A = B by omega]
set_option maxHeartbeats 4000000 in
theorem orderLaw (a b c : Int) (w : World) : Calls Try.prog 9 #[.int .i64 a, .int .i64 b, .int .i64 c] w (Law w) := by
  have HAw := Lib.hid awake_any
  have HN := Lib.hid new_any
  have HK6 := Lib.hid (show 1 ≤ 6 ∧ 6 ≤ 16 from ⟨by omega, by omega⟩)
  go_enter Try.func9, Try.ntmps9
  go_wp2_with fail
  refine (HAw.out _).mono ?_; rintro e w1 ⟨rfl, hb1⟩
  have HB1 := Lib.hid hb1
  clear hb1
  go_wp2_with fail
  refine (HN.out _).mono ?_; rintro e w2 ⟨G, M, v2, iv2, rfl, G2⟩
  have HI := inputsv_any (show Gm w2 G M v2 iv2 (sIn 0) from G2.out.gm) (by omega) 6
  rw [show lim 6 = 6 from rfl] at HI
  have HI := Lib.hid HI
  go_wp2_with fail
  refine HI.out.mono ?_; rintro e w3 ⟨bX, v3, iv3, rfl, T3, N3⟩
  have G3 := Lib.hid (G2.out.next (show GmT G M w2 v2 iv2 w3 v3 iv3 (sIn (0 + 6)) from T3.out))
  have HI := inputsv_any (p := 0 + 6) G3.out.gm (by omega) 6
  rw [show lim 6 = 6 from rfl] at HI
  have HI := Lib.hid HI
  go_wp2_with fail
  refine HI.out.mono ?_; rintro e w4 ⟨bY, v4, iv4, rfl, T4, N4⟩
  have G4 := Lib.hid (G3.out.next T4.out)
  have HI := inputsv_any (p := 0 + 6 + 6) G4.out.gm (by omega) 6
  rw [show lim 6 = 6 from rfl] at HI
  have HI := Lib.hid HI
  go_wp2_with fail
  refine HI.out.mono ?_; rintro e w5 ⟨bQ, v5, iv5, rfl, T5, N5⟩
  have G5 := Lib.hid (G4.out.next T5.out)
  obtain ⟨fX, hfX⟩ : ∃ fX : Nat → Nat, fX = fun j => 2 * (0 + j + 1) := ⟨_, rfl⟩
  obtain ⟨fY, hfY⟩ : ∃ fY : Nat → Nat, fY = fun j => 2 * (0 + 6 + j + 1) := ⟨_, rfl⟩
  obtain ⟨fQ, hfQ⟩ : ∃ fQ : Nat → Nat, fQ = fun j => 2 * (0 + 6 + 6 + j + 1) := ⟨_, rfl⟩
  have VX5 := Lib.hid (show HasE w5 (Bg G M v5 iv5) (some ⟨bX, 0, none⟩) 6 fX by rw [hfX]; exact ((N3.out.next T4.out).next T5.out).has)
  have VY5 := Lib.hid (show HasE w5 (Bg G M v5 iv5) (some ⟨bY, 0, none⟩) 6 fY by rw [hfY]; exact (N4.out.next T5.out).has)
  have VQ5 := Lib.hid (show HasE w5 (Bg G M v5 iv5) (some ⟨bQ, 0, none⟩) 6 fQ by rw [hfQ]; exact N5.out.has)
  have OX5 := Lib.hid (show Vo (sIn (0 + 6 + 6 + 6)) 6 fX by rw [hfX]; exact Vo.sIn (p := 0) (by omega))
  have OY5 := Lib.hid (show Vo (sIn (0 + 6 + 6 + 6)) 6 fY by rw [hfY]; exact Vo.sIn (p := 0 + 6) (by omega))
  have OQ5 := Lib.hid (show Vo (sIn (0 + 6 + 6 + 6)) 6 fQ by rw [hfQ]; exact Vo.sIn (p := 0 + 6 + 6) (by omega))
  obtain ⟨I, hI⟩ : ∃ I, I = mdl (thr 6 a b c) (6 + 6 + 6) := ⟨_, rfl⟩
  have EX5 := Lib.hid (show num I (sIn (0 + 6 + 6 + 6)) fX 6 = trm 6 a by rw [hI, hfX]; exact num_first (by omega) _ _ (by omega) a (fun j hj => if_pos hj))
  have EY5 := Lib.hid (show num I (sIn (0 + 6 + 6 + 6)) fY 6 = trm 6 b by rw [hI, hfY]; exact num_second (p := 0 + 6) (by omega) _ _ (by omega) b (fun j hj => by unfold thr; rw [if_neg (by omega), if_pos (by omega), show 0 + 6 + j - 6 = j by omega]))
  have EQ5 := Lib.hid (show num I (sIn (0 + 6 + 6 + 6)) fQ 6 = trm 6 c by rw [hI, hfQ]; exact num_second (p := 0 + 6 + 6) (by omega) _ _ (by omega) c (fun j hj => by unfold thr; rw [if_neg (by omega), if_neg (by omega), show 0 + 6 + 6 + j - (6 + 6) = j by omega]))
  clear hfX hfY hfQ N3 N4 N5 T3 T4 T5 HI G2 G3 G4
  obtain ⟨t5, ht5⟩ : ∃ t5, t5 = sIn (0 + 6 + 6 + 6) := ⟨_, rfl⟩
  rw [← ht5] at G5 OX5 OY5 OQ5 EX5 EY5 EQ5
  have n5 : t5.n ≤ 20 := by rw [ht5]; show 0 + 6 + 6 + 6 ≤ 20; omega
  clear ht5
  have HBa := bits_any a 6 w5
  rw [show lim 6 = 6 from rfl] at HBa
  have HBa := Lib.hid HBa
  go_wp2_with fail
  refine HBa.out.mono ?_; rintro e wA ⟨aA, cA, rfl, FA⟩
  have HBb := bits_any b 6 wA
  rw [show lim 6 = 6 from rfl] at HBb
  have HBb := Lib.hid HBb
  go_wp2_with fail
  refine HBb.out.mono ?_; rintro e wB ⟨aB, cB, rfl, FB⟩
  have HSr := Lib.hid (bits_src FB.out)
  go_wp2_with (at_builtin; refine Frs.app elemBool FA FB.out.bel HSr.out (by unfold maxLen; omega) (by omega) rfl _ _ rfl rfl rfl ?_; intro aC cC wC FC)
  have HBc := bits_any c 6 wC
  rw [show lim 6 = 6 from rfl] at HBc
  have HBc := Lib.hid HBc
  refine HBc.out.mono ?_; rintro e wD ⟨aD, cD, rfl, FD⟩
  have HSr2 := Lib.hid (bits_src FD.out)
  go_wp2_with (at_builtin; refine Frs.app elemBool FC FD.out.bel HSr2.out (by unfold maxLen; omega) (by omega) rfl _ _ rfl rfl rfl ?_; intro aM cM w6 FM)
  have MO6 := Lib.hid (model_has G5.out.gm FM.out (by omega) (f := thr 6 a b c) (fun j hj => by
    unfold catV thr
    by_cases h1 : j < 6
    · simp [h1, show j < 12 by omega]
    · by_cases h2 : j < 12
      · simp [h1, h2]
      · simp [h1, h2]))
  have G6 := Lib.hid (G5.out.below FM.out.bel)
  clear G5
  have VX6 := Lib.hid (VX5.out.below FM.out.bel)
  clear VX5
  have VY6 := Lib.hid (VY5.out.below FM.out.bel)
  clear VY5
  have VQ6 := Lib.hid (VQ5.out.below FM.out.bel)
  clear VQ5
  clear HBa HBb HBc FA FB FC FD HSr HSr2 FM
  have H7 := Lib.hid (less_any G6.out.gm (by omega) (VX6.out.vc HK6.out 6) (VY6.out.vc HK6.out 6) OX5.out OY5.out)
  go_wp2_with fail
  refine H7.out.mono ?_; rintro e w7 ⟨r7, v7, iv7, t7, rfl, T7, U7⟩
  clear H7
  have n7 : t7.n ≤ 84 := by have := U7.out.lay.n; omega
  have G7 := Lib.hid (G6.out.next T7.out)
  clear G6
  have WP7 := Lib.hid (show val I t7 r7 = decide (trm 6 a < trm 6 b) by rw [U7.out.val I, EX5.out, EY5.out])
  have LP7 := Lib.hid U7.out.lt
  have VX7 := Lib.hid (VX6.out.next T7.out)
  clear VX6
  have EX7 := Lib.hid (show num I t7 fX 6 = trm 6 a by rw [num_lay OX5.out U7.out.lay]; exact EX5.out)
  clear EX5
  have OX7 := Lib.hid (OX5.out.lay U7.out.lay)
  clear OX5
  have VY7 := Lib.hid (VY6.out.next T7.out)
  clear VY6
  have EY7 := Lib.hid (show num I t7 fY 6 = trm 6 b by rw [num_lay OY5.out U7.out.lay]; exact EY5.out)
  clear EY5
  have OY7 := Lib.hid (OY5.out.lay U7.out.lay)
  clear OY5
  have VQ7 := Lib.hid (VQ6.out.next T7.out)
  clear VQ6
  have EQ7 := Lib.hid (show num I t7 fQ 6 = trm 6 c by rw [num_lay OQ5.out U7.out.lay]; exact EQ5.out)
  clear EQ5
  have OQ7 := Lib.hid (OQ5.out.lay U7.out.lay)
  clear OQ5
  have MO7 := Lib.hid (MO6.out.next T7.out)
  clear MO6
  clear T7 U7
  have H8 := Lib.hid (less_any G7.out.gm (by omega) (VY7.out.vc HK6.out 6) (VX7.out.vc HK6.out 6) OY7.out OX7.out)
  go_wp2_with fail
  refine H8.out.mono ?_; rintro e w8 ⟨r8, v8, iv8, t8, rfl, T8, U8⟩
  clear H8
  have n8 : t8.n ≤ 148 := by have := U8.out.lay.n; omega
  have G8 := Lib.hid (G7.out.next T8.out)
  clear G7
  have WK8 := Lib.hid (show val I t8 r8 = decide (trm 6 b < trm 6 a) by rw [U8.out.val I, EY7.out, EX7.out])
  have LK8 := Lib.hid U8.out.lt
  have VX8 := Lib.hid (VX7.out.next T8.out)
  clear VX7
  have EX8 := Lib.hid (show num I t8 fX 6 = trm 6 a by rw [num_lay OX7.out U8.out.lay]; exact EX7.out)
  clear EX7
  have OX8 := Lib.hid (OX7.out.lay U8.out.lay)
  clear OX7
  have VY8 := Lib.hid (VY7.out.next T8.out)
  clear VY7
  have EY8 := Lib.hid (show num I t8 fY 6 = trm 6 b by rw [num_lay OY7.out U8.out.lay]; exact EY7.out)
  clear EY7
  have OY8 := Lib.hid (OY7.out.lay U8.out.lay)
  clear OY7
  have VQ8 := Lib.hid (VQ7.out.next T8.out)
  clear VQ7
  have EQ8 := Lib.hid (show num I t8 fQ 6 = trm 6 c by rw [num_lay OQ7.out U8.out.lay]; exact EQ7.out)
  clear EQ7
  have OQ8 := Lib.hid (OQ7.out.lay U8.out.lay)
  clear OQ7
  have WP8 := Lib.hid (show val I t8 r7 = decide (trm 6 a < trm 6 b) by rw [(U8.out.lay).val LP7.out]; exact WP7.out)
  have LP8 := Lib.hid ((U8.out.lay).lt LP7.out)
  clear LP7 WP7
  have MO8 := Lib.hid (MO7.out.next T8.out)
  clear MO7
  clear T8 U8
  have H9 := Lib.hid (same_any G8.out.gm (by omega) (VX8.out.vc HK6.out 6) (VY8.out.vc HK6.out 6) OX8.out OY8.out)
  go_wp2_with fail
  refine H9.out.mono ?_; rintro e w9 ⟨r9, v9, iv9, t9, rfl, T9, U9⟩
  clear H9
  have n9 : t9.n ≤ 212 := by have := U9.out.lay.n; omega
  have G9 := Lib.hid (G8.out.next T9.out)
  clear G8
  have WS9 := Lib.hid (show val I t9 r9 = decide (trm 6 a = trm 6 b) by rw [U9.out.val I, EX8.out, EY8.out])
  have LS9 := Lib.hid U9.out.lt
  have VX9 := Lib.hid (VX8.out.next T9.out)
  clear VX8
  have EX9 := Lib.hid (show num I t9 fX 6 = trm 6 a by rw [num_lay OX8.out U9.out.lay]; exact EX8.out)
  clear EX8
  have OX9 := Lib.hid (OX8.out.lay U9.out.lay)
  clear OX8
  have VY9 := Lib.hid (VY8.out.next T9.out)
  clear VY8
  have EY9 := Lib.hid (show num I t9 fY 6 = trm 6 b by rw [num_lay OY8.out U9.out.lay]; exact EY8.out)
  clear EY8
  have OY9 := Lib.hid (OY8.out.lay U9.out.lay)
  clear OY8
  have VQ9 := Lib.hid (VQ8.out.next T9.out)
  clear VQ8
  have EQ9 := Lib.hid (show num I t9 fQ 6 = trm 6 c by rw [num_lay OQ8.out U9.out.lay]; exact EQ8.out)
  clear EQ8
  have OQ9 := Lib.hid (OQ8.out.lay U9.out.lay)
  clear OQ8
  have WP9 := Lib.hid (show val I t9 r7 = decide (trm 6 a < trm 6 b) by rw [(U9.out.lay).val LP8.out]; exact WP8.out)
  have LP9 := Lib.hid ((U9.out.lay).lt LP8.out)
  clear LP8 WP8
  have WK9 := Lib.hid (show val I t9 r8 = decide (trm 6 b < trm 6 a) by rw [(U9.out.lay).val LK8.out]; exact WK8.out)
  have LK9 := Lib.hid ((U9.out.lay).lt LK8.out)
  clear LK8 WK8
  have MO9 := Lib.hid (MO8.out.next T9.out)
  clear MO8
  clear T9 U9
  have H10 := add_any G9.out.gm (by omega) (VX9.out.vc HK6.out 6) (VQ9.out.vc HK6.out 6) OX9.out OQ9.out
  rw [Nat.max_self] at H10
  have H10 := Lib.hid H10
  go_wp2_with fail
  refine H10.out.mono ?_; rintro e w10 ⟨b10, f10, v10, iv10, t10, rfl, T10, N10, U10⟩
  clear H10
  have n10 : t10.n ≤ 282 := by have := U10.out.lay.n; omega
  have G10 := Lib.hid (G9.out.next T10.out)
  clear G9
  have ED10 := Lib.hid (show num I t10 f10 6 = trm 6 (trm 6 a + trm 6 c) by rw [U10.out.val I, EX9.out, EQ9.out])
  have VD10 := Lib.hid N10.out.has
  have OD10 := Lib.hid U10.out.vo
  have VX10 := Lib.hid (VX9.out.next T10.out)
  clear VX9
  have EX10 := Lib.hid (show num I t10 fX 6 = trm 6 a by rw [num_lay OX9.out U10.out.lay]; exact EX9.out)
  clear EX9
  have OX10 := Lib.hid (OX9.out.lay U10.out.lay)
  clear OX9
  have VY10 := Lib.hid (VY9.out.next T10.out)
  clear VY9
  have EY10 := Lib.hid (show num I t10 fY 6 = trm 6 b by rw [num_lay OY9.out U10.out.lay]; exact EY9.out)
  clear EY9
  have OY10 := Lib.hid (OY9.out.lay U10.out.lay)
  clear OY9
  have VQ10 := Lib.hid (VQ9.out.next T10.out)
  clear VQ9
  have EQ10 := Lib.hid (show num I t10 fQ 6 = trm 6 c by rw [num_lay OQ9.out U10.out.lay]; exact EQ9.out)
  clear EQ9
  have OQ10 := Lib.hid (OQ9.out.lay U10.out.lay)
  clear OQ9
  have WP10 := Lib.hid (show val I t10 r7 = decide (trm 6 a < trm 6 b) by rw [(U10.out.lay).val LP9.out]; exact WP9.out)
  have LP10 := Lib.hid ((U10.out.lay).lt LP9.out)
  clear LP9 WP9
  have WK10 := Lib.hid (show val I t10 r8 = decide (trm 6 b < trm 6 a) by rw [(U10.out.lay).val LK9.out]; exact WK9.out)
  have LK10 := Lib.hid ((U10.out.lay).lt LK9.out)
  clear LK9 WK9
  have WS10 := Lib.hid (show val I t10 r9 = decide (trm 6 a = trm 6 b) by rw [(U10.out.lay).val LS9.out]; exact WS9.out)
  have LS10 := Lib.hid ((U10.out.lay).lt LS9.out)
  clear LS9 WS9
  have MO10 := Lib.hid (MO9.out.next T10.out)
  clear MO9
  clear T10 N10 U10
  have H11 := add_any G10.out.gm (by omega) (VY10.out.vc HK6.out 6) (VQ10.out.vc HK6.out 6) OY10.out OQ10.out
  rw [Nat.max_self] at H11
  have H11 := Lib.hid H11
  go_wp2_with fail
  refine H11.out.mono ?_; rintro e w11 ⟨b11, f11, v11, iv11, t11, rfl, T11, N11, U11⟩
  clear H11
  have n11 : t11.n ≤ 352 := by have := U11.out.lay.n; omega
  have G11 := Lib.hid (G10.out.next T11.out)
  clear G10
  have EF11 := Lib.hid (show num I t11 f11 6 = trm 6 (trm 6 b + trm 6 c) by rw [U11.out.val I, EY10.out, EQ10.out])
  have VF11 := Lib.hid N11.out.has
  have OF11 := Lib.hid U11.out.vo
  have VX11 := Lib.hid (VX10.out.next T11.out)
  clear VX10
  have EX11 := Lib.hid (show num I t11 fX 6 = trm 6 a by rw [num_lay OX10.out U11.out.lay]; exact EX10.out)
  clear EX10
  have OX11 := Lib.hid (OX10.out.lay U11.out.lay)
  clear OX10
  have VY11 := Lib.hid (VY10.out.next T11.out)
  clear VY10
  have EY11 := Lib.hid (show num I t11 fY 6 = trm 6 b by rw [num_lay OY10.out U11.out.lay]; exact EY10.out)
  clear EY10
  have OY11 := Lib.hid (OY10.out.lay U11.out.lay)
  clear OY10
  have VQ11 := Lib.hid (VQ10.out.next T11.out)
  clear VQ10
  have EQ11 := Lib.hid (show num I t11 fQ 6 = trm 6 c by rw [num_lay OQ10.out U11.out.lay]; exact EQ10.out)
  clear EQ10
  have OQ11 := Lib.hid (OQ10.out.lay U11.out.lay)
  clear OQ10
  have VD11 := Lib.hid (VD10.out.next T11.out)
  clear VD10
  have ED11 := Lib.hid (show num I t11 f10 6 = trm 6 (trm 6 a + trm 6 c) by rw [num_lay OD10.out U11.out.lay]; exact ED10.out)
  clear ED10
  have OD11 := Lib.hid (OD10.out.lay U11.out.lay)
  clear OD10
  have WP11 := Lib.hid (show val I t11 r7 = decide (trm 6 a < trm 6 b) by rw [(U11.out.lay).val LP10.out]; exact WP10.out)
  have LP11 := Lib.hid ((U11.out.lay).lt LP10.out)
  clear LP10 WP10
  have WK11 := Lib.hid (show val I t11 r8 = decide (trm 6 b < trm 6 a) by rw [(U11.out.lay).val LK10.out]; exact WK10.out)
  have LK11 := Lib.hid ((U11.out.lay).lt LK10.out)
  clear LK10 WK10
  have WS11 := Lib.hid (show val I t11 r9 = decide (trm 6 a = trm 6 b) by rw [(U11.out.lay).val LS10.out]; exact WS10.out)
  have LS11 := Lib.hid ((U11.out.lay).lt LS10.out)
  clear LS10 WS10
  have MO11 := Lib.hid (MO10.out.next T11.out)
  clear MO10
  clear T11 N11 U11
  clear VX11 OX11 EX11
  clear VY11 OY11 EY11
  clear VQ11 OQ11 EQ11
  have H12 := Lib.hid (same_any G11.out.gm (by omega) (VD11.out.vc HK6.out 6) (VF11.out.vc HK6.out 6) OD11.out OF11.out)
  go_wp2_with fail
  refine H12.out.mono ?_; rintro e w12 ⟨r12, v12, iv12, t12, rfl, T12, U12⟩
  clear H12
  have n12 : t12.n ≤ 416 := by have := U12.out.lay.n; omega
  have G12 := Lib.hid (G11.out.next T12.out)
  clear G11
  have WU12 := Lib.hid (show val I t12 r12 = decide (trm 6 (trm 6 a + trm 6 c) = trm 6 (trm 6 b + trm 6 c)) by rw [U12.out.val I, ED11.out, EF11.out])
  have LU12 := Lib.hid U12.out.lt
  have VD12 := Lib.hid (VD11.out.next T12.out)
  clear VD11
  have ED12 := Lib.hid (show num I t12 f10 6 = trm 6 (trm 6 a + trm 6 c) by rw [num_lay OD11.out U12.out.lay]; exact ED11.out)
  clear ED11
  have OD12 := Lib.hid (OD11.out.lay U12.out.lay)
  clear OD11
  have VF12 := Lib.hid (VF11.out.next T12.out)
  clear VF11
  have EF12 := Lib.hid (show num I t12 f11 6 = trm 6 (trm 6 b + trm 6 c) by rw [num_lay OF11.out U12.out.lay]; exact EF11.out)
  clear EF11
  have OF12 := Lib.hid (OF11.out.lay U12.out.lay)
  clear OF11
  have WP12 := Lib.hid (show val I t12 r7 = decide (trm 6 a < trm 6 b) by rw [(U12.out.lay).val LP11.out]; exact WP11.out)
  have LP12 := Lib.hid ((U12.out.lay).lt LP11.out)
  clear LP11 WP11
  have WK12 := Lib.hid (show val I t12 r8 = decide (trm 6 b < trm 6 a) by rw [(U12.out.lay).val LK11.out]; exact WK11.out)
  have LK12 := Lib.hid ((U12.out.lay).lt LK11.out)
  clear LK11 WK11
  have WS12 := Lib.hid (show val I t12 r9 = decide (trm 6 a = trm 6 b) by rw [(U12.out.lay).val LS11.out]; exact WS11.out)
  have LS12 := Lib.hid ((U12.out.lay).lt LS11.out)
  clear LS11 WS11
  have MO12 := Lib.hid (MO11.out.next T12.out)
  clear MO11
  clear T12 U12
  clear VD12 OD12 ED12
  clear VF12 OF12 EF12
  have hbl : Below w12.heap.size w12 (w12.alloc (.cells #[.int .i64 (r7 : Nat), .int .i64 (r8 : Nat), .int .i64 (r9 : Nat), .int .i64 (r12 : Nat)] 3)) := (Below.refl _ w12).alloc (Nat.le_refl _) _
  have G13 := Lib.hid (G12.out.below hbl)
  clear G12
  have MO13 := Lib.hid (MO12.out.below hbl)
  have HEv := Lib.hid (eval_vec (c1 := cM) (c2 := 4) G13.out.gm (by omega) MO13.out.has (by omega) (hasE_new w12 #[.int .i64 (r7 : Nat), .int .i64 (r8 : Nat), .int .i64 (r9 : Nat), .int .i64 (r12 : Nat)] 4 (fun j => if j = 0 then r7 else if j = 1 then r8 else if j = 2 then r9 else r12) rfl (fun j hj => by
    match j, hj with
    | 0, _ | 1, _ | 2, _ | 3, _ => rfl)) (fun j hj => by
    match j, hj with
    | 0, _ => exact LP12.out
    | 1, _ => exact LK12.out
    | 2, _ => exact LS12.out
    | 3, _ => exact LU12.out) (by omega))
  clear hbl
  go_wp2_with fail
  refine HEv.out.mono ?_; rintro e wE ⟨aE, cE, rfl, HE⟩
  obtain ⟨be, oe, rfl, he⟩ := HE.out.2.get (by omega)
  have x0 : wE.cell? ⟨be, oe, none⟩ = some (.bool (decide (trm 6 a < trm 6 b))) := by
    have h := he 0 (by omega)
    rw [Nat.add_zero] at h
    rw [h]; show some (Value.bool (val (mdl (thr 6 a b c) (6 + 6 + 6)) t12 r7)) = _; rw [← hI, WP12.out]
  have x1 : wE.cell? ⟨be, oe + 1, none⟩ = some (.bool (decide (trm 6 b < trm 6 a))) := by
    have h := he 1 (by omega)
    rw [h]; show some (Value.bool (val (mdl (thr 6 a b c) (6 + 6 + 6)) t12 r8)) = _; rw [← hI, WK12.out]
  have x2 : wE.cell? ⟨be, oe + 2, none⟩ = some (.bool (decide (trm 6 a = trm 6 b))) := by
    have h := he 2 (by omega)
    rw [h]; show some (Value.bool (val (mdl (thr 6 a b c) (6 + 6 + 6)) t12 r9)) = _; rw [← hI, WS12.out]
  have x3 : wE.cell? ⟨be, oe + 3, none⟩ = some (.bool (decide (trm 6 (trm 6 a + trm 6 c) = trm 6 (trm 6 b + trm 6 c)))) := by
    have h := he 3 (by omega)
    rw [h]; show some (Value.bool (val (mdl (thr 6 a b c) (6 + 6 + 6)) t12 r12)) = _; rw [← hI, WU12.out]
  have GZ := Lib.hid (G13.out.below HE.out.1)
  clear G13
  clear he HEv HE
  rw [← order_sum (trm 6 a) (trm 6 b) (trm 6 c) (trm_trm a) (trm_trm b)] at x3
  obtain ⟨p, hp⟩ : ∃ p : Nat → Bool, p = fun j => if j = 0 then decide (trm 6 a < trm 6 b) else if j = 1 then decide (trm 6 b < trm 6 a) else decide (trm 6 a = trm 6 b) := ⟨_, rfl⟩
  have hc3 : cntB p 3 = 1 := order_one p _ _ (by rw [hp]; rfl) (by rw [hp]; rfl) (by rw [hp]; rfl)
  have HX := Lib.hid (show ∀ j, j < 3 → wE.cell? ⟨be, oe + j, none⟩ = some (.bool (p j)) from fun j hj => by
    rw [hp]
    match j, hj with
    | 0, _ => exact x0
    | 1, _ => exact x1
    | 2, _ => exact x2)
  have HCL := Lib.hid (show ∀ j, j ≤ 3 → cntB p j ≤ 3 from fun j hj => by
    have h : ∀ j, cntB p j ≤ j := fun j => by
      induction j with
      | zero => exact Nat.le_refl _
      | succ j ih => unfold cntB; cases p j <;> simp <;> omega
    have := h j; omega)
  have HSU := Lib.hid (show ∀ j, cntB p (j + 1) = cntB p j + (p j).toNat from fun j => rfl)
  clear hp x0 x1
  generalize decide (trm 6 a = trm 6 b) = dd at *
  go_wp2_with fail
  go_loopw [13, 14] (fun u i wr => ∃ q : Nat, q ≤ 3 ∧ u = .int .i64 (cntB p q : Nat) ∧ i = .int .i64 q ∧ wE = wr) (fun _ i _ => 3 - (intOf i).toNat)
  case atStart => exact ⟨0, Nat.zero_le _, rfl, rfl, rfl⟩
  case round =>
    obtain ⟨q, hq, rfl, rfl, rfl⟩ := hrel
    by_cases hlt : q < 3
    · have hltI : (q : Int) < 3 := by omega
      have hq4 : (q : Int) < 4 := by omega
      have xq := HX.out q hlt
      have hcq := HCL.out q hq
      cases hpq : p q with
      | true =>
        rw [hpq] at xq
        have HS2 := Lib.hid (show ((cntB p q : Nat) : Int) + 1 = ((cntB p (q + 1) : Nat) : Int) by rw [HSU.out q, hpq]; simp)
        clear hpq
        go_wp2_with fail
        go_roundw
        case rel => exact ⟨q + 1, by omega, by rw [HS2.out], by go_num, trivial⟩
        case measure => simp [intOf]; omega
      | false =>
        rw [hpq] at xq
        have HS2 := Lib.hid (show ((cntB p q : Nat) : Int) = ((cntB p (q + 1) : Nat) : Int) by rw [HSU.out q, hpq]; simp)
        clear hpq
        go_wp2_with fail
        go_roundw
        case rel => exact ⟨q + 1, by omega, by rw [HS2.out], by go_num, trivial⟩
        case measure => simp [intOf]; omega
    · obtain rfl : q = 3 := by omega
      rw [hc3]
      clear hlt HX HCL HSU
      go_wp2_with fail
      go_quiet (fail)
      go_wp2_with fail
      go_ret
      have HBF := law_new HB1.out GZ.out
      exact ⟨by simp, ⟨HBF.os, HBF.tape, HBF.output, HBF.size, HBF.block⟩⟩
end Go.Proofs.Ytepafgmiloncgaa
