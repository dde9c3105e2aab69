/- The law BitsLaws. -/
import Derived.Test.YtepafgmiloncgaaLK
namespace Go.Proofs.Ytepafgmiloncgaa
open Go.RowKit Go.Lib Go.Maps
set_option maxRecDepth 100000

theorem laws_sum (k : Nat) (A B : Int) (hA : trm k A = A) : trm k (trm k (A - B) + B) = A := by
  have h : trm k (trm k (A - B) + B) = trm k (A - B + B) := trm_of (trm_add (trm_emod k (A - B)) rfl)
  rw [h, show A - B + B = A by omega, hA]
theorem laws_quo (k : Nat) (A B : Int) (hA : trm k A = A) (hB : B ≠ 0) : trm k (trm k (trm k (quo A B) * B) + trm k (rmd A B)) = A := by
  have h : trm k (trm k (trm k (quo A B) * B) + trm k (rmd A B)) = trm k (quo A B * B + rmd A B) := trm_of (trm_add ((trm_emod k _).trans (trm_mul (trm_emod k _) rfl)) (trm_emod k _))
  rw [h, quo_rmd hB, hA]
set_option maxHeartbeats 4000000 in
theorem lawsLaw (a b : Int) (x : Nat) (hx : x ≤ 255) (w : World) : Calls Try.prog 7 #[.int .i64 a, .int .i64 b, .int .u8 x] w (Law w) := by
  have HAw := Lib.hid awake_any
  have HN := Lib.hid new_any
  obtain ⟨k, hk⟩ : ∃ k, k = 1 + x % 9 := ⟨_, rfl⟩
  have hk1 : 1 ≤ k ∧ k ≤ 16 := by omega
  have hk2 : k ≤ 9 := by omega
  have e1 : IntKind.i64.wrap (1 + (x : Int) % 9) = (k : Int) := by rw [IntWalk.i64_in _ (by omega)]; omega
  have e3 : (1 + (x : Int) % 9) = (k : Int) := by omega
  clear hk
  go_enter Try.func7, Try.ntmps7
  go_wp2_with fail
  refine (HAw.out _).mono ?_; rintro e w1 ⟨rfl, hb1⟩
  have HB1 := Lib.hid hb1
  clear hb1
  go_wp2_with fail
  refine (HN.out _).mono ?_; rintro e w2 ⟨G, M, v2, iv2, rfl, G2⟩
  have HI := inputsv_any (show Gm w2 G M v2 iv2 (sIn 0) from G2.out.gm) (by omega) (k : Int)
  rw [lim_of hk1] at HI
  have HI := Lib.hid HI
  go_wp2_with fail
  refine HI.out.mono ?_; rintro e w3 ⟨bX, v3, iv3, rfl, T3, N3⟩
  have G3 := Lib.hid (G2.out.next (show GmT G M w2 v2 iv2 w3 v3 iv3 (sIn (0 + k)) from T3.out))
  have HI := inputsv_any (p := 0 + k) G3.out.gm (by omega) (k : Int)
  rw [lim_of hk1] at HI
  have HI := Lib.hid HI
  go_wp2_with fail
  refine HI.out.mono ?_; rintro e w4 ⟨bY, v4, iv4, rfl, T4, N4⟩
  have G4 := Lib.hid (G3.out.next T4.out)
  obtain ⟨fX, hfX⟩ : ∃ fX : Nat → Nat, fX = fun j => 2 * (0 + j + 1) := ⟨_, rfl⟩
  obtain ⟨fY, hfY⟩ : ∃ fY : Nat → Nat, fY = fun j => 2 * (0 + k + j + 1) := ⟨_, rfl⟩
  have VX4 := Lib.hid (show HasE w4 (Bg G M v4 iv4) (some ⟨bX, 0, none⟩) k fX by rw [hfX]; exact (N3.out.next T4.out).has)
  have VY4 := Lib.hid (show HasE w4 (Bg G M v4 iv4) (some ⟨bY, 0, none⟩) k fY by rw [hfY]; exact N4.out.has)
  have OX4 := Lib.hid (show Vo (sIn (0 + k + k)) k fX by rw [hfX]; exact Vo.sIn (p := 0) (by omega))
  have OY4 := Lib.hid (show Vo (sIn (0 + k + k)) k fY by rw [hfY]; exact Vo.sIn (by omega))
  obtain ⟨I, hI⟩ : ∃ I, I = mdl (two k a b) (k + k) := ⟨_, rfl⟩
  have EX4 := Lib.hid (show num I (sIn (0 + k + k)) fX k = trm k a by rw [hI, hfX]; exact num_first (by omega) _ _ (by omega) a (fun j hj => if_pos hj))
  have EY4 := Lib.hid (show num I (sIn (0 + k + k)) fY k = trm k b by rw [hI, hfY]; exact num_second (by omega) _ _ (by omega) b (fun j hj => by unfold two; rw [if_neg (by omega), show 0 + k + j - k = j by omega]))
  clear hfX hfY N3 N4 T3 T4 HI G2 G3
  obtain ⟨t4, ht4⟩ : ∃ t4, t4 = sIn (0 + k + k) := ⟨_, rfl⟩
  rw [← ht4] at G4 OX4 OY4 EX4 EY4
  have n4 : t4.n ≤ 20 := by rw [ht4]; show 0 + k + k ≤ 20; omega
  clear ht4
  have HBa := bits_any a (k : Int) w4
  rw [lim_of hk1] at HBa
  have HBa := Lib.hid HBa
  go_wp2_with fail
  refine HBa.out.mono ?_; rintro e wA ⟨aA, cA, rfl, FA⟩
  have HBb := bits_any b (k : Int) wA
  rw [lim_of hk1] at HBb
  have HBb := Lib.hid HBb
  go_wp2_with fail
  refine HBb.out.mono ?_; rintro e wB ⟨aB, cB, rfl, FB⟩
  have HSr := Lib.hid (bits_src FB.out)
  go_wp2_with (at_builtin; refine Frs.app elemBool FA FB.out.bel HSr.out (by unfold maxLen; omega) (by omega) rfl _ _ rfl rfl rfl ?_; intro aM cM w5 FM)
  have MO5 := Lib.hid (model_has G4.out.gm FM.out (by omega) (f := two k a b) (fun j hj => by unfold catV two; split <;> rfl))
  have G5 := Lib.hid (G4.out.below FM.out.bel)
  clear G4
  have VX5 := Lib.hid (VX4.out.below FM.out.bel)
  clear VX4
  have VY5 := Lib.hid (VY4.out.below FM.out.bel)
  clear VY4
  clear HBa HBb FA FB HSr FM
  have H6 := sub_any G5.out.gm (by omega) (VX5.out.vc hk1 k) (VY5.out.vc hk1 k) OX4.out OY4.out
  rw [Nat.max_self] at H6
  have H6 := Lib.hid H6
  go_wp2_with fail
  refine H6.out.mono ?_; rintro e w6 ⟨b6, f6, v6, iv6, t6, rfl, T6, N6, U6⟩
  clear H6
  have n6 : t6.n ≤ 90 := by have := U6.out.lay.n; omega
  have G6 := Lib.hid (G5.out.next T6.out)
  clear G5
  have ES6 := Lib.hid (show num I t6 f6 k = trm k (trm k a - trm k b) by rw [U6.out.val I, EX4.out, EY4.out])
  have VS6 := Lib.hid N6.out.has
  have OS6 := Lib.hid U6.out.vo
  have VX6 := Lib.hid (VX5.out.next T6.out)
  clear VX5
  have EX6 := Lib.hid (show num I t6 fX k = trm k a by rw [num_lay OX4.out U6.out.lay]; exact EX4.out)
  clear EX4
  have OX6 := Lib.hid (OX4.out.lay U6.out.lay)
  clear OX4
  have VY6 := Lib.hid (VY5.out.next T6.out)
  clear VY5
  have EY6 := Lib.hid (show num I t6 fY k = trm k b by rw [num_lay OY4.out U6.out.lay]; exact EY4.out)
  clear EY4
  have OY6 := Lib.hid (OY4.out.lay U6.out.lay)
  clear OY4
  have MO6 := Lib.hid (MO5.out.next T6.out)
  clear MO5
  clear T6 N6 U6
  have H7 := add_any G6.out.gm (by omega) (VS6.out.vc hk1 k) (VY6.out.vc hk1 k) OS6.out OY6.out
  rw [Nat.max_self] at H7
  have H7 := Lib.hid H7
  go_wp2_with fail
  refine H7.out.mono ?_; rintro e w7 ⟨b7, f7, v7, iv7, t7, rfl, T7, N7, U7⟩
  clear H7
  have n7 : t7.n ≤ 160 := by have := U7.out.lay.n; omega
  have G7 := Lib.hid (G6.out.next T7.out)
  clear G6
  have ED7 := Lib.hid (show num I t7 f7 k = trm k (trm k (trm k a - trm k b) + trm k b) by rw [U7.out.val I, ES6.out, EY6.out])
  have VD7 := Lib.hid N7.out.has
  have OD7 := Lib.hid U7.out.vo
  have VX7 := Lib.hid (VX6.out.next T7.out)
  clear VX6
  have EX7 := Lib.hid (show num I t7 fX k = trm k a by rw [num_lay OX6.out U7.out.lay]; exact EX6.out)
  clear EX6
  have OX7 := Lib.hid (OX6.out.lay U7.out.lay)
  clear OX6
  have VY7 := Lib.hid (VY6.out.next T7.out)
  clear VY6
  have EY7 := Lib.hid (show num I t7 fY k = trm k b by rw [num_lay OY6.out U7.out.lay]; exact EY6.out)
  clear EY6
  have OY7 := Lib.hid (OY6.out.lay U7.out.lay)
  clear OY6
  have VS7 := Lib.hid (VS6.out.next T7.out)
  clear VS6
  have ES7 := Lib.hid (show num I t7 f6 k = trm k (trm k a - trm k b) by rw [num_lay OS6.out U7.out.lay]; exact ES6.out)
  clear ES6
  have OS7 := Lib.hid (OS6.out.lay U7.out.lay)
  clear OS6
  have MO7 := Lib.hid (MO6.out.next T7.out)
  clear MO6
  clear T7 N7 U7
  clear VS7 OS7 ES7
  have H8 := div_any G7.out.gm (by omega) (VX7.out.vc hk1 k) (VY7.out.vc hk1 k) OX7.out OY7.out
  rw [Nat.max_self] at H8
  have H8 := Lib.hid H8
  go_wp2_with fail
  refine H8.out.mono ?_; rintro e w8 ⟨b8, f8, v8, iv8, t8, rfl, T8, N8, U8⟩
  clear H8
  have n8 : t8.n ≤ 3360 := by have := U8.out.lay.n; omega
  have G8 := Lib.hid (G7.out.next T8.out)
  clear G7
  have EQ8 := Lib.hid (show num I t8 f8 k = trm k (quo (trm k a) (trm k b)) by rw [U8.out.val I, EX7.out, EY7.out])
  have VQ8 := Lib.hid N8.out.has
  have OQ8 := Lib.hid U8.out.vo
  have VX8 := Lib.hid (VX7.out.next T8.out)
  clear VX7
  have EX8 := Lib.hid (show num I t8 fX k = trm k a by rw [num_lay OX7.out U8.out.lay]; exact EX7.out)
  clear EX7
  have OX8 := Lib.hid (OX7.out.lay U8.out.lay)
  clear OX7
  have VY8 := Lib.hid (VY7.out.next T8.out)
  clear VY7
  have EY8 := Lib.hid (show num I t8 fY k = trm k b by rw [num_lay OY7.out U8.out.lay]; exact EY7.out)
  clear EY7
  have OY8 := Lib.hid (OY7.out.lay U8.out.lay)
  clear OY7
  have VD8 := Lib.hid (VD7.out.next T8.out)
  clear VD7
  have ED8 := Lib.hid (show num I t8 f7 k = trm k (trm k (trm k a - trm k b) + trm k b) by rw [num_lay OD7.out U8.out.lay]; exact ED7.out)
  clear ED7
  have OD8 := Lib.hid (OD7.out.lay U8.out.lay)
  clear OD7
  have MO8 := Lib.hid (MO7.out.next T8.out)
  clear MO7
  clear T8 N8 U8
  have H9 := mul_any G8.out.gm (by omega) (VQ8.out.vc hk1 k) (VY8.out.vc hk1 k) OQ8.out OY8.out
  rw [Nat.max_self] at H9
  have H9 := Lib.hid H9
  go_wp2_with fail
  refine H9.out.mono ?_; rintro e w9 ⟨b9, f9, v9, iv9, t9, rfl, T9, N9, U9⟩
  clear H9
  have n9 : t9.n ≤ 6560 := by have := U9.out.lay.n; omega
  have G9 := Lib.hid (G8.out.next T9.out)
  clear G8
  have EM9 := Lib.hid (show num I t9 f9 k = trm k (trm k (quo (trm k a) (trm k b)) * trm k b) by rw [U9.out.val I, EQ8.out, EY8.out])
  have VM9 := Lib.hid N9.out.has
  have OM9 := Lib.hid U9.out.vo
  have VX9 := Lib.hid (VX8.out.next T9.out)
  clear VX8
  have EX9 := Lib.hid (show num I t9 fX k = trm k a by rw [num_lay OX8.out U9.out.lay]; exact EX8.out)
  clear EX8
  have OX9 := Lib.hid (OX8.out.lay U9.out.lay)
  clear OX8
  have VY9 := Lib.hid (VY8.out.next T9.out)
  clear VY8
  have EY9 := Lib.hid (show num I t9 fY k = trm k b by rw [num_lay OY8.out U9.out.lay]; exact EY8.out)
  clear EY8
  have OY9 := Lib.hid (OY8.out.lay U9.out.lay)
  clear OY8
  have VD9 := Lib.hid (VD8.out.next T9.out)
  clear VD8
  have ED9 := Lib.hid (show num I t9 f7 k = trm k (trm k (trm k a - trm k b) + trm k b) by rw [num_lay OD8.out U9.out.lay]; exact ED8.out)
  clear ED8
  have OD9 := Lib.hid (OD8.out.lay U9.out.lay)
  clear OD8
  have VQ9 := Lib.hid (VQ8.out.next T9.out)
  clear VQ8
  have EQ9 := Lib.hid (show num I t9 f8 k = trm k (quo (trm k a) (trm k b)) by rw [num_lay OQ8.out U9.out.lay]; exact EQ8.out)
  clear EQ8
  have OQ9 := Lib.hid (OQ8.out.lay U9.out.lay)
  clear OQ8
  have MO9 := Lib.hid (MO8.out.next T9.out)
  clear MO8
  clear T9 N9 U9
  clear VQ9 OQ9 EQ9
  have H10 := rem_any G9.out.gm (by omega) (VX9.out.vc hk1 k) (VY9.out.vc hk1 k) OX9.out OY9.out
  rw [Nat.max_self] at H10
  have H10 := Lib.hid H10
  go_wp2_with fail
  refine H10.out.mono ?_; rintro e w10 ⟨b10, f10, v10, iv10, t10, rfl, T10, N10, U10⟩
  clear H10
  have n10 : t10.n ≤ 9760 := by have := U10.out.lay.n; omega
  have G10 := Lib.hid (G9.out.next T10.out)
  clear G9
  have ER10 := Lib.hid (show num I t10 f10 k = trm k (rmd (trm k a) (trm k b)) by rw [U10.out.val I, EX9.out, EY9.out])
  have VR10 := Lib.hid N10.out.has
  have OR10 := Lib.hid U10.out.vo
  have VX10 := Lib.hid (VX9.out.next T10.out)
  clear VX9
  have EX10 := Lib.hid (show num I t10 fX k = trm k a by rw [num_lay OX9.out U10.out.lay]; exact EX9.out)
  clear EX9
  have OX10 := Lib.hid (OX9.out.lay U10.out.lay)
  clear OX9
  have VY10 := Lib.hid (VY9.out.next T10.out)
  clear VY9
  have EY10 := Lib.hid (show num I t10 fY k = trm k b by rw [num_lay OY9.out U10.out.lay]; exact EY9.out)
  clear EY9
  have OY10 := Lib.hid (OY9.out.lay U10.out.lay)
  clear OY9
  have VD10 := Lib.hid (VD9.out.next T10.out)
  clear VD9
  have ED10 := Lib.hid (show num I t10 f7 k = trm k (trm k (trm k a - trm k b) + trm k b) by rw [num_lay OD9.out U10.out.lay]; exact ED9.out)
  clear ED9
  have OD10 := Lib.hid (OD9.out.lay U10.out.lay)
  clear OD9
  have VM10 := Lib.hid (VM9.out.next T10.out)
  clear VM9
  have EM10 := Lib.hid (show num I t10 f9 k = trm k (trm k (quo (trm k a) (trm k b)) * trm k b) by rw [num_lay OM9.out U10.out.lay]; exact EM9.out)
  clear EM9
  have OM10 := Lib.hid (OM9.out.lay U10.out.lay)
  clear OM9
  have MO10 := Lib.hid (MO9.out.next T10.out)
  clear MO9
  clear T10 N10 U10
  have H11 := add_any G10.out.gm (by omega) (VM10.out.vc hk1 k) (VR10.out.vc hk1 k) OM10.out OR10.out
  rw [Nat.max_self] at H11
  have H11 := Lib.hid H11
  go_wp2_with fail
  refine H11.out.mono ?_; rintro e w11 ⟨b11, f11, v11, iv11, t11, rfl, T11, N11, U11⟩
  clear H11
  have n11 : t11.n ≤ 9830 := by have := U11.out.lay.n; omega
  have G11 := Lib.hid (G10.out.next T11.out)
  clear G10
  have EF11 := Lib.hid (show num I t11 f11 k = trm k (trm k (trm k (quo (trm k a) (trm k b)) * trm k b) + trm k (rmd (trm k a) (trm k b))) by rw [U11.out.val I, EM10.out, ER10.out])
  have VF11 := Lib.hid N11.out.has
  have OF11 := Lib.hid U11.out.vo
  have VX11 := Lib.hid (VX10.out.next T11.out)
  clear VX10
  have EX11 := Lib.hid (show num I t11 fX k = trm k a by rw [num_lay OX10.out U11.out.lay]; exact EX10.out)
  clear EX10
  have OX11 := Lib.hid (OX10.out.lay U11.out.lay)
  clear OX10
  have VY11 := Lib.hid (VY10.out.next T11.out)
  clear VY10
  have EY11 := Lib.hid (show num I t11 fY k = trm k b by rw [num_lay OY10.out U11.out.lay]; exact EY10.out)
  clear EY10
  have OY11 := Lib.hid (OY10.out.lay U11.out.lay)
  clear OY10
  have VD11 := Lib.hid (VD10.out.next T11.out)
  clear VD10
  have ED11 := Lib.hid (show num I t11 f7 k = trm k (trm k (trm k a - trm k b) + trm k b) by rw [num_lay OD10.out U11.out.lay]; exact ED10.out)
  clear ED10
  have OD11 := Lib.hid (OD10.out.lay U11.out.lay)
  clear OD10
  have VM11 := Lib.hid (VM10.out.next T11.out)
  clear VM10
  have EM11 := Lib.hid (show num I t11 f9 k = trm k (trm k (quo (trm k a) (trm k b)) * trm k b) by rw [num_lay OM10.out U11.out.lay]; exact EM10.out)
  clear EM10
  have OM11 := Lib.hid (OM10.out.lay U11.out.lay)
  clear OM10
  have VR11 := Lib.hid (VR10.out.next T11.out)
  clear VR10
  have ER11 := Lib.hid (show num I t11 f10 k = trm k (rmd (trm k a) (trm k b)) by rw [num_lay OR10.out U11.out.lay]; exact ER10.out)
  clear ER10
  have OR11 := Lib.hid (OR10.out.lay U11.out.lay)
  clear OR10
  have MO11 := Lib.hid (MO10.out.next T11.out)
  clear MO10
  clear T11 N11 U11
  clear VM11 OM11 EM11
  clear VR11 OR11 ER11
  have H12 := Lib.hid (same_any G11.out.gm (by omega) (VD11.out.vc hk1 k) (VX11.out.vc hk1 k) OD11.out OX11.out)
  go_wp2_with fail
  refine H12.out.mono ?_; rintro e w12 ⟨r12, v12, iv12, t12, rfl, T12, U12⟩
  clear H12
  have n12 : t12.n ≤ 9894 := by have := U12.out.lay.n; omega
  have G12 := Lib.hid (G11.out.next T12.out)
  clear G11
  have WP12 := Lib.hid (show val I t12 r12 = decide (trm k (trm k (trm k a - trm k b) + trm k b) = trm k a) by rw [U12.out.val I, ED11.out, EX11.out])
  have LP12 := Lib.hid U12.out.lt
  have VX12 := Lib.hid (VX11.out.next T12.out)
  clear VX11
  have EX12 := Lib.hid (show num I t12 fX k = trm k a by rw [num_lay OX11.out U12.out.lay]; exact EX11.out)
  clear EX11
  have OX12 := Lib.hid (OX11.out.lay U12.out.lay)
  clear OX11
  have VY12 := Lib.hid (VY11.out.next T12.out)
  clear VY11
  have EY12 := Lib.hid (show num I t12 fY k = trm k b by rw [num_lay OY11.out U12.out.lay]; exact EY11.out)
  clear EY11
  have OY12 := Lib.hid (OY11.out.lay U12.out.lay)
  clear OY11
  have VD12 := Lib.hid (VD11.out.next T12.out)
  clear VD11
  have ED12 := Lib.hid (show num I t12 f7 k = trm k (trm k (trm k a - trm k b) + trm k b) by rw [num_lay OD11.out U12.out.lay]; exact ED11.out)
  clear ED11
  have OD12 := Lib.hid (OD11.out.lay U12.out.lay)
  clear OD11
  have VF12 := Lib.hid (VF11.out.next T12.out)
  clear VF11
  have EF12 := Lib.hid (show num I t12 f11 k = trm k (trm k (trm k (quo (trm k a) (trm k b)) * trm k b) + trm k (rmd (trm k a) (trm k b))) by rw [num_lay OF11.out U12.out.lay]; exact EF11.out)
  clear EF11
  have OF12 := Lib.hid (OF11.out.lay U12.out.lay)
  clear OF11
  have MO12 := Lib.hid (MO11.out.next T12.out)
  clear MO11
  clear T12 U12
  clear VD12 OD12 ED12
  have H13 := Lib.hid (same_any G12.out.gm (by omega) (VF12.out.vc hk1 k) (VX12.out.vc hk1 k) OF12.out OX12.out)
  go_wp2_with fail
  refine H13.out.mono ?_; rintro e w13 ⟨r13, v13, iv13, t13, rfl, T13, U13⟩
  clear H13
  have n13 : t13.n ≤ 9958 := by have := U13.out.lay.n; omega
  have G13 := Lib.hid (G12.out.next T13.out)
  clear G12
  have WK13 := Lib.hid (show val I t13 r13 = decide (trm k (trm k (trm k (quo (trm k a) (trm k b)) * trm k b) + trm k (rmd (trm k a) (trm k b))) = trm k a) by rw [U13.out.val I, EF12.out, EX12.out])
  have LK13 := Lib.hid U13.out.lt
  have VX13 := Lib.hid (VX12.out.next T13.out)
  clear VX12
  have EX13 := Lib.hid (show num I t13 fX k = trm k a by rw [num_lay OX12.out U13.out.lay]; exact EX12.out)
  clear EX12
  have OX13 := Lib.hid (OX12.out.lay U13.out.lay)
  clear OX12
  have VY13 := Lib.hid (VY12.out.next T13.out)
  clear VY12
  have EY13 := Lib.hid (show num I t13 fY k = trm k b by rw [num_lay OY12.out U13.out.lay]; exact EY12.out)
  clear EY12
  have OY13 := Lib.hid (OY12.out.lay U13.out.lay)
  clear OY12
  have VF13 := Lib.hid (VF12.out.next T13.out)
  clear VF12
  have EF13 := Lib.hid (show num I t13 f11 k = trm k (trm k (trm k (quo (trm k a) (trm k b)) * trm k b) + trm k (rmd (trm k a) (trm k b))) by rw [num_lay OF12.out U13.out.lay]; exact EF12.out)
  clear EF12
  have OF13 := Lib.hid (OF12.out.lay U13.out.lay)
  clear OF12
  have WP13 := Lib.hid (show val I t13 r12 = decide (trm k (trm k (trm k a - trm k b) + trm k b) = trm k a) by rw [(U13.out.lay).val LP12.out]; exact WP12.out)
  have LP13 := Lib.hid ((U13.out.lay).lt LP12.out)
  clear LP12 WP12
  have MO13 := Lib.hid (MO12.out.next T13.out)
  clear MO12
  clear T13 U13
  clear VF13 OF13 EF13
  clear VX13 OX13 EX13
  have H14 := Lib.hid (some_any G13.out.gm (by omega) (VY13.out.vc hk1 k) OY13.out)
  go_wp2_with fail
  refine H14.out.mono ?_; rintro e w14 ⟨r14, v14, iv14, t14, rfl, T14, U14⟩
  clear H14
  have n14 : t14.n ≤ 9974 := by have := U14.out.lay.n; omega
  have G14 := Lib.hid (G13.out.next T14.out)
  clear G13
  have WZ14 := Lib.hid (show val I t14 r14 = decide (trm k b ≠ 0) by rw [U14.out.val I, EY13.out])
  have LZ14 := Lib.hid U14.out.lt
  have VY14 := Lib.hid (VY13.out.next T14.out)
  clear VY13
  have EY14 := Lib.hid (show num I t14 fY k = trm k b by rw [num_lay OY13.out U14.out.lay]; exact EY13.out)
  clear EY13
  have OY14 := Lib.hid (OY13.out.lay U14.out.lay)
  clear OY13
  have WP14 := Lib.hid (show val I t14 r12 = decide (trm k (trm k (trm k a - trm k b) + trm k b) = trm k a) by rw [(U14.out.lay).val LP13.out]; exact WP13.out)
  have LP14 := Lib.hid ((U14.out.lay).lt LP13.out)
  clear LP13 WP13
  have WK14 := Lib.hid (show val I t14 r13 = decide (trm k (trm k (trm k (quo (trm k a) (trm k b)) * trm k b) + trm k (rmd (trm k a) (trm k b))) = trm k a) by rw [(U14.out.lay).val LK13.out]; exact WK13.out)
  have LK14 := Lib.hid ((U14.out.lay).lt LK13.out)
  clear LK13 WK13
  have MO14 := Lib.hid (MO13.out.next T14.out)
  clear MO13
  clear T14 U14
  clear VY14 OY14 EY14
  have hbl : Below w14.heap.size w14 (w14.alloc (.cells #[.int .i64 (r12 : Nat), .int .i64 (r13 : Nat), .int .i64 (r14 : Nat)] 3)) := (Below.refl _ w14).alloc (Nat.le_refl _) _
  have G15 := Lib.hid (G14.out.below hbl)
  clear G14
  have MO15 := Lib.hid (MO14.out.below hbl)
  have HEv := Lib.hid (eval_vec (c1 := cM) (c2 := 3) G15.out.gm (by omega) MO15.out.has (by omega) (hasE_new w14 #[.int .i64 (r12 : Nat), .int .i64 (r13 : Nat), .int .i64 (r14 : Nat)] 3 (fun j => if j = 0 then r12 else if j = 1 then r13 else r14) rfl (fun j hj => by
    match j, hj with
    | 0, _ | 1, _ | 2, _ => rfl)) (fun j hj => by
    match j, hj with
    | 0, _ => exact LP14.out
    | 1, _ => exact LK14.out
    | 2, _ => exact LZ14.out) (by omega))
  clear hbl
  go_wp2_with fail
  refine HEv.out.mono ?_; rintro e wE ⟨aE, cE, rfl, HE⟩
  obtain ⟨be, oe, rfl, he⟩ := HE.out.2.get (by omega)
  have x0 : wE.cell? ⟨be, oe, none⟩ = some (.bool (decide (trm k (trm k (trm k a - trm k b) + trm k b) = trm k a))) := by
    have h := he 0 (by omega)
    rw [Nat.add_zero] at h
    rw [h]; show some (Value.bool (val (mdl (two k a b) (k + k)) t14 r12)) = _; rw [← hI, WP14.out]
  have x1 : wE.cell? ⟨be, oe + 1, none⟩ = some (.bool (decide (trm k (trm k (trm k (quo (trm k a) (trm k b)) * trm k b) + trm k (rmd (trm k a) (trm k b))) = trm k a))) := by
    have h := he 1 (by omega)
    rw [h]; show some (Value.bool (val (mdl (two k a b) (k + k)) t14 r13)) = _; rw [← hI, WK14.out]
  have x2 : wE.cell? ⟨be, oe + 2, none⟩ = some (.bool (decide (trm k b ≠ 0))) := by
    have h := he 2 (by omega)
    rw [h]; show some (Value.bool (val (mdl (two k a b) (k + k)) t14 r14)) = _; rw [← hI, WZ14.out]
  have GZ := Lib.hid (G15.out.below HE.out.1)
  clear G15
  clear he HEv HE
  rw [show decide (trm k (trm k (trm k a - trm k b) + trm k b) = trm k a) = true by rw [decide_eq_true_iff]; exact laws_sum k _ _ (trm_trm a)] at x0
  by_cases hB : trm k b = 0
  · rw [show decide (trm k b ≠ 0) = false by simp [hB]] at x2
    generalize decide (trm k (trm k (trm k (quo (trm k a) (trm k b)) * trm k b) + trm k (rmd (trm k a) (trm k b))) = trm k a) = d at x1
    cases d
    · go_wp2_with fail
      go_ret
      exact ⟨rfl, law_new HB1.out GZ.out⟩
    · go_wp2_with fail
      go_ret
      exact ⟨rfl, law_new HB1.out GZ.out⟩
  · rw [show decide (trm k (trm k (trm k (quo (trm k a) (trm k b)) * trm k b) + trm k (rmd (trm k a) (trm k b))) = trm k a) = true by rw [decide_eq_true_iff]; exact laws_quo k _ _ (trm_trm a) hB] at x1
    go_wp2_with fail
    go_ret
    exact ⟨rfl, law_new HB1.out GZ.out⟩
end Go.Proofs.Ytepafgmiloncgaa
