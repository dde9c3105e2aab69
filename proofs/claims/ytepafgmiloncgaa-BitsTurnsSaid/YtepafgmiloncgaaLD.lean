/- The law BitsTurns. -/
import Derived.Test.YtepafgmiloncgaaLK
namespace Go.Proofs.Ytepafgmiloncgaa
open Go.RowKit Go.Lib Go.Maps
set_option maxRecDepth 100000

set_option maxHeartbeats 4000000 in
theorem turnsLaw (a b : Int) (x : Nat) (hx : x ≤ 255) (w : World) : Calls Try.prog 10 #[.int .i64 a, .int .i64 b, .int .u8 x] w (Law w) := by
  have HAw := Lib.hid awake_any
  have HN := Lib.hid new_any
  obtain ⟨k, hk⟩ : ∃ k, k = 1 + x % 10 := ⟨_, rfl⟩
  have hk1 : 1 ≤ k ∧ k ≤ 16 := by omega
  have hk2 : k ≤ 10 := by omega
  have e1 : IntKind.i64.wrap (1 + (x : Int) % 10) = (k : Int) := by rw [IntWalk.i64_in _ (by omega)]; omega
  have e3 : (1 + (x : Int) % 10) = (k : Int) := by omega
  clear hk
  go_enter Try.func10, Try.ntmps10
  go_wp2_with fail
  refine (HAw.out _).mono ?_; rintro e w1 ⟨rfl, hb1⟩
  have HB1 := Lib.hid hb1
  clear hb1
  go_wp2_with fail
  refine (HN.out _).mono ?_; rintro e w2 ⟨G, M, v2, iv2, rfl, G2⟩
  have HI := inputsv_any (show Gm w2 G M v2 iv2 (sIn 0) from G2.out.gm) (by omega) (k : Int)
  rw [lim_of hk1] at HI
  have HI := Lib.hid HI
  go_wp2_with fail
  refine HI.out.mono ?_; rintro e w3 ⟨bX, v3, iv3, rfl, T3, N3⟩
  have G3 := Lib.hid (G2.out.next (show GmT G M w2 v2 iv2 w3 v3 iv3 (sIn (0 + k)) from T3.out))
  have HI := inputsv_any (p := 0 + k) G3.out.gm (by omega) (k : Int)
  rw [lim_of hk1] at HI
  have HI := Lib.hid HI
  go_wp2_with fail
  refine HI.out.mono ?_; rintro e w4 ⟨bY, v4, iv4, rfl, T4, N4⟩
  have G4 := Lib.hid (G3.out.next T4.out)
  obtain ⟨fX, hfX⟩ : ∃ fX : Nat → Nat, fX = fun j => 2 * (0 + j + 1) := ⟨_, rfl⟩
  obtain ⟨fY, hfY⟩ : ∃ fY : Nat → Nat, fY = fun j => 2 * (0 + k + j + 1) := ⟨_, rfl⟩
  have VX4 := Lib.hid (show HasE w4 (Bg G M v4 iv4) (some ⟨bX, 0, none⟩) k fX by rw [hfX]; exact (N3.out.next T4.out).has)
  have VY4 := Lib.hid (show HasE w4 (Bg G M v4 iv4) (some ⟨bY, 0, none⟩) k fY by rw [hfY]; exact N4.out.has)
  have OX4 := Lib.hid (show Vo (sIn (0 + k + k)) k fX by rw [hfX]; exact Vo.sIn (p := 0) (by omega))
  have OY4 := Lib.hid (show Vo (sIn (0 + k + k)) k fY by rw [hfY]; exact Vo.sIn (by omega))
  obtain ⟨I, hI⟩ : ∃ I, I = mdl (two k a b) (k + k) := ⟨_, rfl⟩
  have EX4 := Lib.hid (show num I (sIn (0 + k + k)) fX k = trm k a by rw [hI, hfX]; exact num_first (by omega) _ _ (by omega) a (fun j hj => if_pos hj))
  have EY4 := Lib.hid (show num I (sIn (0 + k + k)) fY k = trm k b by rw [hI, hfY]; exact num_second (by omega) _ _ (by omega) b (fun j hj => by unfold two; rw [if_neg (by omega), show 0 + k + j - k = j by omega]))
  clear hfX hfY N3 N4 T3 T4 HI G2 G3
  obtain ⟨t4, ht4⟩ : ∃ t4, t4 = sIn (0 + k + k) := ⟨_, rfl⟩
  rw [← ht4] at G4 OX4 OY4 EX4 EY4
  have n4 : t4.n ≤ 20 := by rw [ht4]; show 0 + k + k ≤ 20; omega
  clear ht4
  have H5 := Lib.hid (const_nw 0 k hk1 w4)
  go_wp2_with fail
  refine H5.out.mono ?_; rintro e w5 ⟨b5, rfl, N5⟩
  obtain ⟨fZ, hfZ⟩ : ∃ fZ : Nat → Nat, fZ = fun j => (bit 0 j).toNat := ⟨_, rfl⟩
  have VZ5 := Lib.hid (show HasE w5 (Bg G M v4 iv4) (some ⟨b5, 0, none⟩) k fZ by rw [hfZ]; exact (N5.out.nv G4.out.gm).has)
  have OZ5 := Lib.hid (show Vo t4 k fZ by rw [hfZ]; exact Vo.const _ k _)
  have EZ5 := Lib.hid (show num I t4 fZ k = 0 by rw [hfZ, num_bit]; exact trm_zero (by omega))
  have G5 := Lib.hid (G4.out.below N5.out.bel)
  clear G4
  have VX5 := Lib.hid (VX4.out.below N5.out.bel)
  clear VX4
  have VY5 := Lib.hid (VY4.out.below N5.out.bel)
  clear VY4
  clear N5 H5 hfZ
  have HBa := bits_any a (k : Int) w5
  rw [lim_of hk1] at HBa
  have HBa := Lib.hid HBa
  go_wp2_with fail
  refine HBa.out.mono ?_; rintro e wA ⟨aA, cA, rfl, FA⟩
  have HBb := bits_any b (k : Int) wA
  rw [lim_of hk1] at HBb
  have HBb := Lib.hid HBb
  go_wp2_with fail
  refine HBb.out.mono ?_; rintro e wB ⟨aB, cB, rfl, FB⟩
  have HSr := Lib.hid (bits_src FB.out)
  go_wp2_with (at_builtin; refine Frs.app elemBool FA FB.out.bel HSr.out (by unfold maxLen; omega) (by omega) rfl _ _ rfl rfl rfl ?_; intro aM cM w6 FM)
  have MO6 := Lib.hid (model_has G5.out.gm FM.out (by omega) (f := two k a b) (fun j hj => by unfold catV two; split <;> rfl))
  have G6 := Lib.hid (G5.out.below FM.out.bel)
  clear G5
  have VX6 := Lib.hid (VX5.out.below FM.out.bel)
  clear VX5
  have VY6 := Lib.hid (VY5.out.below FM.out.bel)
  clear VY5
  have VZ6 := Lib.hid (VZ5.out.below FM.out.bel)
  clear VZ5
  clear HBa HBb FA FB HSr FM
  have H7 := sub_any G6.out.gm (by omega) (VX6.out.vc hk1 k) (VX6.out.vc hk1 k) OX4.out OX4.out
  rw [Nat.max_self] at H7
  have H7 := Lib.hid H7
  go_wp2_with fail
  refine H7.out.mono ?_; rintro e w7 ⟨b7, f7, v7, iv7, t7, rfl, T7, N7, U7⟩
  clear H7
  have n7 : t7.n ≤ 90 := by have := U7.out.lay.n; omega
  have G7 := Lib.hid (G6.out.next T7.out)
  clear G6
  have ED7 := Lib.hid (show num I t7 f7 k = trm k (trm k a - trm k a) by rw [U7.out.val I, EX4.out])
  have VD7 := Lib.hid N7.out.has
  have OD7 := Lib.hid U7.out.vo
  have VX7 := Lib.hid (VX6.out.next T7.out)
  clear VX6
  have EX7 := Lib.hid (show num I t7 fX k = trm k a by rw [num_lay OX4.out U7.out.lay]; exact EX4.out)
  clear EX4
  have OX7 := Lib.hid (OX4.out.lay U7.out.lay)
  clear OX4
  have VY7 := Lib.hid (VY6.out.next T7.out)
  clear VY6
  have EY7 := Lib.hid (show num I t7 fY k = trm k b by rw [num_lay OY4.out U7.out.lay]; exact EY4.out)
  clear EY4
  have OY7 := Lib.hid (OY4.out.lay U7.out.lay)
  clear OY4
  have VZ7 := Lib.hid (VZ6.out.next T7.out)
  clear VZ6
  have EZ7 := Lib.hid (show num I t7 fZ k = 0 by rw [num_lay OZ5.out U7.out.lay]; exact EZ5.out)
  clear EZ5
  have OZ7 := Lib.hid (OZ5.out.lay U7.out.lay)
  clear OZ5
  have MO7 := Lib.hid (MO6.out.next T7.out)
  clear MO6
  clear T7 N7 U7
  have H8 := Lib.hid (some_any G7.out.gm (by omega) (VD7.out.vc hk1 k) OD7.out)
  go_wp2_with fail
  refine H8.out.mono ?_; rintro e w8 ⟨r8, v8, iv8, t8, rfl, T8, U8⟩
  clear H8
  have n8 : t8.n ≤ 100 := by have := U8.out.lay.n; omega
  have G8 := Lib.hid (G7.out.next T8.out)
  clear G7
  have WP8 := Lib.hid (show val I t8 r8 = decide (trm k (trm k a - trm k a) ≠ 0) by rw [U8.out.val I, ED7.out])
  have LP8 := Lib.hid U8.out.lt
  have VX8 := Lib.hid (VX7.out.next T8.out)
  clear VX7
  have EX8 := Lib.hid (show num I t8 fX k = trm k a by rw [num_lay OX7.out U8.out.lay]; exact EX7.out)
  clear EX7
  have OX8 := Lib.hid (OX7.out.lay U8.out.lay)
  clear OX7
  have VY8 := Lib.hid (VY7.out.next T8.out)
  clear VY7
  have EY8 := Lib.hid (show num I t8 fY k = trm k b by rw [num_lay OY7.out U8.out.lay]; exact EY7.out)
  clear EY7
  have OY8 := Lib.hid (OY7.out.lay U8.out.lay)
  clear OY7
  have VZ8 := Lib.hid (VZ7.out.next T8.out)
  clear VZ7
  have EZ8 := Lib.hid (show num I t8 fZ k = 0 by rw [num_lay OZ7.out U8.out.lay]; exact EZ7.out)
  clear EZ7
  have OZ8 := Lib.hid (OZ7.out.lay U8.out.lay)
  clear OZ7
  have VD8 := Lib.hid (VD7.out.next T8.out)
  clear VD7
  have ED8 := Lib.hid (show num I t8 f7 k = trm k (trm k a - trm k a) by rw [num_lay OD7.out U8.out.lay]; exact ED7.out)
  clear ED7
  have OD8 := Lib.hid (OD7.out.lay U8.out.lay)
  clear OD7
  have MO8 := Lib.hid (MO7.out.next T8.out)
  clear MO7
  clear T8 U8
  clear VD8 OD8 ED8
  have H9 := sub_any G8.out.gm (by omega) (VZ8.out.vc hk1 k) (VX8.out.vc hk1 k) OZ8.out OX8.out
  rw [Nat.max_self] at H9
  have H9 := Lib.hid H9
  go_wp2_with fail
  refine H9.out.mono ?_; rintro e w9 ⟨b9, f9, v9, iv9, t9, rfl, T9, N9, U9⟩
  clear H9
  have n9 : t9.n ≤ 170 := by have := U9.out.lay.n; omega
  have G9 := Lib.hid (G8.out.next T9.out)
  clear G8
  have EA9 := Lib.hid (show num I t9 f9 k = trm k (0 - trm k a) by rw [U9.out.val I, EZ8.out, EX8.out])
  have VA9 := Lib.hid N9.out.has
  have OA9 := Lib.hid U9.out.vo
  have VX9 := Lib.hid (VX8.out.next T9.out)
  clear VX8
  have EX9 := Lib.hid (show num I t9 fX k = trm k a by rw [num_lay OX8.out U9.out.lay]; exact EX8.out)
  clear EX8
  have OX9 := Lib.hid (OX8.out.lay U9.out.lay)
  clear OX8
  have VY9 := Lib.hid (VY8.out.next T9.out)
  clear VY8
  have EY9 := Lib.hid (show num I t9 fY k = trm k b by rw [num_lay OY8.out U9.out.lay]; exact EY8.out)
  clear EY8
  have OY9 := Lib.hid (OY8.out.lay U9.out.lay)
  clear OY8
  have VZ9 := Lib.hid (VZ8.out.next T9.out)
  clear VZ8
  have EZ9 := Lib.hid (show num I t9 fZ k = 0 by rw [num_lay OZ8.out U9.out.lay]; exact EZ8.out)
  clear EZ8
  have OZ9 := Lib.hid (OZ8.out.lay U9.out.lay)
  clear OZ8
  have WP9 := Lib.hid (show val I t9 r8 = decide (trm k (trm k a - trm k a) ≠ 0) by rw [(U9.out.lay).val LP8.out]; exact WP8.out)
  have LP9 := Lib.hid ((U9.out.lay).lt LP8.out)
  clear LP8 WP8
  have MO9 := Lib.hid (MO8.out.next T9.out)
  clear MO8
  clear T9 N9 U9
  have H10 := sub_any G9.out.gm (by omega) (VZ9.out.vc hk1 k) (VA9.out.vc hk1 k) OZ9.out OA9.out
  rw [Nat.max_self] at H10
  have H10 := Lib.hid H10
  go_wp2_with fail
  refine H10.out.mono ?_; rintro e w10 ⟨b10, f10, v10, iv10, t10, rfl, T10, N10, U10⟩
  clear H10
  have n10 : t10.n ≤ 240 := by have := U10.out.lay.n; omega
  have G10 := Lib.hid (G9.out.next T10.out)
  clear G9
  have EB10 := Lib.hid (show num I t10 f10 k = trm k (0 - trm k (0 - trm k a)) by rw [U10.out.val I, EZ9.out, EA9.out])
  have VB10 := Lib.hid N10.out.has
  have OB10 := Lib.hid U10.out.vo
  have VX10 := Lib.hid (VX9.out.next T10.out)
  clear VX9
  have EX10 := Lib.hid (show num I t10 fX k = trm k a by rw [num_lay OX9.out U10.out.lay]; exact EX9.out)
  clear EX9
  have OX10 := Lib.hid (OX9.out.lay U10.out.lay)
  clear OX9
  have VY10 := Lib.hid (VY9.out.next T10.out)
  clear VY9
  have EY10 := Lib.hid (show num I t10 fY k = trm k b by rw [num_lay OY9.out U10.out.lay]; exact EY9.out)
  clear EY9
  have OY10 := Lib.hid (OY9.out.lay U10.out.lay)
  clear OY9
  have VZ10 := Lib.hid (VZ9.out.next T10.out)
  clear VZ9
  have EZ10 := Lib.hid (show num I t10 fZ k = 0 by rw [num_lay OZ9.out U10.out.lay]; exact EZ9.out)
  clear EZ9
  have OZ10 := Lib.hid (OZ9.out.lay U10.out.lay)
  clear OZ9
  have VA10 := Lib.hid (VA9.out.next T10.out)
  clear VA9
  have EA10 := Lib.hid (show num I t10 f9 k = trm k (0 - trm k a) by rw [num_lay OA9.out U10.out.lay]; exact EA9.out)
  clear EA9
  have OA10 := Lib.hid (OA9.out.lay U10.out.lay)
  clear OA9
  have WP10 := Lib.hid (show val I t10 r8 = decide (trm k (trm k a - trm k a) ≠ 0) by rw [(U10.out.lay).val LP9.out]; exact WP9.out)
  have LP10 := Lib.hid ((U10.out.lay).lt LP9.out)
  clear LP9 WP9
  have MO10 := Lib.hid (MO9.out.next T10.out)
  clear MO9
  clear T10 N10 U10
  clear VA10 OA10 EA10
  clear VZ10 OZ10 EZ10
  have H11 := Lib.hid (same_any G10.out.gm (by omega) (VB10.out.vc hk1 k) (VX10.out.vc hk1 k) OB10.out OX10.out)
  go_wp2_with fail
  refine H11.out.mono ?_; rintro e w11 ⟨r11, v11, iv11, t11, rfl, T11, U11⟩
  clear H11
  have n11 : t11.n ≤ 304 := by have := U11.out.lay.n; omega
  have G11 := Lib.hid (G10.out.next T11.out)
  clear G10
  have WQ11 := Lib.hid (show val I t11 r11 = decide (trm k (0 - trm k (0 - trm k a)) = trm k a) by rw [U11.out.val I, EB10.out, EX10.out])
  have LQ11 := Lib.hid U11.out.lt
  have VX11 := Lib.hid (VX10.out.next T11.out)
  clear VX10
  have EX11 := Lib.hid (show num I t11 fX k = trm k a by rw [num_lay OX10.out U11.out.lay]; exact EX10.out)
  clear EX10
  have OX11 := Lib.hid (OX10.out.lay U11.out.lay)
  clear OX10
  have VY11 := Lib.hid (VY10.out.next T11.out)
  clear VY10
  have EY11 := Lib.hid (show num I t11 fY k = trm k b by rw [num_lay OY10.out U11.out.lay]; exact EY10.out)
  clear EY10
  have OY11 := Lib.hid (OY10.out.lay U11.out.lay)
  clear OY10
  have VB11 := Lib.hid (VB10.out.next T11.out)
  clear VB10
  have EB11 := Lib.hid (show num I t11 f10 k = trm k (0 - trm k (0 - trm k a)) by rw [num_lay OB10.out U11.out.lay]; exact EB10.out)
  clear EB10
  have OB11 := Lib.hid (OB10.out.lay U11.out.lay)
  clear OB10
  have WP11 := Lib.hid (show val I t11 r8 = decide (trm k (trm k a - trm k a) ≠ 0) by rw [(U11.out.lay).val LP10.out]; exact WP10.out)
  have LP11 := Lib.hid ((U11.out.lay).lt LP10.out)
  clear LP10 WP10
  have MO11 := Lib.hid (MO10.out.next T11.out)
  clear MO10
  clear T11 U11
  clear VB11 OB11 EB11
  have H12 := mul_any G11.out.gm (by omega) (VX11.out.vc hk1 k) (VY11.out.vc hk1 k) OX11.out OY11.out
  rw [Nat.max_self] at H12
  have H12 := Lib.hid H12
  go_wp2_with fail
  refine H12.out.mono ?_; rintro e w12 ⟨b12, f12, v12, iv12, t12, rfl, T12, N12, U12⟩
  clear H12
  have n12 : t12.n ≤ 3504 := by have := U12.out.lay.n; omega
  have G12 := Lib.hid (G11.out.next T12.out)
  clear G11
  have EC12 := Lib.hid (show num I t12 f12 k = trm k (trm k a * trm k b) by rw [U12.out.val I, EX11.out, EY11.out])
  have VC12 := Lib.hid N12.out.has
  have OC12 := Lib.hid U12.out.vo
  have VX12 := Lib.hid (VX11.out.next T12.out)
  clear VX11
  have EX12 := Lib.hid (show num I t12 fX k = trm k a by rw [num_lay OX11.out U12.out.lay]; exact EX11.out)
  clear EX11
  have OX12 := Lib.hid (OX11.out.lay U12.out.lay)
  clear OX11
  have VY12 := Lib.hid (VY11.out.next T12.out)
  clear VY11
  have EY12 := Lib.hid (show num I t12 fY k = trm k b by rw [num_lay OY11.out U12.out.lay]; exact EY11.out)
  clear EY11
  have OY12 := Lib.hid (OY11.out.lay U12.out.lay)
  clear OY11
  have WP12 := Lib.hid (show val I t12 r8 = decide (trm k (trm k a - trm k a) ≠ 0) by rw [(U12.out.lay).val LP11.out]; exact WP11.out)
  have LP12 := Lib.hid ((U12.out.lay).lt LP11.out)
  clear LP11 WP11
  have WQ12 := Lib.hid (show val I t12 r11 = decide (trm k (0 - trm k (0 - trm k a)) = trm k a) by rw [(U12.out.lay).val LQ11.out]; exact WQ11.out)
  have LQ12 := Lib.hid ((U12.out.lay).lt LQ11.out)
  clear LQ11 WQ11
  have MO12 := Lib.hid (MO11.out.next T12.out)
  clear MO11
  clear T12 N12 U12
  have H13 := mul_any G12.out.gm (by omega) (VY12.out.vc hk1 k) (VX12.out.vc hk1 k) OY12.out OX12.out
  rw [Nat.max_self] at H13
  have H13 := Lib.hid H13
  go_wp2_with fail
  refine H13.out.mono ?_; rintro e w13 ⟨b13, f13, v13, iv13, t13, rfl, T13, N13, U13⟩
  clear H13
  have n13 : t13.n ≤ 6704 := by have := U13.out.lay.n; omega
  have G13 := Lib.hid (G12.out.next T13.out)
  clear G12
  have EE13 := Lib.hid (show num I t13 f13 k = trm k (trm k b * trm k a) by rw [U13.out.val I, EY12.out, EX12.out])
  have VE13 := Lib.hid N13.out.has
  have OE13 := Lib.hid U13.out.vo
  have VX13 := Lib.hid (VX12.out.next T13.out)
  clear VX12
  have EX13 := Lib.hid (show num I t13 fX k = trm k a by rw [num_lay OX12.out U13.out.lay]; exact EX12.out)
  clear EX12
  have OX13 := Lib.hid (OX12.out.lay U13.out.lay)
  clear OX12
  have VY13 := Lib.hid (VY12.out.next T13.out)
  clear VY12
  have EY13 := Lib.hid (show num I t13 fY k = trm k b by rw [num_lay OY12.out U13.out.lay]; exact EY12.out)
  clear EY12
  have OY13 := Lib.hid (OY12.out.lay U13.out.lay)
  clear OY12
  have VC13 := Lib.hid (VC12.out.next T13.out)
  clear VC12
  have EC13 := Lib.hid (show num I t13 f12 k = trm k (trm k a * trm k b) by rw [num_lay OC12.out U13.out.lay]; exact EC12.out)
  clear EC12
  have OC13 := Lib.hid (OC12.out.lay U13.out.lay)
  clear OC12
  have WP13 := Lib.hid (show val I t13 r8 = decide (trm k (trm k a - trm k a) ≠ 0) by rw [(U13.out.lay).val LP12.out]; exact WP12.out)
  have LP13 := Lib.hid ((U13.out.lay).lt LP12.out)
  clear LP12 WP12
  have WQ13 := Lib.hid (show val I t13 r11 = decide (trm k (0 - trm k (0 - trm k a)) = trm k a) by rw [(U13.out.lay).val LQ12.out]; exact WQ12.out)
  have LQ13 := Lib.hid ((U13.out.lay).lt LQ12.out)
  clear LQ12 WQ12
  have MO13 := Lib.hid (MO12.out.next T13.out)
  clear MO12
  clear T13 N13 U13
  clear VX13 OX13 EX13
  clear VY13 OY13 EY13
  have H14 := Lib.hid (same_any G13.out.gm (by omega) (VC13.out.vc hk1 k) (VE13.out.vc hk1 k) OC13.out OE13.out)
  go_wp2_with fail
  refine H14.out.mono ?_; rintro e w14 ⟨r14, v14, iv14, t14, rfl, T14, U14⟩
  clear H14
  have n14 : t14.n ≤ 6768 := by have := U14.out.lay.n; omega
  have G14 := Lib.hid (G13.out.next T14.out)
  clear G13
  have WR14 := Lib.hid (show val I t14 r14 = decide (trm k (trm k a * trm k b) = trm k (trm k b * trm k a)) by rw [U14.out.val I, EC13.out, EE13.out])
  have LR14 := Lib.hid U14.out.lt
  have VC14 := Lib.hid (VC13.out.next T14.out)
  clear VC13
  have EC14 := Lib.hid (show num I t14 f12 k = trm k (trm k a * trm k b) by rw [num_lay OC13.out U14.out.lay]; exact EC13.out)
  clear EC13
  have OC14 := Lib.hid (OC13.out.lay U14.out.lay)
  clear OC13
  have VE14 := Lib.hid (VE13.out.next T14.out)
  clear VE13
  have EE14 := Lib.hid (show num I t14 f13 k = trm k (trm k b * trm k a) by rw [num_lay OE13.out U14.out.lay]; exact EE13.out)
  clear EE13
  have OE14 := Lib.hid (OE13.out.lay U14.out.lay)
  clear OE13
  have WP14 := Lib.hid (show val I t14 r8 = decide (trm k (trm k a - trm k a) ≠ 0) by rw [(U14.out.lay).val LP13.out]; exact WP13.out)
  have LP14 := Lib.hid ((U14.out.lay).lt LP13.out)
  clear LP13 WP13
  have WQ14 := Lib.hid (show val I t14 r11 = decide (trm k (0 - trm k (0 - trm k a)) = trm k a) by rw [(U14.out.lay).val LQ13.out]; exact WQ13.out)
  have LQ14 := Lib.hid ((U14.out.lay).lt LQ13.out)
  clear LQ13 WQ13
  have MO14 := Lib.hid (MO13.out.next T14.out)
  clear MO13
  clear T14 U14
  clear VC14 OC14 EC14
  clear VE14 OE14 EE14
  have hbl : Below w14.heap.size w14 (w14.alloc (.cells #[.int .i64 (r8 : Nat), .int .i64 (r11 : Nat), .int .i64 (r14 : Nat)] 3)) := (Below.refl _ w14).alloc (Nat.le_refl _) _
  have G15 := Lib.hid (G14.out.below hbl)
  clear G14
  have MO15 := Lib.hid (MO14.out.below hbl)
  have HEv := Lib.hid (eval_vec (c1 := cM) (c2 := 3) G15.out.gm (by omega) MO15.out.has (by omega) (hasE_new w14 #[.int .i64 (r8 : Nat), .int .i64 (r11 : Nat), .int .i64 (r14 : Nat)] 3 (fun j => if j = 0 then r8 else if j = 1 then r11 else r14) rfl (fun j hj => by
    match j, hj with
    | 0, _ | 1, _ | 2, _ => rfl)) (fun j hj => by
    match j, hj with
    | 0, _ => exact LP14.out
    | 1, _ => exact LQ14.out
    | 2, _ => exact LR14.out) (by omega))
  clear hbl
  go_wp2_with fail
  refine HEv.out.mono ?_; rintro e wE ⟨aE, cE, rfl, HE⟩
  obtain ⟨be, oe, rfl, he⟩ := HE.out.2.get (by omega)
  have x0 : wE.cell? ⟨be, oe, none⟩ = some (.bool (decide (trm k (trm k a - trm k a) ≠ 0))) := by
    have h := he 0 (by omega)
    rw [Nat.add_zero] at h
    rw [h]; show some (Value.bool (val (mdl (two k a b) (k + k)) t14 r8)) = _; rw [← hI, WP14.out]
  have x1 : wE.cell? ⟨be, oe + 1, none⟩ = some (.bool (decide (trm k (0 - trm k (0 - trm k a)) = trm k a))) := by
    have h := he 1 (by omega)
    rw [h]; show some (Value.bool (val (mdl (two k a b) (k + k)) t14 r11)) = _; rw [← hI, WQ14.out]
  have x2 : wE.cell? ⟨be, oe + 2, none⟩ = some (.bool (decide (trm k (trm k a * trm k b) = trm k (trm k b * trm k a)))) := by
    have h := he 2 (by omega)
    rw [h]; show some (Value.bool (val (mdl (two k a b) (k + k)) t14 r14)) = _; rw [← hI, WR14.out]
  have GZ := Lib.hid (G15.out.below HE.out.1)
  clear G15
  clear he HEv HE
  rw [show decide (trm k (trm k a - trm k a) ≠ 0) = false by rw [Int.sub_self, trm_zero (by omega)]; rfl] at x0
  rw [show decide (trm k (0 - trm k (0 - trm k a)) = trm k a) = true by rw [decide_eq_true_iff, trm_neg, show -(0 - trm k a) = trm k a by omega, trm_trm]] at x1
  rw [show decide (trm k (trm k a * trm k b) = trm k (trm k b * trm k a)) = true by rw [decide_eq_true_iff, Int.mul_comm]] at x2
  go_wp2_with fail
  go_ret
  exact ⟨rfl, law_new HB1.out GZ.out⟩
end Go.Proofs.Ytepafgmiloncgaa
