/- The law BitsDo. -/
import Derived.Test.YtepafgmiloncgaaLB
import Derived.Test.YtepafgmiloncgaaLK
namespace Go.Proofs.Ytepafgmiloncgaa
open Go.RowKit Go.Lib Go.Maps
set_option maxRecDepth 100000

theorem bit_trm {k j : Nat} (hj : j < k) (a : Int) : Value.bool (bit (trm k a) j) = Value.bool (bit a j) := by
  have h : sg (bit (trm k a)) k = sg (bit a) k := by rw [sg_bit, sg_bit, trm_trm]
  rw [un_inj (sg_inj h) j hj]
set_option maxHeartbeats 4000000 in
theorem doLaw (a b : Int) (ha : -9223372036854775808 ≤ a ∧ a ≤ 9223372036854775807) (hb : -9223372036854775808 ≤ b ∧ b ≤ 9223372036854775807) (x y : Nat) (hx : x ≤ 255) (hy : y ≤ 255) (w : World) : Calls Try.prog 3 #[.int .i64 a, .int .i64 b, .agg #[.int .u8 x, .int .u8 y]] w (Law w) := by
  have HAw := Lib.hid awake_any
  obtain ⟨k, hk⟩ : ∃ k, k = 1 + x % 10 := ⟨_, rfl⟩
  obtain ⟨l, hl⟩ : ∃ l, l = 1 + y % 10 := ⟨_, rfl⟩
  have hk1 : 1 ≤ k ∧ k ≤ 16 := by omega
  have hl1 : 1 ≤ l ∧ l ≤ 16 := by omega
  have hk2 : k ≤ 10 := by omega
  have hl2 : l ≤ 10 := by omega
  have e1 : IntKind.i64.wrap (1 + (x : Int) % 10) = (k : Int) := by rw [IntWalk.i64_in _ (by omega)]; omega
  have e2 : IntKind.i64.wrap (1 + (y : Int) % 10) = (l : Int) := by rw [IntWalk.i64_in _ (by omega)]; omega
  have e3 : (1 + (x : Int) % 10) = (k : Int) := by omega
  have e4 : (1 + (y : Int) % 10) = (l : Int) := by omega
  have HN := Lib.hid new_any
  have HRa := Lib.hid (fun W => rtrim_in a ha k hk1 W)
  have HRb := Lib.hid (fun W => rtrim_in b hb l hl1 W)
  have hA := trm_small hk1 a
  have hB := trm_small hl1 b
  obtain ⟨N, hN⟩ : ∃ N, N = max k l := ⟨_, rfl⟩
  have hN1 : 1 ≤ N ∧ N ≤ 16 := by omega
  have m1 : (if (k : Int) < (l : Int) then (l : Int) else (k : Int)) = (N : Int) := by rw [hN]; split <;> omega
  have m2 : (if k < l then (l : Int) else (k : Int)) = (N : Int) := by rw [hN]; split <;> omega
  have HD := Lib.hid (fun (op : Nat) (hop : op < 5) (W : World) => rdo_any op hop (trm k a) (trm l b) hA hB N hN1 W)
  have HNN := Lib.hid hN
  clear hk hl ha hb hN
  go_enter Try.func3, Try.ntmps3
  go_wp2_with fail
  refine (HAw.out _).mono ?_; rintro e w1 ⟨rfl, hb1⟩
  have hb0 : Below w.heap.size w (w.alloc (.cells #[.int .u8 x, .int .u8 y] 22)) := (Below.refl _ w).alloc (Nat.le_refl _) _
  have HB1' := Lib.hid (hb0.trans (hb1.mono hb0.size))
  have t2 := two_at w w.heap.size (x := .int .u8 x) (y := .int .u8 y) (t := 22) (w' := w.alloc (.cells #[.int .u8 x, .int .u8 y] 22)) rfl rfl
  have c1 : w1.cell? ⟨w.heap.size, 0, none⟩ = some (.int .u8 x) := by have := t2 0 _ rfl; rw [adr, Nat.zero_add] at this; rw [← this]; exact hb1.cell (p := ⟨w.heap.size, 0, none⟩) (by simp)
  have c2 : w1.cell? ⟨w.heap.size, 1, none⟩ = some (.int .u8 y) := by have := t2 1 _ rfl; rw [adr, Nat.zero_add] at this; rw [← this]; exact hb1.cell (p := ⟨w.heap.size, 1, none⟩) (by simp)
  clear hb1 hb0 t2
  go_wp2_with fail
  go_quiet (fail)
  have HB1 := Lib.hid (show Below w.heap.size w (w1.drewN nq) from ⟨HB1'.out.os, HB1'.out.tape, HB1'.out.output, HB1'.out.size, HB1'.out.block⟩)
  clear HB1'
  go_wp2_with fail
  refine (HN.out _).mono ?_; rintro e w2 ⟨G, M, v2, iv2, rfl, G2⟩
  clear c1 c2
  have HI := inputsv_any (show Gm w2 G M v2 iv2 (sIn 0) from G2.out.gm) (by omega) (k : Int)
  rw [lim_of hk1] at HI
  have HI := Lib.hid HI
  go_wp2_with fail
  refine HI.out.mono ?_; rintro e w3 ⟨bX, v3, iv3, rfl, T3, N3⟩
  have G3 := Lib.hid (G2.out.next (show GmT G M w2 v2 iv2 w3 v3 iv3 (sIn (0 + k)) from T3.out))
  have HI := inputsv_any (p := 0 + k) G3.out.gm (by omega) (l : Int)
  rw [lim_of hl1] at HI
  have HI := Lib.hid HI
  go_wp2_with fail
  refine HI.out.mono ?_; rintro e w4 ⟨bY, v4, iv4, rfl, T4, N4⟩
  have G4 := Lib.hid (G3.out.next T4.out)
  obtain ⟨fX, hfX⟩ : ∃ fX : Nat → Nat, fX = fun j => 2 * (0 + j + 1) := ⟨_, rfl⟩
  obtain ⟨fY, hfY⟩ : ∃ fY : Nat → Nat, fY = fun j => 2 * (0 + k + j + 1) := ⟨_, rfl⟩
  have VX4 := Lib.hid (show HasE w4 (Bg G M v4 iv4) (some ⟨bX, 0, none⟩) k fX by rw [hfX]; exact (N3.out.next T4.out).has)
  have VY4 := Lib.hid (show HasE w4 (Bg G M v4 iv4) (some ⟨bY, 0, none⟩) l fY by rw [hfY]; exact N4.out.has)
  have OX4 := Lib.hid (show Vo (sIn (0 + k + l)) k fX by rw [hfX]; exact Vo.sIn (p := 0) (by omega))
  have OY4 := Lib.hid (show Vo (sIn (0 + k + l)) l fY by rw [hfY]; exact Vo.sIn (by omega))
  obtain ⟨I, hI⟩ : ∃ I, I = mdl (two k a b) (k + l) := ⟨_, rfl⟩
  have EX4 := Lib.hid (show num I (sIn (0 + k + l)) fX k = trm k a by rw [hI, hfX]; exact num_first (by omega) _ _ (by omega) a (fun j hj => if_pos hj))
  have EY4 := Lib.hid (show num I (sIn (0 + k + l)) fY l = trm l b by rw [hI, hfY]; exact num_second (by omega) _ _ (by omega) b (fun j hj => by unfold two; rw [if_neg (by omega), show 0 + k + j - k = j by omega]))
  clear hfX hfY N3 N4 T3 T4 HI G2 G3
  obtain ⟨t4, ht4⟩ : ∃ t4, t4 = sIn (0 + k + l) := ⟨_, rfl⟩
  rw [← ht4] at G4 OX4 OY4 EX4 EY4
  have n4 : t4.n ≤ 20 := by rw [ht4]; show 0 + k + l ≤ 20; omega
  clear ht4
  go_wp2_with fail
  refine (HRa.out _).mono ?_; rintro e w' ⟨rfl, rfl⟩
  go_wp2_with fail
  refine (HRb.out _).mono ?_; rintro e w' ⟨rfl, rfl⟩
  obtain ⟨A, hAA⟩ : ∃ A, A = trm k a := ⟨_, rfl⟩
  obtain ⟨B, hBB⟩ : ∃ B, B = trm l b := ⟨_, rfl⟩
  rw [← hAA, ← hBB] at HD
  rw [← hAA] at EX4
  rw [← hBB] at EY4
  simp only [← hAA, ← hBB]
  have HAA := Lib.hid hAA
  have HBB := Lib.hid hBB
  clear hA hB hAA hBB
  have HBa := bits_any A (k : Int) w4
  rw [lim_of hk1] at HBa
  have HBa := Lib.hid HBa
  go_wp2_with fail
  refine HBa.out.mono ?_; rintro e wA ⟨aA, cA, rfl, FA⟩
  have HBb := bits_any B (l : Int) wA
  rw [lim_of hl1] at HBb
  have HBb := Lib.hid HBb
  go_wp2_with fail
  refine HBb.out.mono ?_; rintro e wB ⟨aB, cB, rfl, FB⟩
  have HSr := Lib.hid (bits_src FB.out)
  go_wp2_with (at_builtin; refine Frs.app elemBool FA FB.out.bel HSr.out (by unfold maxLen; omega) (by omega) rfl _ _ rfl rfl rfl ?_; intro aM cM w5 FM)
  have MO5 := Lib.hid (model_has G4.out.gm FM.out (by omega) (f := two k a b) (fun j hj => by
    unfold catV two
    by_cases h : j < k
    · rw [if_pos h, if_pos h, HAA.out]; exact bit_trm h a
    · rw [if_neg h, if_neg h, HBB.out]; exact bit_trm (by omega) b))
  have G5 := Lib.hid (G4.out.below FM.out.bel)
  clear G4
  have VX5 := Lib.hid (VX4.out.below FM.out.bel)
  clear VX4
  have VY5 := Lib.hid (VY4.out.below FM.out.bel)
  clear VY4
  clear HBa HBb FA FB HSr FM
  go_loopw [13] (fun i wr => ∃ (op : Nat) (v iv : Value) (t : Gr), op ≤ 5 ∧ i = .int .i64 (op : Nat) ∧ t.n ≤ 20 + 3200 * op ∧ Hid (Gn (w1.drewN nq) G M wr v iv t) ∧ Hid (HasE wr (Bg G M v iv) (some ⟨bX, 0, none⟩) k fX) ∧ Hid (HasE wr (Bg G M v iv) (some ⟨bY, 0, none⟩) l fY) ∧ Hid (Vo t k fX) ∧ Hid (Vo t l fY) ∧ Hid (num I t fX k = A) ∧ Hid (num I t fY l = B) ∧ Hid (HasBn wr (Bg G M v iv) aM (k + l) (two k a b))) (fun i _ => 5 - (intOf i).toNat)
  case atStart => exact ⟨0, v4, iv4, t4, Nat.zero_le _, rfl, by omega, G5, VX5, VY5, OX4, OY4, EX4, EY4, MO5⟩
  case round =>
    clear G5 VX5 VY5 OX4 OY4 EX4 EY4 MO5 n4
    obtain ⟨op, v, iv, t, hop, rfl, ht, HG, VX, VY, OX, OY, EX, EY, MO⟩ := hrel
    by_cases hlt : op < 5
    · have hltI : (op : Int) < 5 := by omega
      have HDo := do_any op hlt HG.out.gm (by omega) (VX.out.vc hk1 k) (VY.out.vc hl1 l) OX.out OY.out
      rw [← HNN.out] at HDo
      have HDo := Lib.hid HDo
      have HDD := Lib.hid (HD.out op hlt)
      go_wp2_with fail
      refine HDo.out.mono ?_; rintro e w6 ⟨b6, f6, v6, iv6, t6, rfl, T6, N6, U6⟩
      have G6 := Lib.hid (HG.out.next T6.out)
      have h6n : t6.n ≤ 20 + 3200 * (op + 1) := by have := U6.out.lay.n; omega
      have VX6 := Lib.hid (VX.out.next T6.out)
      have VY6 := Lib.hid (VY.out.next T6.out)
      have MO6 := Lib.hid (MO.out.next T6.out)
      have EX6 := Lib.hid (show num I t6 fX k = A by rw [num_lay OX.out U6.out.lay]; exact EX.out)
      have EY6 := Lib.hid (show num I t6 fY l = B by rw [num_lay OY.out U6.out.lay]; exact EY.out)
      have OX6 := Lib.hid (OX.out.lay U6.out.lay)
      have OY6 := Lib.hid (OY.out.lay U6.out.lay)
      have HEv := Lib.hid (eval_vec (c1 := cM) (c2 := N) G6.out.gm (by omega) MO6.out.has (by omega) N6.out.has U6.out.vo (by omega))
      go_wp2_with fail
      refine HEv.out.mono ?_; rintro e w7 ⟨a7, c7, rfl, H7⟩
      have G7 := Lib.hid (G6.out.below H7.out.1)
      have VX7 := Lib.hid (VX6.out.below H7.out.1)
      have VY7 := Lib.hid (VY6.out.below H7.out.1)
      have MO7 := Lib.hid (MO6.out.below H7.out.1)
      have HV := value_num (c := c7) H7.out.2 hN1
      rw [← hI, U6.out.val I, EX.out, EY.out] at HV
      have HV := Lib.hid HV
      clear HEv H7 U6 N6 T6 G6 VX6 VY6 MO6 HDo HG VX VY OX OY EX EY MO
      go_wp2_with fail
      refine HV.out.mono ?_; rintro e w' ⟨rfl, rfl⟩
      go_wp2_with fail
      refine (HDD.out _).mono ?_; rintro e w' ⟨rfl, rfl⟩
      go_wp2_with fail
      go_roundw
      case rel => exact ⟨op + 1, v6, iv6, t6, by omega, by go_num, h6n, G7, VX7, VY7, OX6, OY6, EX6, EY6, MO7⟩
      case measure => simp [intOf]; omega
    · obtain rfl : op = 5 := by omega
      clear hlt HD
      have n10 : t.n ≤ 16020 := by omega
      have H11 := Lib.hid (same_any HG.out.gm (by omega) (VX.out.vc hk1 k) (VY.out.vc hl1 l) OX.out OY.out)
      go_wp2_with fail
      refine H11.out.mono ?_; rintro e w11 ⟨r11, v11, iv11, t11, rfl, T11, U11⟩
      clear H11
      have n11 : t11.n ≤ 16084 := by have := U11.out.lay.n; omega
      have G11 := Lib.hid (HG.out.next T11.out)
      clear HG
      have WP11 := Lib.hid (show val I t11 r11 = decide (A = B) by rw [U11.out.val I, EX.out, EY.out])
      have LP11 := Lib.hid U11.out.lt
      have VX11 := Lib.hid (VX.out.next T11.out)
      clear VX
      have EX11 := Lib.hid (show num I t11 fX k = A by rw [num_lay OX.out U11.out.lay]; exact EX.out)
      clear EX
      have OX11 := Lib.hid (OX.out.lay U11.out.lay)
      clear OX
      have VY11 := Lib.hid (VY.out.next T11.out)
      clear VY
      have EY11 := Lib.hid (show num I t11 fY l = B by rw [num_lay OY.out U11.out.lay]; exact EY.out)
      clear EY
      have OY11 := Lib.hid (OY.out.lay U11.out.lay)
      clear OY
      have MO11 := Lib.hid (MO.out.next T11.out)
      clear MO
      clear T11 U11
      have H12 := Lib.hid (less_any G11.out.gm (by omega) (VX11.out.vc hk1 k) (VY11.out.vc hl1 l) OX11.out OY11.out)
      go_wp2_with fail
      refine H12.out.mono ?_; rintro e w12 ⟨r12, v12, iv12, t12, rfl, T12, U12⟩
      clear H12
      have n12 : t12.n ≤ 16148 := by have := U12.out.lay.n; omega
      have G12 := Lib.hid (G11.out.next T12.out)
      clear G11
      have WK12 := Lib.hid (show val I t12 r12 = decide (A < B) by rw [U12.out.val I, EX11.out, EY11.out])
      have LK12 := Lib.hid U12.out.lt
      have VX12 := Lib.hid (VX11.out.next T12.out)
      clear VX11
      have EX12 := Lib.hid (show num I t12 fX k = A by rw [num_lay OX11.out U12.out.lay]; exact EX11.out)
      clear EX11
      have OX12 := Lib.hid (OX11.out.lay U12.out.lay)
      clear OX11
      have VY12 := Lib.hid (VY11.out.next T12.out)
      clear VY11
      have EY12 := Lib.hid (show num I t12 fY l = B by rw [num_lay OY11.out U12.out.lay]; exact EY11.out)
      clear EY11
      have OY12 := Lib.hid (OY11.out.lay U12.out.lay)
      clear OY11
      have WP12 := Lib.hid (show val I t12 r11 = decide (A = B) by rw [(U12.out.lay).val LP11.out]; exact WP11.out)
      have LP12 := Lib.hid ((U12.out.lay).lt LP11.out)
      clear LP11 WP11
      have MO12 := Lib.hid (MO11.out.next T12.out)
      clear MO11
      clear T12 U12
      have H13 := Lib.hid (less_any G12.out.gm (by omega) (VY12.out.vc hl1 l) (VX12.out.vc hk1 k) OY12.out OX12.out)
      go_wp2_with fail
      refine H13.out.mono ?_; rintro e w13 ⟨r13, v13, iv13, t13, rfl, T13, U13⟩
      clear H13
      have n13 : t13.n ≤ 16212 := by have := U13.out.lay.n; omega
      have G13 := Lib.hid (G12.out.next T13.out)
      clear G12
      have WS13 := Lib.hid (show val I t13 r13 = decide (B < A) by rw [U13.out.val I, EY12.out, EX12.out])
      have LS13 := Lib.hid U13.out.lt
      have VX13 := Lib.hid (VX12.out.next T13.out)
      clear VX12
      have EX13 := Lib.hid (show num I t13 fX k = A by rw [num_lay OX12.out U13.out.lay]; exact EX12.out)
      clear EX12
      have OX13 := Lib.hid (OX12.out.lay U13.out.lay)
      clear OX12
      have VY13 := Lib.hid (VY12.out.next T13.out)
      clear VY12
      have EY13 := Lib.hid (show num I t13 fY l = B by rw [num_lay OY12.out U13.out.lay]; exact EY12.out)
      clear EY12
      have OY13 := Lib.hid (OY12.out.lay U13.out.lay)
      clear OY12
      have WP13 := Lib.hid (show val I t13 r11 = decide (A = B) by rw [(U13.out.lay).val LP12.out]; exact WP12.out)
      have LP13 := Lib.hid ((U13.out.lay).lt LP12.out)
      clear LP12 WP12
      have WK13 := Lib.hid (show val I t13 r12 = decide (A < B) by rw [(U13.out.lay).val LK12.out]; exact WK12.out)
      have LK13 := Lib.hid ((U13.out.lay).lt LK12.out)
      clear LK12 WK12
      have MO13 := Lib.hid (MO12.out.next T13.out)
      clear MO12
      clear T13 U13
      have H14 := Lib.hid (some_any G13.out.gm (by omega) (VX13.out.vc hk1 k) OX13.out)
      go_wp2_with fail
      refine H14.out.mono ?_; rintro e w14 ⟨r14, v14, iv14, t14, rfl, T14, U14⟩
      clear H14
      have n14 : t14.n ≤ 16228 := by have := U14.out.lay.n; omega
      have G14 := Lib.hid (G13.out.next T14.out)
      clear G13
      have WU14 := Lib.hid (show val I t14 r14 = decide (A ≠ 0) by rw [U14.out.val I, EX13.out])
      have LU14 := Lib.hid U14.out.lt
      have VX14 := Lib.hid (VX13.out.next T14.out)
      clear VX13
      have EX14 := Lib.hid (show num I t14 fX k = A by rw [num_lay OX13.out U14.out.lay]; exact EX13.out)
      clear EX13
      have OX14 := Lib.hid (OX13.out.lay U14.out.lay)
      clear OX13
      have VY14 := Lib.hid (VY13.out.next T14.out)
      clear VY13
      have EY14 := Lib.hid (show num I t14 fY l = B by rw [num_lay OY13.out U14.out.lay]; exact EY13.out)
      clear EY13
      have OY14 := Lib.hid (OY13.out.lay U14.out.lay)
      clear OY13
      have WP14 := Lib.hid (show val I t14 r11 = decide (A = B) by rw [(U14.out.lay).val LP13.out]; exact WP13.out)
      have LP14 := Lib.hid ((U14.out.lay).lt LP13.out)
      clear LP13 WP13
      have WK14 := Lib.hid (show val I t14 r12 = decide (A < B) by rw [(U14.out.lay).val LK13.out]; exact WK13.out)
      have LK14 := Lib.hid ((U14.out.lay).lt LK13.out)
      clear LK13 WK13
      have WS14 := Lib.hid (show val I t14 r13 = decide (B < A) by rw [(U14.out.lay).val LS13.out]; exact WS13.out)
      have LS14 := Lib.hid ((U14.out.lay).lt LS13.out)
      clear LS13 WS13
      have MO14 := Lib.hid (MO13.out.next T14.out)
      clear MO13
      clear T14 U14
      clear VX14 OX14 EX14
      clear VY14 OY14 EY14
      have hbl : Below w14.heap.size w14 (w14.alloc (.cells #[.int .i64 (r11 : Nat), .int .i64 (r12 : Nat), .int .i64 (r13 : Nat), .int .i64 (r14 : Nat)] 3)) := (Below.refl _ w14).alloc (Nat.le_refl _) _
      have G15 := Lib.hid (G14.out.below hbl)
      clear G14
      have MO15 := Lib.hid (MO14.out.below hbl)
      have HEv := Lib.hid (eval_vec (c1 := cM) (c2 := 4) G15.out.gm (by omega) MO15.out.has (by omega) (hasE_new w14 #[.int .i64 (r11 : Nat), .int .i64 (r12 : Nat), .int .i64 (r13 : Nat), .int .i64 (r14 : Nat)] 4 (fun j => if j = 0 then r11 else if j = 1 then r12 else if j = 2 then r13 else r14) rfl (fun j hj => by
        match j, hj with
        | 0, _ | 1, _ | 2, _ | 3, _ => rfl)) (fun j hj => by
        match j, hj with
        | 0, _ => exact LP14.out
        | 1, _ => exact LK14.out
        | 2, _ => exact LS14.out
        | 3, _ => exact LU14.out) (by omega))
      clear hbl
      go_wp2_with fail
      refine HEv.out.mono ?_; rintro e wE ⟨aE, cE, rfl, HE⟩
      obtain ⟨be, oe, rfl, he⟩ := HE.out.2.get (by omega)
      have x0 : wE.cell? ⟨be, oe, none⟩ = some (.bool (decide (A = B))) := by
        have h := he 0 (by omega)
        rw [Nat.add_zero] at h
        rw [h]; show some (Value.bool (val (mdl (two k a b) (k + l)) t14 r11)) = _; rw [← hI, WP14.out]
      have x1 : wE.cell? ⟨be, oe + 1, none⟩ = some (.bool (decide (A < B))) := by
        have h := he 1 (by omega)
        rw [h]; show some (Value.bool (val (mdl (two k a b) (k + l)) t14 r12)) = _; rw [← hI, WK14.out]
      have x2 : wE.cell? ⟨be, oe + 2, none⟩ = some (.bool (decide (B < A))) := by
        have h := he 2 (by omega)
        rw [h]; show some (Value.bool (val (mdl (two k a b) (k + l)) t14 r13)) = _; rw [← hI, WS14.out]
      have x3 : wE.cell? ⟨be, oe + 3, none⟩ = some (.bool (decide (A ≠ 0))) := by
        have h := he 3 (by omega)
        rw [h]; show some (Value.bool (val (mdl (two k a b) (k + l)) t14 r14)) = _; rw [← hI, WU14.out]
      have GZ := Lib.hid (G15.out.below HE.out.1)
      clear G15
      clear he HEv HE
      have a0 : A = 0 ∨ A ≠ 0 := by omega
      rcases a0 with ha0 | ha0
      all_goals
        first
          | (have b0 : (A != 0) = false := by simp [ha0]
             have b1 : (A == 0) = true := by simp [ha0]
             have y3 : decide (A ≠ 0) = false := by simp [ha0]
             rw [y3] at x3
             clear ha0 y3)
          | (have b0 : (A != 0) = true := by simp [ha0]
             have y3 : decide (A ≠ 0) = true := by simp [ha0]
             rw [y3] at x3)
        rcases Int.lt_trichotomy A B with h | h | h
        · have y0 : decide (A = B) = false := by simp; omega
          have y1 : decide (A < B) = true := by simp; omega
          have y2 : decide (B < A) = false := by simp; omega
          have z0 : (A == B) = false := by simp; omega
          rw [y0] at x0
          rw [y1] at x1
          rw [y2] at x2
          have i1 : ¬ A = B := by omega
          have i2 : ¬ B < A := by omega
          go_wp2_with fail
          go_ret
          exact ⟨rfl, law_new HB1.out GZ.out⟩
        · have y0 : decide (A = B) = true := by simp; omega
          have y1 : decide (A < B) = false := by simp; omega
          have y2 : decide (B < A) = false := by simp; omega
          have z0 : (A == B) = true := by simp; omega
          rw [y0] at x0
          rw [y1] at x1
          rw [y2] at x2
          have i1 : ¬ A < B := by omega
          have i2 : ¬ B < A := by omega
          clear h
          go_wp2_with fail
          go_ret
          exact ⟨rfl, law_new HB1.out GZ.out⟩
        · have y0 : decide (A = B) = false := by simp; omega
          have y1 : decide (A < B) = false := by simp; omega
          have y2 : decide (B < A) = true := by simp; omega
          have z0 : (A == B) = false := by simp; omega
          rw [y0] at x0
          rw [y1] at x1
          rw [y2] at x2
          have i1 : ¬ A = B := by omega
          have i2 : ¬ A < B := by omega
          go_wp2_with fail
          go_ret
          exact ⟨rfl, law_new HB1.out GZ.out⟩
end Go.Proofs.Ytepafgmiloncgaa
