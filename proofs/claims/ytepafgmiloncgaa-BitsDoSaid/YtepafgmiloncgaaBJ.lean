/- Contracts: Div, Rem. -/
import Derived.Test.YtepafgmiloncgaaBI
import Derived.Test.YtepafgmiloncgaaMF
namespace Go.Proofs.Ytepafgmiloncgaa
open Go.RowKit Go.Lib Go.Maps
set_option maxRecDepth 100000

section
variable {w w1 w2 : World} {G M b : Nat} {v iv v1 iv1 v2 iv2 : Value} {s s1 s2 : Gr} {f f' : Nat → Nat}
theorem div_lay {s s2 s3 s4 s5 s6 s7 s9 : Gr} {N : Nat} (hN : N ≤ 16) (a : Lay s s2 (10 * N)) (b : Lay s2 s3 (10 * N)) (c : Lay s3 s4 (10 * N * N)) (d : Lay s4 s5 3) (e : Lay s5 s6 (10 * N)) (f : Lay s6 s7 N) (g : Lay s7 s9 (3 * N)) : Lay s s9 3200 := by
  have h : 10 * N * N ≤ 10 * 16 * 16 := Nat.mul_le_mul (by omega) hN
  exact ((((((a.trans b).trans c).trans d).trans e).trans f).trans g).le (by omega)
set_option maxHeartbeats 4000000 in
/-- Div -/
theorem div_any (hG : Gm w G M v iv s) (hs : s.n ≤ 80000) {va vb : Value} {n m : Nat} {g h : Nat → Nat} (ha : Vc w (Bg G M v iv) va n g) (hb : Vc w (Bg G M v iv) vb m h) (hg : Vo s n g) (hh : Vo s m h) :
    Calls Try.prog 32 #[.pointer (some ⟨G, 0, none⟩), va, vb] w (NuR w G M v iv s 3200 (max n m) (fun I => trm (max n m) (quo (num I s g n) (num I s h m)))) := by
  have hn := ha.len
  have hm := hb.len
  have HL := Lib.hid (level_any ha.weak hb.weak)
  unfold LevR at HL
  obtain ⟨N, hN⟩ : ∃ N, N = max n m := ⟨_, rfl⟩
  rw [← hN] at HL ⊢
  have hN1 : 1 ≤ N ∧ N ≤ 16 := by omega
  obtain ⟨A, hA⟩ : ∃ A, A = extv n g := ⟨_, rfl⟩
  obtain ⟨B, hB⟩ : ∃ B, B = extv m h := ⟨_, rfl⟩
  rw [← hA, ← hB] at HL
  have HA := Lib.hid (show Vo s N A by rw [hA]; exact hg.ext (by omega))
  have HB := Lib.hid (show Vo s N B by rw [hB]; exact hh.ext (by omega))
  have HE := Lib.hid (show ∀ I, num I s A N = num I s g n ∧ num I s B N = num I s h m from fun I => by rw [hA, hB]; exact ⟨num_up (by omega) (by omega) I, num_up (by omega) (by omega) I⟩)
  have HG := Lib.hid hG
  have HNN := Lib.hid (show 10 * N * N ≤ 2560 from Nat.mul_le_mul (show 10 * N ≤ 160 by omega) hN1.2)
  clear hG ha hb hg hh hN hA hB
  go_enter Try.func32, Try.ntmps32
  go_wp2_with fail
  refine HL.out.mono ?_; rintro e w1 ⟨b1, b2, rfl, H1⟩
  have T1 := Lib.hid (HG.out.refl.below H1.out.1.bel)
  have XA1 := Lib.hid (H1.out.1.nv HG.out)
  have XB1 := Lib.hid (H1.out.2.1.nv HG.out)
  clear HL
  go_wp2_with fail
  refine (magnitude_any (c1 := N) T1.out.gm (by omega) hN1 XA1.out.has HA.out).mono ?_; rintro e w2 ⟨ba, fa, v2, iv2, t2, rfl, T2, NA, UA⟩
  have P2 := Lib.hid (T1.out.trans T2.out)
  have XA2 := Lib.hid (XA1.out.next T2.out)
  have XB2 := Lib.hid (XB1.out.next T2.out)
  have n2 := UA.out.lay.n
  clear H1
  go_wp2_with fail
  refine (magnitude_any (c1 := N) P2.out.gm (by omega) hN1 XB2.out.has (HB.out.lay UA.out.lay)).mono ?_; rintro e w3 ⟨bb, fb, v3, iv3, t3, rfl, T3, NB, UB⟩
  have P3 := Lib.hid (P2.out.trans T3.out)
  have XA3 := Lib.hid (XA2.out.next T3.out)
  have XB3 := Lib.hid (XB2.out.next T3.out)
  have NA3 := Lib.hid (NA.out.next T3.out)
  have n3 := UB.out.lay.n
  go_wp2_with fail
  refine (divide_any P3.out.gm (by omega) hN1 NA3.out.has NB.out.has (UA.out.vo.lay UB.out.lay) UB.out.vo).mono ?_; rintro e w4 ⟨bq, br, fq, fr, v4, iv4, t4, rfl, T4, NQ, NR, D⟩
  have P4 := Lib.hid (P3.out.trans T4.out)
  have XA4 := Lib.hid (XA3.out.next T4.out)
  have XB4 := Lib.hid (XB3.out.next T4.out)
  have n4 : t4.n ≤ t3.n + 2560 := by have := D.out.lay.n; have := HNN.out; omega
  have HA4 := Lib.hid (HA.out.lay ((UA.out.lay.trans UB.out.lay).trans D.out.lay))
  have HB4 := Lib.hid (HB.out.lay ((UA.out.lay.trans UB.out.lay).trans D.out.lay))
  go_wp2_with fail
  refine (sign_any (c := N) XA4.out.has hN1).mono ?_; rintro e w' ⟨rfl, rfl⟩
  go_wp2_with fail
  refine (sign_any (c := N) XB4.out.has hN1).mono ?_; rintro e w' ⟨rfl, rfl⟩
  go_wp2_with fail
  refine (xor_rel P4.out.gm (by omega) (HA4.out (N - 1) (by omega)) (HB4.out (N - 1) (by omega))).mono ?_; rintro e w5 ⟨rx, v5, iv5, t5, rfl, T5, EX⟩
  have P5 := Lib.hid (P4.out.trans T5.out)
  have XB5 := Lib.hid (XB4.out.next T5.out)
  have NQ5 := Lib.hid (NQ.out.next T5.out)
  have n5 := EX.out.lay.n
  go_wp2_with fail
  refine (negateIf_any (c1 := N) P5.out.gm (by omega) hN1 NQ5.out.has (D.out.voq.lay EX.out.lay) EX.out.lt).mono ?_; rintro e w6 ⟨bs, fs, v6, iv6, t6, rfl, T6, NS, US⟩
  have P6 := Lib.hid (P5.out.trans T6.out)
  have XB6 := Lib.hid (XB5.out.next T6.out)
  have n6 := US.out.lay.n
  go_wp2_with fail
  refine (some_any P6.out.gm (by omega) (XB6.out.has.vc hN1 N) (HB4.out.lay (EX.out.lay.trans US.out.lay))).mono ?_; rintro e w7 ⟨rs, v7, iv7, t7, rfl, T7, ES⟩
  have P7 := Lib.hid (P6.out.trans T7.out)
  have NS7 := Lib.hid (NS.out.next T7.out)
  have n7 := ES.out.lay.n
  go_wp2_with fail
  refine (const_nw 0 N hN1 _).mono ?_; rintro e w8 ⟨bz, rfl, HZ⟩
  have P8 := Lib.hid (P7.out.below HZ.out.bel)
  have NS8 := Lib.hid (NS7.out.below HZ.out.bel)
  have NZ := Lib.hid (HZ.out.nv P7.out.gm)
  have HM := muxv_any P8.out.gm (by omega) (NS8.out.has.vc hN1 N) (NZ.out.has.vc hN1 N) (US.out.vo.lay ES.out.lay) (Vo.const t7 N _) ES.out.lt
  rw [Nat.max_self] at HM
  have HM := Lib.hid HM
  go_wp2_with fail
  refine HM.out.mono ?_; rintro e w9 ⟨bm, fm, v9, iv9, t9, rfl, T9, NM, UM⟩
  go_wp2_with fail
  go_ret
  refine ⟨_, fm, v9, iv9, t9, rfl, Lib.hid (P8.out.trans T9.out), Lib.hid (NM.out.pre P8.out.fr.size), Lib.hid ⟨div_lay hN1.2 UA.out.lay UB.out.lay D.out.lay EX.out.lay US.out.lay ES.out.lay UM.out.lay, UM.out.vo, fun I => ?_⟩⟩
  have := div_math (by omega) HA.out HB.out UA.out UB.out D.out EX.out US.out ES.out (fun I => by rw [num_bit, trm_zero (by omega)]) UM.out I
  rw [(HE.out I).1, (HE.out I).2] at this
  exact this
theorem rem_lay {s s2 s3 s4 s6 s7 s9 : Gr} {N : Nat} (hN : N ≤ 16) (a : Lay s s2 (10 * N)) (b : Lay s2 s3 (10 * N)) (c : Lay s3 s4 (10 * N * N)) (e : Lay s4 s6 (10 * N)) (f : Lay s6 s7 N) (g : Lay s7 s9 (3 * N)) : Lay s s9 3200 := by
  have h : 10 * N * N ≤ 10 * 16 * 16 := Nat.mul_le_mul (by omega) hN
  exact (((((a.trans b).trans c).trans e).trans f).trans g).le (by omega)
set_option maxHeartbeats 4000000 in
/-- Rem -/
theorem rem_any (hG : Gm w G M v iv s) (hs : s.n ≤ 80000) {va vb : Value} {n m : Nat} {g h : Nat → Nat} (ha : Vc w (Bg G M v iv) va n g) (hb : Vc w (Bg G M v iv) vb m h) (hg : Vo s n g) (hh : Vo s m h) :
    Calls Try.prog 33 #[.pointer (some ⟨G, 0, none⟩), va, vb] w (NuR w G M v iv s 3200 (max n m) (fun I => trm (max n m) (rmd (num I s g n) (num I s h m)))) := by
  have hn := ha.len
  have hm := hb.len
  have HL := Lib.hid (level_any ha.weak hb.weak)
  unfold LevR at HL
  obtain ⟨N, hN⟩ : ∃ N, N = max n m := ⟨_, rfl⟩
  rw [← hN] at HL ⊢
  have hN1 : 1 ≤ N ∧ N ≤ 16 := by omega
  obtain ⟨A, hA⟩ : ∃ A, A = extv n g := ⟨_, rfl⟩
  obtain ⟨B, hB⟩ : ∃ B, B = extv m h := ⟨_, rfl⟩
  rw [← hA, ← hB] at HL
  have HA := Lib.hid (show Vo s N A by rw [hA]; exact hg.ext (by omega))
  have HB := Lib.hid (show Vo s N B by rw [hB]; exact hh.ext (by omega))
  have HE := Lib.hid (show ∀ I, num I s A N = num I s g n ∧ num I s B N = num I s h m from fun I => by rw [hA, hB]; exact ⟨num_up (by omega) (by omega) I, num_up (by omega) (by omega) I⟩)
  have HG := Lib.hid hG
  have HNN := Lib.hid (show 10 * N * N ≤ 2560 from Nat.mul_le_mul (show 10 * N ≤ 160 by omega) hN1.2)
  clear hG ha hb hg hh hN hA hB
  go_enter Try.func33, Try.ntmps33
  go_wp2_with fail
  refine HL.out.mono ?_; rintro e w1 ⟨b1, b2, rfl, H1⟩
  have T1 := Lib.hid (HG.out.refl.below H1.out.1.bel)
  have XA1 := Lib.hid (H1.out.1.nv HG.out)
  have XB1 := Lib.hid (H1.out.2.1.nv HG.out)
  clear HL
  go_wp2_with fail
  refine (magnitude_any (c1 := N) T1.out.gm (by omega) hN1 XA1.out.has HA.out).mono ?_; rintro e w2 ⟨ba, fa, v2, iv2, t2, rfl, T2, NA, UA⟩
  have P2 := Lib.hid (T1.out.trans T2.out)
  have XA2 := Lib.hid (XA1.out.next T2.out)
  have XB2 := Lib.hid (XB1.out.next T2.out)
  have n2 := UA.out.lay.n
  clear H1
  go_wp2_with fail
  refine (magnitude_any (c1 := N) P2.out.gm (by omega) hN1 XB2.out.has (HB.out.lay UA.out.lay)).mono ?_; rintro e w3 ⟨bb, fb, v3, iv3, t3, rfl, T3, NB, UB⟩
  have P3 := Lib.hid (P2.out.trans T3.out)
  have XA3 := Lib.hid (XA2.out.next T3.out)
  have XB3 := Lib.hid (XB2.out.next T3.out)
  have NA3 := Lib.hid (NA.out.next T3.out)
  have n3 := UB.out.lay.n
  go_wp2_with fail
  refine (divide_any P3.out.gm (by omega) hN1 NA3.out.has NB.out.has (UA.out.vo.lay UB.out.lay) UB.out.vo).mono ?_; rintro e w4 ⟨bq, br, fq, fr, v4, iv4, t4, rfl, T4, NQ, NR, D⟩
  have P4 := Lib.hid (P3.out.trans T4.out)
  have XA4 := Lib.hid (XA3.out.next T4.out)
  have XB4 := Lib.hid (XB3.out.next T4.out)
  have n4 : t4.n ≤ t3.n + 2560 := by have := D.out.lay.n; have := HNN.out; omega
  have HA4 := Lib.hid (HA.out.lay ((UA.out.lay.trans UB.out.lay).trans D.out.lay))
  have HB4 := Lib.hid (HB.out.lay ((UA.out.lay.trans UB.out.lay).trans D.out.lay))
  go_wp2_with fail
  refine (sign_any (c := N) XA4.out.has hN1).mono ?_; rintro e w' ⟨rfl, rfl⟩
  go_wp2_with fail
  refine (negateIf_any (c1 := N) P4.out.gm (by omega) hN1 NR.out.has D.out.vor (HA4.out (N - 1) (by omega))).mono ?_; rintro e w6 ⟨bs, fs, v6, iv6, t6, rfl, T6, NS, US⟩
  have P6 := Lib.hid (P4.out.trans T6.out)
  have XB6 := Lib.hid (XB4.out.next T6.out)
  have n6 := US.out.lay.n
  go_wp2_with fail
  refine (some_any P6.out.gm (by omega) (XB6.out.has.vc hN1 N) (HB4.out.lay US.out.lay)).mono ?_; rintro e w7 ⟨rs, v7, iv7, t7, rfl, T7, ES⟩
  have P7 := Lib.hid (P6.out.trans T7.out)
  have NS7 := Lib.hid (NS.out.next T7.out)
  have n7 := ES.out.lay.n
  go_wp2_with fail
  refine (const_nw 0 N hN1 _).mono ?_; rintro e w8 ⟨bz, rfl, HZ⟩
  have P8 := Lib.hid (P7.out.below HZ.out.bel)
  have NS8 := Lib.hid (NS7.out.below HZ.out.bel)
  have NZ := Lib.hid (HZ.out.nv P7.out.gm)
  have HM := muxv_any P8.out.gm (by omega) (NS8.out.has.vc hN1 N) (NZ.out.has.vc hN1 N) (US.out.vo.lay ES.out.lay) (Vo.const t7 N _) ES.out.lt
  rw [Nat.max_self] at HM
  have HM := Lib.hid HM
  go_wp2_with fail
  refine HM.out.mono ?_; rintro e w9 ⟨bm, fm, v9, iv9, t9, rfl, T9, NM, UM⟩
  go_wp2_with fail
  go_ret
  refine ⟨_, fm, v9, iv9, t9, rfl, Lib.hid (P8.out.trans T9.out), Lib.hid (NM.out.pre P8.out.fr.size), Lib.hid ⟨rem_lay hN1.2 UA.out.lay UB.out.lay D.out.lay US.out.lay ES.out.lay UM.out.lay, UM.out.vo, fun I => ?_⟩⟩
  have := rem_math (by omega) HA.out HB.out UA.out UB.out D.out US.out ES.out (fun I => by rw [num_bit, trm_zero (by omega)]) UM.out I
  rw [(HE.out I).1, (HE.out I).2] at this
  exact this
end
end Go.Proofs.Ytepafgmiloncgaa
