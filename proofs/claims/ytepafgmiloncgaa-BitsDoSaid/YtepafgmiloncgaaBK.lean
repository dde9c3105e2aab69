/- Contracts: Mul. -/
import Derived.Test.YtepafgmiloncgaaBG
import Derived.Test.YtepafgmiloncgaaMG
namespace Go.Proofs.Ytepafgmiloncgaa
open Go.RowKit Go.Lib Go.Maps
set_option maxRecDepth 100000

theorem toNat_bit0 (j : Nat) : (bit 0 j).toNat = 0 := by rw [bit_zero]; rfl
section
variable {w w1 w2 : World} {G M b : Nat} {v iv v1 iv1 v2 iv2 : Value} {s s1 s2 : Gr} {f f' : Nat → Nat}
theorem Nv.setNe {B : Nat → Prop} {n k : Nat} (h : Nv w w1 B b n f) {c : Nat} (hc : c ≠ b) (x : Value) : Nv w (w1.setCell ⟨c, k, none⟩ x) B b n f :=
  ⟨h.new, h.nb, h.row.of_block (Below.heap_setCell _ _ _ _ fun e => hc e.symm)⟩
set_option maxHeartbeats 4000000 in
/-- Mul -/
theorem mul_any (hG : Gm w G M v iv s) (hs : s.n ≤ 80000) {va vb : Value} {n m : Nat} {g h : Nat → Nat} (ha : Vc w (Bg G M v iv) va n g) (hb : Vc w (Bg G M v iv) vb m h) (hg : Vo s n g) (hh : Vo s m h) :
    Calls Try.prog 31 #[.pointer (some ⟨G, 0, none⟩), va, vb] w (NuR w G M v iv s 3200 (max n m) (fun I => trm (max n m) (num I s g n * num I s h m))) := by
  have hn := ha.len
  have hm := hb.len
  have HL := Lib.hid (level_any ha.weak hb.weak)
  unfold LevR at HL
  obtain ⟨N, hN⟩ : ∃ N, N = max n m := ⟨_, rfl⟩
  rw [← hN] at HL ⊢
  have hN1 : 1 ≤ N ∧ N ≤ 16 := by omega
  obtain ⟨A, hA⟩ : ∃ A, A = extv n g := ⟨_, rfl⟩
  obtain ⟨B, hB⟩ : ∃ B, B = extv m h := ⟨_, rfl⟩
  rw [← hA, ← hB] at HL
  have HA := Lib.hid (show Vo s N A by rw [hA]; exact hg.ext (by omega))
  have HB := Lib.hid (show Vo s N B by rw [hB]; exact hh.ext (by omega))
  have HE := Lib.hid (show ∀ I, num I s A N = num I s g n ∧ num I s B N = num I s h m from fun I => by rw [hA, hB]; exact ⟨num_up (by omega) (by omega) I, num_up (by omega) (by omega) I⟩)
  have HG := Lib.hid hG
  have HM0 := Lib.hid (ML.start hG.ok N A B (fun j => (bit 0 j).toNat) toNat_bit0)
  have HNN := Lib.hid (show ∀ k, k ≤ N → 8 * N * k ≤ 2048 from fun k hk => Nat.mul_le_mul (show 8 * N ≤ 128 by omega) (show k ≤ 16 by omega))
  clear hG ha hb hg hh hN hA hB
  go_enter Try.func31, Try.ntmps31
  go_wp2_with fail
  refine HL.out.mono ?_; rintro e w1 ⟨b1, b2, rfl, H1⟩
  clear HL
  go_wp2_with fail
  refine (const_nw 0 N hN1 _).mono ?_; rintro e w2 ⟨bp, rfl, H2⟩
  have T2 := Lib.hid ((HG.out.refl.below H1.out.1.bel).below H2.out.bel)
  have XA2 := Lib.hid ((H1.out.1.nv HG.out).below H2.out.bel)
  have XB2 := Lib.hid ((H1.out.2.1.nv HG.out).below H2.out.bel)
  have NP2 := Lib.hid ((H2.out.nv (HG.out.below H1.out.1.bel)).pre H1.out.1.bel.size)
  clear H1 H2
  go_wp2_with fail
  go_loopw [8, 23] (fun p i wr => ∃ (k bp : Nat) (fp : Nat → Nat) (v' iv' : Value) (t : Gr), k ≤ N ∧ p = .slice (some ⟨bp, 0, none⟩) N N ∧ i = .int .i64 k ∧ Hid (GmT G M w v iv wr v' iv' t) ∧ Hid (Nv w wr (Bg G M v' iv') b1 N A) ∧ Hid (Nv w wr (Bg G M v' iv') b2 N B) ∧ Hid (Nv w wr (Bg G M v' iv') bp N fp) ∧ Hid (ML s t N A B k fp)) (fun _ i _ => N - (intOf i).toNat)
  case atStart => exact ⟨0, bp, _, v, iv, s, Nat.zero_le _, rfl, rfl, T2, XA2, XB2, NP2, HM0⟩
  case round =>
    obtain ⟨k, bp, fp, v', iv', t, hk, rfl, rfl, HT, XA, XB, NP, HM⟩ := hrel
    by_cases hlt : k < N
    · have hltI : (k : Int) < (N : Int) := by omega
      obtain ⟨J, hJ⟩ : ∃ J, J = N - k := ⟨_, rfl⟩
      have hJI : (N : Int) - (k : Int) = (J : Int) := by omega
      have htn : t.n ≤ 80000 + 2048 := by have h1 := HM.out.lay.n; have h2 := HNN.out k hk; omega
      have HJ := Lib.hid hJ
      clear hJ
      go_wp2_with fail
      refine (const_nw 0 N hN1 _).mono ?_; rintro e w3 ⟨bz, rfl, H3⟩
      have T3 := Lib.hid (HT.out.below H3.out.bel)
      have XA3 := Lib.hid (XA.out.below H3.out.bel)
      have XB3 := Lib.hid (XB.out.below H3.out.bel)
      have NP3 := Lib.hid (NP.out.below H3.out.bel)
      have NZ3 := Lib.hid ((H3.out.nv HT.out.gm).pre HT.out.fr.size)
      have HP0 := Lib.hid (PartS.start HM.out.lay.ok N A (B k) k (fun j => (bit 0 j).toNat) toNat_bit0)
      have hne1 : bz ≠ b1 := by have := H3.out.new; have := XA.out.row.lt; omega
      have hne2 : bz ≠ b2 := by have := H3.out.new; have := XB.out.row.lt; omega
      have hne3 : bz ≠ bp := by have := H3.out.new; have := NP.out.row.lt; omega
      have HNE := Lib.hid (And.intro hne1 (And.intro hne2 hne3))
      clear H3 hne1 hne2 hne3
      go_wp2_with fail
      go_loopw [31] (fun i wr => ∃ (j : Nat) (f : Nat → Nat) (v' iv' : Value) (u : Gr), j ≤ J ∧ i = .int .i64 j ∧ Hid (GmT G M w v iv wr v' iv' u) ∧ Hid (Nv w wr (Bg G M v' iv') b1 N A) ∧ Hid (Nv w wr (Bg G M v' iv') b2 N B) ∧ Hid (Nv w wr (Bg G M v' iv') bp N fp) ∧ Hid (Nv w wr (Bg G M v' iv') bz N f) ∧ Hid (PartS t u N A (B k) k j f)) (fun i _ => J - (intOf i).toNat)
      case atStart => exact ⟨0, _, v', iv', t, Nat.zero_le _, rfl, T3, XA3, XB3, NP3, NZ3, HP0⟩
      case round =>
        clear T3 XA3 XB3 NP3 NZ3 HP0 HT XA XB NP
        obtain ⟨j, f, v', iv', u, hj, rfl, HT, XA, XB, NP, NZ, HP⟩ := hrel
        by_cases hjl : j < J
        · have hjlI : (j : Int) < (J : Int) := by omega
          have hkj : k + j < N := by have := HJ.out; omega
          have hjN : j < N := by omega
          have hut := HP.out.lay.n
          have x1 := XA.out.row.cell hjN
          have x2 := XB.out.row.cell hlt
          have y1 := NZ.out.row.cell hkj
          have y2 := NZ.out.row.frozen (k + j)
          have HTd := Lib.hid (HT.out.below (Below.refl _ wr).drew)
          have hw1 : IntKind.i64.wrap ((k : Int) + (j : Int)) = ((k + j : Nat) : Int) := by rw [IntWalk.i64_in _ (by omega)]; simp
          have hAnd := Lib.hid (show Calls Try.prog 40 #[.pointer (some ⟨G, 0, none⟩), .int .i64 (A j : Nat), .int .i64 (B k : Nat)] wr.drew fun e w3 => ∃ (r : Nat) (v3 iv3 : Value) (u3 : Gr), e = .returned (.int .i64 (r : Nat)) ∧ w3.cell? ⟨bz, k + j, none⟩ = some (.int .i64 (f (k + j) : Nat)) ∧ w3.frozen? ⟨bz, k + j, none⟩ = false ∧ Hid (GmT G M w v iv (w3.setCell ⟨bz, k + j, none⟩ (.int .i64 (r : Nat))) v3 iv3 u3) ∧ Hid (Nv w (w3.setCell ⟨bz, k + j, none⟩ (.int .i64 (r : Nat))) (Bg G M v3 iv3) b1 N A) ∧ Hid (Nv w (w3.setCell ⟨bz, k + j, none⟩ (.int .i64 (r : Nat))) (Bg G M v3 iv3) b2 N B) ∧ Hid (Nv w (w3.setCell ⟨bz, k + j, none⟩ (.int .i64 (r : Nat))) (Bg G M v3 iv3) bp N fp) ∧ Hid (Nv w (w3.setCell ⟨bz, k + j, none⟩ (.int .i64 (r : Nat))) (Bg G M v3 iv3) bz N (fun i => if i = k + j then r else f i)) ∧ Hid (PartS t u3 N A (B k) k (j + 1) (fun i => if i = k + j then r else f i)) from by
            have hb := HB.out.lay HM.out.lay
            have ha := HA.out.lay HM.out.lay
            have h := and_rel HTd.out.gm (by omega) (HP.out.lay.lt (ha j hjN)) (HP.out.lay.lt (hb k hlt))
            refine h.mono fun e w3 ⟨r, v3, iv3, u3, he, T, E⟩ => ?_
            have N1 := (XA.out.below (Below.refl _ wr).drew).next T.out
            have N2 := (XB.out.below (Below.refl _ wr).drew).next T.out
            have N3 := (NP.out.below (Below.refl _ wr).drew).next T.out
            have N4 := (NZ.out.below (Below.refl _ wr).drew).next T.out
            exact ⟨r, v3, iv3, u3, he, N4.row.cell hkj, N4.row.frozen _, Lib.hid ((HTd.out.trans T.out).setNew (p := ⟨bz, k + j, none⟩) N4.nb N4.new _), Lib.hid (N1.setNe HNE.out.1 _), Lib.hid (N2.setNe HNE.out.2.1 _), Lib.hid (N3.setNe HNE.out.2.2 _), Lib.hid (N4.set (k + j) r), Lib.hid (HP.out.step hkj ha (hb k hlt) E.out)⟩)
          clear hut
          generalize A j = aj at *
          generalize B k = bk at *
          go_wp2_with fail
          go_region_with (go_at_call 40; refine hAnd.out.mono ?_; rintro e w3 ⟨r, v3, iv3, u3, rfl, z1, z2, T3, A3, B3, P3, Z3, S3⟩)
          all_goals
            go_wp2_with fail
            go_roundw
            case rel => exact ⟨j + 1, _, v3, iv3, u3, by omega, by go_num, T3, A3, B3, P3, Z3, S3⟩
            case measure => simp [intOf]; omega
        · obtain rfl : j = J := by omega
          have hjlI : ¬ (j : Int) < (j : Int) := by omega
          have hun := HP.out.lay.n
          have hP := plus_any (c1 := N) (c2 := N) HT.out.gm (by have := HJ.out; omega) hN1.2 NP.out.has NZ.out.has (HM.out.vo.lay HP.out.lay) HP.out.vo (c0 := 0) (by omega)
          have HPl := Lib.hid hP
          clear hjl
          go_wp2_with fail
          refine HPl.out.mono ?_; rintro e w5 ⟨b5, cy, f5, v5, iv5, t5, rfl, T5, N5, S5⟩
          have HMN := Lib.hid (show ML s t5 N A B (k + 1) f5 from HM.out.step hlt HA.out HB.out (by rw [← HJ.out]; exact HP.out) S5.out)
          have TN := Lib.hid (HT.out.trans T5.out)
          have AN := Lib.hid (XA.out.next T5.out)
          have BN := Lib.hid (XB.out.next T5.out)
          have PN := Lib.hid (N5.out.pre HT.out.fr.size)
          go_wp2_with fail
          go_roundw
          case rel => exact ⟨k + 1, b5, f5, v5, iv5, t5, by omega, rfl, by go_num, TN, AN, BN, PN, HMN⟩
          case measure => simp [intOf]; omega
    · obtain rfl : k = N := by omega
      have hltI : ¬ (k : Int) < (k : Int) := by omega
      clear hlt
      go_wp2_with fail
      go_ret
      exact ⟨_, fp, v', iv', t, rfl, HT, NP, Lib.hid ⟨HM.out.lay.le (by have := HNN.out k hk; omega), HM.out.vo, fun I => by rw [HM.out.num I, (HE.out I).1, (HE.out I).2]⟩⟩
end
end Go.Proofs.Ytepafgmiloncgaa
