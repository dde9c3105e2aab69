/- The law BitsConst. -/
import Derived.Test.YtepafgmiloncgaaLB
import Derived.Test.YtepafgmiloncgaaLK
namespace Go.Proofs.Ytepafgmiloncgaa
open Go.RowKit Go.Lib Go.Maps
set_option maxRecDepth 100000

set_option maxHeartbeats 4000000 in
theorem constLaw (a b : Int) (ha : -9223372036854775808 ≤ a ∧ a ≤ 9223372036854775807) (hb : -9223372036854775808 ≤ b ∧ b ≤ 9223372036854775807) (x : Nat) (hx : x ≤ 255) (w : World) : Calls Try.prog 4 #[.int .i64 a, .int .i64 b, .int .u8 x] w (Law w) := by
  have HAw := Lib.hid awake_any
  have HN := Lib.hid new_any
  obtain ⟨k, hk⟩ : ∃ k, k = 1 + x % 16 := ⟨_, rfl⟩
  have hk1 : 1 ≤ k ∧ k ≤ 16 := by omega
  have e1 : IntKind.i64.wrap (1 + (x : Int) % 16) = (k : Int) := by rw [IntWalk.i64_in _ (by omega)]; omega
  have e3 : (1 + (x : Int) % 16) = (k : Int) := by omega
  have HRa := Lib.hid (fun W => rtrim_in a ha k hk1 W)
  have HRb := Lib.hid (fun W => rtrim_in b hb k hk1 W)
  have hA := trm_small hk1 a
  have hB := trm_small hk1 b
  have HD := Lib.hid (fun (op : Nat) (hop : op < 5) (W : World) => rdo_any op hop (trm k a) (trm k b) hA hB k hk1 W)
  clear hk ha hb
  go_enter Try.func4, Try.ntmps4
  go_wp2_with fail
  refine (HAw.out _).mono ?_; rintro e w1 ⟨rfl, hb1⟩
  have HB1 := Lib.hid hb1
  clear hb1
  go_wp2_with fail
  refine (HN.out _).mono ?_; rintro e w2 ⟨G, M, v2, iv2, rfl, G2⟩
  go_wp2_with fail
  refine (const_nw a k hk1 w2).mono ?_; rintro e w3 ⟨bX, rfl, N3⟩
  have G3 := Lib.hid (G2.out.below N3.out.bel)
  have VX3 := Lib.hid (N3.out.nv G2.out.gm).has
  go_wp2_with fail
  refine (const_nw b k hk1 w3).mono ?_; rintro e w4 ⟨bY, rfl, N4⟩
  have G4 := Lib.hid (G3.out.below N4.out.bel)
  have VX4 := Lib.hid (VX3.out.below N4.out.bel)
  have VY4 := Lib.hid (N4.out.nv G3.out.gm).has
  clear N3 N4 VX3 G2 G3
  go_wp2_with fail
  refine (HRa.out _).mono ?_; rintro e w' ⟨rfl, rfl⟩
  go_wp2_with fail
  refine (HRb.out _).mono ?_; rintro e w' ⟨rfl, rfl⟩
  obtain ⟨A, hAA⟩ : ∃ A, A = trm k a := ⟨_, rfl⟩
  obtain ⟨B, hBB⟩ : ∃ B, B = trm k b := ⟨_, rfl⟩
  have HAA := Lib.hid hAA
  have HBB := Lib.hid hBB
  rw [← hAA, ← hBB] at HD
  simp only [← hAA, ← hBB]
  clear hAA hBB hA hB
  go_wp2_with fail
  go_loopw [11] (fun i wr => ∃ (op : Nat) (v iv : Value) (t : Gr), op ≤ 5 ∧ i = .int .i64 (op : Nat) ∧ t.n = 0 ∧ Hid (Gn w1 G M wr v iv t) ∧ Hid (HasE wr (Bg G M v iv) (some ⟨bX, 0, none⟩) k (fun j => (bit a j).toNat)) ∧ Hid (HasE wr (Bg G M v iv) (some ⟨bY, 0, none⟩) k (fun j => (bit b j).toNat))) (fun i _ => 5 - (intOf i).toNat)
  case atStart => exact ⟨0, v2, iv2, s0, Nat.zero_le _, rfl, rfl, G4, VX4, VY4⟩
  case round =>
    obtain ⟨op, v, iv, t, hop, rfl, ht, HG, VX, VY⟩ := hrel
    by_cases hlt : op < 5
    · have hltI : (op : Int) < 5 := by omega
      by_cases hs : 3 ≤ op ∧ 12 < k
      · have i3 : (3 : Int) ≤ (op : Int) := by omega
        have i12 : (12 : Int) < (k : Int) := by omega
        have d3 : decide ((3 : Int) ≤ (op : Int)) = true := by simp; omega
        have d12 : decide ((12 : Int) < (k : Int)) = true := by simp; omega
        clear hs
        go_wp2_with fail
        go_roundw
        case rel => exact ⟨op + 1, v, iv, t, by omega, by go_num, ht, HG, VX, VY⟩
        case measure => simp [intOf]; omega
      · have HDo := do_any op hlt HG.out.gm (by omega) (VX.out.vc hk1 k) (VY.out.vc hk1 k) (Vo.const t k _) (Vo.const t k _)
        rw [Nat.max_self] at HDo
        have HDo := Lib.hid HDo
        have HDD := Lib.hid (HD.out op hlt)
        by_cases h3 : 3 ≤ op
        all_goals
          first
            | have i3 : (3 : Int) ≤ (op : Int) := by omega
              have i12 : ¬ (12 : Int) < (k : Int) := by omega
              have d3 : decide ((3 : Int) ≤ (op : Int)) = true := by simp; omega
              have d12 : decide ((12 : Int) < (k : Int)) = false := by simp; omega
            | have i3 : ¬ (3 : Int) ≤ (op : Int) := by omega
              have d3 : decide ((3 : Int) ≤ (op : Int)) = false := by simp; omega
          clear hs h3
          go_wp2_with fail
          refine HDo.out.mono ?_; rintro e w6 ⟨b6, f6, v6, iv6, t6, rfl, T6, N6, U6⟩
          have G6 := Lib.hid (HG.out.next T6.out)
          have h6n : t6.n = 0 := U6.out.lay.z ht
          have VX6 := Lib.hid (VX.out.next T6.out)
          have VY6 := Lib.hid (VY.out.next T6.out)
          have HEv := Lib.hid (eval_vec (c1 := 0) (c2 := k) G6.out.gm (by omega) (hasB_nil w6 (fun _ => false)) (by omega) N6.out.has U6.out.vo (by omega))
          go_wp2_with fail
          refine HEv.out.mono ?_; rintro e w7 ⟨a7, c7, rfl, H7⟩
          have G7 := Lib.hid (G6.out.below H7.out.1)
          have VX7 := Lib.hid (VX6.out.below H7.out.1)
          have VY7 := Lib.hid (VY6.out.below H7.out.1)
          have HV := value_num (c := c7) H7.out.2 hk1
          rw [U6.out.val, num_bit, num_bit, ← HAA.out, ← HBB.out] at HV
          have HV := Lib.hid HV
          clear HEv H7 U6 N6 T6 G6 VX6 VY6 HDo
          go_wp2_with fail
          refine HV.out.mono ?_; rintro e w' ⟨rfl, rfl⟩
          go_wp2_with fail
          refine (HDD.out _).mono ?_; rintro e w' ⟨rfl, rfl⟩
          go_wp2_with fail
          go_roundw
          case rel => exact ⟨op + 1, v6, iv6, t6, by omega, by go_num, h6n, G7, VX7, VY7⟩
          case measure => simp [intOf]; omega
    · obtain rfl : op = 5 := by omega
      have HNo := nodes_any HG.out.gm (by omega)
      rw [ht] at HNo
      have HNo := Lib.hid HNo
      have HEv := Lib.hid (eval_vec (c1 := 0) (c2 := k) HG.out.gm (by omega) (hasB_nil wr (fun _ => false)) (by omega) VX.out (Vo.const t k _) (by omega))
      clear hlt
      go_wp2_with fail
      refine HNo.out.mono ?_; rintro e w' ⟨rfl, rfl⟩
      go_wp2_with fail
      refine HEv.out.mono ?_; rintro e w7 ⟨a7, c7, rfl, H7⟩
      have G7 := Lib.hid (HG.out.below H7.out.1)
      have HV := value_num (c := c7) H7.out.2 hk1
      rw [num_bit, ← HAA.out] at HV
      have HV := Lib.hid HV
      go_wp2_with fail
      refine HV.out.mono ?_; rintro e w' ⟨rfl, rfl⟩
      go_wp2_with fail
      go_ret
      exact ⟨rfl, law_new HB1.out G7.out⟩
end Go.Proofs.Ytepafgmiloncgaa
