/- The law BitsParts. -/
import Derived.Test.YtepafgmiloncgaaLA
namespace Go.Proofs.Ytepafgmiloncgaa
open Go.RowKit Go.Lib Go.Maps
set_option maxRecDepth 100000

theorem const_int (n x : Int) (w : World) : Calls Try.prog 23 #[.int .i64 n, .int .i64 x] w fun e w' => ∃ b, e = .returned (.slice (some ⟨b, 0, none⟩) (lim x) (lim x)) ∧ Hid (Nw w w' b (lim x) (fun j => (bit n j).toNat)) :=
  (const_any n x w).mono fun e w' ⟨b, he, h⟩ => ⟨b, he, Lib.hid ⟨h.out.1, h.out.2.1, h.out.2.2⟩⟩
theorem trm_small {k : Nat} (hk : 1 ≤ k ∧ k ≤ 16) (x : Int) : -32768 ≤ trm k x ∧ trm k x ≤ 32767 := by
  have h := trm_range (w := k) (by omega) x
  have h2 : 2 ^ (k - 1) ≤ 2 ^ 15 := Nat.pow_le_pow_right (by omega) (by omega)
  omega
/-- Bits, and what they come to. -/
theorem bits_has (n x : Int) (w : World) : Calls Try.prog 15 #[.int .i64 n, .int .i64 x] w fun e w' => ∃ a c, e = .returned (.slice a (lim x) c) ∧ Hid (Below w.heap.size w w' ∧ HasB w' a (lim x) (bit n)) := by
  refine (bits_any n x w).mono fun e w' ⟨a, c, he, F⟩ => ⟨a, c, he, Lib.hid ⟨F.out.bel, ?_⟩⟩
  have := lim_pos x
  obtain ⟨g0, c0, e0, _, _, hl⟩ := F.out.own.pos (by omega)
  cases e0
  exact .inr ⟨g0, 0, rfl, hl, fun j hj => by rw [Nat.zero_add]; exact F.out.own.cell (by omega)⟩
set_option maxHeartbeats 2000000 in
theorem partsLaw (n x y : Int) (hn : -9223372036854775808 ≤ n ∧ n ≤ 9223372036854775807) (w : World) : Calls Try.prog 5 #[.int .i64 n, .int .i64 x, .int .i64 y] w (Law w) := by
  have HAw := Lib.hid awake_any
  have HN := Lib.hid new_any
  have HT := Lib.hid (fun W => trim_any n x W)
  have HR := Lib.hid (fun W => rtrim_any n hn x W)
  have HC := Lib.hid (fun W => const_int n x W)
  have HBi := Lib.hid (fun W => bits_has n x W)
  have hx := lim_pos x
  have hy := lim_pos y
  obtain ⟨X1, h1⟩ : ∃ X1, (if x < 1 then (1 : Int) else x) = X1 := ⟨_, rfl⟩
  obtain ⟨Y1, h2⟩ : ∃ Y1, (if y < 1 then (1 : Int) else y) = Y1 := ⟨_, rfl⟩
  have h3 : (if 16 < X1 then (16 : Int) else X1) = ((lim x : Nat) : Int) := by rw [← h1]; exact lim_min x
  have h4 : (if 16 < Y1 then (16 : Int) else Y1) = ((lim y : Nat) : Int) := by rw [← h2]; exact lim_min y
  have HR2 := Lib.hid (fun W => rtrim_any (trm (lim x) n) (by have := trm_small hx n; omega) y W)
  have HIn := Lib.hid (show ∀ W G M v iv, Gm W G M v iv (sIn 0) → Calls Try.prog 13 #[.pointer (some ⟨G, 0, none⟩), .int .i64 x] W fun e w' => ∃ (b : Nat) (v' iv' : Value), e = .returned (.slice (some ⟨b, 0, none⟩) (lim x) (lim x)) ∧ Hid (GmT G M W v iv w' v' iv' (sIn (0 + lim x))) ∧ Hid (Nv W w' (Bg G M v' iv') b (lim x) (fun j => 2 * (0 + j + 1))) from fun W G M v iv g => inputsv_any g (by omega) x)
  have HW := Lib.hid (show ∀ W v g, Vc W (fun _ => False) v (lim x) g → Calls Try.prog 26 #[v, .int .i64 y] W fun e w' => ∃ b, e = .returned (.slice (some ⟨b, 0, none⟩) (lim y) (lim y)) ∧ Hid (Nw W w' b (lim y) (extv (lim x) g)) from fun W v g h => wide_any h y)
  generalize lim x = A at *
  generalize lim y = B at *
  obtain ⟨t, ht⟩ : ∃ t, trm A n = t := ⟨_, rfl⟩
  rw [ht] at HT HR HR2
  have HTT := Lib.hid ht
  clear ht
  go_enter Try.func5, Try.ntmps5
  go_wp2_with fail
  refine (HAw.out _).mono ?_; rintro e w1 ⟨rfl, hb1⟩
  have HB1 := Lib.hid hb1
  clear hb1
  go_wp2_with fail
  refine (HR.out _).mono ?_; rintro e w' ⟨rfl, rfl⟩
  go_wp2_with fail
  refine (HT.out _).mono ?_; rintro e w' ⟨rfl, rfl⟩
  go_wp2_with fail
  refine (HBi.out _).mono ?_; rintro e w2 ⟨a2, c2, rfl, H2⟩
  have HB2 := Lib.hid (HB1.out.trans (H2.out.1.mono HB1.out.size))
  have HV := value_any' (c := c2) H2.out.2 hx
  rw [sg_bit, HTT.out] at HV
  have HV := Lib.hid HV
  go_wp2_with fail
  refine HV.out.mono ?_; rintro e w' ⟨rfl, rfl⟩
  go_wp2_with fail
  refine (HBi.out _).mono ?_; rintro e w3 ⟨a3, c3, rfl, H3⟩
  have HB3 := Lib.hid (HB2.out.trans (H3.out.1.mono HB2.out.size))
  clear H2 H3 HV HB1 HB2
  go_wp2_with fail
  refine (HN.out _).mono ?_; rintro e w4 ⟨G, M, v, iv, rfl, H4⟩
  have HB4 := Lib.hid (law_new HB3.out H4.out)
  go_wp2_with fail
  refine (HC.out _).mono ?_; rintro e w5 ⟨b5, rfl, H5⟩
  have G5 := Lib.hid (H4.out.below H5.out.bel)
  have HB5 := Lib.hid (HB4.out.trans (H5.out.bel.mono HB4.out.size))
  have HWW := Lib.hid (HW.out _ _ _ (((H5.out.nv H4.out.gm).has.vc hx A).weak))
  go_wp2_with fail
  refine HWW.out.mono ?_; rintro e w6 ⟨b6, rfl, H6⟩
  have G6 := Lib.hid (G5.out.below H6.out.bel)
  have HB6 := Lib.hid (HB5.out.trans (H6.out.bel.mono HB5.out.size))
  have HEv := Lib.hid (eval_vec (c1 := 0) (c2 := B) G6.out.gm (by show 0 ≤ _; omega) (hasB_nil w6 (fun _ => false)) (by omega) (H6.out.nv G5.out.gm).has ((Vo.const s0 A _).ext (by omega)) (by omega))
  go_wp2_with fail
  refine (HR2.out _).mono ?_; rintro e w' ⟨rfl, rfl⟩
  go_wp2_with fail
  refine HEv.out.mono ?_; rintro e w7 ⟨a7, c7, rfl, H7⟩
  have G7 := Lib.hid (G6.out.below H7.out.1)
  have HB7 := Lib.hid (HB6.out.trans (H7.out.1.mono HB6.out.size))
  have HV := value_num (c := c7) H7.out.2 hy
  rw [num_ext (by omega) (by omega), num_bit, HTT.out] at HV
  have HV := Lib.hid HV
  go_wp2_with fail
  refine HV.out.mono ?_; rintro e w' ⟨rfl, rfl⟩
  have HII := Lib.hid (HIn.out _ _ _ _ _ (show Gm w7 G M v iv (sIn 0) from G7.out.gm))
  go_wp2_with fail
  refine HII.out.mono ?_; rintro e w8 ⟨b8, v8, iv8, rfl, T8, N8⟩
  have G8 := Lib.hid (G7.out.next (show GmT G M w7 v iv w8 v8 iv8 _ from T8.out))
  go_wp2_with fail
  go_ret
  exact ⟨rfl, law_new HB3.out G8.out⟩
end Go.Proofs.Ytepafgmiloncgaa
