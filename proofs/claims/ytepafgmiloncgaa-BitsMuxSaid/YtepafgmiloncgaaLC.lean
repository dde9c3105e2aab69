/- The law BitsMux. -/
import Derived.Test.YtepafgmiloncgaaLB
namespace Go.Proofs.Ytepafgmiloncgaa
open Go.RowKit Go.Lib Go.Maps
set_option maxRecDepth 100000

theorem anyN_zero (s : Gr) : anyN s (fun _ => ((0 : Nat) : Int)) 1 = (0, s) := by
  show orN s 0 (edg s.n ((0 : Nat) : Int)) = (0, s)
  rw [edg_of (by omega)]
  simp [orN, andN, andS, nt]
theorem some_nil {w : World} {G M : Nat} {v iv : Value} {s : Gr} (hG : Gm w G M v iv s) (hs : s.n ≤ 86000) {va : Value} (ha : Vc w (Bg G M v iv) va 1 (fun _ => 0)) :
    Calls Try.prog 22 #[.pointer (some ⟨G, 0, none⟩), va] w fun e w' => e = .returned (.int .i64 0) ∧ ∃ v' iv', Hid (GmT G M w v iv w' v' iv' s) := by
  have HV := Lib.hid (vector_any ha (fun k e => hG.lt e))
  have HA := Lib.hid (show ∀ w1 a c, Below w.heap.size w w1 ∧ HasE w1 (Bg G M v iv) a 1 (fun _ => 0) → Calls Try.prog 44 #[.pointer (some ⟨G, 0, none⟩), .slice a 1 c] w1 (fun e w' => e = .returned (.int .i64 0) ∧ ∃ v' iv', Hid (GmT G M w v iv w' v' iv' s)) from fun w1 a c ⟨hb, h⟩ => by
    have := any_any (c := c) (hG.below hb) (by omega) h (fun j _ => by show 0 < _; omega)
    rw [anyN_zero] at this
    exact this.mono fun e w' ⟨he, v', iv', H⟩ => ⟨he, v', iv', Lib.hid ((hG.refl.below hb).trans H.out)⟩)
  clear hG ha
  go_enter Try.func22, Try.ntmps22
  go_wp2_with (first
    | (go_at_call 45; refine HV.out.mono ?_; rintro e w1 ⟨a, c, rfl, H1⟩)
    | (go_at_call 44; refine (HA.out _ _ _ H1.out).mono ?_; rintro e w3 ⟨rfl, v3, iv3, T3⟩))
  go_ret
  exact ⟨rfl, v3, iv3, T3⟩
theorem num_nil (I : Nat → Bool) (s : Gr) : num I s (fun _ => 0) 1 = 0 := by
  show sg (fun _ => val I s 0) 1 = 0
  rw [val_zero]
  decide
theorem value_nil (w : World) : Calls Try.prog 17 #[.slice none 0 0] w fun e w' => e = .returned (.int .i64 0) ∧ w = w' := by
  have := value_is (c := 0) (hasB_nil w (fun _ => false)) (by omega)
  rw [show trm (lim (min 0 16 : Nat)) ((un (fun _ => false) (min 0 16) : Nat) : Int) = 0 by decide] at this
  exact this
set_option maxHeartbeats 4000000 in
theorem mux_true (a b : Int) (ha : -9223372036854775808 ≤ a ∧ a ≤ 9223372036854775807) (hb : -9223372036854775808 ≤ b ∧ b ≤ 9223372036854775807) (w : World) : Calls Try.prog 6 #[.int .i64 a, .int .i64 b, .bool true] w (Law w) := by
  have HAw := Lib.hid awake_any
  have HN := Lib.hid new_any
  have HR7 := Lib.hid (fun W => rtrim_in b hb 7 (by omega) W)
  have HR9 := Lib.hid (fun W => rtrim_in a ha 9 (by omega) W)
  have HK9 := Lib.hid (const_nw a 9 (by omega))
  have HK7 := Lib.hid (const_nw b 7 (by omega))
  have hmk : ∀ W : World, (Instr.makeSlice 26 (.int .i64 17) (.int .i64 17)).run Try.prog W = .ok (.slice (some ⟨W.heap.size, 0, none⟩) 17 17) (W.alloc (.cells (madeCells #[.int .i64 0] 17) 3)) := fun W => make_ints 17 (by omega) W
  clear ha hb
  go_enter Try.func6, Try.ntmps6
  go_wp2_with fail
  refine (HAw.out _).mono ?_; rintro e w1 ⟨rfl, hb1⟩
  have HB1 := Lib.hid hb1
  clear hb1
  go_wp2_with fail
  refine (HN.out _).mono ?_; rintro e w2 ⟨G, M, v, iv, rfl, H2⟩
  have HB2 := Lib.hid (law_new HB1.out H2.out)
  have HI := Lib.hid (show Calls Try.prog 27 #[.pointer (some ⟨G, 0, none⟩)] w2 fun e w' => e = .returned (.int .i64 (2 : Nat)) ∧ ∃ v' iv', Hid (GmT G M w2 v iv w' v' iv' (sIn 1)) from by
    have := input_any H2.out.gm (by show 0 ≤ _; omega)
    rw [show s0.add none = sIn 1 from sIn_add 0] at this
    exact this)
  go_wp2_with fail
  refine HI.out.mono ?_; rintro e w3 ⟨rfl, v3, iv3, T3⟩
  have G3 := Lib.hid (H2.out.next T3.out)
  go_wp2_with fail
  refine (HK9.out _).mono ?_; rintro e w4 ⟨b4, rfl, H4⟩
  have G4 := Lib.hid (G3.out.below H4.out.bel)
  have N4 := Lib.hid (H4.out.nv G3.out.gm)
  go_wp2_with fail
  refine (HK7.out _).mono ?_; rintro e w5 ⟨b5, rfl, H5⟩
  have G5 := Lib.hid (G4.out.below H5.out.bel)
  have N4' := Lib.hid (N4.out.below H5.out.bel)
  have N5 := Lib.hid (H5.out.nv G4.out.gm)
  have HM := muxv_any G5.out.gm (by show 1 ≤ _; omega) (N4'.out.has.vc (by omega) 9) (N5.out.has.vc (by omega) 7) (Vo.const (sIn 1) 9 _) (Vo.const (sIn 1) 7 _) (c := 2) (by show 2 < 2 * 2; omega)
  rw [show max 9 7 = 9 from rfl] at HM
  have HM := Lib.hid HM
  go_wp2_with fail
  refine (HR7.out _).mono ?_; rintro e w' ⟨rfl, rfl⟩
  go_wp2_with fail
  refine (HR9.out _).mono ?_; rintro e w' ⟨rfl, rfl⟩
  go_wp2_with fail
  refine HM.out.mono ?_; rintro e w6 ⟨b6, f6, v6, iv6, t6, rfl, T6, N6, U6⟩
  have G6 := Lib.hid (G5.out.next T6.out)
  have h6n : t6.n ≤ 28 := by have := U6.out.lay.n; have : (sIn 1).n = 1 := rfl; omega
  have HR0 := Lib.hid (show ∃ F, (w6.alloc (.cells (madeCells #[.int .i64 0] 17) 3)).rowIs w6.heap.size 3 17 F from ⟨_, World.rowIs_made w6 (.int .i64 0) 17 3⟩)
  have HB0 := Lib.hid ((Below.refl w6.heap.size w6).alloc (Nat.le_refl _) (.cells (madeCells #[.int .i64 0] 17) 3))
  clear HI G3 G4 N4 N4' N5 H4 H5 H2 T3 G5 HM
  go_wp2_with fail
  go_loopw [14] (fun i wr => ∃ k : Nat, k ≤ 17 ∧ i = .int .i64 k ∧ Hid (Below w6.heap.size w6 wr) ∧ Hid (∃ F, wr.rowIs w6.heap.size 3 17 F)) (fun i _ => 17 - (intOf i).toNat)
  case atStart => exact ⟨0, Nat.zero_le _, rfl, HB0, HR0⟩
  case round =>
    obtain ⟨k, hk, rfl, HB, HR⟩ := hrel
    by_cases hlt : k < 17
    · have hltI : (k : Int) < 17 := by omega
      obtain ⟨F, hF⟩ := HR.out
      have cr := hF.cell hlt
      have fr := hF.frozen k
      have HRN := Lib.hid (show ∃ F, (wr.setCell ⟨w6.heap.size, k, none⟩ (.int .i64 1)).rowIs w6.heap.size 3 17 F from ⟨_, hF.set k (.int .i64 1)⟩)
      have HBN := Lib.hid (HB.out.setCell (p := ⟨w6.heap.size, k, none⟩) (Nat.le_refl _) (.int .i64 1))
      clear hF
      go_wp2_with fail
      go_roundw
      case rel => exact ⟨k + 1, by omega, by go_num, HBN, HRN⟩
      case measure => simp [intOf]; omega
    · obtain rfl : k = 17 := by omega
      clear hlt
      have G7 := Lib.hid (G6.out.below HB.out)
      have N7 := Lib.hid (N6.out.below HB.out)
      have hbl : Below wr.heap.size wr (wr.alloc (.cells #[.bool true] 4)) := (Below.refl _ wr).alloc (Nat.le_refl _) _
      have G8 := Lib.hid (G7.out.below hbl)
      have HEv := Lib.hid (eval_vec (c1 := 1) (c2 := 9) G8.out.gm (by omega) (show HasB (wr.alloc (.cells #[.bool true] 4)) (some ⟨wr.heap.size, 0, none⟩) 1 (fun _ => true) from .inr ⟨wr.heap.size, 0, rfl, by simp, fun j hj => by
        obtain rfl : j = 0 := by omega
        exact one_at wr wr.heap.size rfl rfl 0 _ rfl⟩) (by omega) (N7.out.below hbl).has U6.out.vo (by omega))
      clear hbl
      go_wp2_with fail
      refine HEv.out.mono ?_; rintro e w8 ⟨a8, c8, rfl, H8⟩
      have G9 := Lib.hid (G8.out.below H8.out.1)
      have hv : num (mdl (fun _ => true) 1) t6 f6 9 = trm 9 a := by
        rw [U6.out.val, num_bit, num_bit, show val (mdl (fun _ => true) 1) (sIn 1) 2 = true from val_sIn _ (j := 0) (by omega)]
        rfl
      have HV := value_num (c := c8) H8.out.2 (by omega)
      rw [hv] at HV
      have HV := Lib.hid HV
      go_wp2_with fail
      refine HV.out.mono ?_; rintro e w' ⟨rfl, rfl⟩
      have HAd := add_any G9.out.gm (by omega) (Vc.nil _ w8) (Vc.long _ w8 (some ⟨w6.heap.size, 0, none⟩) (l := 17) 17 (by omega) (by omega)) (fun j _ => by show 0 < _; omega) (fun j _ => by show 0 < _; omega)
      rw [show max 1 1 = 1 from rfl] at HAd
      have HAd := Lib.hid HAd
      clear HV hv HEv
      go_wp2_with fail
      refine HAd.out.mono ?_; rintro e w9 ⟨b9, f9, v9, iv9, t9, rfl, T9, N9, U9⟩
      have G10 := Lib.hid (G9.out.next T9.out)
      have h9n : t9.n ≤ 35 := by have := U9.out.lay.n; omega
      have HEv2 := Lib.hid (eval_vec (c1 := 0) (c2 := 1) G10.out.gm (by omega) (hasB_nil w9 (fun _ => false)) (by omega) N9.out.has U9.out.vo (by omega))
      go_wp2_with fail
      refine HEv2.out.mono ?_; rintro e w10 ⟨a10, c10, rfl, H10⟩
      have G11 := Lib.hid (G10.out.below H10.out.1)
      have HV2 := value_num (c := c10) H10.out.2 (by omega)
      rw [U9.out.val, num_nil, show trm 1 (0 + 0) = 0 by decide] at HV2
      have HV2 := Lib.hid HV2
      go_wp2_with fail
      refine HV2.out.mono ?_; rintro e w' ⟨rfl, rfl⟩
      have HSo := Lib.hid (some_nil G11.out.gm (by omega) (Vc.long _ w10 (some ⟨w6.heap.size, 0, none⟩) (l := 17) 17 (by omega) (by omega)))
      go_wp2_with fail
      refine HSo.out.mono ?_; rintro e w12 ⟨rfl, v12, iv12, T12⟩
      have G12 := Lib.hid (G11.out.next T12.out)
      go_wp2_with fail
      refine (value_nil _).mono ?_; rintro e w' ⟨rfl, rfl⟩
      go_wp2_with fail
      go_ret
      exact ⟨rfl, law_new HB1.out G12.out⟩
set_option maxHeartbeats 4000000 in
theorem mux_false (a b : Int) (ha : -9223372036854775808 ≤ a ∧ a ≤ 9223372036854775807) (hb : -9223372036854775808 ≤ b ∧ b ≤ 9223372036854775807) (w : World) : Calls Try.prog 6 #[.int .i64 a, .int .i64 b, .bool false] w (Law w) := by
  have HAw := Lib.hid awake_any
  have HN := Lib.hid new_any
  have HR7 := Lib.hid (fun W => rtrim_in b hb 7 (by omega) W)
  have HR9 := Lib.hid (fun W => rtrim_in a ha 9 (by omega) W)
  have HK9 := Lib.hid (const_nw a 9 (by omega))
  have HK7 := Lib.hid (const_nw b 7 (by omega))
  have hmk : ∀ W : World, (Instr.makeSlice 26 (.int .i64 17) (.int .i64 17)).run Try.prog W = .ok (.slice (some ⟨W.heap.size, 0, none⟩) 17 17) (W.alloc (.cells (madeCells #[.int .i64 0] 17) 3)) := fun W => make_ints 17 (by omega) W
  clear ha hb
  go_enter Try.func6, Try.ntmps6
  go_wp2_with fail
  refine (HAw.out _).mono ?_; rintro e w1 ⟨rfl, hb1⟩
  have HB1 := Lib.hid hb1
  clear hb1
  go_wp2_with fail
  refine (HN.out _).mono ?_; rintro e w2 ⟨G, M, v, iv, rfl, H2⟩
  have HB2 := Lib.hid (law_new HB1.out H2.out)
  have HI := Lib.hid (show Calls Try.prog 27 #[.pointer (some ⟨G, 0, none⟩)] w2 fun e w' => e = .returned (.int .i64 (2 : Nat)) ∧ ∃ v' iv', Hid (GmT G M w2 v iv w' v' iv' (sIn 1)) from by
    have := input_any H2.out.gm (by show 0 ≤ _; omega)
    rw [show s0.add none = sIn 1 from sIn_add 0] at this
    exact this)
  go_wp2_with fail
  refine HI.out.mono ?_; rintro e w3 ⟨rfl, v3, iv3, T3⟩
  have G3 := Lib.hid (H2.out.next T3.out)
  go_wp2_with fail
  refine (HK9.out _).mono ?_; rintro e w4 ⟨b4, rfl, H4⟩
  have G4 := Lib.hid (G3.out.below H4.out.bel)
  have N4 := Lib.hid (H4.out.nv G3.out.gm)
  go_wp2_with fail
  refine (HK7.out _).mono ?_; rintro e w5 ⟨b5, rfl, H5⟩
  have G5 := Lib.hid (G4.out.below H5.out.bel)
  have N4' := Lib.hid (N4.out.below H5.out.bel)
  have N5 := Lib.hid (H5.out.nv G4.out.gm)
  have HM := muxv_any G5.out.gm (by show 1 ≤ _; omega) (N4'.out.has.vc (by omega) 9) (N5.out.has.vc (by omega) 7) (Vo.const (sIn 1) 9 _) (Vo.const (sIn 1) 7 _) (c := 2) (by show 2 < 2 * 2; omega)
  rw [show max 9 7 = 9 from rfl] at HM
  have HM := Lib.hid HM
  go_wp2_with fail
  refine (HR7.out _).mono ?_; rintro e w' ⟨rfl, rfl⟩
  go_wp2_with fail
  refine HM.out.mono ?_; rintro e w6 ⟨b6, f6, v6, iv6, t6, rfl, T6, N6, U6⟩
  have G6 := Lib.hid (G5.out.next T6.out)
  have h6n : t6.n ≤ 28 := by have := U6.out.lay.n; have : (sIn 1).n = 1 := rfl; omega
  have HR0 := Lib.hid (show ∃ F, (w6.alloc (.cells (madeCells #[.int .i64 0] 17) 3)).rowIs w6.heap.size 3 17 F from ⟨_, World.rowIs_made w6 (.int .i64 0) 17 3⟩)
  have HB0 := Lib.hid ((Below.refl w6.heap.size w6).alloc (Nat.le_refl _) (.cells (madeCells #[.int .i64 0] 17) 3))
  clear HI G3 G4 N4 N4' N5 H4 H5 H2 T3 G5 HM
  go_wp2_with fail
  go_loopw [14] (fun i wr => ∃ k : Nat, k ≤ 17 ∧ i = .int .i64 k ∧ Hid (Below w6.heap.size w6 wr) ∧ Hid (∃ F, wr.rowIs w6.heap.size 3 17 F)) (fun i _ => 17 - (intOf i).toNat)
  case atStart => exact ⟨0, Nat.zero_le _, rfl, HB0, HR0⟩
  case round =>
    obtain ⟨k, hk, rfl, HB, HR⟩ := hrel
    by_cases hlt : k < 17
    · have hltI : (k : Int) < 17 := by omega
      obtain ⟨F, hF⟩ := HR.out
      have cr := hF.cell hlt
      have fr := hF.frozen k
      have HRN := Lib.hid (show ∃ F, (wr.setCell ⟨w6.heap.size, k, none⟩ (.int .i64 1)).rowIs w6.heap.size 3 17 F from ⟨_, hF.set k (.int .i64 1)⟩)
      have HBN := Lib.hid (HB.out.setCell (p := ⟨w6.heap.size, k, none⟩) (Nat.le_refl _) (.int .i64 1))
      clear hF
      go_wp2_with fail
      go_roundw
      case rel => exact ⟨k + 1, by omega, by go_num, HBN, HRN⟩
      case measure => simp [intOf]; omega
    · obtain rfl : k = 17 := by omega
      clear hlt
      have G7 := Lib.hid (G6.out.below HB.out)
      have N7 := Lib.hid (N6.out.below HB.out)
      have hbl : Below wr.heap.size wr (wr.alloc (.cells #[.bool false] 4)) := (Below.refl _ wr).alloc (Nat.le_refl _) _
      have G8 := Lib.hid (G7.out.below hbl)
      have HEv := Lib.hid (eval_vec (c1 := 1) (c2 := 9) G8.out.gm (by omega) (show HasB (wr.alloc (.cells #[.bool false] 4)) (some ⟨wr.heap.size, 0, none⟩) 1 (fun _ => false) from .inr ⟨wr.heap.size, 0, rfl, by simp, fun j hj => by
        obtain rfl : j = 0 := by omega
        exact one_at wr wr.heap.size rfl rfl 0 _ rfl⟩) (by omega) (N7.out.below hbl).has U6.out.vo (by omega))
      clear hbl
      go_wp2_with fail
      refine HEv.out.mono ?_; rintro e w8 ⟨a8, c8, rfl, H8⟩
      have G9 := Lib.hid (G8.out.below H8.out.1)
      have hv : num (mdl (fun _ => false) 1) t6 f6 9 = trm 7 b := by
        rw [U6.out.val, num_bit, num_bit, show val (mdl (fun _ => false) 1) (sIn 1) 2 = false from val_sIn _ (j := 0) (by omega)]
        rfl
      have HV := value_num (c := c8) H8.out.2 (by omega)
      rw [hv] at HV
      have HV := Lib.hid HV
      go_wp2_with fail
      refine HV.out.mono ?_; rintro e w' ⟨rfl, rfl⟩
      have HAd := add_any G9.out.gm (by omega) (Vc.nil _ w8) (Vc.long _ w8 (some ⟨w6.heap.size, 0, none⟩) (l := 17) 17 (by omega) (by omega)) (fun j _ => by show 0 < _; omega) (fun j _ => by show 0 < _; omega)
      rw [show max 1 1 = 1 from rfl] at HAd
      have HAd := Lib.hid HAd
      clear HV hv HEv
      go_wp2_with fail
      refine HAd.out.mono ?_; rintro e w9 ⟨b9, f9, v9, iv9, t9, rfl, T9, N9, U9⟩
      have G10 := Lib.hid (G9.out.next T9.out)
      have h9n : t9.n ≤ 35 := by have := U9.out.lay.n; omega
      have HEv2 := Lib.hid (eval_vec (c1 := 0) (c2 := 1) G10.out.gm (by omega) (hasB_nil w9 (fun _ => false)) (by omega) N9.out.has U9.out.vo (by omega))
      go_wp2_with fail
      refine HEv2.out.mono ?_; rintro e w10 ⟨a10, c10, rfl, H10⟩
      have G11 := Lib.hid (G10.out.below H10.out.1)
      have HV2 := value_num (c := c10) H10.out.2 (by omega)
      rw [U9.out.val, num_nil, show trm 1 (0 + 0) = 0 by decide] at HV2
      have HV2 := Lib.hid HV2
      go_wp2_with fail
      refine HV2.out.mono ?_; rintro e w' ⟨rfl, rfl⟩
      have HSo := Lib.hid (some_nil G11.out.gm (by omega) (Vc.long _ w10 (some ⟨w6.heap.size, 0, none⟩) (l := 17) 17 (by omega) (by omega)))
      go_wp2_with fail
      refine HSo.out.mono ?_; rintro e w12 ⟨rfl, v12, iv12, T12⟩
      have G12 := Lib.hid (G11.out.next T12.out)
      go_wp2_with fail
      refine (value_nil _).mono ?_; rintro e w' ⟨rfl, rfl⟩
      go_wp2_with fail
      go_ret
      exact ⟨rfl, law_new HB1.out G12.out⟩
theorem muxLaw (a b : Int) (ha : -9223372036854775808 ≤ a ∧ a ≤ 9223372036854775807) (hb : -9223372036854775808 ≤ b ∧ b ≤ 9223372036854775807) (c : Bool) (w : World) : Calls Try.prog 6 #[.int .i64 a, .int .i64 b, .bool c] w (Law w) := by
  cases c
  · exact mux_false a b ha hb w
  · exact mux_true a b ha hb w
end Go.Proofs.Ytepafgmiloncgaa
