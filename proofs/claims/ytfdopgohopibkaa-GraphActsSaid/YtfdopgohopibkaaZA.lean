/- The law GraphActs. -/
import Derived.Test.YtfdopgohopibkaaZW
namespace Go.Proofs.Ytfdopgohopibkaa
open Go.RowKit Go.Lib Go.Maps
set_option maxRecDepth 100000

structure Ta (s : Gr) (k : Nat) (F : Nat → Nat) : Prop where
  n : s.n ≤ k
  lt : ∀ j, j < k + 1 → F j < 2 * (s.n + 1)
theorem Ta.next {s : Gr} {k : Nat} {F : Nat → Nat} {r : Nat × Gr} (h : Ta s k F) (h1 : s.n ≤ r.2.n) (h2 : r.2.n ≤ s.n + 1) (h3 : r.1 < 2 * (r.2.n + 1)) : Ta r.2 (k + 1) (fun j => if j < k + 1 then F j else r.1) := by
  refine ⟨by have := h.n; omega, fun j hj => ?_⟩
  show (if j < k + 1 then F j else r.1) < _
  split
  · next e => have := h.lt j e; omega
  · exact h3
theorem nodes_quiet {w : World} {G M : Nat} {v iv : Value} {s : Gr} (h : Gm w G M v iv s) (hn : s.n ≤ 100000) (q : Nat) : Calls Try.prog 16 #[.pointer (some ⟨G, 0, none⟩)] (w.drewN q) fun e w' => e = .returned (.int .i64 ((s.n : Int) + 1)) ∧ w' = w.drewN q :=
  (nodes_any (h.of_block (w' := w.drewN q) fun _ _ => rfl) hn).mono fun _ _ ⟨h1, h2⟩ => ⟨h1, h2.symm⟩
/-- The inputs among the nodes below N. -/
def cT (s : Gr) (N : Int) : Nat := cnt s.L (min (N - 1).toNat s.n)
theorem cT_lo {s : Gr} {N : Int} (h : N ≤ 1) : cT s N = 0 := by
  unfold cT
  rw [show (N - 1).toNat = 0 by omega, Nat.zero_min]
  rfl
theorem cT_in {s : Gr} {i : Nat} (h : i ≤ s.n) : cT s ((i : Int) + 1) = cnt s.L i := by
  unfold cT
  rw [show ((i : Int) + 1 - 1).toNat = i by omega, Nat.min_eq_left h]
theorem cT_end {s : Gr} {N : Int} (h : (s.n : Int) + 1 ≤ N) : cT s N = cnt s.L s.n := by
  unfold cT
  rw [Nat.min_eq_right (by omega)]
set_option maxHeartbeats 8000000 in
theorem acts_walk (a0 a1 : Option Addr) (n c0 m c1 : Nat) (K A B C : Nat → Int) (gm : Nat → Bool) (w : World) (hn : n ≤ 40) (hm : m ≤ 40) (hA : Acts w a0 n K A B C) (hB : HasB w a1 m gm) :
    Calls Try.prog 3 #[.slice a0 n c0, .slice a1 m c1] w (Law w) := by
  have HAw := Lib.hid awake_any
  have HN := Lib.hid new_any
  have HA := Lib.hid hA
  have HB := Lib.hid hB
  have hnI : ¬ (40 : Int) < (n : Int) := by omega
  have hmI : ¬ (40 : Int) < (m : Int) := by omega
  have hnD : decide ((40 : Int) < (n : Int)) = false := by simpa using hnI
  have hmD : decide ((40 : Int) < (m : Int)) = false := by simpa using hmI
  clear hA hB
  go_enter Try.func3, Try.ntmps3
  go_wp2_with (first
    | (go_at_call 9; refine (HAw.out _).mono ?_; rintro e w1 ⟨rfl, hb1⟩; have HB1 := Lib.hid hb1; clear hb1)
    | (go_at_call 10; refine (HN.out _).mono ?_; rintro e w2 ⟨G, M, v, iv, rfl, H2⟩))
  have HL := Lib.hid (Tw.start H2.out (fun _ => 0) rfl)
  have HT0 := Lib.hid (show Ta s0 0 (fun _ => 0) from ⟨Nat.le_refl _, fun j _ => by show 0 < 2 * 1; omega⟩)
  clear HN HAw H2
  go_wp2
  go_loopw [7, 8] (fun es i wr => ∃ (k : Nat) (a' : Option Addr) (c' : Nat) (v iv : Value) (s : Gr) (F : Nat → Nat) (u : Value), k ≤ n ∧ es = .slice a' (k + 1) c' ∧ i = .int .i64 k ∧ Hid (Tw w1 wr G M v iv s (.slice a' (k + 1) c') (k + 1) F w2.heap.size u s) ∧ Hid (Ta s k F)) (fun _ i _ => n - (intOf i).toNat)
  case atStart => exact ⟨0, _, _, _, _, _, _, _, Nat.zero_le _, rfl, rfl, HL, HT0⟩
  case round =>
    obtain ⟨k, a', c', v, iv, s, F, u, hk, rfl, rfl, HR, HT⟩ := hrel
    by_cases hlt : k < n
    · have hltI : (k : Int) < (n : Int) := by omega
      have hs := HT.out.n
      have hbw := HB1.out.trans (HR.out.lw.gn.bel.mono HB1.out.size)
      rcases HA.out.below hbw with e | ⟨b, off, rfl, hb, hc⟩
      · omega
      obtain ⟨xK, xA, xB, xC, mA, mB, mC⟩ := hc k hlt
      obtain ⟨W, hW⟩ : ∃ W, W = wr.alloc (.cells #[.int .i64 (K k), .int .i64 (A k), .int .i64 (B k), .int .i64 (C k)] 33) := ⟨_, rfl⟩
      have hWb : Below wr.heap.size wr W := by rw [hW]; exact (Below.refl _ wr).alloc (Nat.le_refl _) _
      have HW := Lib.hid (show ∀ q, Tw w1 (W.drewN q) G M v iv s (.slice a' (k + 1) c') (k + 1) F w2.heap.size u s from fun q => HR.out.then (bel_drewN hWb q))
      have hpa := pickI_le (X := A k) (by omega) HT.out.lt (by omega)
      have hpb := pickI_le (X := B k) (by omega) HT.out.lt (by omega)
      have hE := fun q X (hX : X ≤ 9223372036854775807) => edge_int (w := W.drewN q) (c := c') ((HW.out q).lw.has.weak fun _ _ e => e.elim) (show 0 < k + 1 by omega) (by omega) (fun j hj => by have := HT.out.lt j hj; omega) X hX
      have HEa := Lib.hid (fun q => hE q (A k) mA)
      have HEb := Lib.hid (fun q => hE q (B k) mB)
      have hka : W.cell? ⟨wr.heap.size, 0, none⟩ = some (.int .i64 (K k)) := by
        rw [hW]
        exact (World.rowIs_alloc wr #[.int .i64 (K k), .int .i64 (A k), .int .i64 (B k), .int .i64 (C k)] 33 (fun j => if j = 0 then .int .i64 (K k) else if j = 1 then .int .i64 (A k) else if j = 2 then .int .i64 (B k) else .int .i64 (C k)) (fun i hi => by
          have hi : i < 4 := hi
          match i, hi with
          | 0, _ | 1, _ | 2, _ | 3, _ => rfl)).cell (i := 0) (by simp)
      have h4 : k + 1 ≤ 100 := by omega
      rw [hW] at HEa HEb
      clear hE hc
      generalize pickI F (k + 1) (A k) = pa at *
      generalize pickI F (k + 1) (B k) = pb at *
      -- the two ways of an act
      have HIN := Lib.hid (show ∀ q, Calls Try.prog 12 #[.pointer (some ⟨G, 0, none⟩)] (W.drewN q) fun e w' => e = .returned (.int .i64 (2 * (s.n + 1) : Nat)) ∧ ∃ v' iv', Tw w1 w' G M v' iv' (s.add none) (.slice a' (k + 1) c') (k + 1) F w2.heap.size u s from fun q => (input_any (HW.out q).lw.gn.gm (by omega)).mono fun e w' ⟨he, v', iv', T⟩ => ⟨he, v', iv', (HW.out q).lay T.out⟩)
      have HAN := Lib.hid (show ∀ q, Calls Try.prog 14 #[.pointer (some ⟨G, 0, none⟩), .int .i64 pa, .int .i64 pb] (W.drewN q) fun e w' => e = .returned (.int .i64 ((andI s pa pb).1 : Nat)) ∧ ∃ v' iv', Tw w1 w' G M v' iv' (andI s pa pb).2 (.slice a' (k + 1) c') (k + 1) F w2.heap.size u s from fun q => (and_any (HW.out q).lw.gn.gm (by omega) pa pb hpa hpb).mono fun e w' ⟨he, v', iv', T⟩ => ⟨he, v', iv', (HW.out q).lay T.out⟩)
      have HRI := Lib.hid (show ∀ w6 v6 iv6 s6, Tw w1 w6 G M v6 iv6 s6 (.slice a' (k + 1) c') (k + 1) F w2.heap.size u s → Calls Try.prog 13 #[.pointer (some ⟨w2.heap.size, 0, none⟩)] w6 fun e w' => e = .returned (.int .i64 (2 * (s.n + 1) : Nat)) ∧ ∃ u', Tw w1 w' G M v6 iv6 s6 (.slice a' (k + 1) c') (k + 1) F w2.heap.size u' (s.add none) from fun w6 v6 iv6 s6 T6 => (rinput_any T6.rg (by omega)).mono fun e w' ⟨he, u', T⟩ => ⟨he, u', T6.rlay T.out⟩)
      have HRA := Lib.hid (show ∀ w6 v6 iv6 s6, Tw w1 w6 G M v6 iv6 s6 (.slice a' (k + 1) c') (k + 1) F w2.heap.size u s → Calls Try.prog 15 #[.pointer (some ⟨w2.heap.size, 0, none⟩), .int .i64 pa, .int .i64 pb] w6 fun e w' => e = .returned (.int .i64 ((andI s pa pb).1 : Nat)) ∧ ∃ u', Tw w1 w' G M v6 iv6 s6 (.slice a' (k + 1) c') (k + 1) F w2.heap.size u' (andI s pa pb).2 from fun w6 v6 iv6 s6 T6 => (rand_any T6.rg (by omega) pa pb).mono fun e w' ⟨he, u', T⟩ => ⟨he, u', T6.rlay T.out⟩)
      have hok := HR.out.lw.gn.gm.ok
      have han := andN_is (I := fun _ => false) hok (edg_lt s.n pa) (edg_lt s.n pb)
      have HTI := Lib.hid (show Ta (s.add none) (k + 1) (fun j => if j < k + 1 then F j else 2 * (s.n + 1)) from HT.out.next (r := (2 * (s.n + 1), s.add none)) (Nat.le_succ _) (Nat.le_refl _) (by show 2 * (s.n + 1) < 2 * (s.n + 1 + 1); omega))
      have HTA := Lib.hid (show Ta (andI s pa pb).2 (k + 1) (fun j => if j < k + 1 then F j else (andI s pa pb).1) from HT.out.next (r := andI s pa pb) han.ext.n han.n han.lt)
      have hsi : (s.add none).n ≤ 100 := by show s.n + 1 ≤ 100; omega
      have hsa : (andI s pa pb).2.n ≤ 100 := by have : (andI s pa pb).2.n ≤ s.n + 1 := han.n; omega
      have hei : 2 * (s.n + 1) ≤ 1000 := by omega
      clear han hok hpa hpb hka hWb
      generalize s.add none = si at *
      generalize 2 * (s.n + 1) = ei at *
      generalize andI s pa pb = ra at *
      obtain ⟨ea, sa⟩ := ra
      simp only at HTA hsa HAN HRA
      rw [hW] at HIN HAN
      clear HW hW
      have HSH := Lib.hid (show ∀ w7 v7 iv7 s7 u7, s7.n ≤ 100 → Tw w1 w7 G M v7 iv7 s7 (.slice a' (k + 1) c') (k + 1) F w2.heap.size u7 s7 → (∃ au cu, u7 = .slice au s7.n cu) ∧ w7.cell? ⟨w2.heap.size, 0, none⟩ = some u7 ∧ Hid (∀ q, Calls Try.prog 16 #[.pointer (some ⟨G, 0, none⟩)] (w7.drewN q) fun e w' => e = .returned (.int .i64 ((s7.n : Int) + 1)) ∧ w' = w7.drewN q) ∧ Hid (∀ q, Lw w1 (w7.drewN q) G M v7 iv7 s7 (.slice a' (k + 1) c') (k + 1) F) from fun w7 v7 iv7 s7 u7 h T => by
        obtain ⟨au, cu, e, _, _⟩ := T.rg.sl.shape
        exact ⟨⟨au, cu, e⟩, T.rg.hd.cell (i := 0) (by omega), Lib.hid fun q => nodes_quiet T.lw.gn.gm (by omega) q, Lib.hid fun q => (T.drewN q).lw⟩)
      generalize K k = kk at *
      by_cases hK : kk = 0
      · subst hK
        go_wp2
        go_quiet (first
          | (go_at_call 11; with_reducible exact Calls.quiet_of_same (HEa.out _))
          | (go_at_call 11; with_reducible exact Calls.quiet_of_same (HEb.out _)))
        go_wp2_with (first
          | (go_at_call 12; refine (HIN.out _).mono ?_; rintro e w6 ⟨rfl, v6, iv6, T6⟩; have H6 := Lib.hid T6; clear T6)
          | (go_at_call 13; refine (HRI.out _ _ _ _ H6.out).mono ?_; rintro e w7 ⟨rfl, u7, T7⟩; have H7 := Lib.hid T7; clear T7; obtain ⟨⟨au, cu, rfl⟩, cu0, HND, HLX⟩ := HSH.out _ _ _ _ _ hsi H7.out))
        have bE : ((ei : Int) != (ei : Int)) = false := by simp
        have bN : (((si.n : Int) + 1) != ((si.n : Int) + 1)) = false := by simp
        go_quiet ((go_at_call 16; exact Calls.quiet_of_same (HND.out _)))
        go_wp2_with (at_builtin; refine Lw.wapp (Lib.hid (HLX.out _)) (by omega) ei rfl _ _ rfl rfl rfl ?_; intro a8 c8 w8 HL8 HK8; have HT8 := Lib.hid ((H7.out.drewN _).app HL8.out HK8.out))
        go_roundw
        case rel => exact ⟨k + 1, a8, c8, v6, iv6, si, _, _, by omega, rfl, by go_num, HT8, HTI⟩
        case measure => simp [intOf]; omega
      · have bK : (kk == 0) = false := by rw [beq_eq_false_iff_ne]; exact hK
        go_wp2
        go_quiet (first
          | (go_at_call 11; with_reducible exact Calls.quiet_of_same (HEa.out _))
          | (go_at_call 11; with_reducible exact Calls.quiet_of_same (HEb.out _)))
        go_wp2_with (first
          | (go_at_call 14; refine (HAN.out _).mono ?_; rintro e w6 ⟨rfl, v6, iv6, T6⟩; have H6 := Lib.hid T6; clear T6)
          | (go_at_call 15; refine (HRA.out _ _ _ _ H6.out).mono ?_; rintro e w7 ⟨rfl, u7, T7⟩; have H7 := Lib.hid T7; clear T7; obtain ⟨⟨au, cu, rfl⟩, cu0, HND, HLX⟩ := HSH.out _ _ _ _ _ hsa H7.out))
        have bE : ((ea : Int) != (ea : Int)) = false := by simp
        have bN : (((sa.n : Int) + 1) != ((sa.n : Int) + 1)) = false := by simp
        go_quiet ((go_at_call 16; exact Calls.quiet_of_same (HND.out _)))
        go_wp2_with (at_builtin; refine Lw.wapp (Lib.hid (HLX.out _)) (by omega) ea rfl _ _ rfl rfl rfl ?_; intro a8 c8 w8 HL8 HK8; have HT8 := Lib.hid ((H7.out.drewN _).app HL8.out HK8.out))
        go_roundw
        case rel => exact ⟨k + 1, a8, c8, v6, iv6, sa, _, _, by omega, rfl, by go_num, HT8, HTA⟩
        case measure => simp [intOf]; omega
    · obtain rfl : k = n := by omega
      obtain ⟨n, rfl⟩ : ∃ n, n = k := ⟨k, rfl⟩
      have hltI : ¬ (n : Int) < (n : Int) := by omega
      have hs := HT.out.n
      have hbw := HB1.out.trans (HR.out.lw.gn.bel.mono HB1.out.size)
      have HEV := Lib.hid (show Calls Try.prog 17 #[.pointer (some ⟨G, 0, none⟩), .slice a1 m c1, .slice a' (n + 1) c'] wr fun e w' => ∃ a c, e = .returned (.slice a (n + 1) c) ∧ Hid (Frs 4 wr w' (.slice a (n + 1) c) (n + 1) (fun j => .bool (val (mdl gm m) s (F j)))) from eval_any HR.out.lw.gn.gm (by omega) (HB.out.below hbw) (by omega) (HR.out.lw.has.weak fun _ _ e => e.elim) HT.out.lt (by omega))
      have HV := Lib.hid (fun e => value_is (G := w2.heap.size) (v := u) (a1 := a1) (m := m) (c1 := c1) (gm := gm) HR.out.lw.gn.gm.ok (by omega) (by omega) e)
      have HBW := Lib.hid hbw
      obtain ⟨au, cu, rfl, _, _⟩ := HR.out.rg.sl.shape
      have bL : (((n : Int) + 1) != ((n : Int) + 1)) = false := by simp
      clear hlt hbw
      go_wp2_with (go_at_call 17; refine HEV.out.mono ?_; rintro e w6 ⟨av, cv, rfl, H6⟩; have HB6 := Lib.hid H6.out.bel)
      go_loopw [15] (fun i w8 => ∃ k : Nat, k ≤ n + 1 ∧ k ≤ 20 ∧ i = .int .i64 k ∧ Hid (Below w6.heap.size w6 w8)) (fun i _ => 20 - (intOf i).toNat)
      case atStart => exact ⟨0, Nat.zero_le _, Nat.zero_le _, rfl, Lib.hid (Below.refl _ _)⟩
      case round =>
        obtain ⟨k, hk, hk20, rfl, HB8⟩ := hrel
        by_cases hc : k < n + 1 ∧ k < 20
        · obtain ⟨hc1, hc2⟩ := hc
          have hltI : (k : Int) < (n : Int) + 1 := by omega
          have h20 : (k : Int) < 20 := by omega
          have hk0 : (0 : Int) ≤ (k : Int) := by omega
          obtain ⟨b6, rfl, hc6⟩ := H6.out.cells (by omega)
          have hb6 : b6 < w6.heap.size := H6.out.own.lt rfl
          have xv := (HB8.out.cell (p := ⟨b6, k, none⟩) hb6).trans (hc6 k hc1)
          have hbe := HB6.out.trans (HB8.out.mono HB6.out.size)
          rcases HR.out.lw.has.below hbe with e | ⟨be, oe, rfl, hbe2, _, hce⟩
          · omega
          have xe := hce k hc1
          have HVk := Lib.hid (HV.out (F k) (HT.out.lt k hc1) wr.drew)
          have hd8 : Below wr.heap.size wr wr.drew := (Below.refl _ _).drew
          have hbd := hbe.trans (hd8.mono hbe.size)
          have HCALL := Lib.hid (HV.out (F k) (HT.out.lt k hc1) wr.drew (HR.out.rg.below hbd) (HB.out.below (HBW.out.trans (hbd.mono HBW.out.size))))
          have HKP := Lib.hid (show ∀ w9, Below wr.drew.heap.size wr.drew w9 → w9.cell? ⟨b6, k, none⟩ = some (.bool (val (mdl gm m) s (F k))) ∧ w9.cell? ⟨be, oe + k, none⟩ = some (.int .i64 (F k : Nat)) ∧ Hid (Below w6.heap.size w6 w9) from fun w9 h9 => ⟨(h9.cell (p := ⟨b6, k, none⟩) (Nat.lt_of_lt_of_le hb6 HB8.out.size)).trans xv, (h9.cell (p := ⟨be, oe + k, none⟩) hbe2).trans xe, Lib.hid ((HB8.out.trans (hd8.mono HB8.out.size)).trans (h9.mono HB8.out.size))⟩)
          clear hc6 hce hbe hbd hd8
          generalize val (mdl gm m) s (F k) = X at *
          generalize F k = fk at *
          have bX : (X != X) = false := by cases X <;> rfl
          go_wp2
          go_region_held3 (fun w' => w'.cell? ⟨b6, k, none⟩ = some (.bool X) ∧ w'.cell? ⟨be, oe + k, none⟩ = some (.int .i64 (fk : Nat)))
            (go_keep)
            ((go_at_call 18; refine HCALL.out.mono ?_; rintro e w9 ⟨rfl, h9⟩; obtain ⟨z1, z2, HB9⟩ := HKP.out _ h9))
          all_goals
            go_wp2
            go_roundw
            case rel => exact ⟨k + 1, by omega, by omega, by go_num, HB9⟩
            case measure => simp [intOf]; omega
        · have hbe := HB6.out.trans (HB8.out.mono HB6.out.size)
          have HTW := Lib.hid (HR.out.then hbe)
          have HNU := Lib.hid (show Rg wr w2.heap.size (.slice au s.n cu) s from HTW.out.rg)
          have cu1 := HNU.out.hd.cell (i := 0) (by omega)
          have hc0 : cT s (-1) = 0 := cT_lo (by omega)
          have HC0 := Lib.hid hc0
          have hgo : (¬ (k : Int) < (n : Int) + 1 ∧ k = n + 1) ∨ ((k : Int) < (n : Int) + 1 ∧ k = 20) := by omega
          clear hbe hc hc0
          rcases hgo with ⟨h1, h2⟩ | ⟨h1, h2⟩
          all_goals
            first
              | (have h3 : k = 20 := h2
                 subst h3
                 go_wp2)
              | (have hD : decide ((k : Int) < (n : Int) + 1) = false := by simpa using h1
                 clear h2
                 go_wp2)
          all_goals
            go_loopw [16, 17] (fun ic nn w9 => ∃ N : Int, -1 ≤ N ∧ N ≤ (s.n : Int) + 2 ∧ ic = .int .i64 (cT s N : Nat) ∧ nn = .int .i64 N ∧ Hid (Tw w1 w9 G M v iv s (.slice a' (n + 1) c') (n + 1) F w2.heap.size (.slice au s.n cu) s)) (fun _ nn _ => ((s.n : Int) + 2 - intOf nn).toNat)
            case atStart => exact ⟨-1, by omega, by omega, by rw [HC0.out]; rfl, rfl, HTW⟩
            case round =>
              obtain ⟨N, hN1, hN2, rfl, rfl, HTN⟩ := hrel
              have hcu := HTN.out.rg.hd.cell (i := 0) (by omega)
              by_cases hle : N ≤ (s.n : Int) + 1
              · have HND := Lib.hid (node_any HTN.out.lw.gn.gm (by omega) N (by omega))
                have HTX := Lib.hid (fun w10 (hb : Below wr.heap.size wr w10) => HTN.out.then hb)
                have HCU := Lib.hid (show ∀ w10, Below wr.heap.size wr w10 → w10.cell? ⟨w2.heap.size, 0, none⟩ = some (.slice au s.n cu) from fun w10 hb => (HTN.out.then hb).rg.hd.cell (i := 0) (by omega))
                by_cases hlow : N < 1
                · have hnd : ndO s N = none := if_neg (by omega)
                  have HC := Lib.hid (show cT s (N + 1) = cT s N by rw [cT_lo (by omega), cT_lo (by omega)])
                  rw [hnd, show ndT none = .tuple #[.int .i64 0, .int .i64 0, .bool false] from rfl] at HND
                  have hlowI : ¬ 1 ≤ N := by omega
                  have hlowD : decide (1 ≤ N) = false := by simpa using hlowI
                  clear hnd
                  go_wp2_with (go_at_call 19; refine HND.out.mono ?_; rintro e w10 ⟨rfl, h10⟩; have hcu10 := HCU.out _ h10; have HT10 := Lib.hid (HTX.out _ h10); clear h10)
                  go_roundw
                  case rel => exact ⟨N + 1, by omega, by omega, by rw [HC.out], rfl, HT10⟩
                  case measure => simp [intOf]; omega
                · obtain ⟨i, rfl⟩ : ∃ i : Nat, N = (i : Int) + 1 := ⟨(N - 1).toNat, by omega⟩
                  have g1 : (1 : Int) ≤ (i : Int) + 1 := by omega
                  have g2 : (i : Int) + 1 - 1 = (i : Int) := by omega
                  by_cases hin : i < s.n
                  · have g3 : (i : Int) + 1 ≤ (s.n : Int) := by omega
                    have g4 : (i : Int) < (s.n : Int) := by omega
                    have hnd : ndO s ((i : Int) + 1) = s.L i := by
                      unfold ndO
                      rw [if_pos ⟨g1, g3⟩, show ((i : Int) + 1).toNat - 1 = i by omega]
                    obtain ⟨g, cg, e, _, _, _⟩ := HTN.out.rg.sl.pos (by omega)
                    injection e with e1 e2 e3
                    subst e1 e3
                    have hct : cT s ((i : Int) + 1 + 1) = cT s ((i : Int) + 1) + if s.L i = none then 1 else 0 := by
                      rw [cT_in (by omega), show ((i : Int) + 1 + 1) = ((i + 1 : Nat) : Int) + 1 by omega, cT_in (by omega)]
                      rfl
                    have hcl : cT s ((i : Int) + 1) ≤ 1000 := by rw [cT_in (by omega)]; have := cnt_le s.L i; omega
                    rw [hnd] at HND
                    cases hl : s.L i with
                    | none =>
                      rw [hl, show ndT none = .tuple #[.int .i64 0, .int .i64 0, .bool false] from rfl] at HND
                      rw [if_pos hl] at hct
                      have HC := Lib.hid hct
                      have HZ := Lib.hid (show ∀ w10, Below wr.heap.size wr w10 → w10.cell? ⟨g, i * 3, none⟩ = some (.bool true) from fun w10 hb => by
                        rcases (HTN.out.then hb).rg.node3 hin with ⟨_, z, _⟩ | ⟨a', b', e, _⟩
                        · exact z
                        · rw [hl] at e; cases e)
                      clear hnd hl hct
                      generalize cT s ((i : Int) + 1) = ct at *
                      go_wp2_with (go_at_call 19; refine HND.out.mono ?_; rintro e w10 ⟨rfl, h10⟩; have hcu10 := HCU.out _ h10; have z0 := HZ.out _ h10; have HT10 := Lib.hid (HTX.out _ h10); clear h10)
                      go_roundw
                      case rel => exact ⟨(i : Int) + 1 + 1, by omega, by omega, by rw [HC.out]; go_num, rfl, HT10⟩
                      case measure => simp [intOf]; omega
                    | some p =>
                      obtain ⟨pa, pb⟩ := p
                      rw [hl, show ndT (some (pa, pb)) = .tuple #[.int .i64 pa, .int .i64 pb, .bool true] from rfl] at HND
                      rw [if_neg (by rw [hl]; intro h; cases h)] at hct
                      have HC := Lib.hid (show cT s ((i : Int) + 1 + 1) = cT s ((i : Int) + 1) from hct)
                      have HZ := Lib.hid (show ∀ w10, Below wr.heap.size wr w10 → w10.cell? ⟨g, i * 3, none⟩ = some (.bool false) ∧ w10.cell? ⟨g, i * 3 + 1, none⟩ = some (.int .i64 pa) ∧ w10.cell? ⟨g, i * 3 + 2, none⟩ = some (.int .i64 pb) from fun w10 hb => by
                        rcases (HTN.out.then hb).rg.node3 hin with ⟨e, _⟩ | ⟨a', b', e, z⟩
                        · rw [hl] at e; cases e
                        · rw [hl] at e; cases e; exact z)
                      have ba : ((pa : Int) != (pa : Int)) = false := by simp
                      have bb : ((pb : Int) != (pb : Int)) = false := by simp
                      clear hnd hl hct
                      generalize cT s ((i : Int) + 1) = ct at *
                      go_wp2_with (go_at_call 19; refine HND.out.mono ?_; rintro e w10 ⟨rfl, h10⟩; have hcu10 := HCU.out _ h10; obtain ⟨z0, z1, z2⟩ := HZ.out _ h10; have HT10 := Lib.hid (HTX.out _ h10); clear h10)
                      go_roundw
                      case rel => exact ⟨(i : Int) + 1 + 1, by omega, by omega, by rw [HC.out], rfl, HT10⟩
                      case measure => simp [intOf]; omega
                  · obtain rfl : i = s.n := by omega
                    have hnd : ndO s ((s.n : Int) + 1) = none := if_neg (by omega)
                    have HC := Lib.hid (show cT s ((s.n : Int) + 1 + 1) = cT s ((s.n : Int) + 1) by rw [cT_end (by omega), cT_end (by omega)])
                    rw [hnd, show ndT none = .tuple #[.int .i64 0, .int .i64 0, .bool false] from rfl] at HND
                    have g3 : ¬ (s.n : Int) + 1 ≤ (s.n : Int) := by omega
                    have g3D : decide ((s.n : Int) + 1 ≤ (s.n : Int)) = false := by simpa using g3
                    clear hnd hin
                    go_wp2_with (go_at_call 19; refine HND.out.mono ?_; rintro e w10 ⟨rfl, h10⟩; have hcu10 := HCU.out _ h10; have HT10 := Lib.hid (HTX.out _ h10); clear h10)
                    go_roundw
                    case rel => exact ⟨(s.n : Int) + 1 + 1, by omega, by omega, by rw [HC.out], rfl, HT10⟩
                    case measure => simp [intOf]; omega
              · have HII := Lib.hid (inputs_any HTN.out.lw.gn.gm (by omega))
                have HCT := Lib.hid (show cT s N = cnt s.L s.n from cT_end (by omega))
                have HBZ := Lib.hid (HB1.out.trans (HTN.out.lw.gn.bel.mono HB1.out.size))
                rw [HCT.out]
                have bC : (((cnt s.L s.n : Nat) : Int) == ((cnt s.L s.n : Nat) : Int)) = true := by simp
                go_wp2_with (go_at_call 20; refine HII.out.mono ?_; rintro e w10 ⟨aa, cc, rfl, h10⟩; have hb10 := h10.out.bel)
                go_ret
                exact ⟨rfl, HBZ.out.trans (hb10.mono HBZ.out.size)⟩
set_option maxHeartbeats 1000000 in
theorem acts_long (a0 a1 : Option Addr) (n c0 m c1 : Nat) (w : World) (h : 40 < n ∨ 40 < m) (hn2 : n ≤ 9223372036854775807) (hm2 : m ≤ 9223372036854775807) :
    Calls Try.prog 3 #[.slice a0 n c0, .slice a1 m c1] w (Law w) := by
  have HA := Lib.hid awake_any
  have Hn := Lib.hid hn2
  have Hm := Lib.hid hm2
  clear hn2 hm2
  by_cases hn : 40 < n
  · have hnI : (40 : Int) < (n : Int) := by omega
    clear h
    go_enter Try.func3, Try.ntmps3
    go_wp2_with (first
      | (go_at_call 9; have := HB1; refine (HA.out _).mono ?_; rintro e w2 ⟨rfl, hb2⟩; have HB2 := Lib.hid (HB1.out.trans (hb2.mono HB1.out.size)); clear hb2)
      | (go_at_call 9; refine (HA.out _).mono ?_; rintro e w1 ⟨rfl, hb1⟩; have HB1 := Lib.hid hb1; clear hb1))
    go_ret
    exact ⟨rfl, HB2.out⟩
  · have hm : 40 < m := by omega
    have hnI : ¬ (40 : Int) < (n : Int) := by omega
    have hnD : decide ((40 : Int) < (n : Int)) = false := by simpa using hnI
    have hmI : (40 : Int) < (m : Int) := by omega
    clear h
    go_enter Try.func3, Try.ntmps3
    go_wp2_with (first
      | (go_at_call 9; have := HB1; refine (HA.out _).mono ?_; rintro e w2 ⟨rfl, hb2⟩; have HB2 := Lib.hid (HB1.out.trans (hb2.mono HB1.out.size)); clear hb2)
      | (go_at_call 9; refine (HA.out _).mono ?_; rintro e w1 ⟨rfl, hb1⟩; have HB1 := Lib.hid hb1; clear hb1))
    go_ret
    exact ⟨rfl, HB2.out⟩
theorem acts_any (a0 a1 : Option Addr) (n c0 m c1 : Nat) (f : (Nat → Int) × (Nat → Int) × (Nat → Int) × (Nat → Int)) (gm : Nat → Bool) (w : World) (hA : Acts w a0 n f.1 f.2.1 f.2.2.1 f.2.2.2) (hn : n ≤ 9223372036854775807) (hB : HasB w a1 m gm) (hm : m ≤ 9223372036854775807) :
    Calls Try.prog 3 #[.slice a0 n c0, .slice a1 m c1] w (Law w) := by
  by_cases h : n ≤ 40 ∧ m ≤ 40
  · exact acts_walk a0 a1 n c0 m c1 _ _ _ _ gm w h.1 h.2 hA hB
  · exact acts_long a0 a1 n c0 m c1 w (by omega) hn hm
end Go.Proofs.Ytfdopgohopibkaa
