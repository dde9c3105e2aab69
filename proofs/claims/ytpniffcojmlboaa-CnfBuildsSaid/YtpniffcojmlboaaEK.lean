/- The law CnfBuilds. -/
import Derived.Test.YtpniffcojmlboaaEL
namespace Go.Proofs.Ytpniffcojmlboaa
open Go.RowKit Go.Lib Go.Maps
set_option maxRecDepth 100000

set_option maxHeartbeats 64000000 in
theorem builds_walk (a0 : Option Addr) (n0 c0 : Nat) (K0 A0 B0 C0 : Nat → Int) (a1 : Option Addr) (n1 c1 : Nat) (gm : Nat → Bool) (w : World) (h0 : n0 ≤ 25) (h1 : n1 ≤ 60) (hA0 : Acts w a0 n0 K0 A0 B0 C0) (hA1 : HasB w a1 n1 gm) :
    Calls Try.prog 3 #[.slice a0 n0 c0, .slice a1 n1 c1] w (laws w) := by
  have HAw := Lib.hid awake_any
  have HMd := Lib.hid (show ∀ w1, Below w.heap.size w w1 → Calls Try.prog 7 #[.slice a0 n0 c0] w1 fun e w' => ∃ G M v iv s a' c' F, e = .returned (.tuple #[.pointer (some ⟨G, 0, none⟩), .slice a' (n0 + 4) c']) ∧ Hid (Md w1 w' G M v iv s (.slice a' (n0 + 4) c') (n0 + 4) F) from fun w1 hb => made_any a0 n0 c0 _ _ _ _ w1 (by omega) (hA0.below hb))
  have HA := Lib.hid hA1
  obtain ⟨p0, hp0⟩ : ∃ p0, n0 + 4 = p0 + 1 := ⟨n0 + 3, rfl⟩
  have hnI : ¬ (25 : Int) < (n0 : Int) := by omega
  have hnJ : ¬ (60 : Int) < (n1 : Int) := by omega
  have hnD : decide ((25 : Int) < (n0 : Int)) = false := by simpa using hnI
  have hnE : decide ((60 : Int) < (n1 : Int)) = false := by simpa using hnJ
  rw [hp0] at HMd
  have hq1 : p0 ≤ 28 := by omega
  have HTO := Lib.hid (show ∀ w1 w2 G M v iv s ev m F, Md w1 w2 G M v iv s ev m F → m = p0 + 1 → Calls Try.prog 8 #[.pointer (some ⟨G, 0, none⟩)] w2 fun e w' => ∃ T tv, e = .returned (.pointer (some ⟨T, 0, none⟩)) ∧ Hid (Tl w2 w' T tv s) from fun w1 w2 G M v iv s ev m F h e => told_any h.lw.gn.gm (by have := h.n; omega))
  have HNEW := Lib.hid cnf_new
  have HRN := Lib.hid rnew_any
  clear hA0 hA1 hnI hnJ hp0
  go_enter Try.func3, Try.ntmps3
  go_wp2_with (first
    | (go_at_call 6; refine (HAw.out _).mono ?_; rintro e w1 ⟨rfl, hb1⟩; have HB1 := Lib.hid hb1; clear hb1)
    | (go_at_call 7; refine (HMd.out _ HB1.out).mono ?_; rintro e w2 ⟨G, M, v, iv, s, a', c', F, rfl, H2⟩)
    | (go_at_call 8; refine (HTO.out _ _ _ _ _ _ _ _ _ _ H2.out rfl).mono ?_; rintro e w3 ⟨T, tv, rfl, H3⟩)
    | (go_at_call 9; refine (HNEW.out _ _).mono ?_; rintro e w4 ⟨K, Mv, fv, fh, rfl, H4⟩)
    | (go_at_call 10; refine (HRN.out _ _).mono ?_; rintro e w5 ⟨R, lv, cv, rh, rfl, H5⟩))
  have HL0 := Lib.hid (Lb.new H2.out H3.out H4.out H5.out)
  have HOK := Lib.hid H2.out.lw.gn.gm.ok
  have hsn : s.n ≤ 100 := by have := H2.out.n; omega
  have HLT := Lib.hid H2.out.lt
  clear HTO HNEW HRN HMd HAw H2 H3 H4 H5
  go_loopw [10, 11] (fun dv i wr => ∃ (c : Nat) (ad : Option Addr) (nD cd : Nat) (b : Bool) (V : List Nat) (ls D C : List (List Int)) (fv lv cv : Value) (fh rh dh : Nat → Value), c ≤ p0 + 1 ∧ dv = .slice ad nD cd ∧ i = .int .i64 ((c : Int) - 1) ∧ Hid (nD = D.length) ∧ Hid (c = 0 → b = true) ∧ Hid (BP s V ls D C b) ∧
    Hid (Lb w1 wr G M v iv s K Mv fv fh V ls (.slice a' (p0 + 1) c') (p0 + 1) (fun j => (F j : Int)) T tv R lv cv rh V C (.slice ad nD cd) D dh (.slice none 0 0) 0 (fun _ => .bool false) (.slice none 0 0) 0 (fun _ => .bool false))) (fun _ i _ => (intOf i + 1).toNat)
  case atStart => exact ⟨p0 + 1, none, 0, 0, false, [0], [[-1]], [], [[-1]], fv, lv, cv, fh, rh, _, Nat.le_refl _, rfl, by rw [show (((p0 + 1 : Nat) : Int) - 1) = (p0 : Int) by omega], Lib.hid rfl, Lib.hid (fun h => by omega), Lib.hid (BP.start s), HL0⟩
  case round =>
    obtain ⟨c, ad, nD, cd, b, V, ls, D, C, fv, lv, cv, fh, rh, dh, hc, rfl, rfl, HND, HCB, HP, HR⟩ := hrel
    clear HL0
    cases c with
    | zero =>
      have hb := HCB.out rfl
      subst hb
      have hls := HP.out.nil rfl
      subst hls
      have hCD : C = D := by simpa using HP.out.app
      subst hCD
      have hvs : Vs s V := HP.out.inv.vs
      have hfew := hvs.few
      obtain ⟨PL, hPH, hPL0⟩ := ph_of hsn hvs HP.out HR.out
      have PH := Lib.hid hPH
      have HPL0 := Lib.hid hPL0
      obtain ⟨I, hI⟩ : ∃ I, I = mdl gm n1 := ⟨_, rfl⟩
      obtain ⟨nV, hnV⟩ : ∃ nV, nV = V.length := ⟨_, rfl⟩
      obtain ⟨N, hN⟩ : ∃ N, N = cnt s.L s.n := ⟨_, rfl⟩
      have hNb : N ≤ 100 := by have := cnt_le s.L s.n; omega
      have hnVb : nV ≤ 101 := by omega
      obtain ⟨tv2, htv⟩ : ∃ tv2 : Nat → Bool, tv2 = fun j => tbN I s (V.getD j 0) := ⟨_, rfl⟩
      have hvals : Vals V (tbN I s) tv2 := ⟨fun i hi => by rw [htv]; simp [hi], by omega⟩
      have HVALS := Lib.hid hvals
      have HVS := Lib.hid hvs
      have HNV := Lib.hid hnV
      have HNN := Lib.hid hN
      have HI := Lib.hid hI
      have hall : allC tv2 V.length C = true := all_true HP.out.inv hvals (tbN_zero I s) (tbN_ands I HOK.out)
      have HALLT := Lib.hid hall
      have HTV := Lib.hid (show ∀ (k : Nat) (hk : k < V.length), tv2 k = tbN I s V[k] from fun k hk => hvals.at' k hk)
      have HLS := Lib.hid (PH.out.lists HPL0.out)
      have xrc := PH.out.rc HPL0.out
      have HBW := Lib.hid (show ∀ (w' : World) (xv : Value) (nx : Nat) (f : Nat → Bool) (yv : Value) (ny : Nat) (h : Nat → Bool), PL w' xv nx f yv ny h → Below w.heap.size w w' from fun w' xv nx f yv ny h hp => HB1.out.trans ((PH.out.bel hp).mono HB1.out.size))
      rw [show (((0 : Nat) : Int) - 1) = -1 from rfl]
      clear hPH hPL0 hI hnV hN htv hvals hvs hfew hall HR HCB
      go_wp2_with (go_at_call 15; refine HLS.out.mono ?_; rintro e w2 ⟨rfl, hb2⟩; have HPL2 := Lib.hid (PH.out.quiet HPL0.out hb2); clear hb2)
      -- the values
      go_loopw [12, 13] (fun xv i wr => ∃ (k : Nat) (ax : Option Addr) (cx : Nat), k ≤ nV ∧ xv = .slice ax k cx ∧ i = .int .i64 k ∧ Hid (PL wr (.slice ax k cx) k tv2 (.slice none 0 0) 0 (fun _ => false))) (fun _ i _ => nV - (intOf i).toNat)
      case atStart => exact ⟨0, none, 0, Nat.zero_le _, rfl, rfl, Lib.hid (PH.out.val HPL2.out (Fr.refl _ _) (fun b e => .inl e) (Sl.nil))⟩
      case round =>
        obtain ⟨k, ax, cx, hk, rfl, rfl, HQ⟩ := hrel
        clear HPL2 HPL0 HLS xrc
        obtain ⟨gl, cl, xR, hRc⟩ := PH.out.rl HQ.out
        rw [← HNV.out] at xR
        by_cases hlt : k < nV
        · have hltI : (k : Int) < (nV : Int) := by omega
          have hI0 : (0 : Int) ≤ (k : Int) := by omega
          have hkl : k < V.length := HNV.out ▸ hlt
          have xk := hRc k hkl
          have hxn := HVS.out.le V[k] (List.getElem_mem hkl)
          have htk := HTV.out k hkl
          generalize V[k] = x at *
          have hxb : x ≤ 100 := by omega
          have HW := Lib.hid (PH.out.quiet HQ.out ((Below.refl _ wr).alloc (Nat.le_refl _) (.cells #[.int .i64 (2 * (x : Int))] 3)))
          have hev := eval_any (PH.out.gm HW.out) (by omega) (HA.out.below (HBW.out _ _ _ _ _ _ _ HW.out)) (by omega) (a1 := a1) (c1 := c1) (a2 := some ⟨wr.heap.size, 0, none⟩) (c2 := 1) (n := 1) (g := fun _ => 2 * x) (.inr ⟨wr.heap.size, 0, rfl, by simp, fun e => e, fun j hj => by
            obtain rfl : j = 0 := by omega
            have := (World.rowIs_alloc wr #[.int .i64 (2 * (x : Int))] 3 (fun _ => .int .i64 (2 * (x : Int))) (fun i hi => by
              obtain rfl : i = 0 := by simp at hi; omega
              rfl)).cell (i := 0) (by show 0 < 1; omega)
            rw [this]; simp⟩) (fun j _ => by omega) (by omega)
          rw [← HI.out] at hev
          have htx : val I s (2 * x) = tv2 k := htk.symm
          simp only [htx] at hev
          generalize htb : tv2 k = bk at *
          have HEV := Lib.hid hev
          have HTB := Lib.hid htb
          have HSX := Lib.hid (show ∀ w2, Below (wr.alloc (.cells #[.int .i64 (2 * (x : Int))] 3)).heap.size (wr.alloc (.cells #[.int .i64 (2 * (x : Int))] 3)) w2 → Hid (PL w2 (.slice ax k cx) k tv2 (.slice none 0 0) 0 (fun _ => false)) ∧ Hid (Sl w2 4 1 (.slice ax k cx) k (fun j => .bool (tv2 j))) from fun w2 hb => ⟨Lib.hid (PH.out.quiet HW.out hb), Lib.hid (PH.out.vx (PH.out.quiet HW.out hb))⟩)
          clear hRc hkl hev htk htx htb hxn
          go_wp2_with (first
            | (go_at_call 16; refine HEV.out.mono ?_; rintro e w3 ⟨ae, ce, rfl, HE⟩; obtain ⟨ge, rfl, _, hce⟩ := HE.out.own.cells1 (by omega); have xe := hce 0 (by omega); clear hce; obtain ⟨HP3, HX3⟩ := HSX.out _ HE.out.bel)
            | (at_builtin; refine Sl.app1 elemBool HX3 (.bool bk) rfl (by unfold maxLen; omega) (by omega) rfl _ _ rfl rfl rfl ?_; intro a5 c5 w5 q1 q2 q3; have H5 := Lib.hid (PH.out.val (PH.out.quiet HP3.out ((Below.refl _ w3).alloc (Nat.le_refl _) (.cells #[.bool bk] 4))) q2.out (fun b e => by
                rcases q3.out with g3 | g3
                · exact .inl (g3 ▸ e)
                · rw [g3] at e; injection e with e; exact .inr (by omega)) (f' := tv2) (q1.out.congr fun j hj => by
                  unfold catV
                  split
                  · rfl
                  · next h => rw [show j = k by omega, HTB.out])); clear q1 q2 q3))
          go_roundw
          case rel => exact ⟨k + 1, a5, c5, by omega, rfl, by go_num, H5⟩
          case measure => simp [intOf]; omega
        · obtain ⟨nV, rfl⟩ : ∃ x, x = nV := ⟨nV, rfl⟩
          obtain rfl : nV = k := by omega
          have hltI : ¬ (nV : Int) < (nV : Int) := by omega
          have hQ := HQ.out
          rw [HNV.out] at hQ
          have h1 := PH.out.all hQ
          have h2 := PH.out.inputs hQ
          rw [HALLT.out] at h1
          rw [← HNV.out, ← HNN.out] at h2
          rw [← HNV.out] at h1
          have HAL := Lib.hid h1
          have HIN := Lib.hid h2
          clear hlt hRc hQ h1 h2
          go_wp2_with (first
            | (go_at_call 17; refine HAL.out.mono ?_; rintro e w' ⟨rfl, rfl⟩)
            | (go_at_call 18; refine HIN.out.mono ?_; rintro e w3 ⟨ay, cy, rfl, HP3⟩))
          obtain ⟨yf, hyf⟩ : ∃ yf, yf = inW s V nV tv2 := ⟨_, rfl⟩
          rw [← hyf] at HP3
          have HYF := Lib.hid (show ∀ j, j < N → yf j = (decide (nin s.L s.n j + 1 ∈ V) && (decide (j < n1) && gm j)) from fun j hj => by
            rw [hyf, HNV.out, inW_eq HVALS.out (by rw [← HNN.out]; exact hj), HI.out]; rfl)
          clear hyf HAL HIN
          -- the inputs
          go_loopw [15] (fun i wr => ∃ k : Nat, k ≤ N ∧ i = .int .i64 k ∧ Hid (PL wr (.slice ax nV cx) nV tv2 (.slice ay N cy) N yf)) (fun i _ => N - (intOf i).toNat)
          case atStart => exact ⟨0, Nat.zero_le _, rfl, HP3⟩
          case round =>
            obtain ⟨k, hk, rfl, HQ⟩ := hrel
            clear HP3
            by_cases hlt : k < N
            · have hltI : (k : Int) < (N : Int) := by omega
              have hI0 : (0 : Int) ≤ (k : Int) := by omega
              obtain ⟨gy, rfl, _, hcy⟩ := (PH.out.vy HQ.out).cells1 (by omega)
              have xy := hcy k hlt
              have hyk := HYF.out k hlt
              have HSY := Lib.hid (show ∀ w2, Below wr.heap.size wr w2 → Hid (PL w2 (.slice ax nV cx) nV tv2 (.slice (some ⟨gy, 0, none⟩) N cy) N yf) ∧ w2.cell? ⟨gy, k, none⟩ = some (.bool (yf k)) from fun w2 hb => by
                obtain ⟨g', e1, _, h1⟩ := (PH.out.vy (PH.out.quiet HQ.out hb)).cells1 (by omega)
                cases e1
                exact ⟨Lib.hid (PH.out.quiet HQ.out hb), h1 k hlt⟩)
              clear hcy
              by_cases hkn : k < n1
              · have h1I : (k : Int) < (n1 : Int) := by omega
                rcases HA.out.below (HBW.out _ _ _ _ _ _ _ HQ.out) with e | ⟨b2, off2, rfl, _, hc2⟩
                · omega
                have xm := hc2 k hkn
                rw [decide_eq_true hkn, Bool.true_and] at hyk
                clear hc2
                cases hg : gm k
                · rw [hg] at xm hyk
                  rw [Bool.and_false] at hyk
                  rw [hyk] at xy
                  clear hyk hg hkn HSY
                  go_wp2
                  go_roundw
                  case rel => exact ⟨k + 1, by omega, by go_num, HQ⟩
                  case measure => simp [intOf]; omega
                · rw [hg] at xm hyk
                  rw [Bool.and_true] at hyk
                  have hin := inputs_any (PH.out.gm HQ.out) (by omega)
                  rw [← HNN.out] at hin
                  have HIN := Lib.hid hin
                  obtain ⟨u, hu⟩ : ∃ u, u = nin s.L s.n k + 1 := ⟨_, rfl⟩
                  have hul : u ≤ 101 := by have := nin_lt s.L k s.n; omega
                  have hiv : inV s k = .int .i64 ((2 * u : Nat) : Int) := by rw [hu]; rfl
                  rw [← hu] at hyk
                  have HVR := Lib.hid (show ∀ w2, Below wr.heap.size wr w2 → Calls Try.prog 19 #[.pointer (some ⟨R, 0, none⟩), .int .i64 u] w2 fun e w' => e = .returned (.int .i64 (vr V u : Nat)) ∧ w2 = w' from fun w2 hb => PH.out.var (PH.out.quiet HQ.out hb) u)
                  obtain ⟨e0, he0⟩ : ∃ e0, e0 = 2 * u := ⟨_, rfl⟩
                  rw [← he0] at hiv
                  have hvp := vr_pos (V := V) (n := u)
                  have hvl := vr_le V u
                  generalize hqv : vr V u = qv at *
                  have d1 : ((e0 : Int)).tdiv 2 = (u : Int) := by rw [Int.tdiv_eq_ediv_of_nonneg (by omega)]; omega
                  have d2 : (e0 : Int) / 2 = (u : Int) := by omega
                  have hqb : qv ≤ 200 := by have := HNV.out; omega
                  have HIV := Lib.hid hiv
                  clear hin hu hiv he0 hg hkn hqv hvl
                  by_cases hq0 : 0 < qv
                  · have hqI : (0 : Int) < (qv : Int) := by omega
                    have hqD : decide (0 < qv) = true := decide_eq_true hq0
                    rw [decide_eq_true (hvp.1 hq0)] at hyk
                    have HYK := Lib.hid hyk
                    clear hyk hvp xy
                    go_wp2_with (first
                      | (go_at_call 20; refine HIN.out.mono ?_; rintro e w2 ⟨ai, ci, rfl, HF2⟩; obtain ⟨HQ2, xy2⟩ := HSY.out _ HF2.out.bel; rw [HYK.out] at xy2; obtain ⟨gi, rfl, _, hci⟩ := HF2.out.own.cells1 (by omega); have xi := hci k hlt; rw [HIV.out] at xi; clear hci)
                      | (go_at_call 19; refine (HVR.out _ HF2.out.bel).mono ?_; rintro e w3 ⟨rfl, rfl⟩))
                    go_roundw
                    case rel => exact ⟨k + 1, by omega, by go_num, HQ2⟩
                    case measure => simp [intOf]; omega
                  · have hqI : ¬ (0 : Int) < (qv : Int) := by omega
                    have hqD : decide (0 < qv) = false := decide_eq_false hq0
                    rw [decide_eq_false (fun h => hq0 (hvp.2 h))] at hyk
                    have HYK := Lib.hid hyk
                    clear hyk hvp xy
                    go_wp2_with (first
                      | (go_at_call 20; refine HIN.out.mono ?_; rintro e w2 ⟨ai, ci, rfl, HF2⟩; obtain ⟨HQ2, xy2⟩ := HSY.out _ HF2.out.bel; rw [HYK.out] at xy2; obtain ⟨gi, rfl, _, hci⟩ := HF2.out.own.cells1 (by omega); have xi := hci k hlt; rw [HIV.out] at xi; clear hci)
                      | (go_at_call 19; refine (HVR.out _ HF2.out.bel).mono ?_; rintro e w3 ⟨rfl, rfl⟩))
                    go_roundw
                    case rel => exact ⟨k + 1, by omega, by go_num, HQ2⟩
                    case measure => simp [intOf]; omega
              · have h1I : ¬ (k : Int) < (n1 : Int) := by omega
                rw [decide_eq_false hkn, Bool.false_and, Bool.and_false] at hyk
                rw [hyk] at xy
                clear hyk hkn HSY
                go_wp2
                go_roundw
                case rel => exact ⟨k + 1, by omega, by go_num, HQ⟩
                case measure => simp [intOf]; omega
            · obtain rfl : k = N := by omega
              have hltI : ¬ (k : Int) < (k : Int) := by omega
              clear hlt
              have hin := inputs_any (PH.out.gm HQ.out) (by omega)
              clear hin
              go_wp2
              -- one turned
              go_loopw [17] (fun i wr => ∃ j : Nat, j ≤ nV ∧ i = .int .i64 j ∧ Hid (PL wr (.slice ax nV cx) nV tv2 (.slice ay k cy) k yf)) (fun i _ => nV - (intOf i).toNat)
              case atStart => exact ⟨0, Nat.zero_le _, rfl, HQ⟩
              case round =>
                obtain ⟨j, hj, rfl, HZ⟩ := hrel
                clear HQ
                obtain ⟨gl, cl, xR, hRc⟩ := PH.out.rl HZ.out
                rw [← HNV.out] at xR
                by_cases hlt : j < nV
                · have hltI : (j : Int) < (nV : Int) := by omega
                  have hI0 : (0 : Int) ≤ (j : Int) := by omega
                  have hjl : j < V.length := HNV.out ▸ hlt
                  have xk := hRc j hjl
                  have hxn := HVS.out.le V[j] (List.getElem_mem hjl)
                  have hfls := fun hk => all_false HOK.out HP.out.inv HVALS.out (tbN_zero I s) (tbN_ands I HOK.out) (i := j) hjl hk
                  have hno := node_any (PH.out.gm HZ.out) (by omega) V[j] (by omega)
                  rw [ndO_nat s hxn] at hno
                  generalize hx : V[j] = x at *
                  have hxb : x ≤ 100 := by omega
                  obtain ⟨gx, rfl, _, hcx⟩ := (PH.out.vx HZ.out).cells1 (by omega)
                  have HST := Lib.hid (show ∀ w2, Below wr.heap.size wr w2 → w2.cell? ⟨gx, j, none⟩ = some (.bool (tv2 j)) ∧ w2.frozen? ⟨gx, j, none⟩ = false ∧ Hid (PL (w2.setCell ⟨gx, j, none⟩ (.bool (!tv2 j))) (.slice (some ⟨gx, 0, none⟩) nV cx) nV (fun i => if i = j then !tv2 i else tv2 i) (.slice ay k cy) k yf) from fun w2 hb => by
                    have hq := PH.out.quiet HZ.out hb
                    have hs := PH.out.vx hq
                    refine ⟨hs.cell (j := j) (by omega), hs.frozen j, Lib.hid (PH.out.val hq (Fr.set (Fr.refl _ _) (p := ⟨gx, j, none⟩) (by rfl) _) (fun b e => .inl e) ((hs.set j (.bool (!tv2 j))).congr fun i hi => ?_))⟩
                    by_cases e : i = j
                    · subst e; rw [if_pos rfl, if_pos rfl]
                    · rw [if_neg e, if_neg e])
                  have HBK := Lib.hid (show ∀ w3, PL w3 (.slice (some ⟨gx, 0, none⟩) nV cx) nV (fun i => if i = j then !tv2 i else tv2 i) (.slice ay k cy) k yf → w3.cell? ⟨gx, j, none⟩ = some (.bool (!tv2 j)) ∧ w3.frozen? ⟨gx, j, none⟩ = false ∧ Hid (PL (w3.setCell ⟨gx, j, none⟩ (.bool (tv2 j))) (.slice (some ⟨gx, 0, none⟩) nV cx) nV tv2 (.slice ay k cy) k yf) from fun w3 hq => by
                    have hs := PH.out.vx hq
                    refine ⟨(hs.cell (j := j) (by omega)).trans (by rw [if_pos rfl]), hs.frozen j, Lib.hid (PH.out.val hq (Fr.set (Fr.refl _ _) (p := ⟨gx, j, none⟩) (by rfl) _) (fun b e => .inl e) ((hs.set j (.bool (tv2 j))).congr fun i hi => ?_))⟩
                    by_cases e : i = j
                    · subst e; rw [if_pos rfl]
                    · rw [if_neg e, if_neg e])
                  have HAL := Lib.hid (show ∀ w3, PL w3 (.slice (some ⟨gx, 0, none⟩) nV cx) nV (fun i => if i = j then !tv2 i else tv2 i) (.slice ay k cy) k yf → (j = 0 ∨ (nd s x).isSome = true) → Calls Try.prog 17 #[.slice ad nD cd, .slice (some ⟨gx, 0, none⟩) nV cx] w3 fun e w' => e = .returned (.bool false) ∧ w3 = w' from fun w3 hq hk => by
                    rw [HNV.out] at hq
                    have h1 := PH.out.all hq
                    have h2 := hfls hk
                    have h3 : (fun i => if i = j then !tv2 i else tv2 i) = (fun i => if i = j then !tv2 i else tv2 i) := rfl
                    rw [h2] at h1
                    rw [← HNV.out] at h1
                    exact h1)
                  generalize tv2 j = bj at *
                  clear hcx hRc hfls hxn hx hjl
                  cases hnd : nd s x with
                  | some p =>
                    obtain ⟨a, b⟩ := p
                    rw [hnd, show ndT (some (a, b)) = .tuple #[.int .i64 a, .int .i64 b, .bool true] from rfl] at hno
                    have HNO := Lib.hid hno
                    have HND2 := Lib.hid (show (nd s x).isSome = true by rw [hnd]; rfl)
                    clear hno hnd
                    cases bj
                    all_goals
                      go_wp2_with (first
                        | (go_at_call 21; refine HNO.out.mono ?_; rintro e w2 ⟨rfl, hb2⟩; obtain ⟨xs2, fs2, H3⟩ := HST.out _ hb2; have HB2 := Lib.hid hb2; clear hb2; obtain ⟨xs3, fs3, H4⟩ := HBK.out _ H3.out)
                        | (go_at_call 17; refine (HAL.out _ H3.out (.inr HND2.out)).mono ?_; rintro e w4 ⟨rfl, rfl⟩))
                      go_roundw
                      case rel => exact ⟨j + 1, by omega, by go_num, H4⟩
                      case measure => simp [intOf]; omega
                  | none =>
                    rw [hnd, show ndT none = .tuple #[.int .i64 0, .int .i64 0, .bool false] from rfl] at hno
                    have HNO := Lib.hid hno
                    clear hno hnd
                    by_cases hj0 : j = 0
                    · have HJ0 := Lib.hid hj0
                      have hjB : ((j : Int) == 0) = true := by rw [hj0]; rfl
                      clear hj0
                      cases bj
                      all_goals
                        go_wp2_with (first
                          | (go_at_call 21; refine HNO.out.mono ?_; rintro e w2 ⟨rfl, hb2⟩; obtain ⟨xs2, fs2, H3⟩ := HST.out _ hb2; have HB2 := Lib.hid hb2; clear hb2; obtain ⟨xs3, fs3, H4⟩ := HBK.out _ H3.out)
                          | (go_at_call 17; refine (HAL.out _ H3.out (.inl HJ0.out)).mono ?_; rintro e w4 ⟨rfl, rfl⟩))
                        go_roundw
                        case rel => exact ⟨j + 1, by omega, by go_num, H4⟩
                        case measure => simp [intOf]; omega
                    · have hjI : ¬ (j : Int) = 0 := by omega
                      have hjB : ((j : Int) == 0) = false := by rw [beq_eq_false_iff_ne]; exact hjI
                      clear hj0
                      cases bj
                      all_goals
                        go_wp2_with (first
                          | (go_at_call 21; refine HNO.out.mono ?_; rintro e w2 ⟨rfl, hb2⟩; obtain ⟨xs2, fs2, H3⟩ := HST.out _ hb2; have HB2 := Lib.hid hb2; clear hb2; obtain ⟨xs3, fs3, H4⟩ := HBK.out _ H3.out))
                        go_roundw
                        case rel => exact ⟨j + 1, by omega, by go_num, H4⟩
                        case measure => simp [intOf]; omega
                · obtain ⟨jj, rfl⟩ : ∃ jj, jj = j := ⟨j, rfl⟩
                  obtain rfl : jj = nV := by omega
                  have hltI2 : ¬ (jj : Int) < (jj : Int) := by omega
                  have hin := inputs_any (PH.out.gm HZ.out) (by omega)
                  rw [← HNN.out] at hin
                  have HIN := Lib.hid hin
                  have HBZ := Lib.hid (HBW.out _ _ _ _ _ _ _ HZ.out)
                  clear hin hlt hRc
                  go_wp2_with (go_at_call 20; refine HIN.out.mono ?_; rintro e w2 ⟨ai, ci, rfl, HF2⟩)
                  go_ret
                  exact ⟨rfl, HBZ.out.trans (HF2.out.bel.mono HBZ.out.size)⟩
    | succ c =>
      rw [show (((c + 1 : Nat) : Int) - 1) = (c : Int) by omega]
      have hcI : (0 : Int) ≤ (c : Int) := by omega
      have hF := HLT.out c (by omega)
      obtain ⟨g, rfl, _, hcc⟩ := HR.out.es.cells1 (by omega)
      have xc : wr.cell? ⟨g, c, none⟩ = some (.int .i64 (F c : Nat)) := hcc c (by omega)
      have hcJ : (c : Int) < (p0 : Int) + 1 := by omega
      have hLd := HR.out.quiet (Below.refl _ wr).drew
      have hvs : Vs s V := HP.out.inv.vs
      have hfew := hvs.few
      have hlenC := HP.out.len
      have hlls : ls.length ≤ 100000 := by have := congrArg List.length HP.out.app; simp at this; omega
      obtain ⟨e1, hstep⟩ := HP.out.step HOK.out (n := F c / 2) (by omega)
      have HL1 := hLd.lit (by omega) hvs hlls (F c) hF
      have hvs' : Vs s (need s (V, ls) (F c / 2)).1 := hstep.inv.vs
      have hfew' := hvs'.few
      have HLR := Lib.hid (show ∀ w6 fv fh ls' V', Lb w1 w6 G M v iv s K Mv fv fh V' ls' (.slice (some ⟨g, 0, none⟩) (p0 + 1) c') (p0 + 1) (fun j => (F j : Int)) T tv R lv cv rh V C (.slice ad nD cd) D dh (.slice none 0 0) 0 (fun _ => .bool false) (.slice none 0 0) 0 (fun _ => .bool false) →
          Calls Try.prog 12 #[.pointer (some ⟨R, 0, none⟩), .int .i64 (F c : Nat)] w6 fun r w' => r = .returned (.int .i64 (lit (need s (V, ls) (F c / 2)).1 (F c))) ∧ ∃ lv' cv' rh', Hid (Lb w1 w' G M v iv s K Mv fv fh V' ls' (.slice (some ⟨g, 0, none⟩) (p0 + 1) c') (p0 + 1) (fun j => (F j : Int)) T tv R lv' cv' rh' (need s (V, ls) (F c / 2)).1 (need s (V, C) (F c / 2)).2 (.slice ad nD cd) D dh (.slice none 0 0) 0 (fun _ => .bool false) (.slice none 0 0) 0 (fun _ => .bool false)) from fun w6 fv fh ls' V' h => by
        have := h.litR (by omega) hvs hlenC (F c) hF
        rw [e1] at this
        exact this)
      have hdl : (need s (V, ls) (F c / 2)).2.length ≤ 3 * (need s (V, ls) (F c / 2)).1.length := by
        have h2 := hstep.len
        have h3 := hstep.app
        rw [h3] at h2
        simp at h2
        omega
      generalize lit (need s (V, ls) (F c / 2)).1 (F c) = l at *
      generalize hC' : (need s (V, C) (F c / 2)).2 = C' at *
      generalize need s (V, ls) (F c / 2) = Z at *
      obtain ⟨nV, hnV⟩ : ∃ nV, nV = Z.1.length := ⟨_, rfl⟩
      obtain ⟨nl, hnl⟩ : ∃ nl, nl = Z.2.length := ⟨_, rfl⟩
      have HLN := Lib.hid (show ∀ w6 fv fh lv cv rh, Lb w1 w6 G M v iv s K Mv fv fh Z.1 Z.2 (.slice (some ⟨g, 0, none⟩) (p0 + 1) c') (p0 + 1) (fun j => (F j : Int)) T tv R lv cv rh Z.1 C' (.slice ad nD cd) D dh (.slice none 0 0) 0 (fun _ => .bool false) (.slice none 0 0) 0 (fun _ => .bool false) →
          Calls Try.prog 11 #[.pointer (some ⟨K, 0, none⟩), .int .i64 (-5)] w6 fun r w' => r = .returned (.int .i64 1) ∧ ∃ fv' fh', Hid (Lb w1 w' G M v iv s K Mv fv' fh' Z.1 Z.2 (.slice (some ⟨g, 0, none⟩) (p0 + 1) c') (p0 + 1) (fun j => (F j : Int)) T tv R lv cv rh Z.1 C' (.slice ad nD cd) D dh (.slice none 0 0) 0 (fun _ => .bool false) (.slice none 0 0) 0 (fun _ => .bool false)) from fun w6 fv fh lv cv rh h => h.litN (by omega) hvs' (by omega))
      have HVar := Lib.hid (show ∀ w7 fv fh, Cm w7 K G Mv fv fh Z.1 Z.2 → Calls Try.prog 13 #[.pointer (some ⟨K, 0, none⟩)] w7 fun r w' => r = .returned (.int .i64 nV) ∧ w7 = w' from fun w7 fv fh h => hnV ▸ vars_any h)
      have HES := Lib.hid (show ∀ w6 fv fh V' ls' lv cv rh U' C', Lb w1 w6 G M v iv s K Mv fv fh V' ls' (.slice (some ⟨g, 0, none⟩) (p0 + 1) c') (p0 + 1) (fun j => (F j : Int)) T tv R lv cv rh U' C' (.slice ad nD cd) D dh (.slice none 0 0) 0 (fun _ => .bool false) (.slice none 0 0) 0 (fun _ => .bool false) → w6.cell? ⟨g, c, none⟩ = some (.int .i64 (F c : Nat)) from fun w6 fv fh V' ls' lv cv rh U' C' h => by
        obtain ⟨g', e1, _, h1⟩ := h.es.cells1 (by omega)
        cases e1
        exact h1 c (by omega))
      have HRL := Lib.hid (show ∀ w6 fv fh lv cv rh, Lb w1 w6 G M v iv s K Mv fv fh Z.1 Z.2 (.slice (some ⟨g, 0, none⟩) (p0 + 1) c') (p0 + 1) (fun j => (F j : Int)) T tv R lv cv rh Z.1 C' (.slice ad nD cd) D dh (.slice none 0 0) 0 (fun _ => .bool false) (.slice none 0 0) 0 (fun _ => .bool false) → (∃ al cl, lv = .slice al nV cl) ∧ w6.cell? ⟨R, 1, none⟩ = some lv from fun w6 fv fh lv cv rh h => by
        obtain ⟨al, cl, e1, _⟩ := h.rm.lsl.shape
        exact ⟨⟨al, cl, by rw [e1, hnV]⟩, h.rm.c1⟩)
      have HTK := Lib.hid (show ∀ w7 fv fh, Cm w7 K G Mv fv fh Z.1 Z.2 → Calls Try.prog 14 #[.pointer (some ⟨K, 0, none⟩)] w7 fun r w' => (∃ af cf, fv = .slice af nl cf) ∧ r = .returned fv ∧ Hid (Taken w7 K G Mv fv fh w' Z.1 Z.2) from fun w7 fv fh h => by
        obtain ⟨af, cf, e1, _⟩ := h.sl.shape
        exact (take_any h).mono fun r w' ⟨h1, h2⟩ => ⟨⟨af, cf, by rw [e1, hnl]⟩, h1, h2⟩)
      have HTA := Lib.hid (show ∀ w7 w8 w9 fv fh lv cv rh a9 c9, Lb w1 w7 G M v iv s K Mv fv fh Z.1 Z.2 (.slice (some ⟨g, 0, none⟩) (p0 + 1) c') (p0 + 1) (fun j => (F j : Int)) T tv R lv cv rh Z.1 C' (.slice ad nD cd) D dh (.slice none 0 0) 0 (fun _ => .bool false) (.slice none 0 0) 0 (fun _ => .bool false) → Taken w7 K G Mv fv fh w8 Z.1 Z.2 →
          Sl w9 26 1 (.slice a9 (nD + nl) c9) (nD + nl) (catV dh nD fh) → Fr (fun b => (Value.slice ad nD cd).ownBlock = some b) w8 w9 → ((Value.slice a9 (nD + nl) c9).ownBlock = (Value.slice ad nD cd).ownBlock ∨ (Value.slice a9 (nD + nl) c9).ownBlock = some w8.heap.size) →
          Hid (Lb w1 w9 G M v iv s K Mv (.slice none 0 0) fh Z.1 [] (.slice (some ⟨g, 0, none⟩) (p0 + 1) c') (p0 + 1) (fun j => (F j : Int)) T tv R lv cv rh Z.1 C' (.slice a9 (nD + nl) c9) (D ++ Z.2) (catV dh nD fh) (.slice none 0 0) 0 (fun _ => .bool false) (.slice none 0 0) 0 (fun _ => .bool false)) from fun w7 w8 w9 fv fh lv cv rh a9 c9 h T0 h1 h2 h3 => by
        have h4 := HND.out
        refine Lib.hid ?_
        have := h.take T0 h2 (dv' := .slice a9 (nD + nl) c9) (fun b e => by
          rcases h3 with g3 | g3
          · exact .inl (g3 ▸ e)
          · rw [g3] at e; injection e with e; exact .inr (by omega)) (by rw [← h4, ← hnl]; exact h1)
        rwa [← h4] at this)
      have hnVb : nV ≤ 200 := by omega
      have hnlb : nl ≤ 600 := by omega
      have hndb : nD ≤ 600 := by have h2 := HND.out; have h3 := congrArg List.length HP.out.app; simp at h3; omega
      have HL1 := Lib.hid HL1
      have HSTEP := Lib.hid hstep
      have HNL := Lib.hid hnl
      have hcb : c ≤ 28 := by omega
      have x2 : wr.drew.cell? ⟨g, c, none⟩ = some (.int .i64 (F c : Nat)) := xc
      clear hcc hF hLd hvs hfew hlenC hlls e1 hstep hvs' hfew' hdl hnV hnl hC'
      generalize F c = fc at *
      go_wp2
      go_region_with
        (first
          | (go_at_call 11; (with_reducible refine (HLN.out _ _ _ _ _ _ H6.out).mono ?_); rintro e w7 ⟨rfl, fv7, fh7, H7⟩; have yA7 := HES.out _ _ _ _ _ _ _ _ _ _ H7.out; obtain ⟨⟨al, cl, rfl⟩, yR7⟩ := HRL.out _ _ _ _ _ _ H7.out)
          | (go_at_call 12; (with_reducible refine (HLR.out _ _ _ _ _ H5.out).mono ?_); rintro e w6 ⟨rfl, lv6, cv6, rh6, H6⟩; have yA6 := HES.out _ _ _ _ _ _ _ _ _ _ H6.out)
          | (go_at_call 11; (with_reducible refine HL1.out.mono ?_); rintro e w5 ⟨rfl, fv5, fh5, H5⟩; have yA5 := HES.out _ _ _ _ _ _ _ _ _ _ H5.out)
          | (go_at_call 13; (with_reducible refine (HVar.out _ _ _ H7.out.cm).mono ?_); rintro e w' ⟨rfl, rfl⟩))
      all_goals
        go_wp2_with (first
          | (go_at_call 14; refine (HTK.out _ _ _ H7.out.cm).mono ?_; rintro e w8 ⟨⟨af, cf, rfl⟩, rfl, HT8⟩; have HD8 := Lib.hid (H7.out.dv_take HT8.out); rw [← HND.out] at HD8; have hs8 := HT8.out.rws.src HNL.out)
          | (at_builtin; refine Sl.app elemRow HD8 (Below.refl _ _) hs8 (by unfold maxLen; omega) (by omega) rfl _ _ rfl rfl rfl ?_; intro a9 c9 w9 q1 q2 q3; have H9 := HTA.out _ _ _ _ _ _ _ _ _ _ H7.out HT8.out q1.out q2.out q3.out; clear q1 q2 q3))
        go_roundw
        case rel => exact ⟨c, a9, nD + nl, c9, true, Z.1, [], D ++ Z.2, C', _, _, _, _, _, _, by omega, rfl, rfl, Lib.hid (by rw [List.length_append, HND.out, HNL.out]), Lib.hid (fun _ => rfl), HSTEP, H9⟩
        case measure => simp [intOf]
end Go.Proofs.Ytpniffcojmlboaa
