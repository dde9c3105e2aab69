/- Contracts: follow: the walk. -/
import Derived.Test.YtoffhgiljnagcaaWE
namespace Go.Proofs.Ytoffhgiljnagcaa
open Go.RowKit Go.Lib Go.Maps

/-- While the list is gone through, in memory. -/
structure FW (K M : Nat) (w : World) (L : Tag → Value) (s : St) (so : Nat → Prop) (fr l d : Nat) (wr : World) (L1 : Tag → Value) (s1 : St) (br k n : Nat) : Prop where
  tn : Tn K M w L wr L1 s1
  hd : L1 (.wl l) = L (.wl l)
  wn : s1.wn l = s.wn l
  ok : (br = 0 ∧ St.FI s so fr l d s1 k n) ∨ (br ≠ 0 ∧ St.FIw s so fr l s1 k n ∧ St.Dead s1 br)

/-- What follow hands back. -/
structure FolOut (K M : Nat) (w : World) (L : Tag → Value) (s : St) (so : Nat → Prop) (fr d : Nat) (e : Ending) (w' : World) (r : Nat) (L' : Tag → Value) (s' : St) : Prop where
  res : e = .returned (.int .i32 r)
  tn : Tn K M w L w' L' s'
  base : St.Base s' St.All
  ext : St.Ext s s'
  fb : s'.Fol fr fr
  rs : s'.Rsn so
  dn : s'.done = s.done
  nv : s'.nv = s.nv
  ok : (r = 0 ∧ s'.Fol s'.nt (d + 1)) ∨ (r ≠ 0 ∧ St.Dead s' r)

set_option maxHeartbeats 8000000 in
set_option maxRecDepth 100000 in
theorem follow_any {K M : Nat} {w : World} {L : Tag → Value} {s : St} (h : Mem w K M L s) {so : Nat → Prop} {fr l d : Nat} (hb : St.Base s St.All) (hnv : s.nv ≤ 100000000) (hnc : s.nc ≤ 100000000)
    (hF : s.Fol s.nt d) (hfb : s.Fol fr fr) (hR : s.Rsn so) (hd : d < s.nt) (hdl : s.tr d = neg l) (hl : l < 2 * s.nv) (hfr : fr ≤ s.nt) :
    Calls Try.prog 75 #[.pointer (some ⟨K, 0, none⟩), .int .i32 l] w fun e w' => ∃ r L' s', FolOut K M w L s so fr d e w' r L' s' := by
  have hv : s.val l = -1 := (hb.tra.false_iff hl).2 ⟨d, hd, hdl⟩
  have hew := hb.lens.1
  have hwn := hb.wn_le' hl
  obtain ⟨gw, cw, hL3, _⟩ := (h.row .wts).pos (show 0 < s.ew by omega)
  obtain ⟨al, cl, hLl, hcl, hcm⟩ := (h.row (.wl l)).shape
  replace hL3 : L .wts = .slice (some ⟨gw, 0, none⟩) s.ew cw := hL3
  replace hLl : L (.wl l) = .slice al (s.wn l) cl := hLl
  have c3 : w.cell? ⟨K, 3, none⟩ = some (.slice (some ⟨gw, 0, none⟩) s.ew cw) := (h.c 3 (by omega)).trans (congrArg some hL3)
  have x3 : w.cell? ⟨gw, l, none⟩ = some (.slice al (s.wn l) cl) := (h.rc hL3 (show l < s.ew * 1 by omega)).trans (congrArg some hLl)
  have q3 : (l : Int) < (s.ew : Int) := by omega
  have H0 := Lib.hid (show FW K M w L s so fr l d w L s 0 0 0 from ⟨h.refl, rfl, rfl, .inl ⟨rfl, .start hb hfb hR hF hl hv (by omega) hfr⟩⟩)
  have HL := Lib.hid (And.intro hL3 (And.intro hLl (And.intro hcl hcm)))
  have HH := Lib.hid (And.intro h (And.intro hb (And.intro hdl (And.intro hfr hd))))
  clear h hb hF hfb hR hL3 hLl hv hdl hfr hd hcl hcm
  go_enter Try.func75, Try.ntmps75
  go_wp2
  clear c3 x3
  go_loopw [6, 7, 8] (fun b n k wr => ∃ (br nn kk : Nat) (L1 : Tag → Value) (s1 : St), b = .int .i32 br ∧ n = .int .i64 nn ∧ k = .int .i64 kk ∧ Hid (FW K M w L s so fr l d wr L1 s1 br kk nn)) (fun _ n _ _ => s.wn l - (intOf n).toNat)
  case atStart => exact ⟨0, 0, 0, L, s, rfl, rfl, rfl, H0⟩
  case round =>
    obtain ⟨br, nn, kk, L1, s1, rfl, rfl, rfl, HI⟩ := hrel
    clear H0
    by_cases hbr : br = 0
    · subst hbr
      by_cases hlt : nn < s.wn l
      · have hFI : St.FI s so fr l d s1 kk nn := HI.out.ok.elim (fun h => h.2) (fun h => absurd rfl h.1)
        have hme := HI.out.tn.mem
        have hlt1 : nn < s1.wn l := by rw [HI.out.wn]; exact hlt
        obtain ⟨gl, cl', hLl1, _, _, hgl⟩ := (hme.row (.wl l)).pos (show 0 < s1.wn l by omega)
        replace hLl1 : L1 (.wl l) = .slice (some ⟨gl, 0, none⟩) (s1.wn l) cl' := hLl1
        obtain ⟨rfl, rfl⟩ : al = some ⟨gl, 0, none⟩ ∧ cl = cl' := by
          have e1 := HI.out.hd
          rw [hLl1, HL.out.2.1] at e1
          injection e1 with e2 e3 e4
          exact ⟨e2.symm, e4.symm⟩
        have hnv1 : s1.nv = s.nv := hFI.nv
        have hnc1 : s1.nc = s.nc := hFI.ext.nc
        have hev : s1.ev = 2 * s1.nv := hFI.base.lens.2.1
        obtain ⟨gv, cv, hL4, _, _, hgv⟩ := (hme.row .vals).pos (show 0 < s1.ev by omega)
        replace hL4 : L1 .vals = .slice (some ⟨gv, 0, none⟩) s1.ev cv := hL4
        obtain ⟨w1, w2, w3, w4⟩ := hFI.base.wat.w_ok l nn hFI.hl hlt1 (.inr (.inr (Nat.le_refl _)))
        have c4 : wr.cell? ⟨K, 4, none⟩ = some (.slice (some ⟨gv, 0, none⟩) s1.ev cv) := (hme.c 4 (by omega)).trans (congrArg some hL4)
        have xa : wr.cell? ⟨gl, nn * 2, none⟩ = some (.int .i32 (s1.wa l nn)) := (hme.rc hLl1 (show nn * 2 < s1.wn l * 2 by omega)).trans (by
          show some (if nn * 2 % 2 = 0 then Value.int .i32 (s1.wa l (nn * 2 / 2)) else _) = _
          rw [if_pos (by omega), show nn * 2 / 2 = nn by omega])
        have xo : wr.cell? ⟨gl, nn * 2 + 1, none⟩ = some (.int .i32 (s1.wo l nn)) := (hme.rc hLl1 (show nn * 2 + 1 < s1.wn l * 2 by omega)).trans (by
          show some (if (nn * 2 + 1) % 2 = 0 then _ else Value.int .i32 (s1.wo l ((nn * 2 + 1) / 2))) = _
          rw [if_neg (by omega), show (nn * 2 + 1) / 2 = nn by omega])
        have vo : wr.cell? ⟨gv, s1.wo l nn, none⟩ = some (.int .i8 (s1.val (s1.wo l nn))) := hme.rc hL4 (show s1.wo l nn < s1.ev * 1 by omega)
        have hK := hme.hd.lt
        have fl := hme.fz hLl1
        have kw := hFI.kn
        have q1 : (nn : Int) < (s.wn l : Int) := by omega
        have q2 : (s1.wo l nn : Int) < (s1.ev : Int) := by omega
        have q4 : (kk : Int) < (s.wn l : Int) := by omega
        have HM := Lib.hid (And.intro hme (And.intro hFI (And.intro hLl1 hlt1)))
        by_cases hv : s1.val (s1.wo l nn) = 1
        · rw [hv] at vo
          have hs : s1.Sat (s1.wa l nn) ∨ s1.gone (s1.wa l nn) = true := by
            cases hg : s1.gone (s1.wa l nn)
            · exact .inl (hFI.base.tra.sat w3 (w4 hg).2.2 hv)
            · exact .inr rfl
          have hnew := hFI.keep hlt1 w3 (fun hg => (w4 hg).2.2) (fun hg => hs.elim id fun e => by rw [hg] at e; cases e)
          have HN := Lib.hid (show ∀ q, FW K M w L s so fr l d ((((wr.alloc (.cells #[.int .i32 (s1.wa l nn), .int .i32 (s1.wo l nn)] 78)).drewN q).setCell ⟨gl, kk * 2, none⟩ (.int .i32 (s1.wa l nn))).setCell ⟨gl, kk * 2 + 1, none⟩ (.int .i32 (s1.wo l nn))) L1 (s1.kee l kk (s1.wa l nn) (s1.wo l nn)) 0 (kk + 1) (nn + 1) from
            fun q => ⟨HI.out.tn.trans (((hme.tnAlloc _).drewN q).trans (((hme.alloc _).drewN q).stEnt hLl1 kk _ _)), HI.out.hd, HI.out.wn, .inl ⟨rfl, hnew⟩⟩)
          have z1 := (hme.rc hLl1 (show kk * 2 < s1.wn l * 2 by omega))
          have z2 := (hme.rc hLl1 (show kk * 2 + 1 < s1.wn l * 2 by omega))
          clear hFI hme hL4 hLl1 w1 w2 w3 w4 hs hnew hlt1 hnv1 hnc1 hev HI
          go_wp2
          go_quiet (fail)
          go_wp2
          go_roundw
          case rel => exact ⟨0, nn + 1, kk + 1, L1, _, rfl, by go_num, by go_num, Lib.hid (HN.out _)⟩
          case measure => simp [intOf]; omega
        · have hvb : (s1.val (s1.wo l nn) != (1 : Int)) = true := by simpa using hv
          have hnv2 : s1.nv ≤ 100000000 := by omega
          have hnc2 : s1.nc ≤ 100000000 := by omega
          have T0 := fun q => HI.out.tn.trans ((hme.tnAlloc (.cells #[.int .i32 (s1.wa l nn), .int .i32 (s1.wo l nn)] 78)).drewN q)
          have hM0 := fun q => (hme.alloc (.cells #[.int .i32 (s1.wa l nn), .int .i32 (s1.wo l nn)] 78)).drewN q
          cases hg : s1.gone (s1.wa l nn)
          · have hpre := RelPre.of hFI hlt1 hnv2 hnc2 hg
            have HR := Lib.hid (fun q => release_there (hM0 q) hpre)
            have HT0 := Lib.hid T0
            have HG := Lib.hid hg
            have HC := Lib.hid (fun q => new_two (w' := (wr.alloc (.cells #[.int .i32 (s1.wa l nn), .int .i32 (s1.wo l nn)] 78)).drewN q) (x := .int .i32 (s1.wa l nn)) (y := .int .i32 (s1.wo l nn)) (t := 78) wr _ rfl rfl)
            have HNB := Lib.hid (show ¬ Bl K M L1 wr.heap.size from fun e => by have := hme.lt e; omega)
            clear hFI hme hL4 hLl1 w1 w2 w3 w4 hlt1 hnv1 hnc1 hev T0 hM0 hpre hg
            go_wp2
            go_quiet (fail)
            go_wp2_with (go_at_call 91; refine (HR.out _).mono ?_; rintro e w' ⟨b, s2, rfl, ⟨L2, hL2, T2⟩, hpost⟩; have HT2 := Lib.hid (And.intro T2 (And.intro hL2 hpost)); clear T2 hL2 hpost)
            case roundEnd =>
              rename_i hbf
              subst hbf
              obtain ⟨hN, hw⟩ := rel_true HM.out.2.1 HM.out.2.2.2 HG.out HT2.out.2.2
              have HN := Lib.hid (And.intro hN hw)
              clear hN hw
              go_roundw
              case rel => exact ⟨0, nn + 1, kk, L2, s2, rfl, by go_num, rfl, Lib.hid ⟨(HT0.out _).trans HT2.out.1, HT2.out.2.1.trans HI.out.hd, HN.out.2.trans HI.out.wn, .inl ⟨rfl, HN.out.1⟩⟩⟩
              case measure => simp [intOf]; omega
            · have hbf : b = false := by assumption
              subst hbf
              obtain ⟨hFI2, e1, e2, e3, e4, h11, hor⟩ := rel_false HM.out.2.1 HM.out.2.2.2 HG.out HT2.out.2.2
              have T2 := HT2.out.1
              have hme2 := T2.mem
              have hnw2 : nn < s2.wn l := by rw [e1]; exact HM.out.2.2.2
              obtain ⟨hp, g1, g2, g5, k1, k0, km⟩ := rel_keep hFI2 hnw2 (show s2.wa l nn = s1.wa l nn by rw [e2]) (by rw [e3]; exact HG.out) h11 hor
              obtain ⟨gc, cc, hL1, _, _, hgc⟩ := (hme2.row .cls).pos (show 0 < s2.nc by omega)
              replace hL1 : L2 .cls = .slice (some ⟨gc, 0, none⟩) s2.nc cc := hL1
              obtain ⟨g2l, c2l, hLc, _⟩ := (hme2.row (.cl (s1.wa l nn))).pos (show 0 < s2.ln (s1.wa l nn) by omega)
              replace hLc : L2 (.cl (s1.wa l nn)) = .slice (some ⟨g2l, 0, none⟩) (s2.ln (s1.wa l nn)) c2l := hLc
              have hLl2 : L2 (.wl l) = .slice (some ⟨gl, 0, none⟩) (s.wn l) cl := HT2.out.2.1.trans (HI.out.hd.trans HL.out.2.1)
              have d1 : w'.cell? ⟨K, 1, none⟩ = some (.slice (some ⟨gc, 0, none⟩) s2.nc cc) := (hme2.c 1 (by omega)).trans (congrArg some hL1)
              have x0 : w'.cell? ⟨gc, s1.wa l nn * 2, none⟩ = some (.slice (some ⟨g2l, 0, none⟩) (s2.ln (s1.wa l nn)) c2l) := (hme2.rc hL1 (show s1.wa l nn * 2 < s2.nc * 2 by omega)).trans (by
                show some (if s1.wa l nn * 2 % 2 = 0 then L2 (.cl (s1.wa l nn * 2 / 2)) else _) = _
                rw [if_pos (by omega), show s1.wa l nn * 2 / 2 = s1.wa l nn by omega, hLc])
              have y0 : w'.cell? ⟨g2l, 0, none⟩ = some (.int .i32 (s2.lt (s1.wa l nn) 0)) := hme2.rc hLc (show 0 < s2.ln (s1.wa l nn) * 1 by omega)
              obtain ⟨sd1, sd2, sd3, sd4⟩ := T2.side (b := wr.heap.size) (by simp) HNB.out
              obtain ⟨cb0, cb1, cbf⟩ := HC.out _
              have b0 := (sd1 0).trans cb0
              have b1 := (sd1 1).trans cb1
              have bf := fun i => (sd2 i).trans (cbf i)
              have hK2 := hme2.hd.lt
              have n1 : ¬ K = wr.heap.size := fun e => sd4 (.inl e.symm)
              have n2 : ¬ gc = wr.heap.size := fun e => sd4 (e ▸ Bl.of hL1)
              have n3 : ¬ g2l = wr.heap.size := fun e => sd4 (e ▸ Bl.of hLc)
              have n4 : ¬ gl = wr.heap.size := fun e => sd4 (e ▸ Bl.of hLl2)
              have qa : (s1.wa l nn : Int) < (s2.nc : Int) := by omega
              have qb : (0 : Int) < (s2.ln (s1.wa l nn) : Int) := by omega
              have hfit := hFI2.base.fit (show s2.nv ≤ 100000000 by rw [hFI2.nv]; exact hnv)
              have hrng := hFI2.base.tra.v_rng _ hp
              have T3 := fun q => (((hme2.aside (p := ⟨wr.heap.size, 1, none⟩) sd4 (.int .i32 (s2.lt (s1.wa l nn) 0)))).drewN q)
              have hdem : ∃ (br : Nat) (s3 : St), (∀ q, Calls Try.prog 92 #[.pointer (some ⟨K, 0, none⟩), .agg #[.int .i32 (s1.wa l nn), .int .i32 (s2.lt (s1.wa l nn) 0)]] ((w'.setCell ⟨wr.heap.size, 1, none⟩ (.int .i32 (s2.lt (s1.wa l nn) 0))).drewN q) fun e w2 => e = .returned (.int .i32 br) ∧ ∃ L3, (∀ t, t ≠ .tra → L3 t = L2 t) ∧ Tn K M ((w'.setCell ⟨wr.heap.size, 1, none⟩ (.int .i32 (s2.lt (s1.wa l nn) 0))).drewN q) L2 w2 L3 s3) ∧
                  s3.wn = s2.wn ∧ ((br = 0 ∧ St.FI s so fr l d (s3.kee l kk (s1.wa l nn) (s2.lt (s1.wa l nn) 0)) (kk + 1) (nn + 1)) ∨ (br ≠ 0 ∧ St.FIw s so fr l (s3.kee l kk (s1.wa l nn) (s2.lt (s1.wa l nn) 0)) (kk + 1) (nn + 1) ∧ St.Dead (s3.kee l kk (s1.wa l nn) (s2.lt (s1.wa l nn) 0)) br)) := by
                have hD := fun q => demand_any (a := s1.wa l nn) (T3 q) hfit hp hrng
                rcases hrng with hv3 | hv3 | hv3
                · refine ⟨s1.wa l nn, s2, fun q => (hD q).mono ?_, rfl, .inr ⟨by omega, km hv3⟩⟩
                  rintro e w2 ⟨rfl, L3, hL3, T⟩
                  rw [show s2.dem (s2.lt (s1.wa l nn) 0) (s1.wa l nn) = s2 from if_neg (by omega)] at T
                  exact ⟨by rw [if_pos hv3], L3, hL3, T⟩
                · refine ⟨0, _, fun q => (hD q).mono ?_, ?_, .inl ⟨rfl, k0 hv3⟩⟩
                  · rintro e w2 ⟨rfl, L3, hL3, T⟩
                    rw [show s2.dem (s2.lt (s1.wa l nn) 0) (s1.wa l nn) = s2.put (s2.lt (s1.wa l nn) 0) (s1.wa l nn) from if_pos hv3] at T
                    exact ⟨by rw [if_neg (by omega)], L3, hL3, T⟩
                  · rfl
                · refine ⟨0, s2, fun q => (hD q).mono ?_, rfl, .inl ⟨rfl, k1 hv3⟩⟩
                  rintro e w2 ⟨rfl, L3, hL3, T⟩
                  rw [show s2.dem (s2.lt (s1.wa l nn) 0) (s1.wa l nn) = s2 from if_neg (by omega)] at T
                  exact ⟨by rw [if_neg (by omega)], L3, hL3, T⟩
              obtain ⟨br, s3, hD, hs3, hok⟩ := hdem
              have HD := Lib.hid hD
              have haft : ∀ q (w2 : World) (L3 : Tag → Value), Tn K M ((w'.setCell ⟨wr.heap.size, 1, none⟩ (.int .i32 (s2.lt (s1.wa l nn) 0))).drewN q) L2 w2 L3 s3 → (∀ t, t ≠ .tra → L3 t = L2 t) →
                  w2.cell? ⟨wr.heap.size, 0, none⟩ = some (.int .i32 (s1.wa l nn)) ∧ w2.cell? ⟨wr.heap.size, 1, none⟩ = some (.int .i32 (s2.lt (s1.wa l nn) 0)) ∧ (∀ j, w2.frozen? ⟨gl, j, none⟩ = false) ∧ (∃ u, w2.cell? ⟨gl, kk * 2, none⟩ = some u) ∧ (∃ u, w2.cell? ⟨gl, kk * 2 + 1, none⟩ = some u) ∧
                  FW K M w L s so fr l d ((w2.setCell ⟨gl, kk * 2, none⟩ (.int .i32 (s1.wa l nn))).setCell ⟨gl, kk * 2 + 1, none⟩ (.int .i32 (s2.lt (s1.wa l nn) 0))) L3 (s3.kee l kk (s1.wa l nn) (s2.lt (s1.wa l nn) 0)) br (kk + 1) (nn + 1) := by
                intro q w2 L3 T hL3
                obtain ⟨e1', e2', e3', e4'⟩ := T.side (b := wr.heap.size) (by show _ < (w'.setCell _ _).heap.size; simpa using sd3) sd4
                have hLl3 : L3 (.wl l) = .slice (some ⟨gl, 0, none⟩) (s.wn l) cl := (hL3 _ (fun e => by cases e)).trans hLl2
                have hw3 : s3.wn l = s.wn l := by rw [hs3, e1]; exact HI.out.wn
                have t0 : Tn K M w L (w'.setCell ⟨wr.heap.size, 1, none⟩ (.int .i32 (s2.lt (s1.wa l nn) 0))) L2 s2 := hme2.tnNew sd4 trivial _ w L ((HT0.out _).trans T2) HI.out.tn.fr.size
                refine ⟨?_, ?_, T.mem.fz hLl3, ⟨_, T.mem.rc hLl3 (show kk * 2 < s3.wn l * 2 by omega)⟩, ⟨_, T.mem.rc hLl3 (show kk * 2 + 1 < s3.wn l * 2 by omega)⟩, (t0.drewN q).trans (T.trans (T.mem.stEnt hLl3 kk _ _)), hLl3.trans HL.out.2.1.symm, hw3, hok⟩
                · rw [e1']
                  show (w'.setCell _ _).cell? _ = _
                  refine (World.cell?_setCell_other _ _ _ _ ?_).trans b0
                  intro e; cases e
                · rw [e1']
                  show (w'.setCell _ _).cell? _ = _
                  exact World.cell?_setCell_same _ _ _ b1
              have HA := Lib.hid haft
              clear hFI2 T2 hme2 hnw2 hp g1 g2 g5 k1 k0 km hLc hL1 hLl2 sd1 sd2 sd3 sd4 cb0 cb1 cbf hfit hrng T3 hD haft hor h11 e1 e2 e3 e4
              go_region
              go_wp2_with (go_at_call 92; refine (HD.out _).mono ?_; rintro e w2 ⟨rfl, L3, hL3, T⟩; obtain ⟨r0, r1, rf, ⟨u0, ru0⟩, ⟨u1, ru1⟩, rFW⟩ := HA.out _ _ _ T hL3; have HFW := Lib.hid rFW; clear rFW T hL3)
              trace_state
              go_roundw
              case rel => exact ⟨br, nn + 1, kk + 1, L3, _, rfl, by go_num, by go_num, HFW⟩
              case measure => simp [intOf]; omega
          · have HR := Lib.hid (fun q => release_gone (l := l) (hM0 q) w2 hnc2 hg)
            have HN := Lib.hid (hFI.gone hlt1 hg)
            have HT0 := Lib.hid T0
            clear hFI hme hL4 hLl1 w1 w2 w3 w4 hlt1 hnv1 hnc1 hev T0 hM0 hg
            go_wp2
            go_quiet (fail)
            go_wp2_with (go_at_call 91; refine (HR.out _).mono ?_; rintro e w' ⟨rfl, T⟩; have HT := Lib.hid T; clear T)
            go_roundw
            case rel => exact ⟨0, nn + 1, kk, L1, s1, rfl, by go_num, rfl, Lib.hid ⟨(HT0.out _).trans HT.out, HI.out.hd, HI.out.wn, .inl ⟨rfl, HN.out⟩⟩⟩
            case measure => simp [intOf]; omega
      · have hFI : St.FI s so fr l d s1 kk nn := HI.out.ok.elim (fun h => h.2) (fun h => absurd rfl h.1)
        have hFIw := hFI.toFIw
        have hok : ((0 : Nat) = 0 ∧ (s1.cpt l kk nn).Fol (s1.cpt l kk nn).nt (d + 1)) ∨ ((0 : Nat) ≠ 0 ∧ St.Dead (s1.cpt l kk nn) 0) := .inl ⟨rfl, hFI.fol (by rw [HI.out.wn]; omega) (by rw [hFI.ext.tr d HH.out.2.2.2.2]; exact HH.out.2.2.1)⟩
        have hnl : ¬ (nn : Int) < (s.wn l : Int) := by omega
        have hbb : ((0 : Int) == 0) = true := rfl
        obtain ⟨hbase, hext, hfb2, hrs2⟩ := hFIw.end_
        have hme := HI.out.tn.mem
        have hLl1 : L1 (.wl l) = .slice al (s.wn l) cl := HI.out.hd.trans HL.out.2.1
        have hew1 : s1.ew = 2 * s1.nv := hFIw.base.lens.1
        have hnv1 : s1.nv = s.nv := hFIw.nv
        have hw1 := HI.out.wn
        have hnn := hFIw.nw
        have hkn := hFIw.kn
        obtain ⟨gw1, cw1, hL31, _, _, hgw1⟩ := (hme.row .wts).pos (show 0 < s1.ew by omega)
        replace hL31 : L1 .wts = .slice (some ⟨gw1, 0, none⟩) s1.ew cw1 := hL31
        have c3 : wr.cell? ⟨K, 3, none⟩ = some (.slice (some ⟨gw1, 0, none⟩) s1.ew cw1) := (hme.c 3 (by omega)).trans (congrArg some hL31)
        have x3 : wr.cell? ⟨gw1, l, none⟩ = some (.slice al (s.wn l) cl) := (hme.rc hL31 (show l < s1.ew * 1 by omega)).trans (congrArg some hLl1)
        have fw := hme.fz hL31
        have q3 : (l : Int) < (s1.ew : Int) := by omega
        have HFIN := Lib.hid (show ∀ W' L', Tn K M w L W' L' (s1.cpt l kk nn) → ∃ r L' s', FolOut K M w L s so fr d (.returned (.int .i32 (0 : Nat))) W' r L' s' from fun W' L' T => ⟨0, L', _, rfl, T, hbase, hext, hfb2, hrs2, hFIw.dn, hFIw.nv, hok⟩)
        have HME := Lib.hid (And.intro hme (And.intro hL31 (And.intro hLl1 HI.out.tn)))
        have hcl := HL.out.2.2.1
        have hcm := HL.out.2.2.2
        have hcm2 : cl ≤ 9223372036854775807 := by unfold maxLen at hcm; omega
        have hcl2 : s.wn l ≤ cl := hcl
        rw [hw1] at hnn
        have hrl := hme.row (.wl l)
        rw [hLl1] at hrl
        clear hbase hext hfb2 hrs2 hFIw hme hok HI hL31 hcm hcl
        rcases hrl with ⟨e1, e2⟩ | ⟨gl, c', F, e1, e2, e3, e4, e5⟩
        · injection e1 with e6 e7 e8
          subst e6
          have h0 : nn = 0 := by omega
          have h1 : kk = 0 := by omega
          subst h0 h1 e8
          have e9 : s.wn l = 0 := by omega
          have hLn : L1 (.wl l) = .slice none 0 0 := by rw [hLl1, e9]
          have TN := HME.out.1.cell HME.out.2.1 l (.slice none 0 0) s1 rfl ⟨rfl, rfl, rfl⟩ ⟨rfl, fun j _ => by
            show (if j = l then Value.slice none 0 0 else L1 (.wl j)) = L1 (.wl j)
            split
            · next e => rw [e, hLn]
            · rfl⟩ fun t _ => ⟨rfl, fun _ _ => rfl⟩
          have HTN := Lib.hid (show Tn K M w L _ L1 (s1.cpt l 0 0) by rw [St.cpt_zero]; exact HME.out.2.2.2.trans TN)
          clear TN hLn hLl1 HME HL hew hew1 hnv1
          generalize s.wn l = z at *
          subst e9
          go_wp2
          go_region
          all_goals
            go_wp2
            go_ret
            exact HFIN.out _ _ (HTN.out.same rfl rfl rfl rfl)
        · injection e1 with e6 e7 e8
          subst e6 e8
          have hrl : Sl wr 78 2 (.slice (some ⟨gl, 0, none⟩) (s.wn l) cl) (s1.wn l) (fOf L1 s1 (.wl l)) := hLl1 ▸ HME.out.1.row (.wl l)
          clear e2 e3 e5
          have hgl := HME.out.1.glt hLl1
          have HCE := Lib.hid (show ∀ W : World, W.heap = wr.heap → ∀ j u, (lefts L1 s1 l nn)[j]? = some u → W.cell? ((⟨gl, nn * 2, none⟩ : Addr).add j) = some u by
            intro W hW j u hu
            have hj : j < (lefts L1 s1 l nn).length := (List.getElem?_eq_some_iff.1 hu).1
            rw [lefts_len] at hj
            have e : (lefts L1 s1 l nn)[j]? = some (fOf L1 s1 (.wl l) (nn * 2 + j)) := by
              unfold lefts
              rw [List.getElem?_map, List.getElem?_range hj]; rfl
            rw [e] at hu
            cases hu
            have h2 := hrl.cell (j := nn * 2 + j) (by omega)
            rw [show (⟨gl, nn * 2, none⟩ : Addr).add j = ⟨gl, nn * 2 + j, none⟩ by
              unfold Addr.add
              split
              · next e => subst e; rfl
              · rfl]
            rw [show W.cell? ⟨gl, nn * 2 + j, none⟩ = wr.cell? ⟨gl, nn * 2 + j, none⟩ by unfold World.cell?; rw [hW]]
            exact h2)
          have HSP := Lib.hid (show ∀ W : World, W.heap = wr.heap → ∀ j, j < (lefts L1 s1 l nn).length → (W.cell? ⟨gl, 0 + kk * 2 + j, none⟩).isSome = true ∧ W.frozen? ⟨gl, 0 + kk * 2 + j, none⟩ = false by
            intro W hW j hj
            rw [lefts_len] at hj
            have h2 := e4.cell (i := 0 + kk * 2 + j) (show _ < cl * 2 by omega)
            have h3 := e4.frozen (0 + kk * 2 + j)
            rw [show W.cell? ⟨gl, 0 + kk * 2 + j, none⟩ = wr.cell? ⟨gl, 0 + kk * 2 + j, none⟩ by unfold World.cell?; rw [hW], show W.frozen? ⟨gl, 0 + kk * 2 + j, none⟩ = wr.frozen? ⟨gl, 0 + kk * 2 + j, none⟩ by unfold World.frozen?; rw [hW], h2]
            exact ⟨rfl, h3⟩)
          have HONE := Lib.hid (show ∀ u ∈ lefts L1 s1 l nn, u.oneCell' = true by
            intro u hu
            unfold lefts at hu
            obtain ⟨j, _, rfl⟩ := List.mem_map.1 hu
            show Value.oneCell' (if (nn * 2 + j) % 2 = 0 then Value.int .i32 _ else .int .i32 _) = true
            split <;> rfl)
          have hTC := HME.out.1.compact (k := kk) (n := nn) (show L1 (.wl l) = .slice (some ⟨gl, 0, none⟩) (s1.wn l) cl by rw [hw1]; exact hLl1) HME.out.2.1 hkn (by omega) (by omega)
          rw [hw1] at hTC
          have HTC := Lib.hid (HME.out.2.2.2.trans hTC)
          obtain ⟨i0, hi, hz0, hz1, hz2⟩ := info_parts info78
          have HLEN := Lib.hid (show (lefts L1 s1 l nn).length = (s.wn l - nn) * 2 by rw [lefts_len, hw1])
          have hgg : ¬ gl = gw1 := HME.out.1.ne2 hLl1 HME.out.2.1 (fun e => by cases e)
          have k1 : (nn : Int) ≤ (s.wn l : Int) := by omega
          have k2 : (nn : Int) ≤ (cl : Int) := by omega
          have k3 : (kk : Int) ≤ (cl : Int) := by omega
          have k4 : (kk : Int) ≤ (s.wn l : Int) := by omega
          have HX3 := Lib.hid (show ∀ vs o, (wr.setCells gl o vs).cell? ⟨gw1, l, none⟩ = some (.slice (some ⟨gl, 0, none⟩) (s.wn l) cl) ∧ (wr.setCells gl o vs).frozen? ⟨gw1, l, none⟩ = false ∧ (wr.setCells gl o vs).cell? ⟨K, 3, none⟩ = some (.slice (some ⟨gw1, 0, none⟩) s1.ew cw1) from fun vs o => ⟨(World.cell?_setCells_out _ _ _ _ _ (fun e => absurd e.symm hgg)).trans x3, by rw [World.frozen?_setCells]; exact fw l, (World.cell?_setCells_out _ _ _ _ _ (fun e => absurd e (HME.out.1.ne hLl1))).trans c3⟩)
          clear hrl e4 F e7 hTC hLl1 hew hew1 hnv1
          have hmp : (kk : Nat) + (s.wn l - nn) ≤ cl := by omega
          by_cases hnc3 : nn = cl
          · have hz9 : s.wn l - nn = 0 := by omega
            have hl0 : lefts L1 s1 l nn = [] := List.eq_nil_of_length_eq_zero (by rw [HLEN.out, hz9])
            have hT9 := HTC.out
            rw [hl0, hz9] at hT9
            have HT9 := Lib.hid hT9
            subst hnc3
            clear HTC hT9 hl0 HCE HSP HONE HLEN HX3
            go_wp2
            go_region
            all_goals
              go_wp2
              go_ret
              exact HFIN.out _ _ (HT9.out.same rfl rfl rfl rfl)
          · have hnc4 : ¬ cl = nn := fun e => hnc3 e.symm
            have hnc5 : ¬ (cl : Int) = nn := by omega
            have hnc6 : ¬ (nn : Int) = cl := by omega
            have HT9 := Lib.hid (show ∀ W2, W2 = wr.drew.setCells gl (0 + kk * 2) (lefts L1 s1 l nn) → W2.cell? ⟨gw1, l, none⟩ = some (.slice (some ⟨gl, 0, none⟩) (s.wn l) cl) ∧ W2.frozen? ⟨gw1, l, none⟩ = false ∧ W2.cell? ⟨K, 3, none⟩ = some (.slice (some ⟨gw1, 0, none⟩) s1.ew cw1) ∧ Hid (Tn K M w L (W2.setCell ⟨gw1, l, none⟩ (.slice (some ⟨gl, 0, none⟩) (kk + (s.wn l - nn)) cl)) (up L1 (.wl l) (.slice (some ⟨gl, 0, none⟩) (kk + (s.wn l - nn)) cl)) (s1.cpt l kk nn)) by
              rintro W2 rfl
              rw [drew_setCells]
              obtain ⟨z1, z2, z3⟩ := HX3.out (lefts L1 s1 l nn) (0 + kk * 2)
              exact ⟨z1, z2, z3, Lib.hid (HTC.out.same rfl rfl rfl rfl)⟩)
            have hsp : ∀ j, j < (lefts L1 s1 l nn).length → (wr.drew.cell? ⟨gl, 0 + kk * 2 + j, none⟩).isSome = true ∧ wr.drew.frozen? ⟨gl, 0 + kk * 2 + j, none⟩ = false := HSP.out _ rfl
            have hce : ∀ j u, (lefts L1 s1 l nn)[j]? = some u → wr.drew.cell? ((⟨gl, nn * 2, none⟩ : Addr).add j) = some u := HCE.out _ rfl
            have HSP2 := Lib.hid hsp
            have HCE2 := Lib.hid hce
            clear HTC HX3 HSP HCE hsp hce
            go_wp2
            go_region_law (refine step_append_room_w rfl (.tmp 73) (.tmp 76) 97 rfl 78 i0 2 Try.underlying97 hi hz1 gl 0 kk cl (by simp [Act.eval, Act.put]) ⟨gl, nn * 2, none⟩ (s.wn l - nn) (cl - nn) (lefts L1 s1 l nn) (by simp [Act.eval, Act.put]) HLEN.out HCE2.out HONE.out hmp HSP2.out ?_; intro W2 hW2; obtain ⟨y1, y2, y3, yT⟩ := HT9.out W2 hW2; clear hW2)
            all_goals
              go_wp2
              go_ret
              exact HFIN.out _ _ (yT.out.same rfl rfl rfl rfl)
    · have hFIw : St.FIw s so fr l s1 kk nn := HI.out.ok.elim (fun h => absurd h.1 hbr) (fun h => h.2.1)
      have hok : (br = 0 ∧ (s1.cpt l kk nn).Fol (s1.cpt l kk nn).nt (d + 1)) ∨ (br ≠ 0 ∧ St.Dead (s1.cpt l kk nn) br) := .inr ⟨hbr, HI.out.ok.elim (fun h => absurd h.1 hbr) (fun h => h.2.2)⟩
      have hbb : ((br : Int) == 0) = false := by simpa using hbr
      have hbr2 : ¬ (br : Int) = 0 := by omega
      obtain ⟨hbase, hext, hfb2, hrs2⟩ := hFIw.end_
      have hme := HI.out.tn.mem
      have hLl1 : L1 (.wl l) = .slice al (s.wn l) cl := HI.out.hd.trans HL.out.2.1
      have hew1 : s1.ew = 2 * s1.nv := hFIw.base.lens.1
      have hnv1 : s1.nv = s.nv := hFIw.nv
      have hw1 := HI.out.wn
      have hnn := hFIw.nw
      have hkn := hFIw.kn
      obtain ⟨gw1, cw1, hL31, _, _, hgw1⟩ := (hme.row .wts).pos (show 0 < s1.ew by omega)
      replace hL31 : L1 .wts = .slice (some ⟨gw1, 0, none⟩) s1.ew cw1 := hL31
      have c3 : wr.cell? ⟨K, 3, none⟩ = some (.slice (some ⟨gw1, 0, none⟩) s1.ew cw1) := (hme.c 3 (by omega)).trans (congrArg some hL31)
      have x3 : wr.cell? ⟨gw1, l, none⟩ = some (.slice al (s.wn l) cl) := (hme.rc hL31 (show l < s1.ew * 1 by omega)).trans (congrArg some hLl1)
      have fw := hme.fz hL31
      have q3 : (l : Int) < (s1.ew : Int) := by omega
      have HFIN := Lib.hid (show ∀ W' L', Tn K M w L W' L' (s1.cpt l kk nn) → ∃ r L' s', FolOut K M w L s so fr d (.returned (.int .i32 br)) W' r L' s' from fun W' L' T => ⟨br, L', _, rfl, T, hbase, hext, hfb2, hrs2, hFIw.dn, hFIw.nv, hok⟩)
      have HME := Lib.hid (And.intro hme (And.intro hL31 (And.intro hLl1 HI.out.tn)))
      have hcl := HL.out.2.2.1
      have hcm := HL.out.2.2.2
      have hcm2 : cl ≤ 9223372036854775807 := by unfold maxLen at hcm; omega
      have hcl2 : s.wn l ≤ cl := hcl
      rw [hw1] at hnn
      have hrl := hme.row (.wl l)
      rw [hLl1] at hrl
      clear hbase hext hfb2 hrs2 hFIw hme hok HI hL31 hcm hcl
      rcases hrl with ⟨e1, e2⟩ | ⟨gl, c', F, e1, e2, e3, e4, e5⟩
      · injection e1 with e6 e7 e8
        subst e6
        have h0 : nn = 0 := by omega
        have h1 : kk = 0 := by omega
        subst h0 h1 e8
        have e9 : s.wn l = 0 := by omega
        have hLn : L1 (.wl l) = .slice none 0 0 := by rw [hLl1, e9]
        have TN := HME.out.1.cell HME.out.2.1 l (.slice none 0 0) s1 rfl ⟨rfl, rfl, rfl⟩ ⟨rfl, fun j _ => by
          show (if j = l then Value.slice none 0 0 else L1 (.wl j)) = L1 (.wl j)
          split
          · next e => rw [e, hLn]
          · rfl⟩ fun t _ => ⟨rfl, fun _ _ => rfl⟩
        have HTN := Lib.hid (show Tn K M w L _ L1 (s1.cpt l 0 0) by rw [St.cpt_zero]; exact HME.out.2.2.2.trans TN)
        clear TN hLn hLl1 HME HL hew hew1 hnv1
        generalize s.wn l = z at *
        subst e9
        go_wp2
        go_region
        all_goals
          go_wp2
          go_ret
          exact HFIN.out _ _ (HTN.out.same rfl rfl rfl rfl)
      · injection e1 with e6 e7 e8
        subst e6 e8
        have hrl : Sl wr 78 2 (.slice (some ⟨gl, 0, none⟩) (s.wn l) cl) (s1.wn l) (fOf L1 s1 (.wl l)) := hLl1 ▸ HME.out.1.row (.wl l)
        clear e2 e3 e5
        have hgl := HME.out.1.glt hLl1
        have HCE := Lib.hid (show ∀ W : World, W.heap = wr.heap → ∀ j u, (lefts L1 s1 l nn)[j]? = some u → W.cell? ((⟨gl, nn * 2, none⟩ : Addr).add j) = some u by
          intro W hW j u hu
          have hj : j < (lefts L1 s1 l nn).length := (List.getElem?_eq_some_iff.1 hu).1
          rw [lefts_len] at hj
          have e : (lefts L1 s1 l nn)[j]? = some (fOf L1 s1 (.wl l) (nn * 2 + j)) := by
            unfold lefts
            rw [List.getElem?_map, List.getElem?_range hj]; rfl
          rw [e] at hu
          cases hu
          have h2 := hrl.cell (j := nn * 2 + j) (by omega)
          rw [show (⟨gl, nn * 2, none⟩ : Addr).add j = ⟨gl, nn * 2 + j, none⟩ by
            unfold Addr.add
            split
            · next e => subst e; rfl
            · rfl]
          rw [show W.cell? ⟨gl, nn * 2 + j, none⟩ = wr.cell? ⟨gl, nn * 2 + j, none⟩ by unfold World.cell?; rw [hW]]
          exact h2)
        have HSP := Lib.hid (show ∀ W : World, W.heap = wr.heap → ∀ j, j < (lefts L1 s1 l nn).length → (W.cell? ⟨gl, 0 + kk * 2 + j, none⟩).isSome = true ∧ W.frozen? ⟨gl, 0 + kk * 2 + j, none⟩ = false by
          intro W hW j hj
          rw [lefts_len] at hj
          have h2 := e4.cell (i := 0 + kk * 2 + j) (show _ < cl * 2 by omega)
          have h3 := e4.frozen (0 + kk * 2 + j)
          rw [show W.cell? ⟨gl, 0 + kk * 2 + j, none⟩ = wr.cell? ⟨gl, 0 + kk * 2 + j, none⟩ by unfold World.cell?; rw [hW], show W.frozen? ⟨gl, 0 + kk * 2 + j, none⟩ = wr.frozen? ⟨gl, 0 + kk * 2 + j, none⟩ by unfold World.frozen?; rw [hW], h2]
          exact ⟨rfl, h3⟩)
        have HONE := Lib.hid (show ∀ u ∈ lefts L1 s1 l nn, u.oneCell' = true by
          intro u hu
          unfold lefts at hu
          obtain ⟨j, _, rfl⟩ := List.mem_map.1 hu
          show Value.oneCell' (if (nn * 2 + j) % 2 = 0 then Value.int .i32 _ else .int .i32 _) = true
          split <;> rfl)
        have hTC := HME.out.1.compact (k := kk) (n := nn) (show L1 (.wl l) = .slice (some ⟨gl, 0, none⟩) (s1.wn l) cl by rw [hw1]; exact hLl1) HME.out.2.1 hkn (by omega) (by omega)
        rw [hw1] at hTC
        have HTC := Lib.hid (HME.out.2.2.2.trans hTC)
        obtain ⟨i0, hi, hz0, hz1, hz2⟩ := info_parts info78
        have HLEN := Lib.hid (show (lefts L1 s1 l nn).length = (s.wn l - nn) * 2 by rw [lefts_len, hw1])
        have hgg : ¬ gl = gw1 := HME.out.1.ne2 hLl1 HME.out.2.1 (fun e => by cases e)
        have k1 : (nn : Int) ≤ (s.wn l : Int) := by omega
        have k2 : (nn : Int) ≤ (cl : Int) := by omega
        have k3 : (kk : Int) ≤ (cl : Int) := by omega
        have k4 : (kk : Int) ≤ (s.wn l : Int) := by omega
        have HX3 := Lib.hid (show ∀ vs o, (wr.setCells gl o vs).cell? ⟨gw1, l, none⟩ = some (.slice (some ⟨gl, 0, none⟩) (s.wn l) cl) ∧ (wr.setCells gl o vs).frozen? ⟨gw1, l, none⟩ = false ∧ (wr.setCells gl o vs).cell? ⟨K, 3, none⟩ = some (.slice (some ⟨gw1, 0, none⟩) s1.ew cw1) from fun vs o => ⟨(World.cell?_setCells_out _ _ _ _ _ (fun e => absurd e.symm hgg)).trans x3, by rw [World.frozen?_setCells]; exact fw l, (World.cell?_setCells_out _ _ _ _ _ (fun e => absurd e (HME.out.1.ne hLl1))).trans c3⟩)
        clear hrl e4 F e7 hTC hLl1 hew hew1 hnv1
        have hmp : (kk : Nat) + (s.wn l - nn) ≤ cl := by omega
        by_cases hnc3 : nn = cl
        · have hz9 : s.wn l - nn = 0 := by omega
          have hl0 : lefts L1 s1 l nn = [] := List.eq_nil_of_length_eq_zero (by rw [HLEN.out, hz9])
          have hT9 := HTC.out
          rw [hl0, hz9] at hT9
          have HT9 := Lib.hid hT9
          subst hnc3
          clear HTC hT9 hl0 HCE HSP HONE HLEN HX3
          go_wp2
          go_region
          all_goals
            go_wp2
            go_ret
            exact HFIN.out _ _ (HT9.out.same rfl rfl rfl rfl)
        · have hnc4 : ¬ cl = nn := fun e => hnc3 e.symm
          have hnc5 : ¬ (cl : Int) = nn := by omega
          have hnc6 : ¬ (nn : Int) = cl := by omega
          have HT9 := Lib.hid (show ∀ W2, W2 = wr.drew.setCells gl (0 + kk * 2) (lefts L1 s1 l nn) → W2.cell? ⟨gw1, l, none⟩ = some (.slice (some ⟨gl, 0, none⟩) (s.wn l) cl) ∧ W2.frozen? ⟨gw1, l, none⟩ = false ∧ W2.cell? ⟨K, 3, none⟩ = some (.slice (some ⟨gw1, 0, none⟩) s1.ew cw1) ∧ Hid (Tn K M w L (W2.setCell ⟨gw1, l, none⟩ (.slice (some ⟨gl, 0, none⟩) (kk + (s.wn l - nn)) cl)) (up L1 (.wl l) (.slice (some ⟨gl, 0, none⟩) (kk + (s.wn l - nn)) cl)) (s1.cpt l kk nn)) by
            rintro W2 rfl
            rw [drew_setCells]
            obtain ⟨z1, z2, z3⟩ := HX3.out (lefts L1 s1 l nn) (0 + kk * 2)
            exact ⟨z1, z2, z3, Lib.hid (HTC.out.same rfl rfl rfl rfl)⟩)
          have hsp : ∀ j, j < (lefts L1 s1 l nn).length → (wr.drew.cell? ⟨gl, 0 + kk * 2 + j, none⟩).isSome = true ∧ wr.drew.frozen? ⟨gl, 0 + kk * 2 + j, none⟩ = false := HSP.out _ rfl
          have hce : ∀ j u, (lefts L1 s1 l nn)[j]? = some u → wr.drew.cell? ((⟨gl, nn * 2, none⟩ : Addr).add j) = some u := HCE.out _ rfl
          have HSP2 := Lib.hid hsp
          have HCE2 := Lib.hid hce
          clear HTC HX3 HSP HCE hsp hce
          go_wp2
          go_region_law (refine step_append_room_w rfl (.tmp 73) (.tmp 76) 97 rfl 78 i0 2 Try.underlying97 hi hz1 gl 0 kk cl (by simp [Act.eval, Act.put]) ⟨gl, nn * 2, none⟩ (s.wn l - nn) (cl - nn) (lefts L1 s1 l nn) (by simp [Act.eval, Act.put]) HLEN.out HCE2.out HONE.out hmp HSP2.out ?_; intro W2 hW2; obtain ⟨y1, y2, y3, yT⟩ := HT9.out W2 hW2; clear hW2)
          all_goals
            go_wp2
            go_ret
            exact HFIN.out _ _ (yT.out.same rfl rfl rfl rfl)
end Go.Proofs.Ytoffhgiljnagcaa
