/- Contracts: propagate, finish. -/
import Derived.Test.YtoffhgiljnagcaaWF
namespace Go.Proofs.Ytoffhgiljnagcaa
open Go.RowKit Go.Lib Go.Maps

/-- While what is true is followed. -/
structure PW (K M : Nat) (w : World) (L : Tag → Value) (s : St) (so : Nat → Prop) (fr : Nat) (w' : World) (L' : Tag → Value) (s' : St) : Prop where
  tn : Tn K M w L w' L' s'
  base : St.Base s' St.All
  ext : St.Ext s s'
  fb : s'.Fol fr fr
  rs : s'.Rsn so
  nv : s'.nv = s.nv
def PropOk (s' : St) (r : Nat) : Prop := (r = 0 ∧ s'.done = s'.nt ∧ s'.Fol s'.nt s'.nt) ∨ (r ≠ 0 ∧ St.Dead s' r)
def PropOut (K M : Nat) (w : World) (L : Tag → Value) (s : St) (so : Nat → Prop) (fr : Nat) (e : Ending) (w' : World) : Prop :=
  ∃ (r : Nat) (L' : Tag → Value) (s' : St), e = .returned (.int .i32 r) ∧ PW K M w L s so fr w' L' s' ∧ PropOk s' r
def doneAt (K : Nat) (w : World) : Nat := match w.cell? ⟨K, 7, none⟩ with
  | some v => (intOf v).toNat
  | none => 0
theorem doneAt_eq {K M : Nat} {w : World} {L : Tag → Value} {s : St} (h : Mem w K M L s) : doneAt K w = s.done := by
  unfold doneAt; rw [h.c 7 (by omega)]; simp [hdF, intOf]

set_option maxHeartbeats 4000000 in
set_option maxRecDepth 100000 in
theorem propagate_any {K M : Nat} {w : World} {L : Tag → Value} {s : St} (h : Mem w K M L s) {so : Nat → Prop} {fr : Nat} (hb : St.Base s St.All) (hnv : s.nv ≤ 100000000) (hnc : s.nc ≤ 100000000)
    (hF : s.Fol s.nt s.done) (hfb : s.Fol fr fr) (hR : s.Rsn so) (hfr : fr ≤ s.done) :
    Calls Try.prog 56 #[.pointer (some ⟨K, 0, none⟩)] w (PropOut K M w L s so fr) := by
  have H0 := Lib.hid (show PW K M w L s so fr w L s ∧ s.Fol s.nt s.done ∧ s.done ≤ s.done from ⟨⟨h.refl, hb, .refl s, hfb, hR, rfl⟩, hF, Nat.le_refl _⟩)
  clear hF hfb hR hb h
  go_enter Try.func56, Try.ntmps56
  go_wp2
  go_loopw [4] (fun _ wr => ∃ (L1 : Tag → Value) (s1 : St), Hid (PW K M w L s so fr wr L1 s1 ∧ s1.Fol s1.nt s1.done ∧ s.done ≤ s1.done)) (fun _ wr => 2 * s.nv - doneAt K wr)
  case atStart => exact ⟨L, s, H0⟩
  case round =>
    obtain ⟨L1, s1, HI⟩ := hrel
    clear H0
    have hme := HI.out.1.tn.mem
    have hB := HI.out.1.base
    have hda := doneAt_eq hme
    obtain ⟨at_, ct, hL6, hc1, hc2⟩ := (hme.row .tra).shape
    replace hL6 : L1 .tra = .slice at_ s1.nt ct := hL6
    have c6 : wr.cell? ⟨K, 6, none⟩ = some (.slice at_ s1.nt ct) := (hme.c 6 (by omega)).trans (congrArg some hL6)
    have c7 : wr.cell? ⟨K, 7, none⟩ = some (.int .i64 s1.done) := hme.c 7 (by omega)
    have fK := hme.fk
    have hdl := hB.tra.d_le
    have hnt := hB.tra.nt_le
    have hnv1 : s1.nv = s.nv := HI.out.1.nv
    by_cases hlt : s1.done < s1.nt
    · obtain ⟨gt, ct', hL6', _, _, hgt⟩ := (hme.row .tra).pos (show 0 < s1.nt by omega)
      replace hL6' : L1 .tra = .slice (some ⟨gt, 0, none⟩) s1.nt ct' := hL6'
      rw [hL6'] at hL6
      injection hL6 with e1 e2 e3
      subst e1 e3
      have xt : wr.cell? ⟨gt, s1.done, none⟩ = some (.int .i32 (s1.tr s1.done)) := hme.rc hL6' (show s1.done < s1.nt * 1 by omega)
      have hpl := hB.tra.t_lt _ hlt
      have n1 := hme.ne hL6'
      have T1 := fun q => (hme.drewN q).stDone (s1.done + 1)
      have HN := Lib.hid (negation_any (s1.tr s1.done) (by omega))
      have hB2 : St.Base { s1 with done := s1.done + 1 } St.All := ⟨⟨hB.vars.pos, hB.vars.inj⟩, ⟨hB.tra.t_lt, hB.tra.t_inj, hB.tra.v_tr, hB.tra.v_neg, hB.tra.v_rng, hlt⟩, ⟨hB.cls.c1, hB.cls.c_lt, hB.cls.c_ne, hB.cls.c_nt, hB.cls.c_gone, hB.cls.s_ok, hB.cls.s_all, hB.cls.s_le⟩, ⟨hB.wat.w_ok, hB.wat.w_has, hB.wat.w_uni⟩, hB.lens⟩
      have hfr2 : fr ≤ s1.nt := by have := HI.out.2.2; omega
      have HFo := Lib.hid (fun q => follow_any (so := so) (fr := fr) (T1 q).mem hB2 (by rw [hnv1]; exact hnv) (show s1.nc ≤ _ by rw [HI.out.1.ext.nc]; exact hnc) HI.out.2.1 HI.out.1.fb HI.out.1.rs hlt (neg_neg _).symm (neg_lt hpl) hfr2)
      have hex : St.Ext s1 { s1 with done := s1.done + 1 } := ⟨Nat.le_refl _, fun _ _ => rfl, rfl, rfl, rfl, fun _ _ => Iff.rfl, rfl, rfl, Nat.le_refl _, fun _ _ => rfl, fun _ _ => rfl, rfl, rfl⟩
      have hafter : ∀ q e w', (∃ r L' s', FolOut K M ((wr.drewN q).setCell ⟨K, 7, none⟩ (.int .i64 (s1.done + 1 : Nat))) L1 { s1 with done := s1.done + 1 } so fr s1.done e w' r L' s') →
          ∃ (r : Nat) (L' : Tag → Value) (s' : St), e = .returned (.int .i32 r) ∧ PW K M w L s so fr w' L' s' ∧ ((r = 0 ∧ s'.Fol s'.nt s'.done ∧ s.done ≤ s'.done ∧ s'.done = s1.done + 1) ∨ (r ≠ 0 ∧ PropOk s' r)) := by
        rintro q e w' ⟨r, L', s', hO⟩
        have hd2 : s'.done = s1.done + 1 := hO.dn
        refine ⟨r, L', s', hO.res, ⟨(HI.out.1.tn.drewN q).trans ((T1 q).trans hO.tn), hO.base, HI.out.1.ext.trans (hex.trans hO.ext), hO.fb, hO.rs, hO.nv.trans hnv1⟩, ?_⟩
        rcases hO.ok with ⟨h1, h2⟩ | h1
        · exact .inl ⟨h1, by rw [hd2]; exact h2, by have := HI.out.2.2; omega, hd2⟩
        · exact .inr ⟨h1.1, .inr h1⟩
      have HA := Lib.hid hafter
      have q1 : (s1.done : Int) < (s1.nt : Int) := by omega
      clear HI hme hB hL6' hpl T1 hB2 hex hafter hc1 hc2 hgt e2
      go_wp2
      go_quiet (fail)
      go_wp2
      go_quiet (fail)
      go_wp2_with (go_at_call 71; refine (HN.out _).mono ?_; rintro e w' ⟨rfl, rfl⟩)
      go_wp2_with (go_at_call 75; refine (HFo.out _).mono ?_; intro e w' hO; obtain ⟨r, L2, s2, rfl, hPW, hor⟩ := HA.out _ _ _ hO; have HP := Lib.hid (And.intro hPW hor); clear hO hPW hor)
      case roundEnd =>
        have hr : r = 0 := by first | omega | simp_all
        rcases HP.out.2 with ⟨_, k1, k2, k3⟩ | ⟨k1, _⟩
        · refine ⟨⟨L2, s2, Lib.hid ⟨HP.out.1, k1, k2⟩⟩, ?_⟩
          have hd2 := doneAt_eq HP.out.1.tn.mem
          rw [hd2, hda]
          omega
        · exact absurd hr k1
      · have hr : r ≠ 0 := by first | omega | simp_all
        go_ret
        rcases HP.out.2 with ⟨k1, _⟩ | ⟨_, k1⟩
        · exact absurd k1 hr
        · exact ⟨r, L2, s2, rfl, HP.out.1, k1⟩
    · have hq : ¬ (s1.done : Int) < (s1.nt : Int) := by omega
      have hfin : ∀ q, PropOut K M w L s so fr (.returned (.int .i32 (0 : Nat))) (wr.drewN q) := fun q => by
        have hdn : s1.done = s1.nt := by omega
        have h1 := HI.out.2.1
        refine ⟨0, L1, s1, rfl, ⟨HI.out.1.tn.drewN q, hB, HI.out.1.ext, HI.out.1.fb, HI.out.1.rs, HI.out.1.nv⟩, .inl ⟨rfl, hdn, ?_⟩⟩
        rw [hdn] at h1; exact h1
      have HFN := Lib.hid hfin
      clear HI hme hB hfin hda hL6 hc1 hc2 hdl hnt
      go_wp2
      go_quiet (fail)
      go_wp2
      go_ret
      exact HFN.out _
end Go.Proofs.Ytoffhgiljnagcaa
