/- Contracts: finish, apply. -/
import Derived.Test.YtoffhgiljnagcaaWG
import Derived.Test.YtoffhgiljnagcaaZa
namespace Go.Proofs.Ytoffhgiljnagcaa
open Go.RowKit Go.Lib Go.Maps

/-- What finish needs. -/
structure FinPre (s : St) : Prop where
  base : St.Base s St.All
  rs : s.Rsn fun _ => False
  br : s.broken ≠ 0 → s.Dead s.broken
  ok : s.broken = 0 → s.Fol s.nt s.done ∧ s.Short
/-- What it hands back. -/
structure FinOut (K M : Nat) (w : World) (L : Tag → Value) (s : St) (w' : World) (L' : Tag → Value) (s' : St) : Prop where
  tn : Tn K M w L w' L' s'
  base : St.Base s' St.All
  core : St.Core s s'
  settled : s'.settled = s.settled
  ok : St.Settled s'
  nvq : s'.nv = s.nv

set_option maxHeartbeats 1000000 in
set_option maxRecDepth 100000 in
theorem finish_any {K M : Nat} {w : World} {L : Tag → Value} {s : St} (h : Mem w K M L s) (hp : FinPre s) (hnv : s.nv ≤ 100000000) (hnc : s.nc ≤ 100000000) :
    Calls Try.prog 53 #[.pointer (some ⟨K, 0, none⟩)] w fun e w' => e = .returned (.tuple #[]) ∧ ∃ L' s', FinOut K M w L s w' L' s' := by
  have c9 : w.cell? ⟨K, 9, none⟩ = some (.int .i32 s.broken) := h.c 9 (by omega)
  have fK := h.fk
  by_cases hb : s.broken = 0
  · rw [hb] at c9
    have hpr := propagate_any (so := fun _ => False) (fr := 0) h hp.base hnv hnc (hp.ok hb).1 (fun a i _ _ _ ⟨k, hk, _⟩ => absurd hk (Nat.not_lt_zero _)) hp.rs (Nat.zero_le _)
    have hfin : ∀ (r : Nat) L1 s1 w1, PW K M w L s (fun _ => False) 0 w1 L1 s1 → PropOk s1 r → w1.frozen? ⟨K, 9, none⟩ = false ∧ w1.cell? ⟨K, 9, none⟩ = some (.int .i32 s1.broken) ∧ ∃ L' s', FinOut K M w L s (w1.setCell ⟨K, 9, none⟩ (.int .i32 r)) L' s' := by
      intro r L1 s1 w1 hP hr
      refine ⟨hP.tn.mem.fk 9, hP.tn.mem.c 9 (by omega), L1, { s1 with broken := r }, hP.tn.trans (hP.tn.mem.stBroken r), ?_, ?_, ?_, ?_, hP.nv⟩
      · have hB := hP.base
        exact ⟨⟨hB.vars.pos, hB.vars.inj⟩, ⟨hB.tra.t_lt, hB.tra.t_inj, hB.tra.v_tr, hB.tra.v_neg, hB.tra.v_rng, hB.tra.d_le⟩, ⟨hB.cls.c1, hB.cls.c_lt, hB.cls.c_ne, hB.cls.c_nt, hB.cls.c_gone, hB.cls.s_ok, hB.cls.s_all, hB.cls.s_le⟩, ⟨hB.wat.w_ok, hB.wat.w_has, hB.wat.w_uni⟩, hB.lens⟩
      · exact ⟨hP.ext.nv, hP.ext.vr, hP.ext.nc, hP.ext.gone, hP.ext.ln, hP.ext.lit⟩
      · exact hP.ext.settled
      · refine ⟨hP.rs, fun hr0 => ?_, fun hr0 => ?_⟩
        · rcases hr with ⟨h1, _⟩ | ⟨_, h1⟩
          · exact absurd h1 hr0
          · exact h1
        · rcases hr with ⟨_, h1, h2⟩ | ⟨h1, _⟩
          · exact ⟨h1, h2, hP.ext.short hp.base hP.base.tra (hp.ok hb).2⟩
          · exact absurd hr0 h1
    have HPR := Lib.hid hpr
    have HFN := Lib.hid hfin
    clear h hp hpr hfin
    go_enter Try.func53, Try.ntmps53
    go_wp2_with (go_at_call 56; refine HPR.out.mono ?_; rintro e w1 ⟨r, L1, s1, rfl, hP, hr⟩; obtain ⟨f9, d9, hO⟩ := HFN.out _ _ _ _ hP hr; have HO := Lib.hid hO; clear hP hr hO)
    go_end0
    exact ⟨rfl, HO.out⟩
  · have hbb : ((s.broken : Int) == 0) = false := by simpa using hb
    have hbi : ¬ (s.broken : Int) = 0 := by omega
    have HO := Lib.hid (show ∃ L' s', FinOut K M w L s w L' s' from ⟨L, s, h.refl, hp.base, .refl s, rfl, ⟨hp.rs, hp.br, fun e => absurd e hb⟩, rfl⟩)
    clear h hp
    go_enter Try.func53, Try.ntmps53
    go_wp2
    go_end0
    exact ⟨rfl, HO.out⟩

namespace St
/-- What apply does. -/
def app (s : St) (a : Nat) : St :=
  if s.ln a = 0 ∨ s.val (s.lt a 0) = -1 then { s with broken := a }
  else if 1 < s.ln a ∧ s.val (s.lt a 1) ≠ -1 then s
  else if s.val (s.lt a 0) = 0 then s.put (s.lt a 0) a
  else if s.ln a = 1 then { s with rsn := fun j => if j = s.lt a 0 then a else s.rsn j } else s
end St
set_option maxHeartbeats 4000000 in
set_option maxRecDepth 100000 in
theorem apply_any {K M : Nat} {w : World} {L : Tag → Value} {s : St} (h : Mem w K M L s) (hf : Fit' s) {a : Nat} (ha : a < s.nc) (hnc : s.nc ≤ 100000000) (hln : s.ln a ≤ 100000000) (hlt : ∀ i, i < s.ln a → s.lt a i < 2 * s.nv) (hr : ∀ p, p < 2 * s.nv → s.val p = -1 ∨ s.val p = 0 ∨ s.val p = 1) :
    Calls Try.prog 52 #[.pointer (some ⟨K, 0, none⟩), .int .i32 a] w fun e w' => e = .returned (.tuple #[]) ∧ ∃ L', (∀ t, t ≠ .tra → L' t = L t) ∧ Tn K M w L w' L' (s.app a) := by
  obtain ⟨gc, cc, hL1, _⟩ := (h.row .cls).pos (show 0 < s.nc by omega)
  replace hL1 : L .cls = .slice (some ⟨gc, 0, none⟩) s.nc cc := hL1
  obtain ⟨al, cl, hLl, _⟩ := (h.row (.cl a)).shape
  replace hLl : L (.cl a) = .slice al (s.ln a) cl := hLl
  have c1 : w.cell? ⟨K, 1, none⟩ = some (.slice (some ⟨gc, 0, none⟩) s.nc cc) := (h.c 1 (by omega)).trans (congrArg some hL1)
  have x0 : w.cell? ⟨gc, a * 2, none⟩ = some (.slice al (s.ln a) cl) := (h.rc hL1 (show a * 2 < s.nc * 2 by omega)).trans (by
    show some (if a * 2 % 2 = 0 then L (.cl (a * 2 / 2)) else _) = _
    rw [if_pos (by omega), show a * 2 / 2 = a by omega, hLl])
  have c9 : w.cell? ⟨K, 9, none⟩ = some (.int .i32 s.broken) := h.c 9 (by omega)
  have fK := h.fk
  have ha1 : (a : Int) < (s.nc : Int) := by omega
  by_cases h0 : s.ln a = 0
  · have HA := Lib.hid (show ∀ q, Tn K M w L ((w.drewN q).setCell ⟨K, 9, none⟩ (.int .i32 a)) L (s.app a) from fun q => by
      rw [show s.app a = { s with broken := a } from if_pos (.inl h0)]
      exact (h.refl.drewN q).trans ((h.drewN q).stBroken a))
    rw [h0] at x0
    clear h hf hlt hr hL1 hLl hln
    go_enter Try.func52, Try.ntmps52
    go_wp2
    go_quiet (fail)
    go_wp2
    go_end0
    exact ⟨rfl, L, fun _ _ => rfl, HA.out _⟩
  · obtain ⟨gl, cl', hLl', _⟩ := (h.row (.cl a)).pos (show 0 < s.ln a by omega)
    replace hLl' : L (.cl a) = .slice (some ⟨gl, 0, none⟩) (s.ln a) cl' := hLl'
    rw [hLl'] at hLl
    injection hLl with e1 e2 e3
    subst e1 e3
    have hev := hf.ev
    have her := hf.er
    have hp0 := hlt 0 (by omega)
    obtain ⟨gv, cv, hL4, _⟩ := (h.row .vals).pos (show 0 < s.ev by omega)
    replace hL4 : L .vals = .slice (some ⟨gv, 0, none⟩) s.ev cv := hL4
    have c4 : w.cell? ⟨K, 4, none⟩ = some (.slice (some ⟨gv, 0, none⟩) s.ev cv) := (h.c 4 (by omega)).trans (congrArg some hL4)
    have y0 : w.cell? ⟨gl, 0, none⟩ = some (.int .i32 (s.lt a 0)) := h.rc hLl' (show 0 < s.ln a * 1 by omega)
    have v0 : w.cell? ⟨gv, s.lt a 0, none⟩ = some (.int .i8 (s.val (s.lt a 0))) := h.rc hL4 (show s.lt a 0 < s.ev * 1 by omega)
    have q0 : (s.lt a 0 : Int) < (s.ev : Int) := by omega
    have q1 : (0 : Int) < (s.ln a : Int) := by omega
    have q2 : ¬ (s.ln a : Int) = 0 := by omega
    have q3 : ((s.ln a : Int) == 0) = false := by simpa using h0
    by_cases hv : s.val (s.lt a 0) = -1
    · have HA := Lib.hid (show ∀ q, Tn K M w L ((w.drewN q).setCell ⟨K, 9, none⟩ (.int .i32 a)) L (s.app a) from fun q => by
        rw [show s.app a = { s with broken := a } from if_pos (.inr hv)]
        exact (h.refl.drewN q).trans ((h.drewN q).stBroken a))
      rw [hv] at v0
      clear h hf hlt hr hL1 hLl' hL4 hev her hp0
      go_enter Try.func52, Try.ntmps52
      go_wp2
      go_quiet (fail)
      go_wp2
      go_end0
      exact ⟨rfl, L, fun _ _ => rfl, HA.out _⟩
    · have hv1 : ((s.val (s.lt a 0)) == (-1 : Int)) = false := by simpa using hv
      have hne1 : ¬ (s.ln a = 0 ∨ s.val (s.lt a 0) = -1) := fun e => e.elim h0 hv
      have hv01 : s.val (s.lt a 0) = 0 ∨ s.val (s.lt a 0) = 1 := (hr _ hp0).resolve_left hv
      have HT := Lib.hid (fun q => h.refl.drewN q)
      rcases Nat.lt_or_ge 1 (s.ln a) with h2 | h2
      · have hp1 := hlt 1 h2
        have y1 : w.cell? ⟨gl, 1, none⟩ = some (.int .i32 (s.lt a 1)) := h.rc hLl' (show 1 < s.ln a * 1 by omega)
        have v1 : w.cell? ⟨gv, s.lt a 1, none⟩ = some (.int .i8 (s.val (s.lt a 1))) := h.rc hL4 (show s.lt a 1 < s.ev * 1 by omega)
        have q4 : (s.lt a 1 : Int) < (s.ev : Int) := by omega
        have q5 : (1 : Int) < (s.ln a : Int) := by omega
        have q6 : ((s.ln a : Int) == 1) = false := by simp; omega
        have q7 : ¬ (s.ln a : Int) = 1 := by omega
        by_cases hw : s.val (s.lt a 1) = -1
        · have hne2 : ¬ (1 < s.ln a ∧ s.val (s.lt a 1) ≠ -1) := fun e => e.2 hw
          have hne3 : ¬ s.ln a = 1 := by omega
          rw [hw] at v1
          rcases hv01 with hv0 | hv0
          · have HA := Lib.hid (show s.app a = s.put (s.lt a 0) a by unfold St.app; rw [if_neg hne1, if_neg hne2, if_pos hv0])
            have HS := Lib.hid (fun q => set_any (r := a) (h.drewN q) ⟨hev, her⟩ hf.nv hf.nt hp0)
            rw [hv0] at v0
            clear h hf hlt hr hL1 hLl' hL4 hev her hp0 hv1
            go_enter Try.func52, Try.ntmps52
            go_wp2
            go_quiet (fail)
            go_wp2
            go_quiet (fail)
            go_wp2
            go_quiet (fail)
            go_wp2_with (go_at_call 72; refine (HS.out _).mono ?_; rintro e w1 ⟨rfl, v, T⟩; have HT1 := Lib.hid T; clear T)
            go_end0
            exact ⟨rfl, _, fun t ht => up_other _ ht, by rw [HA.out]; exact (HT.out _).trans HT1.out⟩
          · have HA := Lib.hid (show s.app a = s by unfold St.app; rw [if_neg hne1, if_neg hne2, if_neg (by omega), if_neg hne3])
            rw [hv0] at v0
            clear h hf hlt hr hL1 hLl' hL4 hev her hp0 hv1
            go_enter Try.func52, Try.ntmps52
            go_wp2
            go_quiet (fail)
            go_wp2
            go_quiet (fail)
            go_wp2
            go_quiet (fail)
            go_wp2
            go_end0
            exact ⟨rfl, L, fun _ _ => rfl, by rw [HA.out]; exact (HT.out 0).same rfl rfl rfl rfl⟩
        · have hne2 : 1 < s.ln a ∧ s.val (s.lt a 1) ≠ -1 := ⟨h2, hw⟩
          have HA := Lib.hid (show s.app a = s by unfold St.app; rw [if_neg hne1, if_pos hne2])
          have hw2 : (s.val (s.lt a 1) != (-1 : Int)) = true := by simpa using hw
          clear h hf hlt hr hL1 hLl' hL4 hev her hp0 hv01
          go_enter Try.func52, Try.ntmps52
          go_wp2
          go_quiet (fail)
          go_wp2
          go_quiet (fail)
          go_wp2
          go_end0
          exact ⟨rfl, L, fun _ _ => rfl, by rw [HA.out]; exact (HT.out 0).same rfl rfl rfl rfl⟩
      · have h21 : s.ln a = 1 := by omega
        have hne2 : ¬ (1 < s.ln a ∧ s.val (s.lt a 1) ≠ -1) := fun e => by omega
        have q5 : ¬ (1 : Int) < (s.ln a : Int) := by omega
        rcases hv01 with hv0 | hv0
        · have HA := Lib.hid (show s.app a = s.put (s.lt a 0) a by unfold St.app; rw [if_neg hne1, if_neg hne2, if_pos hv0])
          have HS := Lib.hid (fun q => set_any (r := a) (h.drewN q) ⟨hev, her⟩ hf.nv hf.nt hp0)
          rw [hv0] at v0
          clear h hf hlt hr hL1 hLl' hL4 hev her hp0 hv1
          go_enter Try.func52, Try.ntmps52
          go_wp2
          go_quiet (fail)
          go_wp2
          go_quiet (fail)
          go_wp2
          go_quiet (fail)
          go_wp2_with (go_at_call 72; refine (HS.out _).mono ?_; rintro e w1 ⟨rfl, v, T⟩; have HT1 := Lib.hid T; clear T)
          go_end0
          exact ⟨rfl, _, fun t ht => up_other _ ht, by rw [HA.out]; exact (HT.out _).trans HT1.out⟩
        · have HA := Lib.hid (show s.app a = { s with rsn := fun j => if j = s.lt a 0 then a else s.rsn j } by unfold St.app; rw [if_neg hne1, if_neg hne2, if_neg (by omega), if_pos h21])
          obtain ⟨gr, cr, hL5, _⟩ := (h.row .rsns).pos (show 0 < s.er by omega)
          replace hL5 : L .rsns = .slice (some ⟨gr, 0, none⟩) s.er cr := hL5
          have c5 : w.cell? ⟨K, 5, none⟩ = some (.slice (some ⟨gr, 0, none⟩) s.er cr) := (h.c 5 (by omega)).trans (congrArg some hL5)
          have x5 := h.rc (t := .rsns) hL5 (show s.lt a 0 < s.er * 1 by omega)
          have f5 := h.fz hL5
          have q8 : (s.lt a 0 : Int) < (s.er : Int) := by omega
          have q9 : ((s.ln a : Int) == 1) = true := by simp; omega
          have HR := Lib.hid (fun q => (HT.out q).trans ((h.drewN q).stRsn hL5 (s.lt a 0) a))
          rw [hv0] at v0
          clear h hf hlt hr hL1 hLl' hL4 hL5 hev her hp0 hv1
          rw [h21] at q5 q9 q1 q2 q3 x0
          go_enter Try.func52, Try.ntmps52
          go_wp2
          go_quiet (fail)
          go_wp2
          go_quiet (fail)
          go_wp2
          go_quiet (fail)
          go_wp2
          go_region
          all_goals
            go_end0
            exact ⟨rfl, L, fun _ _ => rfl, by rw [HA.out]; exact (HR.out _).same rfl rfl rfl rfl⟩
end Go.Proofs.Ytoffhgiljnagcaa
