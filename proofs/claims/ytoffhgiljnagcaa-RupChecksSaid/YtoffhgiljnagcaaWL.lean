/- Contracts: implies. -/
import Derived.Test.YtoffhgiljnagcaaWJ
import Derived.Test.YtoffhgiljnagcaaWK
namespace Go.Proofs.Ytoffhgiljnagcaa
open Go.RowKit Go.Lib Go.Maps

/-- The negation of a clause. -/
def Den (f : Nat → Int) (n : Nat) (l : Int) : Prop := ∃ j, j < n ∧ l = -f j
theorem inv_cut {s1 s3 : St} {so : Nat → Prop} (hs : s1.settled = true) (hS : St.Settled s1) (hb : s1.broken = 0) (h1 : St.Base s1 St.All) (h3 : St.Base s3 St.All) (hE : St.Ext s1 s3) (hF : s3.Fol s1.nt s1.nt) (hR : s3.Rsn so) : St.Inv (s3.cut s1.nt) := by
  have hcb : St.Base (s3.cut s1.nt) St.All := h3.cut hE.nt
  refine ⟨hcb, fun _ => ⟨hR.cut h3.tra hE.nt fun i hi _ h0 => ?_, fun e => absurd (show s3.broken = 0 by rw [hE.broken]; exact hb) e, fun _ => ⟨rfl, hF, ?_⟩⟩⟩
  · rw [hE.tr i hi, hE.rsn i hi] at h0
    rcases hS.rs i hi with h | h
    · exact h.2
    · have := h.1.1; omega
  · intro j hj hg
    have hj' : j < s1.ns := by rw [← hE.ns]; exact hj
    have hg' : s1.gone (s1.sh j) = false := by rw [← hE.gone, ← hE.sh]; exact hg
    obtain ⟨a1, a2⟩ := (hS.ok hb).2.2 j hj' hg'
    have hsh := (h1.cls.s_ok j hj').2.1
    have hp := h1.cls.c_lt (s1.sh j) 0 hsh (by omega)
    have e0 : s3.lt (s1.sh j) 0 = s1.lt (s1.sh j) 0 := St.one_lt0 (by rw [hE.ln]) (fun p => hE.lit _ p) a1
    obtain ⟨i, hi, e⟩ := (h1.tra.v_tr _ hp).1 a2
    show s3.ln (s3.sh j) = 1 ∧ (s3.cut s1.nt).val (s3.lt (s3.sh j) 0) = 1
    rw [hE.sh, hE.ln, e0]
    refine ⟨a1, (hcb.tra.v_tr _ (by have := hE.nv; show _ < 2 * s3.nv; omega)).2 ⟨i, hi, ?_⟩⟩
    exact (hE.tr i hi).trans e
/-- What implies hands back. -/
structure ImpOut (K M : Nat) (w : World) (L : Tag → Value) (s : St) (f : Nat → Int) (n : Nat) (w' : World) (b : Bool) (L' : Tag → Value) (s' : St) : Prop where
  tn : Tn K M w L w' L' s'
  inv : St.Inv s'
  core : St.Core s s'
  nv : s'.nv ≤ s.nv + n
  ok : b = true ↔ Conf s.Cl (Den f n)
def ImpPost (K M : Nat) (w : World) (L : Tag → Value) (s : St) (f : Nat → Int) (n : Nat) (e : Ending) (w' : World) : Prop :=
  ∃ (b : Bool) (L' : Tag → Value) (s' : St), e = .returned (.bool b) ∧ ImpOut K M w L s f n w' b L' s'
theorem cut_core {s s' : St} (h : St.Core s s') (m : Nat) : St.Core s (s'.cut m) := ⟨h.nv, h.vr, h.nc, h.gone, h.ln, h.lit⟩
theorem conf_core {s s' : St} (h : St.Core s s') (hc : St.Cls s) {so : Int → Prop} : Conf s'.Cl so ↔ Conf s.Cl so :=
  ⟨fun h1 => h1.mono (fun c => (h.cl_iff hc c).1) fun _ h => h, fun h1 => h1.mono (fun c => (h.cl_iff hc c).2) fun _ h => h⟩

set_option maxHeartbeats 4000000 in
set_option maxRecDepth 100000 in
theorem implies_any {K M : Nat} {w : World} {L : Tag → Value} {s : St} (h : Mem w K M L s) (hI : St.Inv s) {a : Option Addr} {n c : Nat} {f : Nat → Int} (hA : Apart w K M L a n f) (hl : ∀ j, j < n → lit (f j) = true) (hn : n ≤ 100000) (hnv : s.nv + n ≤ 100000000) (hnc : s.nc ≤ 100000000) :
    Calls Try.prog 24 #[.pointer (some ⟨K, 0, none⟩), .slice a n c] w (ImpPost K M w L s f n) := by
  have hset := settle_any h hI (by omega) hnc
  have hcls := hI.base.cls
  -- behind settle
  have haft1 : ∀ w1 L1 s1, SetOut K M w L s w1 L1 s1 → w1.cell? ⟨K, 9, none⟩ = some (.int .i32 s1.broken) ∧ (∃ at_ ct, w1.cell? ⟨K, 6, none⟩ = some (.slice at_ s1.nt ct)) ∧
      (s1.broken ≠ 0 → ImpPost K M w L s f n (.returned (.bool true)) w1) ∧ (s1.broken = 0 → Calls Try.prog 55 #[.pointer (some ⟨K, 0, none⟩), .slice a n c] w1 (DenyOut K M w1 L1 s1 f n)) := by
    intro w1 L1 s1 hO
    have hm := hO.tn.mem
    obtain ⟨at_, ct, hL6, _⟩ := (hm.row .tra).shape
    replace hL6 : L1 .tra = .slice at_ s1.nt ct := hL6
    have hS := hO.inv.set hO.settled
    refine ⟨hm.c 9 (by omega), ⟨at_, ct, (hm.c 6 (by omega)).trans (congrArg some hL6)⟩, fun hb => ?_, fun hb => ?_⟩
    · refine ⟨true, L1, s1, rfl, hO.tn, hO.inv, hO.core, by rw [hO.nvq]; omega, fun _ => ?_, fun _ => rfl⟩
      exact (conf_core hO.core hcls).1 (hO.inv.base.back hS.rs (fun _ h => h.elim) (hO.inv.base.dead (hS.br hb)))
    · obtain ⟨e1, e2, e3⟩ := hS.ok hb
      exact deny_any hm hO.inv.base e2 hS.rs (hA.keep hO.tn) hl hn (by rw [hO.nvq]; exact hnv)
  have HSE := Lib.hid hset
  have HA1 := Lib.hid haft1
  -- behind deny
  have haft2 : ∀ w1 L1 s1 w2 L2 s2, SetOut K M w L s w1 L1 s1 → s1.broken = 0 → DW K M w1 L1 s1 f n n w2 L2 s2 →
      ((∃ j, j < n ∧ ∃ i, i < s2.nt ∧ s2.ext (s2.tr i) = f j) → Calls Try.prog 57 #[.pointer (some ⟨K, 0, none⟩), .int .i64 s1.nt] w2 fun e w3 => e = .returned (.tuple #[]) ∧ ImpPost K M w L s f n (.returned (.bool true)) w3) ∧
      (Neg f n s2 → Calls Try.prog 56 #[.pointer (some ⟨K, 0, none⟩)] w2 fun e w3 => ∃ r : Nat, e = .returned (.int .i32 r) ∧ Hid (Calls Try.prog 57 #[.pointer (some ⟨K, 0, none⟩), .int .i64 s1.nt] w3 fun e w4 => e = .returned (.tuple #[]) ∧ ImpPost K M w L s f n (.returned (.bool (decide (r ≠ 0)))) w4)) := by
    intro w1 L1 s1 w2 L2 s2 hO hb0 hD
    have hS := hO.inv.set hO.settled
    obtain ⟨e1, e2, e3⟩ := hS.ok hb0
    have hB1 := hO.inv.base
    have hnt := hD.ext.nt
    have hso : ∀ p, SO f n s2 p → Den f n (s2.ext p) := fun p ⟨j, hj, e⟩ => ⟨j, hj, e⟩
    have hcore2 := hO.core.trans hD.ext.core
    have hnv2 : s2.nv ≤ s.nv + n := by have := hD.nv; rw [hO.nvq] at this; exact this
    refine ⟨fun hx => ?_, fun hx => ?_⟩
    · refine (retreat_any hD.tn.mem (hD.base.fit (by omega)) hD.base.tra.t_lt hnt).mono ?_
      rintro e w3 ⟨rfl, L3, T⟩
      refine ⟨rfl, true, L3, _, rfl, hO.tn.trans (hD.tn.trans T), inv_cut hO.settled hS hb0 hB1 hD.base hD.ext hD.fb hD.rs, cut_core hcore2 _, hnv2, fun _ => ?_, fun _ => rfl⟩
      obtain ⟨j, hj, i, hi, e⟩ := hx
      refine (conf_core hcore2 hcls).1 (hD.base.back hD.rs hso ?_)
      exact .clash (f j) (.inr ⟨i, hi, e⟩) (.inl ⟨j, hj, rfl⟩)
    · have hpr := propagate_any (fr := s1.nt) hD.tn.mem hD.base (by omega) (by rw [hcore2.nc]; exact hnc) (by rw [hD.done, e1]; exact hD.fb.mono hnt (Nat.le_refl _)) hD.fb hD.rs (by rw [hD.done, e1]; exact Nat.le_refl _)
      refine hpr.mono ?_
      rintro e w3 ⟨r, L3, s3, rfl, hP, hr⟩
      refine ⟨r, rfl, Lib.hid ?_⟩
      have hE3 := hD.ext.trans hP.ext
      have hcore3 := hcore2.trans hP.ext.core
      have hnv3 : s3.nv ≤ s.nv + n := by rw [hP.nv]; exact hnv2
      refine (retreat_any hP.tn.mem (hP.base.fit (by omega)) hP.base.tra.t_lt hE3.nt).mono ?_
      rintro e w4 ⟨rfl, L4, T⟩
      have hso3 : ∀ p, p < 2 * s2.nv → SO f n s2 p → Den f n (s3.ext p) := fun p hp ⟨j, hj, e⟩ => ⟨j, hj, by rw [hP.ext.ext_eq hp]; exact e⟩
      refine ⟨rfl, _, L4, _, rfl, hO.tn.trans (hD.tn.trans (hP.tn.trans T)), inv_cut hO.settled hS hb0 hB1 hP.base hE3 hP.fb hP.rs, cut_core hcore3 _, hnv3, ?_⟩
      rcases hr with ⟨hr0, hdn, hfo⟩ | ⟨hr0, hdead⟩
      · rw [decide_eq_false (by simpa using hr0)]
        refine ⟨fun e => (by cases e), fun hc => ?_⟩
        have hsh : s3.Short := hE3.short hB1 hP.base.tra e3
        refine absurd ((conf_core hcore3 hcls).2 hc) (hP.base.closed hfo hsh ?_)
        rintro l ⟨j, hj, rfl⟩
        obtain ⟨i, hi, e⟩ := hx j hj
        exact ⟨i, Nat.lt_of_lt_of_le hi hP.ext.nt, by rw [hP.ext.tr i hi, hP.ext.ext_eq (hD.base.tra.t_lt i hi)]; exact e⟩
      · rw [decide_eq_true hr0]
        refine ⟨fun _ => ?_, fun _ => rfl⟩
        refine (conf_core hcore3 hcls).1 (hP.base.back (so := fun p => SO f n s2 p ∧ p < 2 * s2.nv ∨ SO f n s3 p) (fun i hi => (hP.rs i hi).imp (fun h => ⟨h.1, ?_⟩) id) ?_ (hP.base.dead hdead))
        · by_cases hp : s3.tr i < 2 * s2.nv
          · exact .inl ⟨h.2, hp⟩
          · exact absurd (show s3.tr i < 2 * s2.nv by have := hP.base.tra.t_lt i hi; rw [hP.nv] at this; exact this) hp
        · rintro p (⟨h1, h2⟩ | ⟨j, hj, e⟩)
          · exact hso3 p h2 h1
          · exact ⟨j, hj, e⟩
  have HA2 := Lib.hid haft2
  clear hset haft1 haft2 hcls h hI hA hl
  go_enter Try.func24, Try.ntmps24
  go_wp2_with (first
    | (go_at_call 54; refine HSE.out.mono ?_; rintro e w1 ⟨rfl, L1, s1, hO⟩; obtain ⟨b1, ⟨at_, ct, b2⟩, b3, b4⟩ := HA1.out w1 L1 s1 hO; have HO := Lib.hid hO; have HB3 := Lib.hid b3; have HB4 := Lib.hid b4; clear hO b3 b4)
    | (go_at_call 55; have hz : s1.broken = 0 := (by simp_all); refine (HB4.out hz).mono ?_; rintro e w2 ⟨b, L2, s2, rfl, hD, hor⟩; obtain ⟨c1, c2⟩ := HA2.out _ _ _ _ _ _ HO.out hz hD; have HC1 := Lib.hid c1; have HC2 := Lib.hid c2; have HOR := Lib.hid hor; clear c1 c2 hor hD)
    | (go_at_call 56; refine (HC2.out (by rcases HOR.out with ⟨_, h⟩ | ⟨h, _⟩; exact h; simp_all)).mono ?_; rintro e w3 ⟨r, rfl, HR⟩)
    | (go_at_call 57; refine HR.out.mono ?_; rintro e w4 ⟨rfl, hP⟩; have HP := Lib.hid hP; clear hP)
    | (go_at_call 57; refine (HC1.out (by rcases HOR.out with ⟨h, _⟩ | ⟨_, h⟩; simp_all; exact h)).mono ?_; rintro e w4 ⟨rfl, hP⟩; have HP := Lib.hid hP; clear hP))
  · have hb : s1.broken ≠ 0 := by simp_all
    go_ret
    exact HB3.out hb
  · go_ret
    exact HP.out
  · have e : decide (r ≠ 0) = ((r : Int) != 0) := by rw [Bool.eq_iff_iff]; simp
    have hP := HP.out
    rw [e] at hP
    have HQ := Lib.hid hP
    clear hP
    go_ret
    exact HQ.out
end Go.Proofs.Ytoffhgiljnagcaa
