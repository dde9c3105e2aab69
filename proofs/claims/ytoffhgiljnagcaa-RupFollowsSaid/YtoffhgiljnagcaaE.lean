/- What is known, as mathematics: what is settled. -/
import Derived.Test.YtoffhgiljnagcaaD
namespace Go.Proofs.Ytoffhgiljnagcaa
namespace St

/-- The clauses and the variables stay. -/
structure Core (s s' : St) : Prop where
  nv : s.nv ≤ s'.nv
  vr : ∀ n, n < s.nv → s'.vr n = s.vr n
  nc : s'.nc = s.nc
  gone : s'.gone = s.gone
  ln : s'.ln = s.ln
  lit : ∀ a p, s'.Lit a p ↔ s.Lit a p
theorem Core.refl (s : St) : Core s s := ⟨Nat.le_refl _, fun _ _ => rfl, rfl, rfl, rfl, fun _ _ => Iff.rfl⟩
theorem Core.trans {a b c : St} (h : Core a b) (k : Core b c) : Core a c :=
  ⟨Nat.le_trans h.nv k.nv, fun n hn => (k.vr n (Nat.lt_of_lt_of_le hn h.nv)).trans (h.vr n hn), k.nc.trans h.nc, k.gone.trans h.gone, k.ln.trans h.ln, fun x p => (k.lit x p).trans (h.lit x p)⟩
theorem Ext.core {s s' : St} (h : Ext s s') : Core s s' := ⟨h.nv, h.vr, h.nc, h.gone, h.ln, h.lit⟩
theorem Core.is_iff {s s' : St} (h : Core s s') (a : Nat) : s'.Is a ↔ s.Is a := by unfold Is; rw [h.nc, h.gone]
theorem Core.ext_eq {s s' : St} (h : Core s s') {p : Nat} (hp : p < 2 * s.nv) : s'.ext p = s.ext p := by
  unfold St.ext; rw [h.vr _ (by omega)]
theorem Core.at_iff {s s' : St} (h : Core s s') (hc : Cls s) (a : Nat) (c : List Int) : s'.At a c ↔ s.At a c := by
  unfold At
  rw [h.is_iff]
  refine and_congr_right fun ha => forall_congr' fun x => ?_
  refine iff_congr Iff.rfl ⟨?_, ?_⟩
  · rintro ⟨p, hp, e⟩
    have hp' := (h.lit a p).1 hp
    exact ⟨p, hp', by rw [← h.ext_eq (hc.lit_lt ha.2.1 hp')]; exact e⟩
  · rintro ⟨p, hp, e⟩
    exact ⟨p, (h.lit a p).2 hp, by rw [h.ext_eq (hc.lit_lt ha.2.1 hp)]; exact e⟩
theorem Core.cl_iff {s s' : St} (h : Core s s') (hc : Cls s) (c : List Int) : s'.Cl c ↔ s.Cl c := exists_congr fun a => h.at_iff hc a c

/-- The short clauses that are there are true. -/
def Short (s : St) : Prop := ∀ j, j < s.ns → s.gone (s.sh j) = false → s.ln (s.sh j) = 1 ∧ s.val (s.lt (s.sh j) 0) = 1
structure Settled (s : St) : Prop where
  rs : s.Rsn fun _ => False
  br : s.broken ≠ 0 → s.Dead s.broken
  ok : s.broken = 0 → s.done = s.nt ∧ s.Fol s.nt s.nt ∧ s.Short
structure Inv (s : St) : Prop where
  base : Base s All
  set : s.settled = true → Settled s

theorem Ext.val_one {s s' : St} (h : Ext s s') (hT : Tra s) (hT' : Tra s') {p : Nat} (hp : p < 2 * s.nv) (hv : s.val p = 1) : s'.val p = 1 := by
  obtain ⟨i, hi, e⟩ := (hT.v_tr p hp).1 hv
  exact (hT'.v_tr p (by have := h.nv; omega)).2 ⟨i, Nat.lt_of_lt_of_le hi h.nt, (h.tr i hi).trans e⟩
theorem Ext.val_neg {s s' : St} (h : Ext s s') (hT : Tra s) (hT' : Tra s') {p : Nat} (hp : p < 2 * s.nv) (hv : s.val p = -1) : s'.val p = -1 := by
  have h1 : s.val (neg p) = 1 := by rw [hT.v_neg p hp, hv]; rfl
  have h2 := h.val_one hT hT' (neg_lt hp) h1
  have h3 := hT'.v_neg p (by have := h.nv; omega)
  omega
theorem one_lt0 {s s' : St} {a : Nat} (hl : s'.ln a = s.ln a) (hit : ∀ p, s'.Lit a p ↔ s.Lit a p) (h1 : s.ln a = 1) : s'.lt a 0 = s.lt a 0 := by
  obtain ⟨i, hi, e⟩ := (hit (s'.lt a 0)).1 ⟨0, by omega, rfl⟩
  obtain rfl : i = 0 := by omega
  exact e.symm
theorem Ext.short {s s' : St} (h : Ext s s') (hB : Base s All) (hT' : Tra s') (hs : s.Short) : s'.Short := by
  intro j hj hg
  rw [h.ns] at hj
  rw [h.sh, h.gone] at hg
  obtain ⟨h1, h2⟩ := hs j hj hg
  have hsh := (hB.cls.s_ok j hj).2.1
  rw [h.sh]
  refine ⟨by rw [h.ln]; exact h1, ?_⟩
  rw [one_lt0 (by rw [h.ln]) (fun p => h.lit _ p) h1]
  exact h.val_one hB.tra hT' (hB.cls.c_lt _ 0 hsh (by omega)) h2

/-- Everything that the clauses imply is true: no conflict. -/
theorem Base.closed {s : St} (h : Base s All) (hF : s.Fol s.nt s.nt) (hS : s.Short) {so : Int → Prop} (hso : ∀ l, so l → ∃ i, i < s.nt ∧ s.ext (s.tr i) = l) : ¬ Conf s.Cl so := by
  intro hc
  refine closed_not (T := fun l => ∃ i, i < s.nt ∧ s.ext (s.tr i) = l) ?_ ?_ hc hso
  · rintro l ⟨i, hi, rfl⟩ ⟨j, hj, e⟩
    rw [← ext_neg] at e
    have := h.vars.ext_inj (h.tra.t_lt j hj) (neg_lt (h.tra.t_lt i hi)) e
    exact h.tra.not_both hj hi this
  · rintro c ⟨a, ha, hca⟩
    have hT : ∀ p, s.Lit a p → s.val p = 1 → ∃ l, l ∈ c ∧ ∃ i, i < s.nt ∧ s.ext (s.tr i) = l := fun p hp hv => by
      obtain ⟨i, hi, e⟩ := (h.tra.v_tr p (h.cls.lit_lt ha.2.1 hp)).1 hv
      exact ⟨s.ext p, (hca _).2 ⟨p, hp, rfl⟩, i, hi, by rw [e]⟩
    rcases Nat.lt_or_ge 1 (s.ln a) with h2 | h2
    · have l0 : s.Lit a (s.lt a 0) := ⟨0, by omega, rfl⟩
      have l1 : s.Lit a (s.lt a 1) := ⟨1, h2, rfl⟩
      have b0 := h.cls.lit_lt ha.2.1 l0
      have b1 := h.cls.lit_lt ha.2.1 l1
      have sat : ∀ i, i < 2 → s.val (s.lt a i) = -1 → ∃ l, l ∈ c ∧ ∃ i, i < s.nt ∧ s.ext (s.tr i) = l := by
        intro i hi hv
        have hb := h.cls.c_lt a i ha.2.1 (show i < s.ln a by omega)
        obtain ⟨k, hk, hl⟩ := hF a i ha (by omega) hi ((h.tra.false_iff hb).1 hv)
        exact ⟨s.ext (s.tr k), (hca _).2 ⟨_, hl, rfl⟩, k, hk, rfl⟩
      rcases h.tra.v_rng _ b0 with v0 | v0 | v0
      · exact .inl (sat 0 (by omega) v0)
      · rcases h.tra.v_rng _ b1 with v1 | v1 | v1
        · exact .inl (sat 1 (by omega) v1)
        · refine .inr ⟨s.ext (s.lt a 0), s.ext (s.lt a 1), (hca _).2 ⟨_, l0, rfl⟩, (hca _).2 ⟨_, l1, rfl⟩, ?_, ?_, ?_⟩
          · intro e
            have := h.vars.ext_inj b0 b1 e
            have := h.cls.c_ne a 0 1 ha.2.1 (by omega) h2 this
            omega
          · rintro ⟨i, hi, e⟩
            rw [← ext_neg] at e
            have := h.vars.ext_inj (h.tra.t_lt i hi) (neg_lt b0) e
            have := (h.tra.false_iff b0).2 ⟨i, hi, this⟩
            omega
          · rintro ⟨i, hi, e⟩
            rw [← ext_neg] at e
            have := h.vars.ext_inj (h.tra.t_lt i hi) (neg_lt b1) e
            have := (h.tra.false_iff b1).2 ⟨i, hi, this⟩
            omega
        · exact .inl (hT _ l1 v1)
      · exact .inl (hT _ l0 v0)
    · obtain ⟨j, hj, e⟩ := h.cls.s_all a ha h2
      obtain ⟨h3, h4⟩ := hS j hj (by rw [e]; exact ha.2.2)
      rw [e] at h3 h4
      exact .inl (hT _ ⟨0, by omega, rfl⟩ h4)
/-- The literals of the trail add nothing to what is so. -/
theorem Base.back {s : St} {lv : Nat → Nat → Prop} (h : Base s lv) {so : Nat → Prop} (hR : s.Rsn so) {so' : Int → Prop} (hso : ∀ p, so p → so' (s.ext p)) (hc : Conf s.Cl fun l => so' l ∨ ∃ i, i < s.nt ∧ s.ext (s.tr i) = l) : Conf s.Cl so' := by
  refine Conf.back (fun i => s.ext (s.tr i)) s.nt (fun i hi => ?_) hc
  rcases hR i hi with ⟨_, h1⟩ | ⟨h1, h2, h3⟩
  · exact .inl (hso _ h1)
  · refine .inr ⟨(List.range (s.ln (s.rsn (s.tr i)))).map fun j => s.ext (s.lt (s.rsn (s.tr i)) j), ⟨_, h1, fun x => ?_⟩, ?_, ?_⟩
    · simp only [List.mem_map, List.mem_range]
      exact ⟨fun ⟨j, hj, e⟩ => ⟨_, ⟨j, hj, rfl⟩, e⟩, fun ⟨p, ⟨j, hj, e⟩, e2⟩ => ⟨j, hj, by rw [e]; exact e2⟩⟩
    · obtain ⟨j, hj, e⟩ := h2
      simp only [List.mem_map, List.mem_range]
      exact ⟨j, hj, by rw [e]⟩
    · intro m hm hne
      simp only [List.mem_map, List.mem_range] at hm
      obtain ⟨j, hj, rfl⟩ := hm
      obtain ⟨k, hk, e⟩ := h3 _ ⟨j, hj, rfl⟩ (fun e => hne (by rw [e]))
      exact ⟨k, hk, by show s.ext (s.tr k) = _; rw [e, ext_neg]⟩
/-- A clause whose literals are all false. -/
theorem Base.dead {s : St} {lv : Nat → Nat → Prop} (h : Base s lv) {a : Nat} (hd : s.Dead a) {so : Int → Prop} : Conf s.Cl fun l => so l ∨ ∃ i, i < s.nt ∧ s.ext (s.tr i) = l := by
  obtain ⟨ha, hv⟩ := hd
  refine .none ((List.range (s.ln a)).map fun j => s.ext (s.lt a j)) ⟨a, ha, fun x => ?_⟩ ?_
  · simp only [List.mem_map, List.mem_range]
    exact ⟨fun ⟨j, hj, e⟩ => ⟨_, ⟨j, hj, rfl⟩, e⟩, fun ⟨p, ⟨j, hj, e⟩, e2⟩ => ⟨j, hj, by rw [e]; exact e2⟩⟩
  · intro l hl
    simp only [List.mem_map, List.mem_range] at hl
    obtain ⟨j, hj, rfl⟩ := hl
    have hb := h.cls.c_lt a j ha.2.1 hj
    obtain ⟨i, hi, e⟩ := (h.tra.false_iff hb).1 (hv _ ⟨j, hj, rfl⟩)
    exact .inr ⟨i, hi, by rw [e, ext_neg]⟩
end St
end Go.Proofs.Ytoffhgiljnagcaa
