/- What is known, as mathematics: a new variable; a new clause. -/
import Derived.Test.YtoffhgiljnagcaaE
namespace Go.Proofs.Ytoffhgiljnagcaa
namespace St
def more (s : St) (v : Int) : St := { s with nv := s.nv + 1, ew := s.ew + 2, ev := s.ev + 2, er := s.er + 2, vr := fun n => if n = s.nv then v else s.vr n, val := fun p => if p < s.ev then s.val p else 0, rsn := fun p => if p < s.er then s.rsn p else 0 }
theorem Ext.more {s : St} (h : Base s All) (v : Int) : Ext s (s.more v) :=
  ⟨Nat.le_succ _, fun n hn => if_neg (by omega), rfl, rfl, rfl, fun _ _ => Iff.rfl, rfl, rfl, Nat.le_refl _, fun _ _ => rfl, fun i hi => if_pos (by have := h.tra.t_lt i hi; have := h.lens.2.2; omega), rfl, rfl⟩
theorem Base.more {s : St} (h : Base s All) {v : Int} (hv : 0 < v) (hno : ∀ n, n < s.nv → s.vr n ≠ v) (hw : ∀ l, s.ew ≤ l → s.wn l = 0) : Base (s.more v) All := by
  obtain ⟨e1, e2, e3⟩ := h.lens
  have hval : ∀ p, p < 2 * s.nv → (s.more v).val p = s.val p := fun p hp => if_pos (by omega)
  have hval0 : ∀ p, 2 * s.nv ≤ p → (s.more v).val p = 0 := fun p hp => if_neg (by omega)
  refine ⟨⟨?_, ?_⟩, ⟨?_, h.tra.t_inj, ?_, ?_, ?_, h.tra.d_le⟩, ⟨h.cls.c1, ?_, h.cls.c_ne, h.cls.c_nt, h.cls.c_gone, h.cls.s_ok, h.cls.s_all, h.cls.s_le⟩, ⟨?_, ?_, ?_⟩, ?_⟩
  · intro n hn
    show 0 < (if n = s.nv then v else s.vr n)
    have hn' : n < s.nv + 1 := hn
    split
    · exact hv
    · exact h.vars.pos n (by omega)
  · intro n m hn hm e
    have hn' : n < s.nv + 1 := hn
    have hm' : m < s.nv + 1 := hm
    replace e : (if n = s.nv then v else s.vr n) = (if m = s.nv then v else s.vr m) := e
    split at e <;> split at e
    · omega
    · exact absurd e.symm (hno m (by omega))
    · exact absurd e (hno n (by omega))
    · exact h.vars.inj n m (by omega) (by omega) e
  · intro i hi
    have := h.tra.t_lt i hi
    show s.tr i < 2 * (s.nv + 1)
    omega
  · intro p hp
    by_cases hp2 : p < 2 * s.nv
    · rw [hval p hp2]; exact h.tra.v_tr p hp2
    · rw [hval0 p (by omega)]
      refine ⟨fun e => by omega, ?_⟩
      rintro ⟨i, hi, e⟩
      have h1 := h.tra.t_lt i hi
      have e' : s.tr i = p := e
      omega
  · intro p hp
    by_cases hp2 : p < 2 * s.nv
    · rw [hval p hp2, hval _ (neg_lt hp2)]; exact h.tra.v_neg p hp2
    · rw [hval0 p (by omega), hval0 _ (by unfold neg; split <;> omega)]; rfl
  · intro p hp
    by_cases hp2 : p < 2 * s.nv
    · rw [hval p hp2]; exact h.tra.v_rng p hp2
    · rw [hval0 p (by omega)]; omega
  · intro a i ha hi
    have := h.cls.c_lt a i ha hi
    show s.lt a i < 2 * (s.nv + 1)
    omega
  · intro l j hl hj hlv
    have hj' : j < s.wn l := hj
    have hl2 : l < 2 * s.nv := by
      rcases Nat.lt_or_ge l (2 * s.nv) with h1 | h1
      · exact h1
      · rw [hw l (by omega)] at hj'; omega
    obtain ⟨b1, b2, b3, b4⟩ := h.wat.w_ok l j hl2 hj hlv
    exact ⟨b1, b2, by show s.wo l j < 2 * (s.nv + 1); omega, b4⟩
  · exact h.wat.w_has
  · intro l j k hl hj hk h1 h2 e
    have hj' : j < s.wn l := hj
    have hl2 : l < 2 * s.nv := by
      rcases Nat.lt_or_ge l (2 * s.nv) with h1 | h1
      · exact h1
      · rw [hw l (by omega)] at hj'; omega
    exact h.wat.w_uni l j k hl2 hj hk h1 h2 e
  · show s.ew + 2 = 2 * (s.nv + 1) ∧ s.ev + 2 = 2 * (s.nv + 1) ∧ s.er + 2 = 2 * (s.nv + 1)
    omega
theorem Fol.more {s : St} {m d : Nat} (h : s.Fol m d) (v : Int) : (s.more v).Fol m d := h
theorem Rsn.more {s : St} (hB : Base s All) {so : Nat → Prop} (h : s.Rsn so) (v : Int) : (s.more v).Rsn so := by
  intro i hi
  have hi' : i < s.nt := hi
  have e : (s.more v).rsn (s.tr i) = s.rsn (s.tr i) := if_pos (by have := hB.tra.t_lt i hi'; have := hB.lens.2.2; omega)
  show ((s.more v).rsn (s.tr i) = 0 ∧ so (s.tr i)) ∨ (s.Is ((s.more v).rsn (s.tr i)) ∧ s.Lit ((s.more v).rsn (s.tr i)) (s.tr i) ∧ ∀ p, s.Lit ((s.more v).rsn (s.tr i)) p → p ≠ s.tr i → ∃ k, k < i ∧ s.tr k = neg p)
  rw [e]; exact h i hi'
end St
end Go.Proofs.Ytoffhgiljnagcaa
