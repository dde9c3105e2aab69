/- What is known, as mathematics: settling anew. -/
import Derived.Test.YtoffhgiljnagcaaWH
import Derived.Test.YtoffhgiljnagcaaZa
import Derived.Test.YtoffhgiljnagcaaUA
namespace Go.Proofs.Ytoffhgiljnagcaa
namespace St

def Keeps (s : St) (x : Bool) (y : Nat) : St := { s with settled := x, broken := y }
theorem Base.keeps {s : St} {lv : Nat → Nat → Prop} (h : Base s lv) (x : Bool) (y : Nat) : Base (s.Keeps x y) lv :=
  ⟨⟨h.vars.pos, h.vars.inj⟩, ⟨h.tra.t_lt, h.tra.t_inj, h.tra.v_tr, h.tra.v_neg, h.tra.v_rng, h.tra.d_le⟩, ⟨h.cls.c1, h.cls.c_lt, h.cls.c_ne, h.cls.c_nt, h.cls.c_gone, h.cls.s_ok, h.cls.s_all, h.cls.s_le⟩, ⟨h.wat.w_ok, h.wat.w_has, h.wat.w_uni⟩, h.lens⟩
/-- A reason is put in another's place. -/
def rea (s : St) (p a : Nat) : St := { s with rsn := fun j => if j = p then a else s.rsn j }
theorem Base.rea {s : St} {lv : Nat → Nat → Prop} (h : Base s lv) (p a : Nat) : Base (s.rea p a) lv :=
  ⟨⟨h.vars.pos, h.vars.inj⟩, ⟨h.tra.t_lt, h.tra.t_inj, h.tra.v_tr, h.tra.v_neg, h.tra.v_rng, h.tra.d_le⟩, ⟨h.cls.c1, h.cls.c_lt, h.cls.c_ne, h.cls.c_nt, h.cls.c_gone, h.cls.s_ok, h.cls.s_all, h.cls.s_le⟩, ⟨h.wat.w_ok, h.wat.w_has, h.wat.w_uni⟩, h.lens⟩
theorem Rsn.rea {s : St} {so : Nat → Prop} (h : s.Rsn so) {a : Nat} (ha : s.Is a) (h1 : s.ln a = 1) : (s.rea (s.lt a 0) a).Rsn so := by
  intro i hi
  by_cases e : s.tr i = s.lt a 0
  · refine .inr ?_
    show s.Is (if s.tr i = s.lt a 0 then a else s.rsn (s.tr i)) ∧ s.Lit (if s.tr i = s.lt a 0 then a else s.rsn (s.tr i)) (s.tr i) ∧ ∀ p, s.Lit (if s.tr i = s.lt a 0 then a else s.rsn (s.tr i)) p → p ≠ s.tr i → ∃ k, k < i ∧ s.tr k = neg p
    rw [if_pos e]
    refine ⟨ha, ⟨0, by omega, e.symm⟩, ?_⟩
    rintro p ⟨j, hj, rfl⟩ hne
    obtain rfl : j = 0 := by omega
    exact absurd e.symm hne
  · show ((if s.tr i = s.lt a 0 then a else s.rsn (s.tr i)) = 0 ∧ _) ∨ (s.Is (if s.tr i = s.lt a 0 then a else s.rsn (s.tr i)) ∧ s.Lit (if s.tr i = s.lt a 0 then a else s.rsn (s.tr i)) (s.tr i) ∧ ∀ p, s.Lit (if s.tr i = s.lt a 0 then a else s.rsn (s.tr i)) p → p ≠ s.tr i → ∃ k, k < i ∧ s.tr k = neg p)
    rw [if_neg e]; exact h i hi
theorem Dead.put {s : St} (hT : Tra s) {b p r : Nat} (hC : Cls s) (hd : s.Dead b) (hp : p < 2 * s.nv) (h0 : s.val p = 0) : (s.put p r).Dead b := by
  refine ⟨hd.1, fun q hq => ?_⟩
  have hv := hd.2 q hq
  show (if q = p then (1 : Int) else if q = neg p then -1 else s.val q) = -1
  rw [if_neg (fun e => by rw [e] at hv; omega)]
  split
  · rfl
  · exact hv
theorem val_put {s : St} (hT : Tra s) {p q r : Nat} (hp : p < 2 * s.nv) (h0 : s.val p = 0) (hv : s.val q = 1) : (s.put p r).val q = 1 := by
  show (if q = p then (1 : Int) else if q = neg p then -1 else s.val q) = 1
  have h2 : s.val (neg p) = 0 := by rw [hT.v_neg p hp, h0]; rfl
  rw [if_neg (fun e => by rw [e] at hv; omega), if_neg (fun e => by rw [e] at hv; omega)]
  exact hv

/-- While the short clauses are applied. -/
structure SI (s0 s : St) (j : Nat) : Prop where
  base : Base s All
  core : Core s0 s
  settled : s.settled = true
  rs : s.Rsn fun _ => False
  br : s.broken ≠ 0 → s.Dead s.broken
  ok : s.broken = 0 → ∀ i, i < j → s.ln (s.sh i) = 1 ∧ s.val (s.lt (s.sh i) 0) = 1
  done : s.done = 0
  ns : s.ns = s0.ns
  sh : s.sh = s0.sh
  nvq : s.nv = s0.nv
def NoGone (s : St) : Prop := ∀ a, a < s.nc → s.gone a = false
theorem SI.step {s0 s : St} {j : Nat} (h : SI s0 s j) (hj : j < s.ns) (hg : s.gone (s.sh j) = false) : SI s0 (s.app (s.sh j)) (j + 1) := by
  obtain ⟨a1, a2, a3⟩ := h.base.cls.s_ok j hj
  have hIs : s.Is (s.sh j) := ⟨a1, a2, hg⟩
  unfold app
  split
  · next hx =>
    refine ⟨h.base.keeps s.settled (s.sh j), ⟨h.core.nv, h.core.vr, h.core.nc, h.core.gone, h.core.ln, h.core.lit⟩, h.settled, h.rs, fun _ => ⟨hIs, ?_⟩, fun e => absurd (show s.sh j = 0 from e) (by omega), h.done, h.ns, h.sh, h.nvq⟩
    rintro p ⟨i, hi, rfl⟩
    have hi' : i < s.ln (s.sh j) := hi
    obtain rfl : i = 0 := by omega
    exact hx.resolve_left (by omega)
  · next hx =>
    have hl1 : s.ln (s.sh j) = 1 := by
      have : s.ln (s.sh j) ≠ 0 := fun e => hx (.inl e)
      omega
    have hp := h.base.cls.c_lt (s.sh j) 0 a2 (by omega)
    rw [if_neg (fun e => by omega)]
    split
    · next h0 =>
      have hT := h.base.tra
      refine ⟨h.base.put hp h0, h.core.trans (Ext.put hT hp h0).core, h.settled, h.rs.put hT hp h0 (.inr ⟨hIs, ⟨0, by omega, rfl⟩, ?_⟩), fun hb => Dead.put hT h.base.cls (h.br hb) hp h0, fun hb i hi => ?_, h.done, h.ns, h.sh, h.nvq⟩
      · rintro q ⟨i, hi, rfl⟩ hq
        obtain rfl : i = 0 := by omega
        exact absurd rfl hq
      · by_cases e : i = j
        · subst e
          exact ⟨hl1, if_pos rfl⟩
        · obtain ⟨b1, b2⟩ := h.ok hb i (by omega)
          exact ⟨b1, val_put hT hp h0 b2⟩
    · next h0 =>
      have hv : s.val (s.lt (s.sh j) 0) = 1 := by
        rcases h.base.tra.v_rng _ hp with e | e | e
        · exact absurd (.inr e) hx
        · exact absurd e h0
        · exact e
      refine ⟨h.base.rea _ _, ⟨h.core.nv, h.core.vr, h.core.nc, h.core.gone, h.core.ln, h.core.lit⟩, h.settled, h.rs.rea hIs hl1, h.br, fun hb i hi => ?_, h.done, h.ns, h.sh, h.nvq⟩
      by_cases e : i = j
      · subst e; exact ⟨hl1, hv⟩
      · exact h.ok hb i (by omega)
theorem SI.start {s : St} (h : Base s All) : SI ((s.Keeps true 0).cut 0) ((s.Keeps true 0).cut 0) 0 := by
  refine ⟨(h.keeps true 0).cut (Nat.zero_le _), .refl _, rfl, fun i hi => absurd hi (Nat.not_lt_zero _), fun e => absurd rfl e, fun _ i hi => absurd hi (Nat.not_lt_zero _), rfl, rfl, rfl, rfl⟩
theorem SI.startL {s : St} (h : Base s All) {σ : Nat → Nat} {m : Nat} (hk : ((s.Keeps true 0).cut 0).KeptE σ m) : SI (((s.Keeps true 0).cut 0).left σ m) (((s.Keeps true 0).cut 0).left σ m) 0 := by
  refine ⟨((h.keeps true 0).cut (Nat.zero_le _)).left hk, .refl _, rfl, fun i hi => absurd hi (Nat.not_lt_zero _), fun e => absurd rfl e, fun _ i hi => absurd hi (Nat.not_lt_zero _), rfl, rfl, rfl, rfl⟩
theorem SI.fin {s0 s : St} (h : SI s0 s s.ns) : FinPre s :=
  ⟨h.base, h.rs, h.br, fun hb => ⟨fun a i _ _ _ ⟨k, hk, _⟩ => by rw [h.done] at hk; exact absurd hk (Nat.not_lt_zero _), fun j hj _ => h.ok hb j hj⟩⟩
theorem core_keeps (s : St) (x : Bool) (y m : Nat) : Core s ((s.Keeps x y).cut m) := ⟨Nat.le_refl _, fun _ _ => rfl, rfl, rfl, rfl, fun _ _ => Iff.rfl⟩
theorem core_left (s : St) (x : Bool) (y k : Nat) (σ : Nat → Nat) (m : Nat) : Core s (((s.Keeps x y).cut k).left σ m) := ⟨Nat.le_refl _, fun _ _ => rfl, rfl, rfl, rfl, fun _ _ => Iff.rfl⟩
theorem NoGone.core {s s' : St} (h : NoGone s) (hc : Core s s') : NoGone s' := fun a ha => by rw [hc.gone]; exact h a (by rw [← hc.nc]; exact ha)
end St
end Go.Proofs.Ytoffhgiljnagcaa
