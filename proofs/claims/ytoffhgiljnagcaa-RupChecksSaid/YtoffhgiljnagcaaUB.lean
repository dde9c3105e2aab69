/- A new clause where the trail is settled: mathematics. -/
import Derived.Test.YtoffhgiljnagcaaG
import Derived.Test.YtoffhgiljnagcaaZa
import Derived.Test.YtoffhgiljnagcaaWM
namespace Go.Proofs.Ytoffhgiljnagcaa
namespace St
/-- t is s with one clause more. -/
structure NewC (s t : St) (n : Nat) (F : Nat → Nat) : Prop where
  base : Base t All
  nv : t.nv = s.nv
  vr : t.vr = s.vr
  val : t.val = s.val
  rsn : t.rsn = s.rsn
  nt : t.nt = s.nt
  tr : t.tr = s.tr
  done : t.done = s.done
  settled : t.settled = s.settled
  broken : t.broken = s.broken
  nc : t.nc = s.nc + 1
  gone : t.gone = (s.newc n F).gone
  ln : t.ln = (s.newc n F).ln
  lt : t.lt = (s.newc n F).lt
  sho : (n < 2 ∧ t.ns = s.ns + 1 ∧ t.sh = fun j => if j = s.ns then s.nc else s.sh j) ∨ (2 ≤ n ∧ t.ns = s.ns ∧ t.sh = s.sh)
variable {s t : St} {n : Nat} {F : Nat → Nat}
theorem NewC.lit_old (h : NewC s t n F) {a : Nat} (ha : a ≠ s.nc) (p : Nat) : t.Lit a p ↔ s.Lit a p := by
  unfold Lit
  rw [h.ln, h.lt]
  show (∃ i, i < (if a = s.nc then n else s.ln a) ∧ (if a = s.nc then F i else s.lt a i) = p) ↔ _
  simp only [if_neg ha]
theorem NewC.ln_old (h : NewC s t n F) {a : Nat} (ha : a ≠ s.nc) : t.ln a = s.ln a := by rw [h.ln]; exact if_neg ha
theorem NewC.lt_old (h : NewC s t n F) {a : Nat} (ha : a ≠ s.nc) (i : Nat) : t.lt a i = s.lt a i := by rw [h.lt]; exact if_neg ha
theorem NewC.ln_new (h : NewC s t n F) : t.ln s.nc = n := by rw [h.ln]; exact if_pos rfl
theorem NewC.lt_new (h : NewC s t n F) (i : Nat) : t.lt s.nc i = F i := by rw [h.lt]; exact if_pos rfl
theorem NewC.is_old (h : NewC s t n F) {a : Nat} (ha : a ≠ s.nc) : t.Is a ↔ s.Is a := by
  unfold Is
  rw [h.nc, h.gone]
  show (1 ≤ a ∧ a < s.nc + 1 ∧ (if a = s.nc then false else s.gone a) = false) ↔ _
  rw [if_neg ha]
  refine and_congr_right fun _ => and_congr_left fun _ => ?_
  omega
theorem NewC.is_new (h : NewC s t n F) (h1 : 1 ≤ s.nc) : t.Is s.nc := ⟨h1, by rw [h.nc]; omega, by rw [h.gone]; exact if_pos rfl⟩
theorem NewC.dead (h : NewC s t n F) {a : Nat} (hd : s.Dead a) : t.Dead a := by
  have ha : a ≠ s.nc := by have := hd.1.2.1; omega
  exact ⟨(h.is_old ha).2 hd.1, fun p hp => by rw [h.val]; exact hd.2 p ((h.lit_old ha p).1 hp)⟩
theorem NewC.rs (h : NewC s t n F) {so : Nat → Prop} (hr : s.Rsn so) : t.Rsn so := by
  intro i hi
  rw [h.nt] at hi
  rw [h.rsn, h.tr]
  rcases hr i hi with h1 | ⟨h1, h2, h3⟩
  · exact .inl h1
  · have ha : s.rsn (s.tr i) ≠ s.nc := by have := h1.2.1; omega
    exact .inr ⟨(h.is_old ha).2 h1, (h.lit_old ha _).2 h2, fun p hp hne => h3 p ((h.lit_old ha _).1 hp) hne⟩
/-- Where there is a conflict already. -/
theorem NewC.conf (h : NewC s t n F) (hs : Settled s) (hb : s.broken ≠ 0) : Settled t :=
  ⟨h.rs hs.rs, fun _ => by rw [h.broken]; exact h.dead (hs.br hb), fun e => by rw [h.broken] at e; exact absurd e hb⟩
theorem NewC.fol_old (h : NewC s t n F) {a i m d : Nat} (ha : a ≠ s.nc) (hF : s.Fol m d) (hi : t.Is a) (h2 : 2 ≤ t.ln a) (h3 : i < 2) (h4 : ∃ k, k < d ∧ t.tr k = neg (t.lt a i)) : ∃ k, k < m ∧ t.Lit a (t.tr k) := by
  rw [h.ln_old ha] at h2
  rw [h.tr, h.lt_old ha] at h4
  obtain ⟨k, hk, hl⟩ := hF a i ((h.is_old ha).1 hi) h2 h3 h4
  exact ⟨k, hk, by rw [h.tr]; exact (h.lit_old ha _).2 hl⟩
theorem NewC.short (h : NewC s t n F) (hB : Base s All) (hS : s.Short) (hn : n < 2 → t.gone s.nc = false → n = 1 ∧ t.val (F 0) = 1) : t.Short := by
  intro j hj hg
  have hold : ∀ j, j < s.ns → s.gone (s.sh j) = false → s.sh j ≠ s.nc → t.ln (s.sh j) = 1 ∧ t.val (t.lt (s.sh j) 0) = 1 := fun j hj hg hne => by
    rw [h.ln_old hne, h.lt_old hne, h.val]; exact hS j hj hg
  rcases h.sho with ⟨h2, e1, e2⟩ | ⟨h2, e1, e2⟩
  · rw [e1] at hj
    rw [e2] at hg ⊢
    by_cases e : j = s.ns
    · simp only [if_pos e] at hg ⊢
      rw [h.ln_new, h.lt_new]
      exact hn h2 hg
    · simp only [if_neg e] at hg ⊢
      have hne : s.sh j ≠ s.nc := by have := (hB.cls.s_ok j (by omega)).2.1; omega
      refine hold j (by omega) ?_ hne
      rw [h.gone] at hg
      have hg' : (if s.sh j = s.nc then false else s.gone (s.sh j)) = false := hg
      rw [if_neg hne] at hg'; exact hg'
  · rw [e1] at hj
    rw [e2] at hg ⊢
    have hne : s.sh j ≠ s.nc := by have := (hB.cls.s_ok j hj).2.1; omega
    refine hold j hj ?_ hne
    rw [h.gone] at hg
    have hg' : (if s.sh j = s.nc then false else s.gone (s.sh j)) = false := hg
    rw [if_neg hne] at hg'; exact hg'
theorem short_val {s t : St} (hS : s.Short) (e1 : t.ns = s.ns) (e2 : t.sh = s.sh) (e3 : t.gone = s.gone) (e4 : t.ln = s.ln) (e5 : t.lt = s.lt) (hv : ∀ p, s.val p = 1 → t.val p = 1) : t.Short := by
  intro j hj hg
  rw [e1] at hj
  rw [e2, e3] at hg
  rw [e2, e4, e5]
  exact ⟨(hS j hj hg).1, hv _ (hS j hj hg).2⟩

/-- Where there is none: behind apply all is ready to be finished. -/
theorem NewC.app {f : Nat → Nat} (h : NewC s t n F) (hB : Base s All) (hs : Settled s) (hb : s.broken = 0) (hL : Lead s f F n) : FinPre (t.app s.nc) := by
  obtain ⟨o1, o2, o3⟩ := hs.ok hb
  have h1 := hB.cls.c1
  have hIs := h.is_new h1
  have hln := h.ln_new
  have hlt := h.lt_new
  have hrs := h.rs hs.rs
  have hbt : t.broken = 0 := by rw [h.broken]; exact hb
  have hT := h.base.tra
  have hlit : ∀ p, t.Lit s.nc p ↔ ∃ i, i < n ∧ F i = p := fun p => by unfold Lit; rw [hln]; simp only [hlt]
  have hrng : ∀ i, i < n → s.val (F i) = -1 ∨ s.val (F i) = 0 ∨ s.val (F i) = 1 := fun i hi => by
    have hp := h.base.cls.c_lt s.nc i (by rw [h.nc]; omega) (by rw [hln]; exact hi)
    rw [hlt] at hp
    rw [← h.val]; exact hT.v_rng _ hp
  have hplt : ∀ i, i < n → F i < 2 * t.nv := fun i hi => by
    have hp := h.base.cls.c_lt s.nc i (by rw [h.nc]; omega) (by rw [hln]; exact hi)
    rw [hlt] at hp; exact hp
  have hfol : ∀ a i, a ≠ s.nc → t.Is a → 2 ≤ t.ln a → i < 2 → (∃ k, k < t.done ∧ t.tr k = neg (t.lt a i)) → ∃ k, k < t.nt ∧ t.Lit a (t.tr k) := fun a i ha x1 x2 x3 x4 => by
    rw [h.nt]
    refine h.fol_old ha o2 x1 x2 x3 ?_
    rw [h.done, o1] at x4
    exact x4
  unfold St.app
  rw [hln, hlt, hlt]
  have hval : ∀ p, t.val p = s.val p := fun p => by rw [h.val]
  by_cases c1 : n = 0 ∨ s.val (F 0) = -1
  · rw [if_pos (show n = 0 ∨ t.val (F 0) = -1 by rw [hval]; exact c1)]
    refine ⟨h.base.keeps t.settled s.nc, hrs, fun _ => ⟨hIs, fun p hp => ?_⟩, fun e => absurd e (by show s.nc ≠ 0; omega)⟩
    obtain ⟨i, hi, rfl⟩ := (hlit p).1 hp
    show t.val (F i) = -1
    rw [h.val]
    rcases c1 with c1 | c1
    · omega
    · exact hL.h0 c1 i hi
  · rw [if_neg (show ¬ (n = 0 ∨ t.val (F 0) = -1) by rw [hval]; exact c1)]
    have hn0 : 0 < n := by
      rcases Nat.eq_zero_or_pos n with e | e
      · exact absurd (.inl e) c1
      · exact e
    have hv0 : s.val (F 0) ≠ -1 := fun e => c1 (.inr e)
    by_cases c2 : 1 < n ∧ s.val (F 1) ≠ -1
    · rw [if_pos (show 1 < n ∧ t.val (F 1) ≠ -1 by rw [hval]; exact c2)]
      refine ⟨h.base, hrs, fun e => absurd hbt e, fun _ => ⟨fun a i x1 x2 x3 x4 => ?_, h.short hB o3 fun e => by omega⟩⟩
      by_cases ha : a = s.nc
      · subst ha
        obtain ⟨k, hk, e⟩ := x4
        rw [hlt] at e
        have hk' : k < t.nt := by rw [h.done, o1] at hk; rw [h.nt]; exact hk
        have hi : i < n := by omega
        have := (hT.false_iff (hplt i hi)).2 ⟨k, hk', e⟩
        rw [h.val] at this
        have hi2 : i = 0 ∨ i = 1 := by omega
        rcases hi2 with rfl | rfl
        · exact absurd this hv0
        · exact absurd this c2.2
      · exact hfol a i ha x1 x2 x3 x4
    · rw [if_neg (show ¬ (1 < n ∧ t.val (F 1) ≠ -1) by rw [hval]; exact c2)]
      have hrest : ∀ i, 1 ≤ i → i < n → s.val (F i) = -1 := fun i h1 hi => hL.h1 (by
        by_cases e : s.val (F 1) = -1
        · exact e
        · exact absurd ⟨by omega, e⟩ c2) i h1 hi
      by_cases c3 : s.val (F 0) = 0
      · rw [if_pos (show t.val (F 0) = 0 by rw [hval]; exact c3)]
        have hp := hplt 0 hn0
        have h0 : t.val (F 0) = 0 := by rw [h.val]; exact c3
        refine ⟨h.base.put hp h0, hrs.put hT hp h0 (.inr ⟨hIs, (hlit _).2 ⟨0, hn0, rfl⟩, fun q hq hne => ?_⟩), fun e => absurd hbt e, fun _ => ⟨fun a i x1 x2 x3 x4 => ?_, ?_⟩⟩
        · obtain ⟨i, hi, rfl⟩ := (hlit q).1 hq
          have : 1 ≤ i := by
            rcases Nat.eq_zero_or_pos i with e | e
            · subst e; exact absurd rfl hne
            · exact e
          exact ⟨hplt i hi, by rw [h.val]; exact hrest i this hi⟩
        · have htr : ∀ k, k < t.nt → (t.put (F 0) s.nc).tr k = t.tr k := fun k hk => if_neg (by omega)
          have hdn : t.done = t.nt := by rw [h.done, h.nt]; exact o1
          by_cases ha : a = s.nc
          · subst ha
            refine ⟨t.nt, Nat.lt_succ_self _, ?_⟩
            rw [show (t.put (F 0) s.nc).tr t.nt = F 0 from if_pos rfl]
            exact (hlit _).2 ⟨0, hn0, rfl⟩
          · obtain ⟨k, hk, e⟩ := x4
            have hk' : k < t.done := hk
            rw [htr k (by omega)] at e
            obtain ⟨k2, hk2, hl⟩ := hfol a i ha x1 x2 x3 ⟨k, hk', e⟩
            exact ⟨k2, Nat.lt_succ_of_lt hk2, by rw [htr k2 hk2]; exact hl⟩
        · have hv : ∀ p, t.val p = 1 → (t.put (F 0) s.nc).val p = 1 := fun p => val_put hT hp h0
          intro j hj hg
          by_cases hx : n < 2 ∧ j = s.ns
          · obtain ⟨h2, rfl⟩ := hx
            rcases h.sho with ⟨_, e1, e2⟩ | ⟨h3, _⟩
            · show t.ln (t.sh s.ns) = 1 ∧ (t.put (F 0) s.nc).val (t.lt (t.sh s.ns) 0) = 1
              rw [e2]
              simp only [if_true]
              rw [hln, hlt]
              exact ⟨by omega, if_pos rfl⟩
            · omega
          · have hj' : j < t.ns := hj
            have hg' : t.gone (t.sh j) = false := hg
            -- an old one
            have hjs : j < s.ns ∧ t.sh j = s.sh j := by
              rcases h.sho with ⟨h2, e1, e2⟩ | ⟨h2, e1, e2⟩
              · rw [e1] at hj'
                have : j ≠ s.ns := fun e => hx ⟨h2, e⟩
                exact ⟨by omega, by rw [e2]; exact if_neg this⟩
              · rw [e1] at hj'; exact ⟨hj', by rw [e2]⟩
            have hne : s.sh j ≠ s.nc := by have := (hB.cls.s_ok j hjs.1).2.1; omega
            rw [hjs.2, h.gone] at hg'
            have hg2 : (if s.sh j = s.nc then false else s.gone (s.sh j)) = false := hg'
            rw [if_neg hne] at hg2
            obtain ⟨q1, q2⟩ := o3 j hjs.1 hg2
            show t.ln (t.sh j) = 1 ∧ (t.put (F 0) s.nc).val (t.lt (t.sh j) 0) = 1
            rw [hjs.2, h.ln_old hne, h.lt_old hne]
            exact ⟨q1, hv _ (by rw [h.val]; exact q2)⟩
      · rw [if_neg (show ¬ t.val (F 0) = 0 by rw [hval]; exact c3)]
        have hv1 : s.val (F 0) = 1 := by
          rcases hrng 0 hn0 with e | e | e
          · exact absurd e hv0
          · exact absurd e c3
          · exact e
        have hsat : ∃ k, k < t.nt ∧ t.Lit s.nc (t.tr k) := by
          obtain ⟨k, hk, e⟩ := (hT.v_tr _ (hplt 0 hn0)).1 (by rw [h.val]; exact hv1)
          exact ⟨k, hk, by rw [e]; exact (hlit _).2 ⟨0, hn0, rfl⟩⟩
        by_cases c4 : n = 1
        · rw [if_pos c4]
          have hrea : FinPre (t.rea (t.lt s.nc 0) s.nc) := by
            refine ⟨h.base.rea _ _, hrs.rea hIs (by rw [hln]; exact c4), fun e => absurd hbt e, fun _ => ⟨fun a i x1 x2 x3 x4 => ?_, ?_⟩⟩
            · by_cases ha : a = s.nc
              · subst ha; exact hsat
              · exact hfol a i ha x1 x2 x3 x4
            · have := h.short hB o3 fun _ _ => ⟨c4, by rw [h.val]; exact hv1⟩
              exact short_val this rfl rfl rfl rfl rfl fun _ h => h
          rw [hlt] at hrea
          exact hrea
        · rw [if_neg c4]
          refine ⟨h.base, hrs, fun e => absurd hbt e, fun _ => ⟨fun a i x1 x2 x3 x4 => ?_, h.short hB o3 fun e => by omega⟩⟩
          by_cases ha : a = s.nc
          · subst ha; exact hsat
          · exact hfol a i ha x1 x2 x3 x4
end St
end Go.Proofs.Ytoffhgiljnagcaa
