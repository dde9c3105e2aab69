/- What is known, as mathematics: a list that is gone through, when its literal has become false. -/
import Derived.Test.YtoffhgiljnagcaaC
namespace Go.Proofs.Ytoffhgiljnagcaa
namespace St

/-- What stays, and what only grows. -/
structure Ext (s s' : St) : Prop where
  nv : s.nv ≤ s'.nv
  vr : ∀ n, n < s.nv → s'.vr n = s.vr n
  nc : s'.nc = s.nc
  gone : s'.gone = s.gone
  ln : s'.ln = s.ln
  lit : ∀ a p, s'.Lit a p ↔ s.Lit a p
  ns : s'.ns = s.ns
  sh : s'.sh = s.sh
  nt : s.nt ≤ s'.nt
  tr : ∀ i, i < s.nt → s'.tr i = s.tr i
  rsn : ∀ i, i < s.nt → s'.rsn (s.tr i) = s.rsn (s.tr i)
  settled : s'.settled = s.settled
  broken : s'.broken = s.broken
theorem Ext.refl (s : St) : Ext s s := ⟨Nat.le_refl _, fun _ _ => rfl, rfl, rfl, rfl, fun _ _ => Iff.rfl, rfl, rfl, Nat.le_refl _, fun _ _ => rfl, fun _ _ => rfl, rfl, rfl⟩
theorem Ext.trans {a b c : St} (h : Ext a b) (k : Ext b c) : Ext a c :=
  ⟨Nat.le_trans h.nv k.nv, fun n hn => (k.vr n (Nat.lt_of_lt_of_le hn h.nv)).trans (h.vr n hn), k.nc.trans h.nc, k.gone.trans h.gone, k.ln.trans h.ln, fun x p => (k.lit x p).trans (h.lit x p), k.ns.trans h.ns, k.sh.trans h.sh, Nat.le_trans h.nt k.nt,
    fun i hi => (k.tr i (Nat.lt_of_lt_of_le hi h.nt)).trans (h.tr i hi), fun i hi => by
      have h1 := k.rsn i (Nat.lt_of_lt_of_le hi h.nt)
      rw [h.tr i hi] at h1
      exact h1.trans (h.rsn i hi), k.settled.trans h.settled, k.broken.trans h.broken⟩
theorem Ext.put {s : St} (hT : Tra s) {p r : Nat} (hp : p < 2 * s.nv) (h0 : s.val p = 0) : Ext s (s.put p r) := by
  refine ⟨Nat.le_refl _, fun _ _ => rfl, rfl, rfl, rfl, fun _ _ => Iff.rfl, rfl, rfl, Nat.le_succ _, fun i hi => if_neg (by omega), fun i hi => if_neg fun e => ?_, rfl, rfl⟩
  have := (hT.v_tr p hp).2 ⟨i, hi, e⟩
  omega
theorem Ext.swp {s : St} {a : Nat} (h2 : 2 ≤ s.ln a) : Ext s (s.swp a) :=
  ⟨Nat.le_refl _, fun _ _ => rfl, rfl, rfl, rfl, swp_lit h2, rfl, rfl, Nat.le_refl _, fun _ _ => rfl, fun _ _ => rfl, rfl, rfl⟩
theorem Ext.mov {s : St} {a i : Nat} (hi : i < s.ln a) (h2 : 2 ≤ s.ln a) : Ext s (s.mov a i) :=
  ⟨Nat.le_refl _, fun _ _ => rfl, rfl, rfl, rfl, mov_lit hi h2, rfl, rfl, Nat.le_refl _, fun _ _ => rfl, fun _ _ => rfl, rfl, rfl⟩
theorem Ext.lists (s : St) (wn' : Nat → Nat) (wa' wo' : Nat → Nat → Nat) : Ext s (s.lists wn' wa' wo') :=
  ⟨Nat.le_refl _, fun _ _ => rfl, rfl, rfl, rfl, fun _ _ => Iff.rfl, rfl, rfl, Nat.le_refl _, fun _ _ => rfl, fun _ _ => rfl, rfl, rfl⟩
theorem Ext.ext_eq {s s' : St} (h : Ext s s') {p : Nat} (hp : p < 2 * s.nv) : s'.ext p = s.ext p := by
  unfold St.ext; rw [h.vr _ (by omega)]
theorem Ext.is_iff {s s' : St} (h : Ext s s') (a : Nat) : s'.Is a ↔ s.Is a := by unfold Is; rw [h.nc, h.gone]

theorem Base.lists {s : St} {lv lv' : Nat → Nat → Prop} (h : Base s lv) {wn' : Nat → Nat} {wa' wo' : Nat → Nat → Nat} (hw : Wat (s.lists wn' wa' wo') lv') : Base (s.lists wn' wa' wo') lv' :=
  ⟨⟨h.vars.pos, h.vars.inj⟩, ⟨h.tra.t_lt, h.tra.t_inj, h.tra.v_tr, h.tra.v_neg, h.tra.v_rng, h.tra.d_le⟩, ⟨h.cls.c1, h.cls.c_lt, h.cls.c_ne, h.cls.c_nt, h.cls.c_gone, h.cls.s_ok, h.cls.s_all, h.cls.s_le⟩, hw, h.lens⟩
theorem Base.wat_ {s : St} {lv lv' : Nat → Nat → Prop} (h : Base s lv) (hw : Wat s lv') : Base s lv' := ⟨h.vars, h.tra, h.cls, hw, h.lens⟩

def Sat (s : St) (a : Nat) : Prop := ∃ k, k < s.nt ∧ s.Lit a (s.tr k)
theorem Tra.sat {s : St} (h : Tra s) {a p : Nat} (hp : p < 2 * s.nv) (hl : s.Lit a p) (hv : s.val p = 1) : s.Sat a := by
  obtain ⟨k, hk, e⟩ := (h.v_tr p hp).1 hv
  exact ⟨k, hk, e ▸ hl⟩
/-- The clauses that watch l, which became true's negation at d: satisfied, or still to come. -/
def FolL (s : St) (l d n : Nat) : Prop := ∀ a i, s.Is a → 2 ≤ s.ln a → i < 2 → ((∃ k, k < d ∧ s.tr k = neg (s.lt a i)) → s.Sat a) ∧ (s.lt a i = l → s.Sat a ∨ ∃ j, n ≤ j ∧ j < s.wn l ∧ s.wa l j = a)

/-- While a list is gone through. -/
structure FIw (s0 : St) (so : Nat → Prop) (fr l : Nat) (s : St) (k n : Nat) : Prop where
  base : Base s (lvF l k n)
  ext : Ext s0 s
  fb : s.Fol fr fr
  rs : s.Rsn so
  kn : k ≤ n
  nw : n ≤ s.wn l
  vl : s.val l = -1
  hl : l < 2 * s.nv
  dn : s.done = s0.done
  nv : s.nv = s0.nv
structure FI (s0 : St) (so : Nat → Prop) (fr l d : Nat) (s : St) (k n : Nat) : Prop extends FIw s0 so fr l s k n where
  fl : s.FolL l d n
  dt : d ≤ s.nt
  ft : fr ≤ s.nt

theorem FI.start {s : St} {so : Nat → Prop} {fr l d : Nat} (hb : Base s All) (hf : s.Fol fr fr) (hr : s.Rsn so) (hF : s.Fol s.nt d) (hl : l < 2 * s.nv) (hv : s.val l = -1) (hd : d ≤ s.nt) (hft : fr ≤ s.nt) : FI s so fr l d s 0 0 := by
  refine ⟨⟨hb.wat_ (hb.wat.start l), .refl s, hf, hr, Nat.le_refl _, Nat.zero_le _, hv, hl, rfl, rfl⟩, fun a i ha h2 hi => ⟨hF a i ha h2 hi, fun e => ?_⟩, hd, hft⟩
  obtain ⟨j, hj, _, ej⟩ := hb.wat.w_has a i ha h2 hi
  rw [e] at hj ej
  exact .inr ⟨j, Nat.zero_le _, hj, ej⟩

/-- At the end. -/
theorem FIw.end_ {s0 s : St} {so : Nat → Prop} {fr l k n : Nat} (h : FIw s0 so fr l s k n) : Base (s.cpt l k n) All ∧ Ext s0 (s.cpt l k n) ∧ (s.cpt l k n).Fol fr fr ∧ (s.cpt l k n).Rsn so :=
  ⟨h.base.lists (h.base.wat.cpt h.kn h.nw), h.ext.trans (.lists _ _ _ _), h.fb, h.rs⟩
theorem FI.fol {s0 s : St} {so : Nat → Prop} {fr l d k n : Nat} (h : FI s0 so fr l d s k n) (hn : s.wn l ≤ n) (hd : s.tr d = neg l) : (s.cpt l k n).Fol s.nt (d + 1) := by
  rintro a i ha h2 hi ⟨j, hj, e⟩
  obtain ⟨h3, h4⟩ := h.fl a i ha h2 hi
  by_cases e2 : j = d
  · subst e2
    have e3 : s.lt a i = l := by
      have : neg l = neg (s.lt a i) := hd.symm.trans e
      exact (neg_inj this).symm
    rcases h4 e3 with h5 | ⟨x, h5, h6, _⟩
    · exact h5
    · omega
  · exact h3 ⟨j, by omega, e⟩

/-- The entry at n falls: its clause is gone. -/
theorem FI.gone {s0 s : St} {so : Nat → Prop} {fr l d k n : Nat} (h : FI s0 so fr l d s k n) (hn : n < s.wn l) (hg : s.gone (s.wa l n) = true) : FI s0 so fr l d s k (n + 1) := by
  refine ⟨⟨h.base.wat_ (h.base.wat.drop hg), h.ext, h.fb, h.rs, by have := h.kn; omega, hn, h.vl, h.hl, h.dn, h.nv⟩, fun a i ha h2 hi => ⟨(h.fl a i ha h2 hi).1, fun e => ?_⟩, h.dt, h.ft⟩
  rcases (h.fl a i ha h2 hi).2 e with h5 | ⟨x, h5, h6, h7⟩
  · exact .inl h5
  · by_cases e2 : x = n
    · subst e2; rw [h7] at hg; have := ha.2.2; rw [hg] at this; cases this
    · exact .inr ⟨x, by omega, h6, h7⟩

/-- The entry at n stays. -/
theorem FIw.keep {s0 s : St} {so : Nat → Prop} {fr l k n o : Nat} (h : FIw s0 so fr l s k n) (hn : n < s.wn l) (ho : o < 2 * s.nv) (hL : s.gone (s.wa l n) = false → s.Lit (s.wa l n) o) : FIw s0 so fr l (s.kee l k (s.wa l n) o) (k + 1) (n + 1) :=
  ⟨h.base.lists (h.base.wat.kee h.kn hn h.hl ho hL), h.ext.trans (.lists _ _ _ _), h.fb, h.rs, by have := h.kn; omega, hn, h.vl, h.hl, h.dn, h.nv⟩
theorem FI.keep {s0 s : St} {so : Nat → Prop} {fr l d k n o : Nat} (h : FI s0 so fr l d s k n) (hn : n < s.wn l) (ho : o < 2 * s.nv) (hL : s.gone (s.wa l n) = false → s.Lit (s.wa l n) o) (hs : s.gone (s.wa l n) = false → s.Sat (s.wa l n)) :
    FI s0 so fr l d (s.kee l k (s.wa l n) o) (k + 1) (n + 1) := by
  refine ⟨h.toFIw.keep hn ho hL, fun a i ha h2 hi => ⟨(h.fl a i ha h2 hi).1, fun e => ?_⟩, h.dt, h.ft⟩
  rcases (h.fl a i ha h2 hi).2 e with h5 | ⟨x, h5, h6, h7⟩
  · exact .inl h5
  · by_cases e2 : x = n
    · subst e2; rw [h7] at hs; exact .inl (hs ha.2.2)
    · refine .inr ⟨x, by omega, h6, ?_⟩
      show (if l = l ∧ x = k then s.wa l n else s.wa l x) = a
      rw [if_neg (fun e3 => by have := h.kn; omega)]; exact h7

/-- The first two literals of a clause change places. -/
theorem FI.swp {s0 s : St} {so : Nat → Prop} {fr l d k n a : Nat} (h : FI s0 so fr l d s k n) (h2 : 2 ≤ s.ln a) : FI s0 so fr l d (s.swp a) k n := by
  refine ⟨⟨h.base.swp h2, h.ext.trans (.swp h2), swp_fol h2 h.fb, swp_rsn h2 h.rs, h.kn, h.nw, h.vl, h.hl, h.dn, h.nv⟩, fun b i hb hn hi => ?_, h.dt, h.ft⟩
  have hi' : (if b = a then sw i else i) < 2 := by unfold sw; split <;> (try split) <;> (try split) <;> omega
  obtain ⟨h3, h4⟩ := h.fl b _ hb hn hi'
  refine ⟨fun hk => ?_, fun e => ?_⟩
  · obtain ⟨k, hk, e⟩ := hk
    rw [swp_lt] at e
    obtain ⟨k', hk', hl⟩ := h3 ⟨k, hk, e⟩
    exact ⟨k', hk', (swp_lit h2 _ _).2 hl⟩
  · rw [swp_lt] at e
    rcases h4 e with ⟨k', hk', hl⟩ | h5
    · exact .inl ⟨k', hk', (swp_lit h2 _ _).2 hl⟩
    · exact .inr h5

/-- A literal becomes true. -/
theorem FI.put {s0 s : St} {so : Nat → Prop} {fr l d k n p r : Nat} (h : FI s0 so fr l d s k n) (hp : p < 2 * s.nv) (h0 : s.val p = 0)
    (hr : s.Is r ∧ s.Lit r p ∧ ∀ q, s.Lit r q → q ≠ p → q < 2 * s.nv ∧ s.val q = -1) : FI s0 so fr l d (s.put p r) k n := by
  have hT := h.base.tra
  have hpl : l ≠ p := fun e => by have := h.vl; rw [e] at this; omega
  have hpl2 : l ≠ neg p := fun e => by
    have h1 := hT.v_neg p hp
    have := h.vl; rw [e] at this; omega
  refine ⟨⟨h.base.put hp h0, h.ext.trans (.put hT hp h0), h.fb.put h.ft h.ft _ _, h.rs.put hT hp h0 (.inr hr), h.kn, h.nw, ?_, h.hl, h.dn, h.nv⟩, fun a i ha h2 hi => ?_, Nat.le_succ_of_le h.dt, Nat.le_succ_of_le h.ft⟩
  · show (if l = p then (1 : Int) else if l = neg p then -1 else s.val l) = -1
    rw [if_neg hpl, if_neg hpl2]; exact h.vl
  · obtain ⟨h3, h4⟩ := h.fl a i ha h2 hi
    have up : s.Sat a → (s.put p r).Sat a := fun ⟨k, hk, hl⟩ => ⟨k, Nat.lt_succ_of_lt hk, by
      show s.Lit a (if k = s.nt then p else s.tr k)
      rw [if_neg (by omega)]; exact hl⟩
    refine ⟨fun ⟨j, hj, e⟩ => up (h3 ⟨j, hj, ?_⟩), fun e => (h4 e).imp up id⟩
    replace e : (if j = s.nt then p else s.tr j) = neg (s.lt a i) := e
    rw [if_neg (by have := h.dt; omega)] at e; exact e

/-- A clause watches another literal, the entry at n falls. -/
theorem FI.move {s0 s : St} {so : Nat → Prop} {fr l d k n i : Nat} (h : FI s0 so fr l d s k n) (hn : n < s.wn l) (hg : s.gone (s.wa l n) = false) (h1 : s.lt (s.wa l n) 1 = l) (hi : i < s.ln (s.wa l n)) (hi2 : 2 ≤ i) (hv : s.val (s.lt (s.wa l n) i) ≠ -1) :
    FI s0 so fr l d ((s.mov (s.wa l n) i).ent (s.lt (s.wa l n) i) (s.wa l n) (s.lt (s.wa l n) 0)) k (n + 1) := by
  obtain ⟨w1, w2, w3, w4⟩ := h.base.wat.w_ok l n h.hl hn (.inr (.inr (Nat.le_refl _)))
  have hl2 := (w4 hg).1
  have hW := h.base.wat.move h.base.cls h.kn hn h.hl hg h1 hi hi2
  have hmlt : s.lt (s.wa l n) i < 2 * s.nv := h.base.cls.c_lt _ _ w2 hi
  have hnf : ∀ j, j < s.nt → s.tr j ≠ neg (s.lt (s.wa l n) i) := fun j hj e => hv ((h.base.tra.false_iff hmlt).2 ⟨j, hj, e⟩)
  have hml : s.lt (s.wa l n) i ≠ l := fun e => by have := h.base.cls.c_ne _ i 1 w2 hi (by omega) (e.trans h1.symm); omega
  have hl0 : s.lt (s.wa l n) 0 ≠ l := fun e => by have := h.base.cls.c_ne _ 0 1 w2 (by omega) (by omega) (e.trans h1.symm); omega
  have hC : Base ((s.mov (s.wa l n) i).ent (s.lt (s.wa l n) i) (s.wa l n) (s.lt (s.wa l n) 0)) (lvF l k (n + 1)) := by
    have hc := h.base.cls.mov hi hl2
    exact ⟨⟨h.base.vars.pos, h.base.vars.inj⟩, ⟨h.base.tra.t_lt, h.base.tra.t_inj, h.base.tra.v_tr, h.base.tra.v_neg, h.base.tra.v_rng, h.base.tra.d_le⟩, ⟨hc.c1, hc.c_lt, hc.c_ne, hc.c_nt, hc.c_gone, hc.s_ok, hc.s_all, hc.s_le⟩, hW, h.base.lens⟩
  have hwl : ((s.mov (s.wa l n) i).ent (s.lt (s.wa l n) i) (s.wa l n) (s.lt (s.wa l n) 0)).wn l = s.wn l := if_neg (Ne.symm hml)
  refine ⟨⟨hC, h.ext.trans ((Ext.mov hi hl2).trans (.lists _ _ _ _)), mov_fol hi hl2 hi2 h.fb (fun j hj => hnf j (Nat.lt_of_lt_of_le hj h.ft)), mov_rsn hi hl2 h.rs, by have := h.kn; omega, by rw [hwl]; exact hn, h.vl, h.hl, h.dn, h.nv⟩, fun b j hb h2 hj => ?_, h.dt, h.ft⟩
  have hsat : s.Sat b → ((s.mov (s.wa l n) i).ent (s.lt (s.wa l n) i) (s.wa l n) (s.lt (s.wa l n) 0)).Sat b := fun ⟨x, hx, hL⟩ => ⟨x, hx, (mov_lit hi hl2 _ _).2 hL⟩
  have elt : ((s.mov (s.wa l n) i).ent (s.lt (s.wa l n) i) (s.wa l n) (s.lt (s.wa l n) 0)).lt b j = s.lt b (if b = s.wa l n then mv i j else j) := mov_lt _ _ _ _ _
  by_cases e : b = s.wa l n
  · subst e
    rw [if_pos rfl] at elt
    by_cases e1 : j = 1
    · subst e1
      have e2 : mv i 1 = i := rfl
      rw [e2] at elt
      rw [elt]
      exact ⟨fun ⟨x, hx, ex⟩ => absurd ex (hnf x (Nat.lt_of_lt_of_le hx h.dt)), fun ex => absurd ex hml⟩
    · have e0 : j = 0 := by omega
      subst e0
      have e2 : mv i 0 = 0 := by unfold mv; rw [if_neg (by omega), if_neg (by omega)]
      rw [e2] at elt
      rw [elt]
      obtain ⟨h3, h4⟩ := h.fl (s.wa l n) 0 hb h2 (by omega)
      exact ⟨fun hx => hsat (h3 hx), fun ex => absurd ex hl0⟩
  · rw [if_neg e] at elt
    rw [elt]
    obtain ⟨h3, h4⟩ := h.fl b j hb h2 hj
    refine ⟨fun hx => hsat (h3 hx), fun ex => ?_⟩
    rcases h4 ex with h5 | ⟨x, h5, h6, h7⟩
    · exact .inl (hsat h5)
    · refine .inr ⟨x, ?_, by rw [hwl]; exact h6, ?_⟩
      · have : x ≠ n := fun e3 => e (by rw [← h7, e3])
        omega
      · show (if l = s.lt (s.wa l n) i ∧ x = s.wn (s.lt (s.wa l n) i) then s.wa l n else s.wa l x) = b
        rw [if_neg (fun e3 => hml e3.1.symm)]; exact h7
end St
end Go.Proofs.Ytoffhgiljnagcaa
