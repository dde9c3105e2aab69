/- What is known, as mathematics: a new clause. -/
import Derived.Test.YtoffhgiljnagcaaF
namespace Go.Proofs.Ytoffhgiljnagcaa
namespace St
def newc (s : St) (n : Nat) (f : Nat → Nat) : St := { s with nc := s.nc + 1, ln := fun a => if a = s.nc then n else s.ln a, lt := fun a i => if a = s.nc then f i else s.lt a i, gone := fun a => if a = s.nc then false else s.gone a }
def shr (s : St) (a : Nat) : St := { s with ns := s.ns + 1, sh := fun j => if j = s.ns then a else s.sh j }
/-- A clause's literals. -/
structure Form (s : St) (n : Nat) (f : Nat → Nat) : Prop where
  lt : ∀ i, i < n → f i < 2 * s.nv
  ne : ∀ i j, i < n → j < n → f i = f j → i = j
  nt : ∀ i j, i < n → j < n → f i ≠ neg (f j)
/-- The lists, but that clause x need not be watched. -/
structure WatB (s : St) (x : Nat) : Prop where
  w_ok : ∀ l j, l < 2 * s.nv → j < s.wn l → 1 ≤ s.wa l j ∧ s.wa l j < s.nc ∧ s.wo l j < 2 * s.nv ∧ (s.gone (s.wa l j) = false → 2 ≤ s.ln (s.wa l j) ∧ (s.lt (s.wa l j) 0 = l ∨ s.lt (s.wa l j) 1 = l) ∧ s.Lit (s.wa l j) (s.wo l j))
  w_has : ∀ a i, a ≠ x → s.Is a → 2 ≤ s.ln a → i < 2 → ∃ j, j < s.wn (s.lt a i) ∧ s.wa (s.lt a i) j = a
  w_uni : ∀ l j k, l < 2 * s.nv → j < s.wn l → k < s.wn l → s.wa l j = s.wa l k → j = k
theorem WatB.new {s : St} (h : Wat s All) (n : Nat) (f : Nat → Nat) : WatB (s.newc n f) s.nc := by
  refine ⟨fun l j hl hj => ?_, fun a i hne ha h2 hi => ?_, fun l j k hl hj hk e => h.w_uni l j k hl hj hk trivial trivial e⟩
  · obtain ⟨b1, b2, b3, b4⟩ := h.w_ok l j hl hj trivial
    have hne : ¬ s.wa l j = s.nc := by omega
    refine ⟨b1, by show s.wa l j < s.nc + 1; omega, b3, fun hg => ?_⟩
    have hg' : s.gone (s.wa l j) = false := by
      have : (if s.wa l j = s.nc then false else s.gone (s.wa l j)) = false := hg
      rw [if_neg hne] at this; exact this
    obtain ⟨c1, c2, i, hi, c3⟩ := b4 hg'
    refine ⟨?_, ?_, i, ?_, ?_⟩
    · show 2 ≤ (if s.wa l j = s.nc then n else s.ln (s.wa l j)); rw [if_neg hne]; exact c1
    · show (if s.wa l j = s.nc then f 0 else s.lt (s.wa l j) 0) = l ∨ (if s.wa l j = s.nc then f 1 else s.lt (s.wa l j) 1) = l
      rw [if_neg hne, if_neg hne]; exact c2
    · show i < (if s.wa l j = s.nc then n else s.ln (s.wa l j)); rw [if_neg hne]; exact hi
    · show (if s.wa l j = s.nc then f i else s.lt (s.wa l j) i) = _; rw [if_neg hne]; exact c3
  · obtain ⟨a1, a2, a3⟩ := ha
    have a2' : a < s.nc + 1 := a2
    have e1 : (s.newc n f).ln a = s.ln a := if_neg hne
    have e2 : (s.newc n f).gone a = s.gone a := if_neg hne
    have e3 : (s.newc n f).lt a i = s.lt a i := if_neg hne
    rw [e1] at h2
    rw [e2] at a3
    obtain ⟨j, hj, _, e⟩ := h.w_has a i ⟨a1, by omega, a3⟩ h2 hi
    rw [e3]
    exact ⟨j, hj, e⟩
theorem WatB.ent {s : St} {x m o : Nat} (h : WatB s x) (h1 : 1 ≤ x) (hx : x < s.nc) (ho : o < 2 * s.nv) (hL : 2 ≤ s.ln x ∧ (s.lt x 0 = m ∨ s.lt x 1 = m) ∧ s.Lit x o) (hno : ∀ j, j < s.wn m → s.wa m j ≠ x) : WatB (s.ent m x o) x := by
  refine ⟨fun l j hl hj => ?_, fun a i hne ha h2 hi => ?_, fun l j k hl hj hk e => ?_⟩
  · replace hj : j < (if l = m then s.wn m + 1 else s.wn l) := hj
    show 1 ≤ (if l = m ∧ j = s.wn m then x else s.wa l j) ∧ (if l = m ∧ j = s.wn m then x else s.wa l j) < s.nc ∧ (if l = m ∧ j = s.wn m then o else s.wo l j) < 2 * s.nv ∧ (s.gone (if l = m ∧ j = s.wn m then x else s.wa l j) = false → 2 ≤ s.ln (if l = m ∧ j = s.wn m then x else s.wa l j) ∧ (s.lt (if l = m ∧ j = s.wn m then x else s.wa l j) 0 = l ∨ s.lt (if l = m ∧ j = s.wn m then x else s.wa l j) 1 = l) ∧ s.Lit (if l = m ∧ j = s.wn m then x else s.wa l j) (if l = m ∧ j = s.wn m then o else s.wo l j))
    by_cases e : l = m ∧ j = s.wn m
    · simp only [if_pos e]
      obtain ⟨rfl, rfl⟩ := e
      exact ⟨h1, hx, ho, fun _ => hL⟩
    · simp only [if_neg e]
      refine h.w_ok l j hl ?_
      split at hj
      · next e2 => subst e2; omega
      · exact hj
  · obtain ⟨j, hj, e⟩ := h.w_has a i hne ha h2 hi
    refine ⟨j, ?_, ?_⟩
    · show j < (if s.lt a i = m then s.wn m + 1 else s.wn (s.lt a i))
      split
      · next e2 => rw [← e2]; omega
      · exact hj
    · show (if s.lt a i = m ∧ j = s.wn m then x else s.wa (s.lt a i) j) = a
      rw [if_neg (fun e2 => by rw [e2.1, e2.2] at hj; omega)]; exact e
  · replace hj : j < (if l = m then s.wn m + 1 else s.wn l) := hj
    replace hk : k < (if l = m then s.wn m + 1 else s.wn l) := hk
    replace e : (if l = m ∧ j = s.wn m then x else s.wa l j) = (if l = m ∧ k = s.wn m then x else s.wa l k) := e
    by_cases e1 : l = m ∧ j = s.wn m <;> by_cases e2 : l = m ∧ k = s.wn m
    · omega
    · rw [if_pos e1, if_neg e2] at e
      obtain ⟨rfl, rfl⟩ := e1
      rw [if_pos rfl] at hk
      exact absurd e.symm (hno k (by omega))
    · rw [if_neg e1, if_pos e2] at e
      obtain ⟨rfl, rfl⟩ := e2
      rw [if_pos rfl] at hj
      exact absurd e (hno j (by omega))
    · rw [if_neg e1, if_neg e2] at e
      refine h.w_uni l j k hl ?_ ?_ e
      · split at hj
        · next y => subst y; omega
        · exact hj
      · split at hk
        · next y => subst y; omega
        · exact hk
theorem WatB.all {s : St} {x : Nat} (h : WatB s x) (hx : 2 ≤ s.ln x → ∀ i, i < 2 → ∃ j, j < s.wn (s.lt x i) ∧ s.wa (s.lt x i) j = x) : Wat s All := by
  refine ⟨fun l j hl hj _ => h.w_ok l j hl hj, fun a i ha h2 hi => ?_, fun l j k hl hj hk _ _ e => h.w_uni l j k hl hj hk e⟩
  by_cases e : a = x
  · subst e
    obtain ⟨j, hj, e⟩ := hx h2 i hi
    exact ⟨j, hj, trivial, e⟩
  · obtain ⟨j, hj, e2⟩ := h.w_has a i e ha h2 hi
    exact ⟨j, hj, trivial, e2⟩
/-- The clauses with a new one, the short ones with it or not. -/
theorem Cls.new {s : St} (h : Cls s) {n : Nat} {f : Nat → Nat} (hf : Form s n f) : (∀ a i, a < s.nc + 1 → i < (s.newc n f).ln a → (s.newc n f).lt a i < 2 * s.nv) ∧ (∀ a i j, a < s.nc + 1 → i < (s.newc n f).ln a → j < (s.newc n f).ln a → (s.newc n f).lt a i = (s.newc n f).lt a j → i = j) ∧
    (∀ a i j, a < s.nc + 1 → i < (s.newc n f).ln a → j < (s.newc n f).ln a → (s.newc n f).lt a i ≠ neg ((s.newc n f).lt a j)) ∧ (∀ a, a < s.nc + 1 → (s.newc n f).gone a = true → (s.newc n f).ln a = 0) := by
  have e1 : ∀ a, a ≠ s.nc → (s.newc n f).ln a = s.ln a := fun a hne => if_neg hne
  have e2 : ∀ a i, a ≠ s.nc → (s.newc n f).lt a i = s.lt a i := fun a i hne => if_neg hne
  have e3 : ∀ a, a ≠ s.nc → (s.newc n f).gone a = s.gone a := fun a hne => if_neg hne
  have n1 : (s.newc n f).ln s.nc = n := if_pos rfl
  have n2 : ∀ i, (s.newc n f).lt s.nc i = f i := fun i => if_pos rfl
  have n3 : (s.newc n f).gone s.nc = false := if_pos rfl
  refine ⟨fun a i ha hi => ?_, fun a i j ha hi hj e => ?_, fun a i j ha hi hj => ?_, fun a ha hg => ?_⟩ <;> by_cases e : a = s.nc
  · subst e; rw [n1] at hi; rw [n2]; exact hf.lt i hi
  · rw [e1 a e] at hi; rw [e2 a i e]; exact h.c_lt a i (by omega) hi
  · rename_i e0; subst e; rw [n1] at hi hj; rw [n2, n2] at e0; exact hf.ne i j hi hj e0
  · rename_i e0; rw [e1 a e] at hi hj; rw [e2 a i e, e2 a j e] at e0; exact h.c_ne a i j (by omega) hi hj e0
  · subst e; rw [n1] at hi hj; rw [n2, n2]; exact hf.nt i j hi hj
  · rw [e1 a e] at hi hj; rw [e2 a i e, e2 a j e]; exact h.c_nt a i j (by omega) hi hj
  · subst e; rw [n3] at hg; cases hg
  · rw [e3 a e] at hg; rw [e1 a e]; exact h.c_gone a (by omega) hg
/-- A short clause comes. -/
theorem Base.short {s : St} (h : Base s All) {n : Nat} {f : Nat → Nat} (hf : Form s n f) (hn : n < 2) : Base ((s.newc n f).shr s.nc) All := by
  obtain ⟨k1, k2, k3, k4⟩ := h.cls.new hf
  have hW := WatB.new h.wat n f
  have n1 : (s.newc n f).ln s.nc = n := if_pos rfl
  refine ⟨⟨h.vars.pos, h.vars.inj⟩, ⟨h.tra.t_lt, h.tra.t_inj, h.tra.v_tr, h.tra.v_neg, h.tra.v_rng, h.tra.d_le⟩, ⟨by show 1 ≤ s.nc + 1; omega, k1, k2, k3, k4, ?_, ?_, ?_⟩, ?_, h.lens⟩
  · intro j hj
    have hj' : j < s.ns + 1 := hj
    show 1 ≤ (if j = s.ns then s.nc else s.sh j) ∧ (if j = s.ns then s.nc else s.sh j) < s.nc + 1 ∧ (s.newc n f).ln (if j = s.ns then s.nc else s.sh j) ≤ 1
    split
    · rw [n1]; have := h.cls.c1; omega
    · obtain ⟨a1, a2, a3⟩ := h.cls.s_ok j (by omega)
      rw [show (s.newc n f).ln (s.sh j) = s.ln (s.sh j) from if_neg (by omega)]
      omega
  · intro a ha h1
    by_cases e : a = s.nc
    · exact ⟨s.ns, Nat.lt_succ_self _, by show (if s.ns = s.ns then s.nc else s.sh s.ns) = a; rw [if_pos rfl, e]⟩
    · obtain ⟨a1, a2, a3⟩ := ha
      have a2' : a < s.nc + 1 := a2
      have a3' : (if a = s.nc then false else s.gone a) = false := a3
      rw [if_neg e] at a3'
      have h1' : (if a = s.nc then n else s.ln a) ≤ 1 := h1
      rw [if_neg e] at h1'
      obtain ⟨j, hj, e2⟩ := h.cls.s_all a ⟨a1, by omega, a3'⟩ h1'
      exact ⟨j, Nat.lt_succ_of_lt hj, by show (if j = s.ns then s.nc else s.sh j) = a; rw [if_neg (by omega)]; exact e2⟩
  · show s.ns + 1 ≤ s.nc + 1
    have := h.cls.s_le; omega
  · have hA := hW.all (fun h2 => by rw [n1] at h2; omega)
    exact ⟨hA.w_ok, hA.w_has, hA.w_uni⟩
/-- A longer one comes. -/
theorem Base.long {s : St} (h : Base s All) {n : Nat} {f : Nat → Nat} (hf : Form s n f) (hn : 2 ≤ n) : Base (((s.newc n f).ent (f 0) s.nc (f 1)).ent (f 1) s.nc (f 0)) All := by
  obtain ⟨k1, k2, k3, k4⟩ := h.cls.new hf
  have n1 : (s.newc n f).ln s.nc = n := if_pos rfl
  have n2 : ∀ i, (s.newc n f).lt s.nc i = f i := fun i => if_pos rfl
  have h01 : f 0 ≠ f 1 := fun e => by have := hf.ne 0 1 (by omega) (by omega) e; omega
  have hold : ∀ l j, l < 2 * s.nv → j < s.wn l → s.wa l j ≠ s.nc := fun l j hl hj => by have := (h.wat.w_ok l j hl hj trivial).2.1; omega
  have hl0 := hf.lt 0 (by omega)
  have hl1 := hf.lt 1 (by omega)
  have hc1 := h.cls.c1
  have hW1 := (WatB.new h.wat n f).ent (m := f 0) (o := f 1) hc1 (Nat.lt_succ_self _) hl1 ⟨by rw [n1]; exact hn, .inl (n2 0), 1, by rw [n1]; omega, n2 1⟩ (fun j hj => hold _ j hl0 hj)
  have hW2 := hW1.ent (m := f 1) (o := f 0) hc1 (Nat.lt_succ_self _) hl0 ⟨by show 2 ≤ (s.newc n f).ln s.nc; rw [n1]; exact hn, .inr (n2 1), 0, by show 0 < (s.newc n f).ln s.nc; rw [n1]; omega, n2 0⟩ (fun j hj => by
    replace hj : j < (if f 1 = f 0 then s.wn (f 0) + 1 else s.wn (f 1)) := hj
    rw [if_neg (Ne.symm h01)] at hj
    show (if f 1 = f 0 ∧ j = s.wn (f 0) then s.nc else s.wa (f 1) j) ≠ s.nc
    rw [if_neg (fun e => h01 e.1.symm)]
    exact hold _ j hl1 hj)
  have hA := hW2.all (fun _ i hi => by
    show ∃ j, j < _ ∧ _
    have hi2 : i = 0 ∨ i = 1 := by omega
    rcases hi2 with rfl | rfl
    · have e : (((s.newc n f).ent (f 0) s.nc (f 1)).ent (f 1) s.nc (f 0)).lt s.nc 0 = f 0 := n2 0
      rw [e]
      refine ⟨s.wn (f 0), ?_, ?_⟩
      · show s.wn (f 0) < (if f 0 = f 1 then (if f 1 = f 0 then s.wn (f 0) + 1 else s.wn (f 1)) + 1 else if f 0 = f 0 then s.wn (f 0) + 1 else s.wn (f 0))
        rw [if_neg h01, if_pos rfl]; omega
      · show (if f 0 = f 1 ∧ s.wn (f 0) = (if f 1 = f 0 then s.wn (f 0) + 1 else s.wn (f 1)) then s.nc else if f 0 = f 0 ∧ s.wn (f 0) = s.wn (f 0) then s.nc else s.wa (f 0) (s.wn (f 0))) = s.nc
        rw [if_neg (fun e => h01 e.1), if_pos ⟨rfl, rfl⟩]
    · have e : (((s.newc n f).ent (f 0) s.nc (f 1)).ent (f 1) s.nc (f 0)).lt s.nc 1 = f 1 := n2 1
      rw [e]
      refine ⟨(if f 1 = f 0 then s.wn (f 0) + 1 else s.wn (f 1)), ?_, ?_⟩
      · show (if f 1 = f 0 then s.wn (f 0) + 1 else s.wn (f 1)) < (if f 1 = f 1 then (if f 1 = f 0 then s.wn (f 0) + 1 else s.wn (f 1)) + 1 else _)
        rw [if_pos (rfl : f 1 = f 1)]; omega
      · show (if f 1 = f 1 ∧ (if f 1 = f 0 then s.wn (f 0) + 1 else s.wn (f 1)) = (if f 1 = f 0 then s.wn (f 0) + 1 else s.wn (f 1)) then s.nc else _) = s.nc
        exact if_pos ⟨rfl, rfl⟩)
  refine ⟨⟨h.vars.pos, h.vars.inj⟩, ⟨h.tra.t_lt, h.tra.t_inj, h.tra.v_tr, h.tra.v_neg, h.tra.v_rng, h.tra.d_le⟩, ⟨by show 1 ≤ s.nc + 1; omega, k1, k2, k3, k4, ?_, ?_, ?_⟩, hA, h.lens⟩
  · intro j hj
    obtain ⟨a1, a2, a3⟩ := h.cls.s_ok j hj
    refine ⟨a1, by show s.sh j < s.nc + 1; omega, ?_⟩
    show (if s.sh j = s.nc then n else s.ln (s.sh j)) ≤ 1
    rw [if_neg (by omega)]; exact a3
  · intro a ha h1
    have h1' : (if a = s.nc then n else s.ln a) ≤ 1 := h1
    have e : a ≠ s.nc := fun e => by rw [if_pos e] at h1'; omega
    rw [if_neg e] at h1'
    obtain ⟨a1, a2, a3⟩ := ha
    have a2' : a < s.nc + 1 := a2
    have a3' : (if a = s.nc then false else s.gone a) = false := a3
    rw [if_neg e] at a3'
    exact h.cls.s_all a ⟨a1, by omega, a3'⟩ h1'
  · show s.ns ≤ s.nc + 1
    have := h.cls.s_le; omega
/-- What is there then. -/
theorem newc_cl {s s' : St} (hc : Cls s) {n : Nat} {f : Nat → Nat} (e1 : s'.nc = s.nc + 1) (e2 : s'.gone = (s.newc n f).gone) (e3 : s'.ln = (s.newc n f).ln) (e4 : s'.lt = (s.newc n f).lt) (e5 : s'.vr = s.vr) (c1 : 1 ≤ s.nc) (c : List Int) :
    s'.Cl c ↔ s.Cl c ∨ ∀ x, x ∈ c ↔ ∃ i, i < n ∧ s.ext (f i) = x := by
  have hx : ∀ p, s'.ext p = s.ext p := fun p => by unfold St.ext; rw [e5]
  have hLn : ∀ p, s'.Lit s.nc p ↔ ∃ i, i < n ∧ f i = p := fun p => by
    unfold Lit
    rw [e3, e4]
    show (∃ i, i < (if s.nc = s.nc then n else s.ln s.nc) ∧ (if s.nc = s.nc then f i else s.lt s.nc i) = p) ↔ _
    simp only [if_true]
  have hLo : ∀ a p, a ≠ s.nc → (s'.Lit a p ↔ s.Lit a p) := fun a p hne => by
    unfold Lit
    rw [e3, e4]
    show (∃ i, i < (if a = s.nc then n else s.ln a) ∧ (if a = s.nc then f i else s.lt a i) = p) ↔ _
    simp only [if_neg hne]
  have hIs : ∀ a, a ≠ s.nc → (s'.Is a ↔ s.Is a) := fun a hne => by
    unfold Is
    rw [e1, e2]
    show (1 ≤ a ∧ a < s.nc + 1 ∧ (if a = s.nc then false else s.gone a) = false) ↔ _
    rw [if_neg hne]
    refine and_congr_right fun _ => and_congr_left fun _ => ?_
    omega
  constructor
  · rintro ⟨a, ha, hm⟩
    by_cases e : a = s.nc
    · subst e
      refine .inr fun x => (hm x).trans ⟨?_, ?_⟩
      · rintro ⟨p, hp, e⟩
        obtain ⟨i, hi, rfl⟩ := (hLn p).1 hp
        exact ⟨i, hi, by rw [← hx]; exact e⟩
      · rintro ⟨i, hi, e⟩
        exact ⟨f i, (hLn _).2 ⟨i, hi, rfl⟩, by rw [hx]; exact e⟩
    · exact .inl ⟨a, (hIs a e).1 ha, fun x => (hm x).trans (exists_congr fun p => by rw [hLo a p e, hx])⟩
  · rintro (⟨a, ha, hm⟩ | hm)
    · have e : a ≠ s.nc := by have := ha.2.1; omega
      exact ⟨a, (hIs a e).2 ha, fun x => (hm x).trans (exists_congr fun p => by rw [hLo a p e, hx])⟩
    · refine ⟨s.nc, ⟨c1, by rw [e1]; omega, by rw [e2]; exact if_pos rfl⟩, fun x => (hm x).trans ⟨?_, ?_⟩⟩
      · rintro ⟨i, hi, e⟩
        exact ⟨f i, (hLn _).2 ⟨i, hi, rfl⟩, by rw [hx]; exact e⟩
      · rintro ⟨p, hp, e⟩
        obtain ⟨i, hi, rfl⟩ := (hLn p).1 hp
        exact ⟨i, hi, by rw [← hx]; exact e⟩
end St
end Go.Proofs.Ytoffhgiljnagcaa
