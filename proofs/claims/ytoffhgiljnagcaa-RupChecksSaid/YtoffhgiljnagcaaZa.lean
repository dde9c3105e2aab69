/- Joined: A, B, C, D, E, F, H. -/
/- Unit propagation as mathematics. -/
namespace Go.Proofs.Ytoffhgiljnagcaa

/-- Propagation of clauses, with literals that are so, runs into a conflict. -/
inductive Conf (C : List Int → Prop) : (Int → Prop) → Prop
  | clash {so : Int → Prop} (l : Int) : so l → so (-l) → Conf C so
  | none {so : Int → Prop} (c : List Int) : C c → (∀ l ∈ c, so (-l)) → Conf C so
  | unit {so : Int → Prop} (c : List Int) (l : Int) : C c → l ∈ c → (∀ m ∈ c, m ≠ l → so (-m)) → Conf C (fun x => x = l ∨ so x) → Conf C so

/-- Two clauses with the same literals. -/
def Alike (c d : List Int) : Prop := ∀ l, l ∈ c ↔ l ∈ d
theorem Alike.refl (c : List Int) : Alike c c := fun _ => Iff.rfl
theorem Alike.symm {c d : List Int} (h : Alike c d) : Alike d c := fun l => (h l).symm
theorem Alike.trans {c d e : List Int} (h : Alike c d) (k : Alike d e) : Alike c e := fun l => (h l).trans (k l)
/-- A clause that has a literal and its negation. -/
def Taut (c : List Int) : Prop := ∃ x, x ∈ c ∧ -x ∈ c

theorem Conf.sub {C C' : List Int → Prop} {so : Int → Prop} (h : Conf C so) (hC : ∀ c, C c → (∃ c', C' c' ∧ Alike c' c) ∨ (Taut c ∧ (0 : Int) ∉ c)) : ∀ so' : Int → Prop, (∀ l, so l → so' l) → Conf C' so' := by
  induction h with
  | clash l a b => exact fun so' hs => .clash l (hs _ a) (hs _ b)
  | none c hc hf =>
    intro so' hs
    rcases hC c hc with ⟨c', h1, h2⟩ | ⟨⟨x, hx, hy⟩, _⟩
    · exact .none c' h1 fun l hl => hs _ (hf l ((h2 l).1 hl))
    · exact .clash x (by simpa using hs _ (hf _ hy)) (hs _ (hf _ hx))
  | @unit so c l hc hl hf _ ih =>
    intro so' hs
    rcases hC c hc with ⟨c', h1, h2⟩ | ⟨⟨x, hx, hy⟩, h0⟩
    · refine .unit c' l h1 ((h2 l).2 hl) (fun m hm hne => hs _ (hf m ((h2 m).1 hm) hne)) (ih _ ?_)
      rintro m (rfl | h)
      · exact .inl rfl
      · exact .inr (hs _ h)
    · have hx0 : x ≠ 0 := fun e => h0 (e ▸ hx)
      have key : so l ∨ (so (-x) ∧ so x) := by
        by_cases h1 : x = l
        · have := hf (-x) hy (by omega)
          rw [Int.neg_neg, h1] at this
          exact .inl this
        · by_cases h2 : -x = l
          · have := hf x hx h1
            rw [h2] at this
            exact .inl this
          · have := hf (-x) hy h2
            rw [Int.neg_neg] at this
            exact .inr ⟨hf x hx h1, this⟩
      rcases key with h | ⟨h, h'⟩
      · refine ih _ ?_
        rintro m (rfl | h3)
        · exact hs _ h
        · exact hs _ h3
      · exact .clash x (hs _ h') (hs _ h)

theorem Conf.mono {C C' : List Int → Prop} {so so' : Int → Prop} (h : Conf C so) (hC : ∀ c, C c → C' c) (hs : ∀ l, so l → so' l) : Conf C' so' :=
  h.sub (fun c hc => .inl ⟨c, hC c hc, .refl c⟩) _ hs

theorem closed_not {C : List Int → Prop} {T so : Int → Prop} (hT : ∀ l, T l → T (-l) → False)
    (hc : ∀ c, C c → (∃ l, l ∈ c ∧ T l) ∨ (∃ l m, l ∈ c ∧ m ∈ c ∧ l ≠ m ∧ ¬ T (-l) ∧ ¬ T (-m))) (h : Conf C so) : (∀ l, so l → T l) → False := by
  induction h with
  | clash l a b => exact fun hs => hT l (hs _ a) (hs _ b)
  | none c h1 hf =>
    intro hs
    rcases hc c h1 with ⟨l, hl, h2⟩ | ⟨l, m, hl, hm, hne, h2, h3⟩
    · exact hT l h2 (hs _ (hf l hl))
    · exact h2 (hs _ (hf l hl))
  | unit c l h1 hl hf _ ih =>
    intro hs
    rcases hc c h1 with ⟨x, hx, h2⟩ | ⟨a, b, ha, hb, hne, h2, h3⟩
    · by_cases e : x = l
      · refine ih ?_
        rintro m (rfl | h)
        · exact e ▸ h2
        · exact hs _ h
      · exact hT x h2 (hs _ (hf x hx e))
    · by_cases e : a = l
      · exact h3 (hs _ (hf b hb (fun e2 => hne (e.trans e2.symm))))
      · exact h2 (hs _ (hf a ha e))

theorem Conf.sound {C : List Int → Prop} {T so : Int → Prop} (hT : ∀ l, T l → T (-l) → False) (hc : ∀ c, C c → ∃ l, l ∈ c ∧ T l) (h : Conf C so) : (∀ l, so l → T l) → False :=
  closed_not hT (fun c h => .inl (hc c h)) h

/-- What was implied, one after another, adds nothing. -/
theorem Conf.back {C : List Int → Prop} {so : Int → Prop} (T : Nat → Int) : ∀ n : Nat,
    (∀ i, i < n → so (T i) ∨ ∃ c, C c ∧ T i ∈ c ∧ ∀ m ∈ c, m ≠ T i → ∃ j, j < i ∧ T j = -m) → Conf C (fun x => so x ∨ ∃ i, i < n ∧ T i = x) → Conf C so
  | 0, _, h => h.mono (fun _ h => h) (fun l h => h.elim id fun ⟨i, h, _⟩ => absurd h (Nat.not_lt_zero _))
  | n + 1, hr, h => by
    refine Conf.back T n (fun i hi => hr i (by omega)) ?_
    rcases hr n (by omega) with h1 | ⟨c, h1, h2, h3⟩
    · refine h.mono (fun _ h => h) ?_
      rintro l (h | ⟨i, hi, rfl⟩)
      · exact .inl h
      · by_cases e : i = n
        · exact .inl (e ▸ h1)
        · exact .inr ⟨i, by omega, rfl⟩
    · refine .unit c (T n) h1 h2 (fun m hm hne => .inr (h3 m hm hne)) (h.mono (fun _ h => h) ?_)
      rintro l (h | ⟨i, hi, rfl⟩)
      · exact .inr (.inl h)
      · by_cases e : i = n
        · exact .inl (by rw [e])
        · exact .inr (.inr ⟨i, by omega, rfl⟩)

/-- So many different numbers below m. -/
theorem pigeon : ∀ (m n : Nat) (f : Nat → Nat), (∀ i, i < n → f i < m) → (∀ i j, i < n → j < n → f i = f j → i = j) → n ≤ m
  | 0, n, f, h, _ => by
    rcases Nat.eq_zero_or_pos n with h0 | h0
    · omega
    · exact absurd (h 0 h0) (Nat.not_lt_zero _)
  | m + 1, n, f, h, hi => by
    rcases Nat.eq_zero_or_pos n with h0 | h0
    · omega
    have := pigeon m (n - 1) (fun i => if f i = m then f (n - 1) else f i) (by
      intro i h1
      show (if f i = m then f (n - 1) else f i) < m
      have h2 := h i (by omega)
      have h3 := h (n - 1) (by omega)
      split
      · next e =>
        have : f (n - 1) ≠ m := fun e2 => by have := hi i (n - 1) (by omega) (by omega) (e.trans e2.symm); omega
        omega
      · omega) (by
      intro i j h1 h2 h3
      replace h3 : (if f i = m then f (n - 1) else f i) = (if f j = m then f (n - 1) else f j) := h3
      split at h3 <;> split at h3
      · next a b => exact hi i j (by omega) (by omega) (a.trans b.symm)
      · have := hi (n - 1) j (by omega) (by omega) h3; omega
      · have := hi i (n - 1) (by omega) (by omega) h3; omega
      · exact hi i j (by omega) (by omega) h3)
    omega
end Go.Proofs.Ytoffhgiljnagcaa
/- What is known, as mathematics: its variables, clauses, watches and its trail; what each step does to them. -/
namespace Go.Proofs.Ytoffhgiljnagcaa

structure St where
  nv : Nat
  ew : Nat
  ev : Nat
  er : Nat
  vr : Nat → Int
  nc : Nat
  ln : Nat → Nat
  lt : Nat → Nat → Nat
  gone : Nat → Bool
  ns : Nat
  sh : Nat → Nat
  wn : Nat → Nat
  wa : Nat → Nat → Nat
  wo : Nat → Nat → Nat
  val : Nat → Int
  rsn : Nat → Nat
  nt : Nat
  tr : Nat → Nat
  done : Nat
  settled : Bool
  broken : Nat

def neg (p : Nat) : Nat := if p % 2 = 0 then p + 1 else p - 1
theorem neg_neg (p : Nat) : neg (neg p) = p := by unfold neg; split <;> split <;> omega
theorem neg_ne (p : Nat) : neg p ≠ p := by unfold neg; split <;> omega
theorem neg_lt {p n : Nat} (h : p < 2 * n) : neg p < 2 * n := by unfold neg; split <;> omega
theorem neg_eq {p q : Nat} (h : neg p = q) : p = neg q := by rw [← h, neg_neg]
theorem neg_inj {p q : Nat} (h : neg p = neg q) : p = q := by rw [← neg_neg p, h, neg_neg]

namespace St
def ext (s : St) (p : Nat) : Int := if p % 2 = 0 then s.vr (p / 2) else -s.vr (p / 2)
theorem ext_neg (s : St) (p : Nat) : s.ext (neg p) = -s.ext p := by
  unfold ext neg
  by_cases h : p % 2 = 0
  · rw [if_pos h, if_pos h, if_neg (by omega), show (p + 1) / 2 = p / 2 by omega]
  · rw [if_neg h, if_neg h, if_pos (by omega), show (p - 1) / 2 = p / 2 by omega, Int.neg_neg]
/-- Literal p is in the clause at a. -/
def Lit (s : St) (a p : Nat) : Prop := ∃ i, i < s.ln a ∧ s.lt a i = p
/-- A clause that is there. -/
def Is (s : St) (a : Nat) : Prop := 1 ≤ a ∧ a < s.nc ∧ s.gone a = false
/-- c is the clause at a. -/
def At (s : St) (a : Nat) (c : List Int) : Prop := s.Is a ∧ ∀ x, x ∈ c ↔ ∃ p, s.Lit a p ∧ s.ext p = x
/-- The clauses that are there. -/
def Cl (s : St) (c : List Int) : Prop := ∃ a, s.At a c

structure Vars (s : St) : Prop where
  pos : ∀ n, n < s.nv → 0 < s.vr n
  inj : ∀ n m, n < s.nv → m < s.nv → s.vr n = s.vr m → n = m
structure Tra (s : St) : Prop where
  t_lt : ∀ i, i < s.nt → s.tr i < 2 * s.nv
  t_inj : ∀ i j, i < s.nt → j < s.nt → s.tr i = s.tr j → i = j
  v_tr : ∀ p, p < 2 * s.nv → (s.val p = 1 ↔ ∃ i, i < s.nt ∧ s.tr i = p)
  v_neg : ∀ p, p < 2 * s.nv → s.val (neg p) = -s.val p
  v_rng : ∀ p, p < 2 * s.nv → s.val p = -1 ∨ s.val p = 0 ∨ s.val p = 1
  d_le : s.done ≤ s.nt
structure Cls (s : St) : Prop where
  c1 : 1 ≤ s.nc
  c_lt : ∀ a i, a < s.nc → i < s.ln a → s.lt a i < 2 * s.nv
  c_ne : ∀ a i j, a < s.nc → i < s.ln a → j < s.ln a → s.lt a i = s.lt a j → i = j
  c_nt : ∀ a i j, a < s.nc → i < s.ln a → j < s.ln a → s.lt a i ≠ neg (s.lt a j)
  c_gone : ∀ a, a < s.nc → s.gone a = true → s.ln a = 0
  s_ok : ∀ j, j < s.ns → 1 ≤ s.sh j ∧ s.sh j < s.nc ∧ s.ln (s.sh j) ≤ 1
  s_all : ∀ a, s.Is a → s.ln a ≤ 1 → ∃ j, j < s.ns ∧ s.sh j = a
  s_le : s.ns ≤ s.nc
/-- The lists of watches, as far as they are live. -/
structure Wat (s : St) (lv : Nat → Nat → Prop) : Prop where
  w_ok : ∀ l j, l < 2 * s.nv → j < s.wn l → lv l j → 1 ≤ s.wa l j ∧ s.wa l j < s.nc ∧ s.wo l j < 2 * s.nv ∧ (s.gone (s.wa l j) = false → 2 ≤ s.ln (s.wa l j) ∧ (s.lt (s.wa l j) 0 = l ∨ s.lt (s.wa l j) 1 = l) ∧ s.Lit (s.wa l j) (s.wo l j))
  w_has : ∀ a i, s.Is a → 2 ≤ s.ln a → i < 2 → ∃ j, j < s.wn (s.lt a i) ∧ lv (s.lt a i) j ∧ s.wa (s.lt a i) j = a
  w_uni : ∀ l j k, l < 2 * s.nv → j < s.wn l → k < s.wn l → lv l j → lv l k → s.wa l j = s.wa l k → j = k
structure Base (s : St) (lv : Nat → Nat → Prop) : Prop where
  vars : Vars s
  tra : Tra s
  cls : Cls s
  wat : Wat s lv
  lens : s.ew = 2 * s.nv ∧ s.ev = 2 * s.nv ∧ s.er = 2 * s.nv
def All : Nat → Nat → Prop := fun _ _ => True
/-- Where one of the first d of the trail made a watched literal false, one of the first m satisfies the clause. -/
def Fol (s : St) (m d : Nat) : Prop := ∀ a i, s.Is a → 2 ≤ s.ln a → i < 2 → (∃ k, k < d ∧ s.tr k = neg (s.lt a i)) → ∃ k, k < m ∧ s.Lit a (s.tr k)
/-- Why the literals of the trail are true. -/
def Rsn (s : St) (so : Nat → Prop) : Prop := ∀ i, i < s.nt → (s.rsn (s.tr i) = 0 ∧ so (s.tr i)) ∨ (s.Is (s.rsn (s.tr i)) ∧ s.Lit (s.rsn (s.tr i)) (s.tr i) ∧ ∀ p, s.Lit (s.rsn (s.tr i)) p → p ≠ s.tr i → ∃ k, k < i ∧ s.tr k = neg p)
/-- All literals of a clause are false. -/
def Dead (s : St) (a : Nat) : Prop := s.Is a ∧ ∀ p, s.Lit a p → s.val p = -1

theorem Vars.ext_inj {s : St} (h : Vars s) {p q : Nat} (hp : p < 2 * s.nv) (hq : q < 2 * s.nv) (e : s.ext p = s.ext q) : p = q := by
  unfold ext at e
  have h1 := h.pos (p / 2) (by omega)
  have h2 := h.pos (q / 2) (by omega)
  split at e <;> split at e
  · have := h.inj _ _ (by omega) (by omega) e; omega
  · omega
  · omega
  · have := h.inj _ _ (by omega) (by omega) (by omega : s.vr (p / 2) = s.vr (q / 2)); omega
theorem Vars.ext_ne {s : St} (h : Vars s) {p : Nat} (hp : p < 2 * s.nv) : s.ext p ≠ 0 := by
  have h1 := h.pos (p / 2) (by omega)
  unfold ext; split <;> omega

theorem Cls.lit_lt {s : St} (h : Cls s) {a p : Nat} (ha : a < s.nc) (hp : s.Lit a p) : p < 2 * s.nv := by
  obtain ⟨i, hi, rfl⟩ := hp; exact h.c_lt a i ha hi
theorem Tra.false_iff {s : St} (h : Tra s) {p : Nat} (hp : p < 2 * s.nv) : s.val p = -1 ↔ ∃ i, i < s.nt ∧ s.tr i = neg p := by
  rw [← h.v_tr (neg p) (neg_lt hp), h.v_neg p hp]; omega
theorem Tra.nt_le {s : St} (h : Tra s) : s.nt ≤ 2 * s.nv := pigeon _ _ s.tr h.t_lt h.t_inj
theorem Tra.not_both {s : St} (h : Tra s) {i j : Nat} (hi : i < s.nt) (hj : j < s.nt) : s.tr i ≠ neg (s.tr j) := by
  intro e
  have h1 := (h.v_tr _ (h.t_lt i hi)).2 ⟨i, hi, rfl⟩
  have h2 := (h.v_tr _ (h.t_lt j hj)).2 ⟨j, hj, rfl⟩
  have h3 := h.v_neg _ (h.t_lt j hj)
  rw [← e] at h3; omega

/-- set -/
def put (s : St) (p r : Nat) : St :=
  { s with val := fun q => if q = p then 1 else if q = neg p then -1 else s.val q, rsn := fun q => if q = p then r else s.rsn q, tr := fun i => if i = s.nt then p else s.tr i, nt := s.nt + 1 }
theorem Tra.put {s : St} (h : Tra s) {p r : Nat} (hp : p < 2 * s.nv) (h0 : s.val p = 0) : Tra (s.put p r) := by
  have hn : ∀ i, i < s.nt → s.tr i ≠ p := fun i hi e => by have := (h.v_tr p hp).2 ⟨i, hi, e⟩; omega
  have hm : ∀ i, i < s.nt → s.tr i ≠ neg p := fun i hi e => by have := (h.false_iff hp).2 ⟨i, hi, e⟩; omega
  refine ⟨?_, ?_, ?_, ?_, ?_, Nat.le_succ_of_le h.d_le⟩
  · intro i hi
    show (if i = s.nt then p else s.tr i) < _
    have hi' : i < s.nt + 1 := hi
    split
    · exact hp
    · exact h.t_lt i (by omega)
  · intro i j hi hj e
    have hi' : i < s.nt + 1 := hi
    have hj' : j < s.nt + 1 := hj
    replace e : (if i = s.nt then p else s.tr i) = (if j = s.nt then p else s.tr j) := e
    split at e <;> split at e
    · omega
    · exact absurd e.symm (hn j (by omega))
    · exact absurd e (hn i (by omega))
    · exact h.t_inj i j (by omega) (by omega) e
  · intro q hq
    show (if q = p then (1 : Int) else if q = neg p then -1 else s.val q) = 1 ↔ ∃ i, i < s.nt + 1 ∧ (if i = s.nt then p else s.tr i) = q
    constructor
    · intro e
      split at e
      · next e2 => exact ⟨s.nt, by omega, by rw [if_pos rfl, e2]⟩
      · split at e
        · omega
        · obtain ⟨i, hi, e3⟩ := (h.v_tr q hq).1 e
          exact ⟨i, by omega, by rw [if_neg (by omega), e3]⟩
    · rintro ⟨i, hi, e⟩
      split at e
      · rw [if_pos e.symm]
      · have h1 : i < s.nt := by omega
        rw [if_neg (fun e2 => hn i h1 (e.trans e2)), if_neg (fun e2 => hm i h1 (e.trans e2))]
        exact (h.v_tr q hq).2 ⟨i, h1, e⟩
  · intro q hq
    show (if neg q = p then (1 : Int) else if neg q = neg p then -1 else s.val (neg q)) = -(if q = p then (1 : Int) else if q = neg p then -1 else s.val q)
    by_cases e : q = p
    · subst e; rw [if_neg (neg_ne q), if_pos rfl, if_pos rfl]
    · by_cases e2 : q = neg p
      · subst e2; rw [neg_neg, if_pos rfl, if_neg (neg_ne p), if_pos rfl]; rfl
      · rw [if_neg (fun e3 => e2 (neg_eq e3)), if_neg (fun e3 => e (neg_inj e3)), if_neg e, if_neg e2]
        exact h.v_neg q hq
  · intro q hq
    show (if q = p then (1 : Int) else if q = neg p then -1 else s.val q) = -1 ∨ _ ∨ _
    show (if q = p then (1 : Int) else if q = neg p then -1 else s.val q) = -1 ∨ (if q = p then (1 : Int) else if q = neg p then -1 else s.val q) = 0 ∨ (if q = p then (1 : Int) else if q = neg p then -1 else s.val q) = 1
    split
    · omega
    · split
      · omega
      · exact h.v_rng q hq
theorem Base.put {s : St} {lv : Nat → Nat → Prop} (h : Base s lv) {p r : Nat} (hp : p < 2 * s.nv) (h0 : s.val p = 0) : Base (s.put p r) lv :=
  ⟨⟨h.vars.pos, h.vars.inj⟩, h.tra.put hp h0, ⟨h.cls.c1, h.cls.c_lt, h.cls.c_ne, h.cls.c_nt, h.cls.c_gone, h.cls.s_ok, h.cls.s_all, h.cls.s_le⟩, ⟨h.wat.w_ok, h.wat.w_has, h.wat.w_uni⟩, h.lens⟩
theorem Fol.put {s : St} {m d : Nat} (h : s.Fol m d) (hm : m ≤ s.nt) (hd : d ≤ s.nt) (p r : Nat) : (s.put p r).Fol m d := by
  intro a i ha h2 hi ⟨k, hk, e⟩
  replace e : (if k = s.nt then p else s.tr k) = neg (s.lt a i) := e
  rw [if_neg (by omega)] at e
  obtain ⟨k', hk', hl⟩ := h a i ha h2 hi ⟨k, hk, e⟩
  refine ⟨k', hk', ?_⟩
  show s.Lit a (if k' = s.nt then p else s.tr k')
  rw [if_neg (by omega)]; exact hl
theorem Fol.mono {s : St} {m m' d d' : Nat} (h : s.Fol m d) (hm : m ≤ m') (hd : d' ≤ d) : s.Fol m' d' := by
  intro a i ha h2 hi ⟨k, hk, e⟩
  obtain ⟨k', hk', hl⟩ := h a i ha h2 hi ⟨k, by omega, e⟩
  exact ⟨k', by omega, hl⟩
theorem Rsn.put {s : St} {so : Nat → Prop} (h : s.Rsn so) (hT : Tra s) {p r : Nat} (hp : p < 2 * s.nv) (h0 : s.val p = 0)
    (hr : (r = 0 ∧ so p) ∨ (s.Is r ∧ s.Lit r p ∧ ∀ q, s.Lit r q → q ≠ p → q < 2 * s.nv ∧ s.val q = -1)) : (s.put p r).Rsn so := by
  intro i hi
  have hi' : i < s.nt + 1 := hi
  have key : ∀ k, k < s.nt → (s.put p r).tr k = s.tr k := fun k hk => if_neg (by omega)
  by_cases e : i = s.nt
  · subst e
    have e1 : (s.put p r).tr s.nt = p := if_pos rfl
    rw [e1]
    have e2 : (s.put p r).rsn p = r := if_pos rfl
    rw [e2]
    rcases hr with h1 | ⟨h1, h2, h3⟩
    · exact .inl h1
    · refine .inr ⟨h1, h2, fun q hq hne => ?_⟩
      obtain ⟨k, hk, ek⟩ := (hT.false_iff (h3 q hq hne).1).1 (h3 q hq hne).2
      exact ⟨k, hk, (key k hk).trans ek⟩
  · have hi2 : i < s.nt := by omega
    have hne : s.tr i ≠ p := fun e => by have := (hT.v_tr p hp).2 ⟨i, hi2, e⟩; omega
    rw [key i hi2]
    have e2 : (s.put p r).rsn (s.tr i) = s.rsn (s.tr i) := if_neg hne
    rw [e2]
    rcases h i hi2 with h1 | ⟨h1, h2, h3⟩
    · exact .inl h1
    · refine .inr ⟨h1, h2, fun q hq hne => ?_⟩
      obtain ⟨k, hk, ek⟩ := h3 q hq hne
      exact ⟨k, hk, (key k (by omega)).trans ek⟩

/-- retreat -/
def cut (s : St) (m : Nat) : St :=
  { s with val := fun q => if (List.range s.nt).any (fun i => decide (m ≤ i) && (s.tr i == q || s.tr i == neg q)) then 0 else s.val q, rsn := fun q => if (List.range s.nt).any (fun i => decide (m ≤ i) && s.tr i == q) then 0 else s.rsn q, nt := m, done := m }
theorem cut_any {s : St} {m q : Nat} : (List.range s.nt).any (fun i => decide (m ≤ i) && (s.tr i == q || s.tr i == neg q)) = true ↔ ∃ i, i < s.nt ∧ m ≤ i ∧ (s.tr i = q ∨ s.tr i = neg q) := by
  simp
theorem cut_any2 {s : St} {m q : Nat} : (List.range s.nt).any (fun i => decide (m ≤ i) && s.tr i == q) = true ↔ ∃ i, i < s.nt ∧ m ≤ i ∧ s.tr i = q := by
  simp
theorem Tra.cut {s : St} (h : Tra s) {m : Nat} (hm : m ≤ s.nt) : Tra (s.cut m) := by
  have hv : ∀ q, (∃ i, i < s.nt ∧ m ≤ i ∧ (s.tr i = q ∨ s.tr i = neg q)) → (s.cut m).val q = 0 := fun q hq => if_pos (cut_any.2 hq)
  have hv2 : ∀ q, ¬ (∃ i, i < s.nt ∧ m ≤ i ∧ (s.tr i = q ∨ s.tr i = neg q)) → (s.cut m).val q = s.val q := fun q hq => if_neg (fun e => hq (cut_any.1 e))
  have hsym : ∀ q, (∃ i, i < s.nt ∧ m ≤ i ∧ (s.tr i = q ∨ s.tr i = neg q)) ↔ (∃ i, i < s.nt ∧ m ≤ i ∧ (s.tr i = neg q ∨ s.tr i = neg (neg q))) := by
    intro q; rw [neg_neg]
    exact ⟨fun ⟨i, a, b, c⟩ => ⟨i, a, b, c.symm⟩, fun ⟨i, a, b, c⟩ => ⟨i, a, b, c.symm⟩⟩
  refine ⟨fun i hi => h.t_lt i (Nat.lt_of_lt_of_le hi hm), fun i j hi hj => h.t_inj i j (Nat.lt_of_lt_of_le hi hm) (Nat.lt_of_lt_of_le hj hm), ?_, ?_, ?_, Nat.le_refl _⟩
  · intro q hq
    by_cases hx : ∃ i, i < s.nt ∧ m ≤ i ∧ (s.tr i = q ∨ s.tr i = neg q)
    · rw [hv q hx]
      refine ⟨fun e => by omega, ?_⟩
      rintro ⟨j, hj, e⟩
      have hj' : j < m := hj
      replace e : s.tr j = q := e
      obtain ⟨i, hi, hmi, e2 | e2⟩ := hx
      · have := h.t_inj i j hi (by omega) (e2.trans e.symm); omega
      · exact absurd (by rw [e2, e]) (h.not_both hi (show j < s.nt by omega))
    · rw [hv2 q hx, h.v_tr q hq]
      constructor
      · rintro ⟨i, hi, e⟩
        exact ⟨i, show i < m from Nat.lt_of_not_le fun h => hx ⟨i, hi, h, .inl e⟩, e⟩
      · rintro ⟨i, hi, e⟩
        exact ⟨i, Nat.lt_of_lt_of_le hi hm, e⟩
  · intro q hq
    by_cases hx : ∃ i, i < s.nt ∧ m ≤ i ∧ (s.tr i = q ∨ s.tr i = neg q)
    · rw [hv q hx, hv _ ((hsym q).1 hx)]; rfl
    · rw [hv2 q hx, hv2 _ (fun e => hx ((hsym q).2 e))]; exact h.v_neg q hq
  · intro q hq
    by_cases hx : ∃ i, i < s.nt ∧ m ≤ i ∧ (s.tr i = q ∨ s.tr i = neg q)
    · rw [hv q hx]; omega
    · rw [hv2 q hx]; exact h.v_rng q hq
theorem Base.cut {s : St} {lv : Nat → Nat → Prop} (h : Base s lv) {m : Nat} (hm : m ≤ s.nt) : Base (s.cut m) lv :=
  ⟨⟨h.vars.pos, h.vars.inj⟩, h.tra.cut hm, ⟨h.cls.c1, h.cls.c_lt, h.cls.c_ne, h.cls.c_nt, h.cls.c_gone, h.cls.s_ok, h.cls.s_all, h.cls.s_le⟩, ⟨h.wat.w_ok, h.wat.w_has, h.wat.w_uni⟩, h.lens⟩
theorem Fol.cut {s : St} {m d : Nat} (h : s.Fol m d) (k : Nat) : (s.cut k).Fol m d := h
theorem Rsn.cut {s : St} {so so' : Nat → Prop} (h : s.Rsn so) (hT : Tra s) {m : Nat} (hm : m ≤ s.nt) (hs : ∀ i, i < m → so (s.tr i) → s.rsn (s.tr i) = 0 → so' (s.tr i)) : (s.cut m).Rsn so' := by
  intro i hi
  have hi' : i < m := hi
  have e : (s.cut m).rsn (s.tr i) = s.rsn (s.tr i) := if_neg fun e => by
    obtain ⟨k, hk, hmk, ek⟩ := cut_any2.1 e
    have := hT.t_inj k i hk (by omega) ek; omega
  have e1 : (s.cut m).tr i = s.tr i := rfl
  rw [e1, e]
  rcases h i (by omega) with ⟨h1, h2⟩ | h1
  · exact .inl ⟨h1, hs i hi' h2 h1⟩
  · exact .inr h1

/-- The first two literals change places. -/
def swp (s : St) (a : Nat) : St := { s with lt := fun b i => if b = a then (if i = 0 then s.lt a 1 else if i = 1 then s.lt a 0 else s.lt a i) else s.lt b i }
/-- Where a literal went. -/
def sw (i : Nat) : Nat := if i = 0 then 1 else if i = 1 then 0 else i
theorem sw_sw (i : Nat) : sw (sw i) = i := by unfold sw; split <;> split <;> (try split) <;> omega
theorem sw_lt {i n : Nat} (h : i < n) (hn : 2 ≤ n) : sw i < n := by unfold sw; split <;> (try split) <;> omega
theorem sw_inj {i j : Nat} (h : sw i = sw j) : i = j := by rw [← sw_sw i, h, sw_sw]
theorem swp_lt (s : St) (a b i : Nat) : (s.swp a).lt b i = s.lt b (if b = a then sw i else i) := by
  show (if b = a then (if i = 0 then s.lt a 1 else if i = 1 then s.lt a 0 else s.lt a i) else s.lt b i) = _
  unfold sw
  split
  · next e => subst e; split <;> (try split) <;> rfl
  · rfl
theorem swp_lit {s : St} {a : Nat} (h2 : 2 ≤ s.ln a) (b p : Nat) : (s.swp a).Lit b p ↔ s.Lit b p := by
  constructor
  · rintro ⟨i, hi, e⟩
    rw [swp_lt] at e
    refine ⟨_, ?_, e⟩
    split
    · next e2 => subst e2; exact sw_lt hi h2
    · exact hi
  · rintro ⟨i, hi, e⟩
    by_cases e2 : b = a
    · subst e2
      exact ⟨sw i, sw_lt hi h2, by rw [swp_lt, if_pos rfl, sw_sw]; exact e⟩
    · exact ⟨i, hi, by rw [swp_lt, if_neg e2]; exact e⟩
theorem Base.swp {s : St} {lv : Nat → Nat → Prop} (h : Base s lv) {a : Nat} (h2 : 2 ≤ s.ln a) : Base (s.swp a) lv := by
  have hix : ∀ b i, i < s.ln b → (if b = a then sw i else i) < s.ln b := by
    intro b i hi; split
    · next e => subst e; exact sw_lt hi h2
    · exact hi
  refine ⟨⟨h.vars.pos, h.vars.inj⟩, ⟨h.tra.t_lt, h.tra.t_inj, h.tra.v_tr, h.tra.v_neg, h.tra.v_rng, h.tra.d_le⟩, ⟨h.cls.c1, ?_, ?_, ?_, h.cls.c_gone, h.cls.s_ok, h.cls.s_all, h.cls.s_le⟩, ⟨?_, ?_, h.wat.w_uni⟩, h.lens⟩
  · intro b i hb hi; rw [swp_lt]; exact h.cls.c_lt b _ hb (hix b i hi)
  · intro b i j hb hi hj e
    rw [swp_lt, swp_lt] at e
    have := h.cls.c_ne b _ _ hb (hix b i hi) (hix b j hj) e
    split at this
    · exact sw_inj this
    · exact this
  · intro b i j hb hi hj; rw [swp_lt, swp_lt]; exact h.cls.c_nt b _ _ hb (hix b i hi) (hix b j hj)
  · intro l j hl hj hv
    obtain ⟨h3, h4, h5, h6⟩ := h.wat.w_ok l j hl hj hv
    refine ⟨h3, h4, h5, fun hg => ?_⟩
    obtain ⟨h7, h8, h9⟩ := h6 hg
    refine ⟨h7, ?_, (swp_lit h2 _ _).2 h9⟩
    show (s.swp a).lt (s.wa l j) 0 = l ∨ (s.swp a).lt (s.wa l j) 1 = l
    rw [swp_lt, swp_lt]
    split
    · exact h8.symm
    · exact h8
  · intro b i hb hn hi
    rw [swp_lt]
    exact h.wat.w_has b _ hb hn (by unfold sw; split <;> (try split) <;> (try split) <;> omega)
end St
end Go.Proofs.Ytoffhgiljnagcaa
/- What is known, as mathematics: watches that move, lists that are gone through, clauses that come and go. -/
namespace Go.Proofs.Ytoffhgiljnagcaa
namespace St

theorem swp_fol {s : St} {a : Nat} (h2 : 2 ≤ s.ln a) {m d : Nat} (h : s.Fol m d) : (s.swp a).Fol m d := by
  intro b i hb hn hi hk
  have hk' : ∃ k, k < d ∧ s.tr k = neg (s.lt b (if b = a then sw i else i)) := by
    obtain ⟨k, h3, h4⟩ := hk
    exact ⟨k, h3, by rw [← swp_lt]; exact h4⟩
  obtain ⟨k, h3, h4⟩ := h b _ hb hn (by unfold sw; split <;> (try split) <;> (try split) <;> omega) hk'
  exact ⟨k, h3, (swp_lit h2 _ _).2 h4⟩
theorem swp_rsn {s : St} {a : Nat} (h2 : 2 ≤ s.ln a) {so : Nat → Prop} (h : s.Rsn so) : (s.swp a).Rsn so := by
  intro i hi
  rcases h i hi with h1 | ⟨h1, h2', h3⟩
  · exact .inl h1
  · exact .inr ⟨h1, (swp_lit h2 _ _).2 h2', fun p hp => h3 p ((swp_lit h2 _ _).1 hp)⟩

/-- What watches: only the lists' entries have turned. -/
def lists (s : St) (wn' : Nat → Nat) (wa' wo' : Nat → Nat → Nat) : St := { s with wn := wn', wa := wa', wo := wo' }
theorem Wat.turn {s : St} {lv lv' : Nat → Nat → Prop} (h : Wat s lv) {wn' : Nat → Nat} {wa' wo' : Nat → Nat → Nat} (φ : Nat → Nat → Nat)
    (h1 : ∀ l j, l < 2 * s.nv → j < wn' l → lv' l j → φ l j < s.wn l ∧ lv l (φ l j) ∧ wa' l j = s.wa l (φ l j) ∧ wo' l j < 2 * s.nv ∧ (s.gone (wa' l j) = false → s.Lit (wa' l j) (wo' l j)))
    (h2 : ∀ l j k, l < 2 * s.nv → j < wn' l → k < wn' l → lv' l j → lv' l k → φ l j = φ l k → j = k)
    (h3 : ∀ l j, j < s.wn l → lv l j → s.gone (s.wa l j) = false → ∃ j', j' < wn' l ∧ lv' l j' ∧ wa' l j' = s.wa l j) : Wat (s.lists wn' wa' wo') lv' := by
  refine ⟨?_, ?_, ?_⟩
  · intro l j hl hj hv
    obtain ⟨a1, a2, a3, a4, a5⟩ := h1 l j hl hj hv
    obtain ⟨b1, b2, b3, b4⟩ := h.w_ok l _ hl a1 a2
    show 1 ≤ wa' l j ∧ wa' l j < s.nc ∧ wo' l j < 2 * s.nv ∧ (s.gone (wa' l j) = false → 2 ≤ s.ln (wa' l j) ∧ (s.lt (wa' l j) 0 = l ∨ s.lt (wa' l j) 1 = l) ∧ s.Lit (wa' l j) (wo' l j))
    refine ⟨by omega, by omega, a4, fun hg => ?_⟩
    have hg' := hg
    rw [a3] at hg'
    obtain ⟨c1, c2, c3⟩ := b4 hg'
    exact ⟨by rw [a3]; exact c1, by rw [a3]; exact c2, a5 hg⟩
  · intro a i ha hn hi
    obtain ⟨j, hj, hv, e⟩ := h.w_has a i ha hn hi
    obtain ⟨j', hj', hv', e'⟩ := h3 _ j hj hv (by rw [e]; exact ha.2.2)
    exact ⟨j', hj', hv', e'.trans e⟩
  · intro l j k hl hj hk hvj hvk e
    replace e : wa' l j = wa' l k := e
    obtain ⟨a1, a2, a3, _⟩ := h1 l j hl hj hvj
    obtain ⟨b1, b2, b3, _⟩ := h1 l k hl hk hvk
    exact h2 l j k hl hj hk hvj hvk (h.w_uni l _ _ hl a1 b1 a2 b2 (by rw [← a3, ← b3, e]))

/-- A list that is gone through: the first k stay, those from n on are to come. -/
def lvF (l k n : Nat) : Nat → Nat → Prop := fun l' j => l' ≠ l ∨ j < k ∨ n ≤ j

theorem Wat.start {s : St} (h : Wat s All) (l : Nat) : Wat s (lvF l 0 0) := by
  refine h.turn (s := s) (wn' := s.wn) (wa' := s.wa) (wo' := s.wo) (fun _ j => j) ?_ (fun _ _ _ _ _ _ _ _ e => e) ?_
  · intro l' j hl hj _
    obtain ⟨b1, b2, b3, b4⟩ := h.w_ok l' j hl hj trivial
    exact ⟨hj, trivial, rfl, b3, fun hg => (b4 hg).2.2⟩
  · exact fun l' j hj _ _ => ⟨j, hj, .inr (.inr (Nat.zero_le _)), rfl⟩

/-- An entry of a clause that is gone falls. -/
theorem Wat.drop {s : St} {l k n : Nat} (h : Wat s (lvF l k n)) (hg : s.gone (s.wa l n) = true) : Wat s (lvF l k (n + 1)) := by
  refine h.turn (s := s) (wn' := s.wn) (wa' := s.wa) (wo' := s.wo) (fun _ j => j) ?_ (fun _ _ _ _ _ _ _ _ e => e) ?_
  · intro l' j hl hj hv
    have hv' : lvF l k n l' j := by
      rcases hv with h1 | h1 | h1
      · exact .inl h1
      · exact .inr (.inl h1)
      · exact .inr (.inr (by omega))
    obtain ⟨b1, b2, b3, b4⟩ := h.w_ok l' j hl hj hv'
    exact ⟨hj, hv', rfl, b3, fun hg => (b4 hg).2.2⟩
  · intro l' j hj hv hg'
    refine ⟨j, hj, ?_, rfl⟩
    rcases hv with h1 | h1 | h1
    · exact .inl h1
    · exact .inr (.inl h1)
    · by_cases e : l' = l ∧ j = n
      · obtain ⟨rfl, rfl⟩ := e; rw [hg] at hg'; cases hg'
      · by_cases e2 : l' = l
        · exact .inr (.inr (by omega))
        · exact .inl e2

def kee (s : St) (l k a o : Nat) : St := s.lists s.wn (fun l' j => if l' = l ∧ j = k then a else s.wa l' j) (fun l' j => if l' = l ∧ j = k then o else s.wo l' j)
/-- An entry stays, perhaps with another literal beside it. -/
theorem Wat.kee {s : St} {l k n o : Nat} (h : Wat s (lvF l k n)) (hk : k ≤ n) (hn : n < s.wn l) (hl : l < 2 * s.nv) (ho : o < 2 * s.nv) (hL : s.gone (s.wa l n) = false → s.Lit (s.wa l n) o) :
    Wat (s.kee l k (s.wa l n) o) (lvF l (k + 1) (n + 1)) := by
  refine h.turn (fun l' j => if l' = l ∧ j = k then n else j) ?_ ?_ ?_
  · intro l' j hl' hj hv
    show (if l' = l ∧ j = k then n else j) < s.wn l' ∧ lvF l k n l' (if l' = l ∧ j = k then n else j) ∧ (if l' = l ∧ j = k then s.wa l n else s.wa l' j) = s.wa l' (if l' = l ∧ j = k then n else j) ∧ (if l' = l ∧ j = k then o else s.wo l' j) < 2 * s.nv ∧ (s.gone (if l' = l ∧ j = k then s.wa l n else s.wa l' j) = false → s.Lit (if l' = l ∧ j = k then s.wa l n else s.wa l' j) (if l' = l ∧ j = k then o else s.wo l' j))
    by_cases e : l' = l ∧ j = k
    · simp only [if_pos e]
      obtain ⟨rfl, rfl⟩ := e
      exact ⟨hn, .inr (.inr (Nat.le_refl _)), rfl, ho, hL⟩
    · simp only [if_neg e]
      have hv' : lvF l k n l' j := by
        rcases hv with h1 | h1 | h1
        · exact .inl h1
        · by_cases e2 : l' = l
          · exact .inr (.inl (by omega))
          · exact .inl e2
        · exact .inr (.inr (by omega))
      obtain ⟨b1, b2, b3, b4⟩ := h.w_ok l' j hl' hj hv'
      exact ⟨hj, hv', trivial, b3, fun hg => (b4 hg).2.2⟩
  · intro l' j j' hl' hj hj' hv hv' e
    replace e : (if l' = l ∧ j = k then n else j) = (if l' = l ∧ j' = k then n else j') := e
    split at e <;> split at e
    · omega
    · next a b =>
      rcases hv' with h1 | h1 | h1
      · exact absurd a.1 h1
      · omega
      · omega
    · next a b =>
      rcases hv with h1 | h1 | h1
      · exact absurd b.1 h1
      · omega
      · omega
    · exact e
  · intro l' j hj hv hg
    by_cases e : l' = l
    · subst e
      by_cases e2 : j = n
      · subst e2
        exact ⟨k, Nat.lt_of_le_of_lt hk hn, .inr (.inl (by omega)), by show (if _ then _ else _) = _; rw [if_pos ⟨rfl, rfl⟩]⟩
      · rcases hv with h1 | h1 | h1
        · exact absurd rfl h1
        · exact ⟨j, hj, .inr (.inl (by omega)), if_neg (by omega)⟩
        · exact ⟨j, hj, .inr (.inr (by omega)), if_neg (by omega)⟩
    · exact ⟨j, hj, .inl e, if_neg (fun e2 => e e2.1)⟩

def cpt (s : St) (l k n : Nat) : St := s.lists (fun l' => if l' = l then k + (s.wn l - n) else s.wn l') (fun l' j => if l' = l ∧ k ≤ j then s.wa l (j - k + n) else s.wa l' j) (fun l' j => if l' = l ∧ k ≤ j then s.wo l (j - k + n) else s.wo l' j)
/-- What is left closes up. -/
theorem Wat.cpt {s : St} {l k n : Nat} (h : Wat s (lvF l k n)) (hk : k ≤ n) (hn : n ≤ s.wn l) : Wat (s.cpt l k n) All := by
  refine h.turn (fun l' j => if l' = l ∧ k ≤ j then j - k + n else j) ?_ ?_ ?_
  · intro l' j hl' hj _
    replace hj : j < (if l' = l then k + (s.wn l - n) else s.wn l') := hj
    show (if l' = l ∧ k ≤ j then j - k + n else j) < s.wn l' ∧ lvF l k n l' (if l' = l ∧ k ≤ j then j - k + n else j) ∧ (if l' = l ∧ k ≤ j then s.wa l (j - k + n) else s.wa l' j) = s.wa l' (if l' = l ∧ k ≤ j then j - k + n else j) ∧ (if l' = l ∧ k ≤ j then s.wo l (j - k + n) else s.wo l' j) < 2 * s.nv ∧ (s.gone (if l' = l ∧ k ≤ j then s.wa l (j - k + n) else s.wa l' j) = false → s.Lit (if l' = l ∧ k ≤ j then s.wa l (j - k + n) else s.wa l' j) (if l' = l ∧ k ≤ j then s.wo l (j - k + n) else s.wo l' j))
    by_cases e : l' = l ∧ k ≤ j
    · simp only [if_pos e]
      obtain ⟨rfl, e2⟩ := e
      rw [if_pos rfl] at hj
      have hv' : lvF l' k n l' (j - k + n) := .inr (.inr (by omega))
      obtain ⟨b1, b2, b3, b4⟩ := h.w_ok l' (j - k + n) hl' (by omega) hv'
      exact ⟨by omega, hv', rfl, b3, fun hg => (b4 hg).2.2⟩
    · simp only [if_neg e]
      have hj' : j < s.wn l' := by
        split at hj
        · next e2 => subst e2; omega
        · exact hj
      have hv' : lvF l k n l' j := by
        by_cases e2 : l' = l
        · exact .inr (.inl (by omega))
        · exact .inl e2
      obtain ⟨b1, b2, b3, b4⟩ := h.w_ok l' j hl' hj' hv'
      exact ⟨hj', hv', trivial, b3, fun hg => (b4 hg).2.2⟩
  · intro l' j j' hl' hj hj' _ _ e
    replace e : (if l' = l ∧ k ≤ j then j - k + n else j) = (if l' = l ∧ k ≤ j' then j' - k + n else j') := e
    split at e <;> split at e <;> omega
  · intro l' j hj hv hg
    by_cases e : l' = l
    · subst e
      rcases hv with h1 | h1 | h1
      · exact absurd rfl h1
      · exact ⟨j, by rw [if_pos rfl]; omega, trivial, if_neg (by omega)⟩
      · exact ⟨j - n + k, by rw [if_pos rfl]; omega, trivial, by show (if _ then _ else _) = _; rw [if_pos ⟨rfl, by omega⟩, show j - n + k - k + n = j by omega]⟩
    · exact ⟨j, by rw [if_neg e]; exact hj, trivial, if_neg (fun e2 => e e2.1)⟩

/-- One more entry in the list of m. -/
def ent (s : St) (m a o : Nat) : St := s.lists (fun l => if l = m then s.wn m + 1 else s.wn l) (fun l j => if l = m ∧ j = s.wn m then a else s.wa l j) (fun l j => if l = m ∧ j = s.wn m then o else s.wo l j)
/-- The second literal and that at i change places. -/
def mv (i j : Nat) : Nat := if j = 1 then i else if j = i then 1 else j
theorem mv_mv (i j : Nat) : mv i (mv i j) = j := by unfold mv; split <;> split <;> (try split) <;> omega
theorem mv_lt {i j n : Nat} (h : j < n) (hi : i < n) (hn : 2 ≤ n) : mv i j < n := by unfold mv; split <;> (try split) <;> omega
theorem mv_inj {i j k : Nat} (h : mv i j = mv i k) : j = k := by rw [← mv_mv i j, h, mv_mv]
def mov (s : St) (a i : Nat) : St := { s with lt := fun b j => if b = a then (if j = 1 then s.lt a i else if j = i then s.lt a 1 else s.lt a j) else s.lt b j }
theorem mov_lt (s : St) (a i b j : Nat) : (s.mov a i).lt b j = s.lt b (if b = a then mv i j else j) := by
  show (if b = a then (if j = 1 then s.lt a i else if j = i then s.lt a 1 else s.lt a j) else s.lt b j) = _
  unfold mv
  split
  · next e => subst e; split <;> (try split) <;> rfl
  · rfl
theorem mov_lit {s : St} {a i : Nat} (hi : i < s.ln a) (h2 : 2 ≤ s.ln a) (b p : Nat) : (s.mov a i).Lit b p ↔ s.Lit b p := by
  constructor
  · rintro ⟨j, hj, e⟩
    rw [mov_lt] at e
    refine ⟨_, ?_, e⟩
    split
    · next e2 => subst e2; exact mv_lt hj hi h2
    · exact hj
  · rintro ⟨j, hj, e⟩
    by_cases e2 : b = a
    · subst e2
      exact ⟨mv i j, mv_lt hj hi h2, by rw [mov_lt, if_pos rfl, mv_mv]; exact e⟩
    · exact ⟨j, hj, by rw [mov_lt, if_neg e2]; exact e⟩
theorem Cls.mov {s : St} (h : Cls s) {a i : Nat} (hi : i < s.ln a) (h2 : 2 ≤ s.ln a) : Cls (s.mov a i) := by
  have hix : ∀ b j, j < s.ln b → (if b = a then mv i j else j) < s.ln b := by
    intro b j hj; split
    · next e => subst e; exact mv_lt hj hi h2
    · exact hj
  refine ⟨h.c1, ?_, ?_, ?_, h.c_gone, h.s_ok, h.s_all, h.s_le⟩
  · intro b j hb hj; rw [mov_lt]; exact h.c_lt b _ hb (hix b j hj)
  · intro b j k hb hj hk e
    rw [mov_lt, mov_lt] at e
    have := h.c_ne b _ _ hb (hix b j hj) (hix b k hk) e
    split at this
    · exact mv_inj this
    · exact this
  · intro b j k hb hj hk; rw [mov_lt, mov_lt]; exact h.c_nt b _ _ hb (hix b j hj) (hix b k hk)
theorem mov_rsn {s : St} {a i : Nat} (hi : i < s.ln a) (h2 : 2 ≤ s.ln a) {so : Nat → Prop} (h : s.Rsn so) : (s.mov a i).Rsn so := by
  intro k hk
  rcases h k hk with h1 | ⟨h1, h2', h3⟩
  · exact .inl h1
  · exact .inr ⟨h1, (mov_lit hi h2 _ _).2 h2', fun p hp => h3 p ((mov_lit hi h2 _ _).1 hp)⟩
theorem mov_fol {s : St} {a i : Nat} (hi : i < s.ln a) (h2 : 2 ≤ s.ln a) (hi2 : 2 ≤ i) {m d : Nat} (h : s.Fol m d) (hv : ∀ k, k < d → s.tr k ≠ neg (s.lt a i)) : (s.mov a i).Fol m d := by
  intro b j hb hn hj ⟨k, hk, e⟩
  rw [mov_lt] at e
  replace e : s.tr k = neg (s.lt b (if b = a then mv i j else j)) := e
  have : ∃ k, k < m ∧ s.Lit b (s.tr k) := by
    by_cases e2 : b = a
    · rw [if_pos e2] at e
      subst e2
      by_cases e3 : j = 1
      · subst e3
        exact absurd (by rw [e]; rfl) (hv k hk)
      · have e4 : mv i j = j := by unfold mv; rw [if_neg e3, if_neg (by omega)]
        rw [e4] at e
        exact h b j hb hn hj ⟨k, hk, e⟩
    · rw [if_neg e2] at e
      exact h b j hb hn hj ⟨k, hk, e⟩
  obtain ⟨k', h3, h4⟩ := this
  exact ⟨k', h3, (mov_lit hi h2 _ _).2 h4⟩

/-- A clause watches another literal. -/
theorem Wat.move {s : St} {l k n i : Nat} (h : Wat s (lvF l k n)) (hc : Cls s) (hk : k ≤ n) (hn : n < s.wn l) (hl : l < 2 * s.nv) (hg : s.gone (s.wa l n) = false) (h1 : s.lt (s.wa l n) 1 = l) (hi : i < s.ln (s.wa l n)) (hi2 : 2 ≤ i) :
    Wat ((s.mov (s.wa l n) i).ent (s.lt (s.wa l n) i) (s.wa l n) (s.lt (s.wa l n) 0)) (lvF l k (n + 1)) := by
  obtain ⟨w1, w2, w3, w4⟩ := h.w_ok l n hl hn (.inr (.inr (Nat.le_refl _)))
  obtain ⟨w5, _, _⟩ := w4 hg
  generalize ha : s.wa l n = a at *
  have hml : s.lt a i ≠ l := fun e => by have := hc.c_ne a i 1 w2 hi (by omega) (e.trans h1.symm); omega
  have hm0 : s.lt a i ≠ s.lt a 0 := fun e => by have := hc.c_ne a i 0 w2 hi (by omega) e; omega
  have hl0 : s.lt a 0 ≠ l := fun e => by have := hc.c_ne a 0 1 w2 (by omega) (by omega) (e.trans h1.symm); omega
  have hml2 : ∀ j, j < s.wn (s.lt a i) → s.wa (s.lt a i) j ≠ a := by
    intro j hj e
    obtain ⟨_, _, _, b4⟩ := h.w_ok (s.lt a i) j (hc.c_lt a i w2 hi) hj (.inl hml)
    rw [e] at b4
    rcases (b4 hg).2.1 with e2 | e2
    · exact hm0 e2.symm
    · exact hml (e2.symm.trans h1)
  have up : ∀ l' j, lvF l k (n + 1) l' j → lvF l k n l' j := by
    intro l' j hv
    rcases hv with h1 | h1 | h1
    · exact .inl h1
    · exact .inr (.inl h1)
    · exact .inr (.inr (by omega))
  refine ⟨?_, ?_, ?_⟩
  · intro l' j hl' hj hv
    replace hj : j < (if l' = s.lt a i then s.wn (s.lt a i) + 1 else s.wn l') := hj
    show 1 ≤ (if l' = s.lt a i ∧ j = s.wn (s.lt a i) then a else s.wa l' j) ∧ (if l' = s.lt a i ∧ j = s.wn (s.lt a i) then a else s.wa l' j) < s.nc ∧ (if l' = s.lt a i ∧ j = s.wn (s.lt a i) then s.lt a 0 else s.wo l' j) < 2 * s.nv ∧
      (s.gone (if l' = s.lt a i ∧ j = s.wn (s.lt a i) then a else s.wa l' j) = false → 2 ≤ s.ln (if l' = s.lt a i ∧ j = s.wn (s.lt a i) then a else s.wa l' j) ∧ ((s.mov a i).lt (if l' = s.lt a i ∧ j = s.wn (s.lt a i) then a else s.wa l' j) 0 = l' ∨ (s.mov a i).lt (if l' = s.lt a i ∧ j = s.wn (s.lt a i) then a else s.wa l' j) 1 = l') ∧ (s.mov a i).Lit (if l' = s.lt a i ∧ j = s.wn (s.lt a i) then a else s.wa l' j) (if l' = s.lt a i ∧ j = s.wn (s.lt a i) then s.lt a 0 else s.wo l' j))
    by_cases e : l' = s.lt a i ∧ j = s.wn (s.lt a i)
    · simp only [if_pos e]
      obtain ⟨rfl, rfl⟩ := e
      exact ⟨w1, w2, hc.c_lt a 0 w2 (by omega), fun _ => ⟨w5, .inr (by rw [mov_lt, if_pos rfl]; rfl), (mov_lit hi w5 _ _).2 ⟨0, by omega, rfl⟩⟩⟩
    · simp only [if_neg e]
      have hj' : j < s.wn l' := by
        split at hj
        · next e2 => subst e2; omega
        · exact hj
      obtain ⟨b1, b2, b3, b4⟩ := h.w_ok l' j hl' hj' (up _ _ hv)
      refine ⟨b1, b2, b3, fun hg' => ?_⟩
      obtain ⟨c1, c2, c3⟩ := b4 hg'
      refine ⟨c1, ?_, (mov_lit hi w5 _ _).2 c3⟩
      by_cases e2 : s.wa l' j = a
      · rw [e2] at c2 ⊢
        rw [mov_lt, mov_lt, if_pos rfl, if_pos rfl]
        have e0 : mv i 0 = 0 := by unfold mv; rw [if_neg (by omega), if_neg (by omega)]
        rw [e0]
        rcases c2 with c2 | c2
        · exact .inl c2
        · exfalso
          have hll : l' = l := c2.symm.trans h1
          subst hll
          have := h.w_uni l' j n hl' hj' hn (up _ _ hv) (.inr (.inr (Nat.le_refl _))) (e2.trans ha.symm)
          subst this
          rcases hv with x | x | x
          · exact x rfl
          · omega
          · omega
      · rw [mov_lt, mov_lt, if_neg e2, if_neg e2]; exact c2
  · intro b j hb h2 hj
    replace hb : s.Is b := hb
    replace h2 : 2 ≤ s.ln b := h2
    by_cases e : b = a
    · subst e
      by_cases e1 : j = 1
      · subst e1
        have e2 : ((s.mov b i).ent (s.lt b i) b (s.lt b 0)).lt b 1 = s.lt b i := by
          show (s.mov b i).lt b 1 = _
          rw [mov_lt, if_pos rfl]; rfl
        rw [e2]
        exact ⟨s.wn (s.lt b i), Nat.lt_of_lt_of_eq (Nat.lt_succ_self _) (if_pos rfl).symm, .inl hml, by show (if _ then _ else _) = _; exact if_pos ⟨rfl, rfl⟩⟩
      · have e0 : j = 0 := by omega
        subst e0
        have e2 : ((s.mov b i).ent (s.lt b i) b (s.lt b 0)).lt b 0 = s.lt b 0 := by
          show (s.mov b i).lt b 0 = _
          rw [mov_lt, if_pos rfl]; congr 1; unfold mv; rw [if_neg (by omega), if_neg (by omega)]
        rw [e2]
        obtain ⟨j, hj1, hj2, hj3⟩ := h.w_has b 0 hb h2 (by omega)
        exact ⟨j, by show _ < (if _ then _ else _); rw [if_neg (Ne.symm hm0)]; exact hj1, .inl hl0, by show (if _ then _ else _) = b; rw [if_neg (fun e => hm0 e.1.symm)]; exact hj3⟩
    · have e2 : ((s.mov a i).ent (s.lt a i) a (s.lt a 0)).lt b j = s.lt b j := by
        show (s.mov a i).lt b j = _
        rw [mov_lt, if_neg e]
      rw [e2]
      obtain ⟨j', hj1, hj2, hj3⟩ := h.w_has b j hb h2 hj
      refine ⟨j', ?_, ?_, ?_⟩
      · show j' < (if s.lt b j = s.lt a i then s.wn (s.lt a i) + 1 else s.wn (s.lt b j))
        split
        · next e3 => rw [← e3]; omega
        · exact hj1
      · rcases hj2 with x | x | x
        · exact .inl x
        · exact .inr (.inl x)
        · by_cases e4 : s.lt b j = l
          · refine .inr (.inr ?_)
            have : j' ≠ n := fun e5 => by rw [e4, e5, ha] at hj3; exact e hj3.symm
            omega
          · exact .inl e4
      · show (if s.lt b j = s.lt a i ∧ j' = s.wn (s.lt a i) then a else s.wa (s.lt b j) j') = b
        rw [if_neg (fun e3 => by rw [e3.1, e3.2] at hj1; omega)]
        exact hj3
  · intro l' j j' hl' hj hj' hv hv' e
    replace hj : j < (if l' = s.lt a i then s.wn (s.lt a i) + 1 else s.wn l') := hj
    replace hj' : j' < (if l' = s.lt a i then s.wn (s.lt a i) + 1 else s.wn l') := hj'
    replace e : (if l' = s.lt a i ∧ j = s.wn (s.lt a i) then a else s.wa l' j) = (if l' = s.lt a i ∧ j' = s.wn (s.lt a i) then a else s.wa l' j') := e
    by_cases e1 : l' = s.lt a i ∧ j = s.wn (s.lt a i) <;> by_cases e2 : l' = s.lt a i ∧ j' = s.wn (s.lt a i)
    · omega
    · rw [if_pos e1, if_neg e2] at e
      obtain ⟨rfl, rfl⟩ := e1
      rw [if_pos rfl] at hj'
      exact absurd e.symm (hml2 j' (by omega))
    · rw [if_neg e1, if_pos e2] at e
      obtain ⟨rfl, rfl⟩ := e2
      rw [if_pos rfl] at hj
      exact absurd e (hml2 j (by omega))
    · rw [if_neg e1, if_neg e2] at e
      refine h.w_uni l' j j' hl' ?_ ?_ (up _ _ hv) (up _ _ hv') e
      · split at hj
        · next x => subst x; omega
        · exact hj
      · split at hj'
        · next x => subst x; omega
        · exact hj'
end St
end Go.Proofs.Ytoffhgiljnagcaa
/- What is known, as mathematics: a list that is gone through, when its literal has become false. -/
namespace Go.Proofs.Ytoffhgiljnagcaa
namespace St

/-- What stays, and what only grows. -/
structure Ext (s s' : St) : Prop where
  nv : s.nv ≤ s'.nv
  vr : ∀ n, n < s.nv → s'.vr n = s.vr n
  nc : s'.nc = s.nc
  gone : s'.gone = s.gone
  ln : s'.ln = s.ln
  lit : ∀ a p, s'.Lit a p ↔ s.Lit a p
  ns : s'.ns = s.ns
  sh : s'.sh = s.sh
  nt : s.nt ≤ s'.nt
  tr : ∀ i, i < s.nt → s'.tr i = s.tr i
  rsn : ∀ i, i < s.nt → s'.rsn (s.tr i) = s.rsn (s.tr i)
  settled : s'.settled = s.settled
  broken : s'.broken = s.broken
theorem Ext.refl (s : St) : Ext s s := ⟨Nat.le_refl _, fun _ _ => rfl, rfl, rfl, rfl, fun _ _ => Iff.rfl, rfl, rfl, Nat.le_refl _, fun _ _ => rfl, fun _ _ => rfl, rfl, rfl⟩
theorem Ext.trans {a b c : St} (h : Ext a b) (k : Ext b c) : Ext a c :=
  ⟨Nat.le_trans h.nv k.nv, fun n hn => (k.vr n (Nat.lt_of_lt_of_le hn h.nv)).trans (h.vr n hn), k.nc.trans h.nc, k.gone.trans h.gone, k.ln.trans h.ln, fun x p => (k.lit x p).trans (h.lit x p), k.ns.trans h.ns, k.sh.trans h.sh, Nat.le_trans h.nt k.nt,
    fun i hi => (k.tr i (Nat.lt_of_lt_of_le hi h.nt)).trans (h.tr i hi), fun i hi => by
      have h1 := k.rsn i (Nat.lt_of_lt_of_le hi h.nt)
      rw [h.tr i hi] at h1
      exact h1.trans (h.rsn i hi), k.settled.trans h.settled, k.broken.trans h.broken⟩
theorem Ext.put {s : St} (hT : Tra s) {p r : Nat} (hp : p < 2 * s.nv) (h0 : s.val p = 0) : Ext s (s.put p r) := by
  refine ⟨Nat.le_refl _, fun _ _ => rfl, rfl, rfl, rfl, fun _ _ => Iff.rfl, rfl, rfl, Nat.le_succ _, fun i hi => if_neg (by omega), fun i hi => if_neg fun e => ?_, rfl, rfl⟩
  have := (hT.v_tr p hp).2 ⟨i, hi, e⟩
  omega
theorem Ext.swp {s : St} {a : Nat} (h2 : 2 ≤ s.ln a) : Ext s (s.swp a) :=
  ⟨Nat.le_refl _, fun _ _ => rfl, rfl, rfl, rfl, swp_lit h2, rfl, rfl, Nat.le_refl _, fun _ _ => rfl, fun _ _ => rfl, rfl, rfl⟩
theorem Ext.mov {s : St} {a i : Nat} (hi : i < s.ln a) (h2 : 2 ≤ s.ln a) : Ext s (s.mov a i) :=
  ⟨Nat.le_refl _, fun _ _ => rfl, rfl, rfl, rfl, mov_lit hi h2, rfl, rfl, Nat.le_refl _, fun _ _ => rfl, fun _ _ => rfl, rfl, rfl⟩
theorem Ext.lists (s : St) (wn' : Nat → Nat) (wa' wo' : Nat → Nat → Nat) : Ext s (s.lists wn' wa' wo') :=
  ⟨Nat.le_refl _, fun _ _ => rfl, rfl, rfl, rfl, fun _ _ => Iff.rfl, rfl, rfl, Nat.le_refl _, fun _ _ => rfl, fun _ _ => rfl, rfl, rfl⟩
theorem Ext.ext_eq {s s' : St} (h : Ext s s') {p : Nat} (hp : p < 2 * s.nv) : s'.ext p = s.ext p := by
  unfold St.ext; rw [h.vr _ (by omega)]
theorem Ext.is_iff {s s' : St} (h : Ext s s') (a : Nat) : s'.Is a ↔ s.Is a := by unfold Is; rw [h.nc, h.gone]

theorem Base.lists {s : St} {lv lv' : Nat → Nat → Prop} (h : Base s lv) {wn' : Nat → Nat} {wa' wo' : Nat → Nat → Nat} (hw : Wat (s.lists wn' wa' wo') lv') : Base (s.lists wn' wa' wo') lv' :=
  ⟨⟨h.vars.pos, h.vars.inj⟩, ⟨h.tra.t_lt, h.tra.t_inj, h.tra.v_tr, h.tra.v_neg, h.tra.v_rng, h.tra.d_le⟩, ⟨h.cls.c1, h.cls.c_lt, h.cls.c_ne, h.cls.c_nt, h.cls.c_gone, h.cls.s_ok, h.cls.s_all, h.cls.s_le⟩, hw, h.lens⟩
theorem Base.wat_ {s : St} {lv lv' : Nat → Nat → Prop} (h : Base s lv) (hw : Wat s lv') : Base s lv' := ⟨h.vars, h.tra, h.cls, hw, h.lens⟩

def Sat (s : St) (a : Nat) : Prop := ∃ k, k < s.nt ∧ s.Lit a (s.tr k)
theorem Tra.sat {s : St} (h : Tra s) {a p : Nat} (hp : p < 2 * s.nv) (hl : s.Lit a p) (hv : s.val p = 1) : s.Sat a := by
  obtain ⟨k, hk, e⟩ := (h.v_tr p hp).1 hv
  exact ⟨k, hk, e ▸ hl⟩
/-- The clauses that watch l, which became true's negation at d: satisfied, or still to come. -/
def FolL (s : St) (l d n : Nat) : Prop := ∀ a i, s.Is a → 2 ≤ s.ln a → i < 2 → ((∃ k, k < d ∧ s.tr k = neg (s.lt a i)) → s.Sat a) ∧ (s.lt a i = l → s.Sat a ∨ ∃ j, n ≤ j ∧ j < s.wn l ∧ s.wa l j = a)

/-- While a list is gone through. -/
structure FIw (s0 : St) (so : Nat → Prop) (fr l : Nat) (s : St) (k n : Nat) : Prop where
  base : Base s (lvF l k n)
  ext : Ext s0 s
  fb : s.Fol fr fr
  rs : s.Rsn so
  kn : k ≤ n
  nw : n ≤ s.wn l
  vl : s.val l = -1
  hl : l < 2 * s.nv
  dn : s.done = s0.done
  nv : s.nv = s0.nv
structure FI (s0 : St) (so : Nat → Prop) (fr l d : Nat) (s : St) (k n : Nat) : Prop extends FIw s0 so fr l s k n where
  fl : s.FolL l d n
  dt : d ≤ s.nt
  ft : fr ≤ s.nt

theorem FI.start {s : St} {so : Nat → Prop} {fr l d : Nat} (hb : Base s All) (hf : s.Fol fr fr) (hr : s.Rsn so) (hF : s.Fol s.nt d) (hl : l < 2 * s.nv) (hv : s.val l = -1) (hd : d ≤ s.nt) (hft : fr ≤ s.nt) : FI s so fr l d s 0 0 := by
  refine ⟨⟨hb.wat_ (hb.wat.start l), .refl s, hf, hr, Nat.le_refl _, Nat.zero_le _, hv, hl, rfl, rfl⟩, fun a i ha h2 hi => ⟨hF a i ha h2 hi, fun e => ?_⟩, hd, hft⟩
  obtain ⟨j, hj, _, ej⟩ := hb.wat.w_has a i ha h2 hi
  rw [e] at hj ej
  exact .inr ⟨j, Nat.zero_le _, hj, ej⟩

/-- At the end. -/
theorem FIw.end_ {s0 s : St} {so : Nat → Prop} {fr l k n : Nat} (h : FIw s0 so fr l s k n) : Base (s.cpt l k n) All ∧ Ext s0 (s.cpt l k n) ∧ (s.cpt l k n).Fol fr fr ∧ (s.cpt l k n).Rsn so :=
  ⟨h.base.lists (h.base.wat.cpt h.kn h.nw), h.ext.trans (.lists _ _ _ _), h.fb, h.rs⟩
theorem FI.fol {s0 s : St} {so : Nat → Prop} {fr l d k n : Nat} (h : FI s0 so fr l d s k n) (hn : s.wn l ≤ n) (hd : s.tr d = neg l) : (s.cpt l k n).Fol s.nt (d + 1) := by
  rintro a i ha h2 hi ⟨j, hj, e⟩
  obtain ⟨h3, h4⟩ := h.fl a i ha h2 hi
  by_cases e2 : j = d
  · subst e2
    have e3 : s.lt a i = l := by
      have : neg l = neg (s.lt a i) := hd.symm.trans e
      exact (neg_inj this).symm
    rcases h4 e3 with h5 | ⟨x, h5, h6, _⟩
    · exact h5
    · omega
  · exact h3 ⟨j, by omega, e⟩

/-- The entry at n falls: its clause is gone. -/
theorem FI.gone {s0 s : St} {so : Nat → Prop} {fr l d k n : Nat} (h : FI s0 so fr l d s k n) (hn : n < s.wn l) (hg : s.gone (s.wa l n) = true) : FI s0 so fr l d s k (n + 1) := by
  refine ⟨⟨h.base.wat_ (h.base.wat.drop hg), h.ext, h.fb, h.rs, by have := h.kn; omega, hn, h.vl, h.hl, h.dn, h.nv⟩, fun a i ha h2 hi => ⟨(h.fl a i ha h2 hi).1, fun e => ?_⟩, h.dt, h.ft⟩
  rcases (h.fl a i ha h2 hi).2 e with h5 | ⟨x, h5, h6, h7⟩
  · exact .inl h5
  · by_cases e2 : x = n
    · subst e2; rw [h7] at hg; have := ha.2.2; rw [hg] at this; cases this
    · exact .inr ⟨x, by omega, h6, h7⟩

/-- The entry at n stays. -/
theorem FIw.keep {s0 s : St} {so : Nat → Prop} {fr l k n o : Nat} (h : FIw s0 so fr l s k n) (hn : n < s.wn l) (ho : o < 2 * s.nv) (hL : s.gone (s.wa l n) = false → s.Lit (s.wa l n) o) : FIw s0 so fr l (s.kee l k (s.wa l n) o) (k + 1) (n + 1) :=
  ⟨h.base.lists (h.base.wat.kee h.kn hn h.hl ho hL), h.ext.trans (.lists _ _ _ _), h.fb, h.rs, by have := h.kn; omega, hn, h.vl, h.hl, h.dn, h.nv⟩
theorem FI.keep {s0 s : St} {so : Nat → Prop} {fr l d k n o : Nat} (h : FI s0 so fr l d s k n) (hn : n < s.wn l) (ho : o < 2 * s.nv) (hL : s.gone (s.wa l n) = false → s.Lit (s.wa l n) o) (hs : s.gone (s.wa l n) = false → s.Sat (s.wa l n)) :
    FI s0 so fr l d (s.kee l k (s.wa l n) o) (k + 1) (n + 1) := by
  refine ⟨h.toFIw.keep hn ho hL, fun a i ha h2 hi => ⟨(h.fl a i ha h2 hi).1, fun e => ?_⟩, h.dt, h.ft⟩
  rcases (h.fl a i ha h2 hi).2 e with h5 | ⟨x, h5, h6, h7⟩
  · exact .inl h5
  · by_cases e2 : x = n
    · subst e2; rw [h7] at hs; exact .inl (hs ha.2.2)
    · refine .inr ⟨x, by omega, h6, ?_⟩
      show (if l = l ∧ x = k then s.wa l n else s.wa l x) = a
      rw [if_neg (fun e3 => by have := h.kn; omega)]; exact h7

/-- The first two literals of a clause change places. -/
theorem FI.swp {s0 s : St} {so : Nat → Prop} {fr l d k n a : Nat} (h : FI s0 so fr l d s k n) (h2 : 2 ≤ s.ln a) : FI s0 so fr l d (s.swp a) k n := by
  refine ⟨⟨h.base.swp h2, h.ext.trans (.swp h2), swp_fol h2 h.fb, swp_rsn h2 h.rs, h.kn, h.nw, h.vl, h.hl, h.dn, h.nv⟩, fun b i hb hn hi => ?_, h.dt, h.ft⟩
  have hi' : (if b = a then sw i else i) < 2 := by unfold sw; split <;> (try split) <;> (try split) <;> omega
  obtain ⟨h3, h4⟩ := h.fl b _ hb hn hi'
  refine ⟨fun hk => ?_, fun e => ?_⟩
  · obtain ⟨k, hk, e⟩ := hk
    rw [swp_lt] at e
    obtain ⟨k', hk', hl⟩ := h3 ⟨k, hk, e⟩
    exact ⟨k', hk', (swp_lit h2 _ _).2 hl⟩
  · rw [swp_lt] at e
    rcases h4 e with ⟨k', hk', hl⟩ | h5
    · exact .inl ⟨k', hk', (swp_lit h2 _ _).2 hl⟩
    · exact .inr h5

/-- A literal becomes true. -/
theorem FI.put {s0 s : St} {so : Nat → Prop} {fr l d k n p r : Nat} (h : FI s0 so fr l d s k n) (hp : p < 2 * s.nv) (h0 : s.val p = 0)
    (hr : s.Is r ∧ s.Lit r p ∧ ∀ q, s.Lit r q → q ≠ p → q < 2 * s.nv ∧ s.val q = -1) : FI s0 so fr l d (s.put p r) k n := by
  have hT := h.base.tra
  have hpl : l ≠ p := fun e => by have := h.vl; rw [e] at this; omega
  have hpl2 : l ≠ neg p := fun e => by
    have h1 := hT.v_neg p hp
    have := h.vl; rw [e] at this; omega
  refine ⟨⟨h.base.put hp h0, h.ext.trans (.put hT hp h0), h.fb.put h.ft h.ft _ _, h.rs.put hT hp h0 (.inr hr), h.kn, h.nw, ?_, h.hl, h.dn, h.nv⟩, fun a i ha h2 hi => ?_, Nat.le_succ_of_le h.dt, Nat.le_succ_of_le h.ft⟩
  · show (if l = p then (1 : Int) else if l = neg p then -1 else s.val l) = -1
    rw [if_neg hpl, if_neg hpl2]; exact h.vl
  · obtain ⟨h3, h4⟩ := h.fl a i ha h2 hi
    have up : s.Sat a → (s.put p r).Sat a := fun ⟨k, hk, hl⟩ => ⟨k, Nat.lt_succ_of_lt hk, by
      show s.Lit a (if k = s.nt then p else s.tr k)
      rw [if_neg (by omega)]; exact hl⟩
    refine ⟨fun ⟨j, hj, e⟩ => up (h3 ⟨j, hj, ?_⟩), fun e => (h4 e).imp up id⟩
    replace e : (if j = s.nt then p else s.tr j) = neg (s.lt a i) := e
    rw [if_neg (by have := h.dt; omega)] at e; exact e

/-- A clause watches another literal, the entry at n falls. -/
theorem FI.move {s0 s : St} {so : Nat → Prop} {fr l d k n i : Nat} (h : FI s0 so fr l d s k n) (hn : n < s.wn l) (hg : s.gone (s.wa l n) = false) (h1 : s.lt (s.wa l n) 1 = l) (hi : i < s.ln (s.wa l n)) (hi2 : 2 ≤ i) (hv : s.val (s.lt (s.wa l n) i) ≠ -1) :
    FI s0 so fr l d ((s.mov (s.wa l n) i).ent (s.lt (s.wa l n) i) (s.wa l n) (s.lt (s.wa l n) 0)) k (n + 1) := by
  obtain ⟨w1, w2, w3, w4⟩ := h.base.wat.w_ok l n h.hl hn (.inr (.inr (Nat.le_refl _)))
  have hl2 := (w4 hg).1
  have hW := h.base.wat.move h.base.cls h.kn hn h.hl hg h1 hi hi2
  have hmlt : s.lt (s.wa l n) i < 2 * s.nv := h.base.cls.c_lt _ _ w2 hi
  have hnf : ∀ j, j < s.nt → s.tr j ≠ neg (s.lt (s.wa l n) i) := fun j hj e => hv ((h.base.tra.false_iff hmlt).2 ⟨j, hj, e⟩)
  have hml : s.lt (s.wa l n) i ≠ l := fun e => by have := h.base.cls.c_ne _ i 1 w2 hi (by omega) (e.trans h1.symm); omega
  have hl0 : s.lt (s.wa l n) 0 ≠ l := fun e => by have := h.base.cls.c_ne _ 0 1 w2 (by omega) (by omega) (e.trans h1.symm); omega
  have hC : Base ((s.mov (s.wa l n) i).ent (s.lt (s.wa l n) i) (s.wa l n) (s.lt (s.wa l n) 0)) (lvF l k (n + 1)) := by
    have hc := h.base.cls.mov hi hl2
    exact ⟨⟨h.base.vars.pos, h.base.vars.inj⟩, ⟨h.base.tra.t_lt, h.base.tra.t_inj, h.base.tra.v_tr, h.base.tra.v_neg, h.base.tra.v_rng, h.base.tra.d_le⟩, ⟨hc.c1, hc.c_lt, hc.c_ne, hc.c_nt, hc.c_gone, hc.s_ok, hc.s_all, hc.s_le⟩, hW, h.base.lens⟩
  have hwl : ((s.mov (s.wa l n) i).ent (s.lt (s.wa l n) i) (s.wa l n) (s.lt (s.wa l n) 0)).wn l = s.wn l := if_neg (Ne.symm hml)
  refine ⟨⟨hC, h.ext.trans ((Ext.mov hi hl2).trans (.lists _ _ _ _)), mov_fol hi hl2 hi2 h.fb (fun j hj => hnf j (Nat.lt_of_lt_of_le hj h.ft)), mov_rsn hi hl2 h.rs, by have := h.kn; omega, by rw [hwl]; exact hn, h.vl, h.hl, h.dn, h.nv⟩, fun b j hb h2 hj => ?_, h.dt, h.ft⟩
  have hsat : s.Sat b → ((s.mov (s.wa l n) i).ent (s.lt (s.wa l n) i) (s.wa l n) (s.lt (s.wa l n) 0)).Sat b := fun ⟨x, hx, hL⟩ => ⟨x, hx, (mov_lit hi hl2 _ _).2 hL⟩
  have elt : ((s.mov (s.wa l n) i).ent (s.lt (s.wa l n) i) (s.wa l n) (s.lt (s.wa l n) 0)).lt b j = s.lt b (if b = s.wa l n then mv i j else j) := mov_lt _ _ _ _ _
  by_cases e : b = s.wa l n
  · subst e
    rw [if_pos rfl] at elt
    by_cases e1 : j = 1
    · subst e1
      have e2 : mv i 1 = i := rfl
      rw [e2] at elt
      rw [elt]
      exact ⟨fun ⟨x, hx, ex⟩ => absurd ex (hnf x (Nat.lt_of_lt_of_le hx h.dt)), fun ex => absurd ex hml⟩
    · have e0 : j = 0 := by omega
      subst e0
      have e2 : mv i 0 = 0 := by unfold mv; rw [if_neg (by omega), if_neg (by omega)]
      rw [e2] at elt
      rw [elt]
      obtain ⟨h3, h4⟩ := h.fl (s.wa l n) 0 hb h2 (by omega)
      exact ⟨fun hx => hsat (h3 hx), fun ex => absurd ex hl0⟩
  · rw [if_neg e] at elt
    rw [elt]
    obtain ⟨h3, h4⟩ := h.fl b j hb h2 hj
    refine ⟨fun hx => hsat (h3 hx), fun ex => ?_⟩
    rcases h4 ex with h5 | ⟨x, h5, h6, h7⟩
    · exact .inl (hsat h5)
    · refine .inr ⟨x, ?_, by rw [hwl]; exact h6, ?_⟩
      · have : x ≠ n := fun e3 => e (by rw [← h7, e3])
        omega
      · show (if l = s.lt (s.wa l n) i ∧ x = s.wn (s.lt (s.wa l n) i) then s.wa l n else s.wa l x) = b
        rw [if_neg (fun e3 => hml e3.1.symm)]; exact h7
end St
end Go.Proofs.Ytoffhgiljnagcaa
/- What is known, as mathematics: what is settled. -/
namespace Go.Proofs.Ytoffhgiljnagcaa
namespace St

/-- The clauses and the variables stay. -/
structure Core (s s' : St) : Prop where
  nv : s.nv ≤ s'.nv
  vr : ∀ n, n < s.nv → s'.vr n = s.vr n
  nc : s'.nc = s.nc
  gone : s'.gone = s.gone
  ln : s'.ln = s.ln
  lit : ∀ a p, s'.Lit a p ↔ s.Lit a p
theorem Core.refl (s : St) : Core s s := ⟨Nat.le_refl _, fun _ _ => rfl, rfl, rfl, rfl, fun _ _ => Iff.rfl⟩
theorem Core.trans {a b c : St} (h : Core a b) (k : Core b c) : Core a c :=
  ⟨Nat.le_trans h.nv k.nv, fun n hn => (k.vr n (Nat.lt_of_lt_of_le hn h.nv)).trans (h.vr n hn), k.nc.trans h.nc, k.gone.trans h.gone, k.ln.trans h.ln, fun x p => (k.lit x p).trans (h.lit x p)⟩
theorem Ext.core {s s' : St} (h : Ext s s') : Core s s' := ⟨h.nv, h.vr, h.nc, h.gone, h.ln, h.lit⟩
theorem Core.is_iff {s s' : St} (h : Core s s') (a : Nat) : s'.Is a ↔ s.Is a := by unfold Is; rw [h.nc, h.gone]
theorem Core.ext_eq {s s' : St} (h : Core s s') {p : Nat} (hp : p < 2 * s.nv) : s'.ext p = s.ext p := by
  unfold St.ext; rw [h.vr _ (by omega)]
theorem Core.at_iff {s s' : St} (h : Core s s') (hc : Cls s) (a : Nat) (c : List Int) : s'.At a c ↔ s.At a c := by
  unfold At
  rw [h.is_iff]
  refine and_congr_right fun ha => forall_congr' fun x => ?_
  refine iff_congr Iff.rfl ⟨?_, ?_⟩
  · rintro ⟨p, hp, e⟩
    have hp' := (h.lit a p).1 hp
    exact ⟨p, hp', by rw [← h.ext_eq (hc.lit_lt ha.2.1 hp')]; exact e⟩
  · rintro ⟨p, hp, e⟩
    exact ⟨p, (h.lit a p).2 hp, by rw [h.ext_eq (hc.lit_lt ha.2.1 hp)]; exact e⟩
theorem Core.cl_iff {s s' : St} (h : Core s s') (hc : Cls s) (c : List Int) : s'.Cl c ↔ s.Cl c := exists_congr fun a => h.at_iff hc a c

/-- The short clauses that are there are true. -/
def Short (s : St) : Prop := ∀ j, j < s.ns → s.gone (s.sh j) = false → s.ln (s.sh j) = 1 ∧ s.val (s.lt (s.sh j) 0) = 1
structure Settled (s : St) : Prop where
  rs : s.Rsn fun _ => False
  br : s.broken ≠ 0 → s.Dead s.broken
  ok : s.broken = 0 → s.done = s.nt ∧ s.Fol s.nt s.nt ∧ s.Short
structure Inv (s : St) : Prop where
  base : Base s All
  set : s.settled = true → Settled s

theorem Ext.val_one {s s' : St} (h : Ext s s') (hT : Tra s) (hT' : Tra s') {p : Nat} (hp : p < 2 * s.nv) (hv : s.val p = 1) : s'.val p = 1 := by
  obtain ⟨i, hi, e⟩ := (hT.v_tr p hp).1 hv
  exact (hT'.v_tr p (by have := h.nv; omega)).2 ⟨i, Nat.lt_of_lt_of_le hi h.nt, (h.tr i hi).trans e⟩
theorem Ext.val_neg {s s' : St} (h : Ext s s') (hT : Tra s) (hT' : Tra s') {p : Nat} (hp : p < 2 * s.nv) (hv : s.val p = -1) : s'.val p = -1 := by
  have h1 : s.val (neg p) = 1 := by rw [hT.v_neg p hp, hv]; rfl
  have h2 := h.val_one hT hT' (neg_lt hp) h1
  have h3 := hT'.v_neg p (by have := h.nv; omega)
  omega
theorem one_lt0 {s s' : St} {a : Nat} (hl : s'.ln a = s.ln a) (hit : ∀ p, s'.Lit a p ↔ s.Lit a p) (h1 : s.ln a = 1) : s'.lt a 0 = s.lt a 0 := by
  obtain ⟨i, hi, e⟩ := (hit (s'.lt a 0)).1 ⟨0, by omega, rfl⟩
  obtain rfl : i = 0 := by omega
  exact e.symm
theorem Ext.short {s s' : St} (h : Ext s s') (hB : Base s All) (hT' : Tra s') (hs : s.Short) : s'.Short := by
  intro j hj hg
  rw [h.ns] at hj
  rw [h.sh, h.gone] at hg
  obtain ⟨h1, h2⟩ := hs j hj hg
  have hsh := (hB.cls.s_ok j hj).2.1
  rw [h.sh]
  refine ⟨by rw [h.ln]; exact h1, ?_⟩
  rw [one_lt0 (by rw [h.ln]) (fun p => h.lit _ p) h1]
  exact h.val_one hB.tra hT' (hB.cls.c_lt _ 0 hsh (by omega)) h2

/-- Everything that the clauses imply is true: no conflict. -/
theorem Base.closed {s : St} (h : Base s All) (hF : s.Fol s.nt s.nt) (hS : s.Short) {so : Int → Prop} (hso : ∀ l, so l → ∃ i, i < s.nt ∧ s.ext (s.tr i) = l) : ¬ Conf s.Cl so := by
  intro hc
  refine closed_not (T := fun l => ∃ i, i < s.nt ∧ s.ext (s.tr i) = l) ?_ ?_ hc hso
  · rintro l ⟨i, hi, rfl⟩ ⟨j, hj, e⟩
    rw [← ext_neg] at e
    have := h.vars.ext_inj (h.tra.t_lt j hj) (neg_lt (h.tra.t_lt i hi)) e
    exact h.tra.not_both hj hi this
  · rintro c ⟨a, ha, hca⟩
    have hT : ∀ p, s.Lit a p → s.val p = 1 → ∃ l, l ∈ c ∧ ∃ i, i < s.nt ∧ s.ext (s.tr i) = l := fun p hp hv => by
      obtain ⟨i, hi, e⟩ := (h.tra.v_tr p (h.cls.lit_lt ha.2.1 hp)).1 hv
      exact ⟨s.ext p, (hca _).2 ⟨p, hp, rfl⟩, i, hi, by rw [e]⟩
    rcases Nat.lt_or_ge 1 (s.ln a) with h2 | h2
    · have l0 : s.Lit a (s.lt a 0) := ⟨0, by omega, rfl⟩
      have l1 : s.Lit a (s.lt a 1) := ⟨1, h2, rfl⟩
      have b0 := h.cls.lit_lt ha.2.1 l0
      have b1 := h.cls.lit_lt ha.2.1 l1
      have sat : ∀ i, i < 2 → s.val (s.lt a i) = -1 → ∃ l, l ∈ c ∧ ∃ i, i < s.nt ∧ s.ext (s.tr i) = l := by
        intro i hi hv
        have hb := h.cls.c_lt a i ha.2.1 (show i < s.ln a by omega)
        obtain ⟨k, hk, hl⟩ := hF a i ha (by omega) hi ((h.tra.false_iff hb).1 hv)
        exact ⟨s.ext (s.tr k), (hca _).2 ⟨_, hl, rfl⟩, k, hk, rfl⟩
      rcases h.tra.v_rng _ b0 with v0 | v0 | v0
      · exact .inl (sat 0 (by omega) v0)
      · rcases h.tra.v_rng _ b1 with v1 | v1 | v1
        · exact .inl (sat 1 (by omega) v1)
        · refine .inr ⟨s.ext (s.lt a 0), s.ext (s.lt a 1), (hca _).2 ⟨_, l0, rfl⟩, (hca _).2 ⟨_, l1, rfl⟩, ?_, ?_, ?_⟩
          · intro e
            have := h.vars.ext_inj b0 b1 e
            have := h.cls.c_ne a 0 1 ha.2.1 (by omega) h2 this
            omega
          · rintro ⟨i, hi, e⟩
            rw [← ext_neg] at e
            have := h.vars.ext_inj (h.tra.t_lt i hi) (neg_lt b0) e
            have := (h.tra.false_iff b0).2 ⟨i, hi, this⟩
            omega
          · rintro ⟨i, hi, e⟩
            rw [← ext_neg] at e
            have := h.vars.ext_inj (h.tra.t_lt i hi) (neg_lt b1) e
            have := (h.tra.false_iff b1).2 ⟨i, hi, this⟩
            omega
        · exact .inl (hT _ l1 v1)
      · exact .inl (hT _ l0 v0)
    · obtain ⟨j, hj, e⟩ := h.cls.s_all a ha h2
      obtain ⟨h3, h4⟩ := hS j hj (by rw [e]; exact ha.2.2)
      rw [e] at h3 h4
      exact .inl (hT _ ⟨0, by omega, rfl⟩ h4)
/-- The literals of the trail add nothing to what is so. -/
theorem Base.back {s : St} {lv : Nat → Nat → Prop} (h : Base s lv) {so : Nat → Prop} (hR : s.Rsn so) {so' : Int → Prop} (hso : ∀ p, so p → so' (s.ext p)) (hc : Conf s.Cl fun l => so' l ∨ ∃ i, i < s.nt ∧ s.ext (s.tr i) = l) : Conf s.Cl so' := by
  refine Conf.back (fun i => s.ext (s.tr i)) s.nt (fun i hi => ?_) hc
  rcases hR i hi with ⟨_, h1⟩ | ⟨h1, h2, h3⟩
  · exact .inl (hso _ h1)
  · refine .inr ⟨(List.range (s.ln (s.rsn (s.tr i)))).map fun j => s.ext (s.lt (s.rsn (s.tr i)) j), ⟨_, h1, fun x => ?_⟩, ?_, ?_⟩
    · simp only [List.mem_map, List.mem_range]
      exact ⟨fun ⟨j, hj, e⟩ => ⟨_, ⟨j, hj, rfl⟩, e⟩, fun ⟨p, ⟨j, hj, e⟩, e2⟩ => ⟨j, hj, by rw [e]; exact e2⟩⟩
    · obtain ⟨j, hj, e⟩ := h2
      simp only [List.mem_map, List.mem_range]
      exact ⟨j, hj, by rw [e]⟩
    · intro m hm hne
      simp only [List.mem_map, List.mem_range] at hm
      obtain ⟨j, hj, rfl⟩ := hm
      obtain ⟨k, hk, e⟩ := h3 _ ⟨j, hj, rfl⟩ (fun e => hne (by rw [e]))
      exact ⟨k, hk, by show s.ext (s.tr k) = _; rw [e, ext_neg]⟩
/-- A clause whose literals are all false. -/
theorem Base.dead {s : St} {lv : Nat → Nat → Prop} (h : Base s lv) {a : Nat} (hd : s.Dead a) {so : Int → Prop} : Conf s.Cl fun l => so l ∨ ∃ i, i < s.nt ∧ s.ext (s.tr i) = l := by
  obtain ⟨ha, hv⟩ := hd
  refine .none ((List.range (s.ln a)).map fun j => s.ext (s.lt a j)) ⟨a, ha, fun x => ?_⟩ ?_
  · simp only [List.mem_map, List.mem_range]
    exact ⟨fun ⟨j, hj, e⟩ => ⟨_, ⟨j, hj, rfl⟩, e⟩, fun ⟨p, ⟨j, hj, e⟩, e2⟩ => ⟨j, hj, by rw [e]; exact e2⟩⟩
  · intro l hl
    simp only [List.mem_map, List.mem_range] at hl
    obtain ⟨j, hj, rfl⟩ := hl
    have hb := h.cls.c_lt a j ha.2.1 hj
    obtain ⟨i, hi, e⟩ := (h.tra.false_iff hb).1 (hv _ ⟨j, hj, rfl⟩)
    exact .inr ⟨i, hi, by rw [e, ext_neg]⟩
end St
end Go.Proofs.Ytoffhgiljnagcaa
/- What is known, as mathematics: a new variable; a new clause. -/
namespace Go.Proofs.Ytoffhgiljnagcaa
namespace St
def more (s : St) (v : Int) : St := { s with nv := s.nv + 1, ew := s.ew + 2, ev := s.ev + 2, er := s.er + 2, vr := fun n => if n = s.nv then v else s.vr n, val := fun p => if p < s.ev then s.val p else 0, rsn := fun p => if p < s.er then s.rsn p else 0 }
theorem Ext.more {s : St} (h : Base s All) (v : Int) : Ext s (s.more v) :=
  ⟨Nat.le_succ _, fun n hn => if_neg (by omega), rfl, rfl, rfl, fun _ _ => Iff.rfl, rfl, rfl, Nat.le_refl _, fun _ _ => rfl, fun i hi => if_pos (by have := h.tra.t_lt i hi; have := h.lens.2.2; omega), rfl, rfl⟩
theorem Base.more {s : St} (h : Base s All) {v : Int} (hv : 0 < v) (hno : ∀ n, n < s.nv → s.vr n ≠ v) (hw : ∀ l, s.ew ≤ l → s.wn l = 0) : Base (s.more v) All := by
  obtain ⟨e1, e2, e3⟩ := h.lens
  have hval : ∀ p, p < 2 * s.nv → (s.more v).val p = s.val p := fun p hp => if_pos (by omega)
  have hval0 : ∀ p, 2 * s.nv ≤ p → (s.more v).val p = 0 := fun p hp => if_neg (by omega)
  refine ⟨⟨?_, ?_⟩, ⟨?_, h.tra.t_inj, ?_, ?_, ?_, h.tra.d_le⟩, ⟨h.cls.c1, ?_, h.cls.c_ne, h.cls.c_nt, h.cls.c_gone, h.cls.s_ok, h.cls.s_all, h.cls.s_le⟩, ⟨?_, ?_, ?_⟩, ?_⟩
  · intro n hn
    show 0 < (if n = s.nv then v else s.vr n)
    have hn' : n < s.nv + 1 := hn
    split
    · exact hv
    · exact h.vars.pos n (by omega)
  · intro n m hn hm e
    have hn' : n < s.nv + 1 := hn
    have hm' : m < s.nv + 1 := hm
    replace e : (if n = s.nv then v else s.vr n) = (if m = s.nv then v else s.vr m) := e
    split at e <;> split at e
    · omega
    · exact absurd e.symm (hno m (by omega))
    · exact absurd e (hno n (by omega))
    · exact h.vars.inj n m (by omega) (by omega) e
  · intro i hi
    have := h.tra.t_lt i hi
    show s.tr i < 2 * (s.nv + 1)
    omega
  · intro p hp
    by_cases hp2 : p < 2 * s.nv
    · rw [hval p hp2]; exact h.tra.v_tr p hp2
    · rw [hval0 p (by omega)]
      refine ⟨fun e => by omega, ?_⟩
      rintro ⟨i, hi, e⟩
      have h1 := h.tra.t_lt i hi
      have e' : s.tr i = p := e
      omega
  · intro p hp
    by_cases hp2 : p < 2 * s.nv
    · rw [hval p hp2, hval _ (neg_lt hp2)]; exact h.tra.v_neg p hp2
    · rw [hval0 p (by omega), hval0 _ (by unfold neg; split <;> omega)]; rfl
  · intro p hp
    by_cases hp2 : p < 2 * s.nv
    · rw [hval p hp2]; exact h.tra.v_rng p hp2
    · rw [hval0 p (by omega)]; omega
  · intro a i ha hi
    have := h.cls.c_lt a i ha hi
    show s.lt a i < 2 * (s.nv + 1)
    omega
  · intro l j hl hj hlv
    have hj' : j < s.wn l := hj
    have hl2 : l < 2 * s.nv := by
      rcases Nat.lt_or_ge l (2 * s.nv) with h1 | h1
      · exact h1
      · rw [hw l (by omega)] at hj'; omega
    obtain ⟨b1, b2, b3, b4⟩ := h.wat.w_ok l j hl2 hj hlv
    exact ⟨b1, b2, by show s.wo l j < 2 * (s.nv + 1); omega, b4⟩
  · exact h.wat.w_has
  · intro l j k hl hj hk h1 h2 e
    have hj' : j < s.wn l := hj
    have hl2 : l < 2 * s.nv := by
      rcases Nat.lt_or_ge l (2 * s.nv) with h1 | h1
      · exact h1
      · rw [hw l (by omega)] at hj'; omega
    exact h.wat.w_uni l j k hl2 hj hk h1 h2 e
  · show s.ew + 2 = 2 * (s.nv + 1) ∧ s.ev + 2 = 2 * (s.nv + 1) ∧ s.er + 2 = 2 * (s.nv + 1)
    omega
theorem Fol.more {s : St} {m d : Nat} (h : s.Fol m d) (v : Int) : (s.more v).Fol m d := h
theorem Rsn.more {s : St} (hB : Base s All) {so : Nat → Prop} (h : s.Rsn so) (v : Int) : (s.more v).Rsn so := by
  intro i hi
  have hi' : i < s.nt := hi
  have e : (s.more v).rsn (s.tr i) = s.rsn (s.tr i) := if_pos (by have := hB.tra.t_lt i hi'; have := hB.lens.2.2; omega)
  show ((s.more v).rsn (s.tr i) = 0 ∧ so (s.tr i)) ∨ (s.Is ((s.more v).rsn (s.tr i)) ∧ s.Lit ((s.more v).rsn (s.tr i)) (s.tr i) ∧ ∀ p, s.Lit ((s.more v).rsn (s.tr i)) p → p ≠ s.tr i → ∃ k, k < i ∧ s.tr k = neg p)
  rw [e]; exact h i hi'
end St
end Go.Proofs.Ytoffhgiljnagcaa
/- What is known, as mathematics: a new clause. -/
namespace Go.Proofs.Ytoffhgiljnagcaa
namespace St
def newc (s : St) (n : Nat) (f : Nat → Nat) : St := { s with nc := s.nc + 1, ln := fun a => if a = s.nc then n else s.ln a, lt := fun a i => if a = s.nc then f i else s.lt a i, gone := fun a => if a = s.nc then false else s.gone a }
def shr (s : St) (a : Nat) : St := { s with ns := s.ns + 1, sh := fun j => if j = s.ns then a else s.sh j }
/-- A clause's literals. -/
structure Form (s : St) (n : Nat) (f : Nat → Nat) : Prop where
  lt : ∀ i, i < n → f i < 2 * s.nv
  ne : ∀ i j, i < n → j < n → f i = f j → i = j
  nt : ∀ i j, i < n → j < n → f i ≠ neg (f j)
/-- The lists, but that clause x need not be watched. -/
structure WatB (s : St) (x : Nat) : Prop where
  w_ok : ∀ l j, l < 2 * s.nv → j < s.wn l → 1 ≤ s.wa l j ∧ s.wa l j < s.nc ∧ s.wo l j < 2 * s.nv ∧ (s.gone (s.wa l j) = false → 2 ≤ s.ln (s.wa l j) ∧ (s.lt (s.wa l j) 0 = l ∨ s.lt (s.wa l j) 1 = l) ∧ s.Lit (s.wa l j) (s.wo l j))
  w_has : ∀ a i, a ≠ x → s.Is a → 2 ≤ s.ln a → i < 2 → ∃ j, j < s.wn (s.lt a i) ∧ s.wa (s.lt a i) j = a
  w_uni : ∀ l j k, l < 2 * s.nv → j < s.wn l → k < s.wn l → s.wa l j = s.wa l k → j = k
theorem WatB.new {s : St} (h : Wat s All) (n : Nat) (f : Nat → Nat) : WatB (s.newc n f) s.nc := by
  refine ⟨fun l j hl hj => ?_, fun a i hne ha h2 hi => ?_, fun l j k hl hj hk e => h.w_uni l j k hl hj hk trivial trivial e⟩
  · obtain ⟨b1, b2, b3, b4⟩ := h.w_ok l j hl hj trivial
    have hne : ¬ s.wa l j = s.nc := by omega
    refine ⟨b1, by show s.wa l j < s.nc + 1; omega, b3, fun hg => ?_⟩
    have hg' : s.gone (s.wa l j) = false := by
      have : (if s.wa l j = s.nc then false else s.gone (s.wa l j)) = false := hg
      rw [if_neg hne] at this; exact this
    obtain ⟨c1, c2, i, hi, c3⟩ := b4 hg'
    refine ⟨?_, ?_, i, ?_, ?_⟩
    · show 2 ≤ (if s.wa l j = s.nc then n else s.ln (s.wa l j)); rw [if_neg hne]; exact c1
    · show (if s.wa l j = s.nc then f 0 else s.lt (s.wa l j) 0) = l ∨ (if s.wa l j = s.nc then f 1 else s.lt (s.wa l j) 1) = l
      rw [if_neg hne, if_neg hne]; exact c2
    · show i < (if s.wa l j = s.nc then n else s.ln (s.wa l j)); rw [if_neg hne]; exact hi
    · show (if s.wa l j = s.nc then f i else s.lt (s.wa l j) i) = _; rw [if_neg hne]; exact c3
  · obtain ⟨a1, a2, a3⟩ := ha
    have a2' : a < s.nc + 1 := a2
    have e1 : (s.newc n f).ln a = s.ln a := if_neg hne
    have e2 : (s.newc n f).gone a = s.gone a := if_neg hne
    have e3 : (s.newc n f).lt a i = s.lt a i := if_neg hne
    rw [e1] at h2
    rw [e2] at a3
    obtain ⟨j, hj, _, e⟩ := h.w_has a i ⟨a1, by omega, a3⟩ h2 hi
    rw [e3]
    exact ⟨j, hj, e⟩
theorem WatB.ent {s : St} {x m o : Nat} (h : WatB s x) (h1 : 1 ≤ x) (hx : x < s.nc) (ho : o < 2 * s.nv) (hL : 2 ≤ s.ln x ∧ (s.lt x 0 = m ∨ s.lt x 1 = m) ∧ s.Lit x o) (hno : ∀ j, j < s.wn m → s.wa m j ≠ x) : WatB (s.ent m x o) x := by
  refine ⟨fun l j hl hj => ?_, fun a i hne ha h2 hi => ?_, fun l j k hl hj hk e => ?_⟩
  · replace hj : j < (if l = m then s.wn m + 1 else s.wn l) := hj
    show 1 ≤ (if l = m ∧ j = s.wn m then x else s.wa l j) ∧ (if l = m ∧ j = s.wn m then x else s.wa l j) < s.nc ∧ (if l = m ∧ j = s.wn m then o else s.wo l j) < 2 * s.nv ∧ (s.gone (if l = m ∧ j = s.wn m then x else s.wa l j) = false → 2 ≤ s.ln (if l = m ∧ j = s.wn m then x else s.wa l j) ∧ (s.lt (if l = m ∧ j = s.wn m then x else s.wa l j) 0 = l ∨ s.lt (if l = m ∧ j = s.wn m then x else s.wa l j) 1 = l) ∧ s.Lit (if l = m ∧ j = s.wn m then x else s.wa l j) (if l = m ∧ j = s.wn m then o else s.wo l j))
    by_cases e : l = m ∧ j = s.wn m
    · simp only [if_pos e]
      obtain ⟨rfl, rfl⟩ := e
      exact ⟨h1, hx, ho, fun _ => hL⟩
    · simp only [if_neg e]
      refine h.w_ok l j hl ?_
      split at hj
      · next e2 => subst e2; omega
      · exact hj
  · obtain ⟨j, hj, e⟩ := h.w_has a i hne ha h2 hi
    refine ⟨j, ?_, ?_⟩
    · show j < (if s.lt a i = m then s.wn m + 1 else s.wn (s.lt a i))
      split
      · next e2 => rw [← e2]; omega
      · exact hj
    · show (if s.lt a i = m ∧ j = s.wn m then x else s.wa (s.lt a i) j) = a
      rw [if_neg (fun e2 => by rw [e2.1, e2.2] at hj; omega)]; exact e
  · replace hj : j < (if l = m then s.wn m + 1 else s.wn l) := hj
    replace hk : k < (if l = m then s.wn m + 1 else s.wn l) := hk
    replace e : (if l = m ∧ j = s.wn m then x else s.wa l j) = (if l = m ∧ k = s.wn m then x else s.wa l k) := e
    by_cases e1 : l = m ∧ j = s.wn m <;> by_cases e2 : l = m ∧ k = s.wn m
    · omega
    · rw [if_pos e1, if_neg e2] at e
      obtain ⟨rfl, rfl⟩ := e1
      rw [if_pos rfl] at hk
      exact absurd e.symm (hno k (by omega))
    · rw [if_neg e1, if_pos e2] at e
      obtain ⟨rfl, rfl⟩ := e2
      rw [if_pos rfl] at hj
      exact absurd e (hno j (by omega))
    · rw [if_neg e1, if_neg e2] at e
      refine h.w_uni l j k hl ?_ ?_ e
      · split at hj
        · next y => subst y; omega
        · exact hj
      · split at hk
        · next y => subst y; omega
        · exact hk
theorem WatB.all {s : St} {x : Nat} (h : WatB s x) (hx : 2 ≤ s.ln x → ∀ i, i < 2 → ∃ j, j < s.wn (s.lt x i) ∧ s.wa (s.lt x i) j = x) : Wat s All := by
  refine ⟨fun l j hl hj _ => h.w_ok l j hl hj, fun a i ha h2 hi => ?_, fun l j k hl hj hk _ _ e => h.w_uni l j k hl hj hk e⟩
  by_cases e : a = x
  · subst e
    obtain ⟨j, hj, e⟩ := hx h2 i hi
    exact ⟨j, hj, trivial, e⟩
  · obtain ⟨j, hj, e2⟩ := h.w_has a i e ha h2 hi
    exact ⟨j, hj, trivial, e2⟩
/-- The clauses with a new one, the short ones with it or not. -/
theorem Cls.new {s : St} (h : Cls s) {n : Nat} {f : Nat → Nat} (hf : Form s n f) : (∀ a i, a < s.nc + 1 → i < (s.newc n f).ln a → (s.newc n f).lt a i < 2 * s.nv) ∧ (∀ a i j, a < s.nc + 1 → i < (s.newc n f).ln a → j < (s.newc n f).ln a → (s.newc n f).lt a i = (s.newc n f).lt a j → i = j) ∧
    (∀ a i j, a < s.nc + 1 → i < (s.newc n f).ln a → j < (s.newc n f).ln a → (s.newc n f).lt a i ≠ neg ((s.newc n f).lt a j)) ∧ (∀ a, a < s.nc + 1 → (s.newc n f).gone a = true → (s.newc n f).ln a = 0) := by
  have e1 : ∀ a, a ≠ s.nc → (s.newc n f).ln a = s.ln a := fun a hne => if_neg hne
  have e2 : ∀ a i, a ≠ s.nc → (s.newc n f).lt a i = s.lt a i := fun a i hne => if_neg hne
  have e3 : ∀ a, a ≠ s.nc → (s.newc n f).gone a = s.gone a := fun a hne => if_neg hne
  have n1 : (s.newc n f).ln s.nc = n := if_pos rfl
  have n2 : ∀ i, (s.newc n f).lt s.nc i = f i := fun i => if_pos rfl
  have n3 : (s.newc n f).gone s.nc = false := if_pos rfl
  refine ⟨fun a i ha hi => ?_, fun a i j ha hi hj e => ?_, fun a i j ha hi hj => ?_, fun a ha hg => ?_⟩ <;> by_cases e : a = s.nc
  · subst e; rw [n1] at hi; rw [n2]; exact hf.lt i hi
  · rw [e1 a e] at hi; rw [e2 a i e]; exact h.c_lt a i (by omega) hi
  · rename_i e0; subst e; rw [n1] at hi hj; rw [n2, n2] at e0; exact hf.ne i j hi hj e0
  · rename_i e0; rw [e1 a e] at hi hj; rw [e2 a i e, e2 a j e] at e0; exact h.c_ne a i j (by omega) hi hj e0
  · subst e; rw [n1] at hi hj; rw [n2, n2]; exact hf.nt i j hi hj
  · rw [e1 a e] at hi hj; rw [e2 a i e, e2 a j e]; exact h.c_nt a i j (by omega) hi hj
  · subst e; rw [n3] at hg; cases hg
  · rw [e3 a e] at hg; rw [e1 a e]; exact h.c_gone a (by omega) hg
/-- A short clause comes. -/
theorem Base.short {s : St} (h : Base s All) {n : Nat} {f : Nat → Nat} (hf : Form s n f) (hn : n < 2) : Base ((s.newc n f).shr s.nc) All := by
  obtain ⟨k1, k2, k3, k4⟩ := h.cls.new hf
  have hW := WatB.new h.wat n f
  have n1 : (s.newc n f).ln s.nc = n := if_pos rfl
  refine ⟨⟨h.vars.pos, h.vars.inj⟩, ⟨h.tra.t_lt, h.tra.t_inj, h.tra.v_tr, h.tra.v_neg, h.tra.v_rng, h.tra.d_le⟩, ⟨by show 1 ≤ s.nc + 1; omega, k1, k2, k3, k4, ?_, ?_, ?_⟩, ?_, h.lens⟩
  · intro j hj
    have hj' : j < s.ns + 1 := hj
    show 1 ≤ (if j = s.ns then s.nc else s.sh j) ∧ (if j = s.ns then s.nc else s.sh j) < s.nc + 1 ∧ (s.newc n f).ln (if j = s.ns then s.nc else s.sh j) ≤ 1
    split
    · rw [n1]; have := h.cls.c1; omega
    · obtain ⟨a1, a2, a3⟩ := h.cls.s_ok j (by omega)
      rw [show (s.newc n f).ln (s.sh j) = s.ln (s.sh j) from if_neg (by omega)]
      omega
  · intro a ha h1
    by_cases e : a = s.nc
    · exact ⟨s.ns, Nat.lt_succ_self _, by show (if s.ns = s.ns then s.nc else s.sh s.ns) = a; rw [if_pos rfl, e]⟩
    · obtain ⟨a1, a2, a3⟩ := ha
      have a2' : a < s.nc + 1 := a2
      have a3' : (if a = s.nc then false else s.gone a) = false := a3
      rw [if_neg e] at a3'
      have h1' : (if a = s.nc then n else s.ln a) ≤ 1 := h1
      rw [if_neg e] at h1'
      obtain ⟨j, hj, e2⟩ := h.cls.s_all a ⟨a1, by omega, a3'⟩ h1'
      exact ⟨j, Nat.lt_succ_of_lt hj, by show (if j = s.ns then s.nc else s.sh j) = a; rw [if_neg (by omega)]; exact e2⟩
  · show s.ns + 1 ≤ s.nc + 1
    have := h.cls.s_le; omega
  · have hA := hW.all (fun h2 => by rw [n1] at h2; omega)
    exact ⟨hA.w_ok, hA.w_has, hA.w_uni⟩
/-- A longer one comes. -/
theorem Base.long {s : St} (h : Base s All) {n : Nat} {f : Nat → Nat} (hf : Form s n f) (hn : 2 ≤ n) : Base (((s.newc n f).ent (f 0) s.nc (f 1)).ent (f 1) s.nc (f 0)) All := by
  obtain ⟨k1, k2, k3, k4⟩ := h.cls.new hf
  have n1 : (s.newc n f).ln s.nc = n := if_pos rfl
  have n2 : ∀ i, (s.newc n f).lt s.nc i = f i := fun i => if_pos rfl
  have h01 : f 0 ≠ f 1 := fun e => by have := hf.ne 0 1 (by omega) (by omega) e; omega
  have hold : ∀ l j, l < 2 * s.nv → j < s.wn l → s.wa l j ≠ s.nc := fun l j hl hj => by have := (h.wat.w_ok l j hl hj trivial).2.1; omega
  have hl0 := hf.lt 0 (by omega)
  have hl1 := hf.lt 1 (by omega)
  have hc1 := h.cls.c1
  have hW1 := (WatB.new h.wat n f).ent (m := f 0) (o := f 1) hc1 (Nat.lt_succ_self _) hl1 ⟨by rw [n1]; exact hn, .inl (n2 0), 1, by rw [n1]; omega, n2 1⟩ (fun j hj => hold _ j hl0 hj)
  have hW2 := hW1.ent (m := f 1) (o := f 0) hc1 (Nat.lt_succ_self _) hl0 ⟨by show 2 ≤ (s.newc n f).ln s.nc; rw [n1]; exact hn, .inr (n2 1), 0, by show 0 < (s.newc n f).ln s.nc; rw [n1]; omega, n2 0⟩ (fun j hj => by
    replace hj : j < (if f 1 = f 0 then s.wn (f 0) + 1 else s.wn (f 1)) := hj
    rw [if_neg (Ne.symm h01)] at hj
    show (if f 1 = f 0 ∧ j = s.wn (f 0) then s.nc else s.wa (f 1) j) ≠ s.nc
    rw [if_neg (fun e => h01 e.1.symm)]
    exact hold _ j hl1 hj)
  have hA := hW2.all (fun _ i hi => by
    show ∃ j, j < _ ∧ _
    have hi2 : i = 0 ∨ i = 1 := by omega
    rcases hi2 with rfl | rfl
    · have e : (((s.newc n f).ent (f 0) s.nc (f 1)).ent (f 1) s.nc (f 0)).lt s.nc 0 = f 0 := n2 0
      rw [e]
      refine ⟨s.wn (f 0), ?_, ?_⟩
      · show s.wn (f 0) < (if f 0 = f 1 then (if f 1 = f 0 then s.wn (f 0) + 1 else s.wn (f 1)) + 1 else if f 0 = f 0 then s.wn (f 0) + 1 else s.wn (f 0))
        rw [if_neg h01, if_pos rfl]; omega
      · show (if f 0 = f 1 ∧ s.wn (f 0) = (if f 1 = f 0 then s.wn (f 0) + 1 else s.wn (f 1)) then s.nc else if f 0 = f 0 ∧ s.wn (f 0) = s.wn (f 0) then s.nc else s.wa (f 0) (s.wn (f 0))) = s.nc
        rw [if_neg (fun e => h01 e.1), if_pos ⟨rfl, rfl⟩]
    · have e : (((s.newc n f).ent (f 0) s.nc (f 1)).ent (f 1) s.nc (f 0)).lt s.nc 1 = f 1 := n2 1
      rw [e]
      refine ⟨(if f 1 = f 0 then s.wn (f 0) + 1 else s.wn (f 1)), ?_, ?_⟩
      · show (if f 1 = f 0 then s.wn (f 0) + 1 else s.wn (f 1)) < (if f 1 = f 1 then (if f 1 = f 0 then s.wn (f 0) + 1 else s.wn (f 1)) + 1 else _)
        rw [if_pos (rfl : f 1 = f 1)]; omega
      · show (if f 1 = f 1 ∧ (if f 1 = f 0 then s.wn (f 0) + 1 else s.wn (f 1)) = (if f 1 = f 0 then s.wn (f 0) + 1 else s.wn (f 1)) then s.nc else _) = s.nc
        exact if_pos ⟨rfl, rfl⟩)
  refine ⟨⟨h.vars.pos, h.vars.inj⟩, ⟨h.tra.t_lt, h.tra.t_inj, h.tra.v_tr, h.tra.v_neg, h.tra.v_rng, h.tra.d_le⟩, ⟨by show 1 ≤ s.nc + 1; omega, k1, k2, k3, k4, ?_, ?_, ?_⟩, hA, h.lens⟩
  · intro j hj
    obtain ⟨a1, a2, a3⟩ := h.cls.s_ok j hj
    refine ⟨a1, by show s.sh j < s.nc + 1; omega, ?_⟩
    show (if s.sh j = s.nc then n else s.ln (s.sh j)) ≤ 1
    rw [if_neg (by omega)]; exact a3
  · intro a ha h1
    have h1' : (if a = s.nc then n else s.ln a) ≤ 1 := h1
    have e : a ≠ s.nc := fun e => by rw [if_pos e] at h1'; omega
    rw [if_neg e] at h1'
    obtain ⟨a1, a2, a3⟩ := ha
    have a2' : a < s.nc + 1 := a2
    have a3' : (if a = s.nc then false else s.gone a) = false := a3
    rw [if_neg e] at a3'
    exact h.cls.s_all a ⟨a1, by omega, a3'⟩ h1'
  · show s.ns ≤ s.nc + 1
    have := h.cls.s_le; omega
/-- What is there then. -/
theorem newc_cl {s s' : St} (hc : Cls s) {n : Nat} {f : Nat → Nat} (e1 : s'.nc = s.nc + 1) (e2 : s'.gone = (s.newc n f).gone) (e3 : s'.ln = (s.newc n f).ln) (e4 : s'.lt = (s.newc n f).lt) (e5 : s'.vr = s.vr) (c1 : 1 ≤ s.nc) (c : List Int) :
    s'.Cl c ↔ s.Cl c ∨ ∀ x, x ∈ c ↔ ∃ i, i < n ∧ s.ext (f i) = x := by
  have hx : ∀ p, s'.ext p = s.ext p := fun p => by unfold St.ext; rw [e5]
  have hLn : ∀ p, s'.Lit s.nc p ↔ ∃ i, i < n ∧ f i = p := fun p => by
    unfold Lit
    rw [e3, e4]
    show (∃ i, i < (if s.nc = s.nc then n else s.ln s.nc) ∧ (if s.nc = s.nc then f i else s.lt s.nc i) = p) ↔ _
    simp only [if_true]
  have hLo : ∀ a p, a ≠ s.nc → (s'.Lit a p ↔ s.Lit a p) := fun a p hne => by
    unfold Lit
    rw [e3, e4]
    show (∃ i, i < (if a = s.nc then n else s.ln a) ∧ (if a = s.nc then f i else s.lt a i) = p) ↔ _
    simp only [if_neg hne]
  have hIs : ∀ a, a ≠ s.nc → (s'.Is a ↔ s.Is a) := fun a hne => by
    unfold Is
    rw [e1, e2]
    show (1 ≤ a ∧ a < s.nc + 1 ∧ (if a = s.nc then false else s.gone a) = false) ↔ _
    rw [if_neg hne]
    refine and_congr_right fun _ => and_congr_left fun _ => ?_
    omega
  constructor
  · rintro ⟨a, ha, hm⟩
    by_cases e : a = s.nc
    · subst e
      refine .inr fun x => (hm x).trans ⟨?_, ?_⟩
      · rintro ⟨p, hp, e⟩
        obtain ⟨i, hi, rfl⟩ := (hLn p).1 hp
        exact ⟨i, hi, by rw [← hx]; exact e⟩
      · rintro ⟨i, hi, e⟩
        exact ⟨f i, (hLn _).2 ⟨i, hi, rfl⟩, by rw [hx]; exact e⟩
    · exact .inl ⟨a, (hIs a e).1 ha, fun x => (hm x).trans (exists_congr fun p => by rw [hLo a p e, hx])⟩
  · rintro (⟨a, ha, hm⟩ | hm)
    · have e : a ≠ s.nc := by have := ha.2.1; omega
      exact ⟨a, (hIs a e).2 ha, fun x => (hm x).trans (exists_congr fun p => by rw [hLo a p e, hx])⟩
    · refine ⟨s.nc, ⟨c1, by rw [e1]; omega, by rw [e2]; exact if_pos rfl⟩, fun x => (hm x).trans ⟨?_, ?_⟩⟩
      · rintro ⟨i, hi, e⟩
        exact ⟨f i, (hLn _).2 ⟨i, hi, rfl⟩, by rw [hx]; exact e⟩
      · rintro ⟨p, hp, e⟩
        obtain ⟨i, hi, rfl⟩ := (hLn p).1 hp
        exact ⟨i, hi, by rw [← hx]; exact e⟩
end St
end Go.Proofs.Ytoffhgiljnagcaa
