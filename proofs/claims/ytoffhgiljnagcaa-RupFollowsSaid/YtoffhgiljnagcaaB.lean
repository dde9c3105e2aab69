/- What is known, as mathematics: its variables, clauses, watches and its trail; what each step does to them. -/
import Derived.Test.YtoffhgiljnagcaaA
namespace Go.Proofs.Ytoffhgiljnagcaa

structure St where
  nv : Nat
  ew : Nat
  ev : Nat
  er : Nat
  vr : Nat → Int
  nc : Nat
  ln : Nat → Nat
  lt : Nat → Nat → Nat
  gone : Nat → Bool
  ns : Nat
  sh : Nat → Nat
  wn : Nat → Nat
  wa : Nat → Nat → Nat
  wo : Nat → Nat → Nat
  val : Nat → Int
  rsn : Nat → Nat
  nt : Nat
  tr : Nat → Nat
  done : Nat
  settled : Bool
  broken : Nat

def neg (p : Nat) : Nat := if p % 2 = 0 then p + 1 else p - 1
theorem neg_neg (p : Nat) : neg (neg p) = p := by unfold neg; split <;> split <;> omega
theorem neg_ne (p : Nat) : neg p ≠ p := by unfold neg; split <;> omega
theorem neg_lt {p n : Nat} (h : p < 2 * n) : neg p < 2 * n := by unfold neg; split <;> omega
theorem neg_eq {p q : Nat} (h : neg p = q) : p = neg q := by rw [← h, neg_neg]
theorem neg_inj {p q : Nat} (h : neg p = neg q) : p = q := by rw [← neg_neg p, h, neg_neg]

namespace St
def ext (s : St) (p : Nat) : Int := if p % 2 = 0 then s.vr (p / 2) else -s.vr (p / 2)
theorem ext_neg (s : St) (p : Nat) : s.ext (neg p) = -s.ext p := by
  unfold ext neg
  by_cases h : p % 2 = 0
  · rw [if_pos h, if_pos h, if_neg (by omega), show (p + 1) / 2 = p / 2 by omega]
  · rw [if_neg h, if_neg h, if_pos (by omega), show (p - 1) / 2 = p / 2 by omega, Int.neg_neg]
/-- Literal p is in the clause at a. -/
def Lit (s : St) (a p : Nat) : Prop := ∃ i, i < s.ln a ∧ s.lt a i = p
/-- A clause that is there. -/
def Is (s : St) (a : Nat) : Prop := 1 ≤ a ∧ a < s.nc ∧ s.gone a = false
/-- c is the clause at a. -/
def At (s : St) (a : Nat) (c : List Int) : Prop := s.Is a ∧ ∀ x, x ∈ c ↔ ∃ p, s.Lit a p ∧ s.ext p = x
/-- The clauses that are there. -/
def Cl (s : St) (c : List Int) : Prop := ∃ a, s.At a c

structure Vars (s : St) : Prop where
  pos : ∀ n, n < s.nv → 0 < s.vr n
  inj : ∀ n m, n < s.nv → m < s.nv → s.vr n = s.vr m → n = m
structure Tra (s : St) : Prop where
  t_lt : ∀ i, i < s.nt → s.tr i < 2 * s.nv
  t_inj : ∀ i j, i < s.nt → j < s.nt → s.tr i = s.tr j → i = j
  v_tr : ∀ p, p < 2 * s.nv → (s.val p = 1 ↔ ∃ i, i < s.nt ∧ s.tr i = p)
  v_neg : ∀ p, p < 2 * s.nv → s.val (neg p) = -s.val p
  v_rng : ∀ p, p < 2 * s.nv → s.val p = -1 ∨ s.val p = 0 ∨ s.val p = 1
  d_le : s.done ≤ s.nt
structure Cls (s : St) : Prop where
  c1 : 1 ≤ s.nc
  c_lt : ∀ a i, a < s.nc → i < s.ln a → s.lt a i < 2 * s.nv
  c_ne : ∀ a i j, a < s.nc → i < s.ln a → j < s.ln a → s.lt a i = s.lt a j → i = j
  c_nt : ∀ a i j, a < s.nc → i < s.ln a → j < s.ln a → s.lt a i ≠ neg (s.lt a j)
  c_gone : ∀ a, a < s.nc → s.gone a = true → s.ln a = 0
  s_ok : ∀ j, j < s.ns → 1 ≤ s.sh j ∧ s.sh j < s.nc ∧ s.ln (s.sh j) ≤ 1
  s_all : ∀ a, s.Is a → s.ln a ≤ 1 → ∃ j, j < s.ns ∧ s.sh j = a
  s_le : s.ns ≤ s.nc
/-- The lists of watches, as far as they are live. -/
structure Wat (s : St) (lv : Nat → Nat → Prop) : Prop where
  w_ok : ∀ l j, l < 2 * s.nv → j < s.wn l → lv l j → 1 ≤ s.wa l j ∧ s.wa l j < s.nc ∧ s.wo l j < 2 * s.nv ∧ (s.gone (s.wa l j) = false → 2 ≤ s.ln (s.wa l j) ∧ (s.lt (s.wa l j) 0 = l ∨ s.lt (s.wa l j) 1 = l) ∧ s.Lit (s.wa l j) (s.wo l j))
  w_has : ∀ a i, s.Is a → 2 ≤ s.ln a → i < 2 → ∃ j, j < s.wn (s.lt a i) ∧ lv (s.lt a i) j ∧ s.wa (s.lt a i) j = a
  w_uni : ∀ l j k, l < 2 * s.nv → j < s.wn l → k < s.wn l → lv l j → lv l k → s.wa l j = s.wa l k → j = k
structure Base (s : St) (lv : Nat → Nat → Prop) : Prop where
  vars : Vars s
  tra : Tra s
  cls : Cls s
  wat : Wat s lv
  lens : s.ew = 2 * s.nv ∧ s.ev = 2 * s.nv ∧ s.er = 2 * s.nv
def All : Nat → Nat → Prop := fun _ _ => True
/-- Where one of the first d of the trail made a watched literal false, one of the first m satisfies the clause. -/
def Fol (s : St) (m d : Nat) : Prop := ∀ a i, s.Is a → 2 ≤ s.ln a → i < 2 → (∃ k, k < d ∧ s.tr k = neg (s.lt a i)) → ∃ k, k < m ∧ s.Lit a (s.tr k)
/-- Why the literals of the trail are true. -/
def Rsn (s : St) (so : Nat → Prop) : Prop := ∀ i, i < s.nt → (s.rsn (s.tr i) = 0 ∧ so (s.tr i)) ∨ (s.Is (s.rsn (s.tr i)) ∧ s.Lit (s.rsn (s.tr i)) (s.tr i) ∧ ∀ p, s.Lit (s.rsn (s.tr i)) p → p ≠ s.tr i → ∃ k, k < i ∧ s.tr k = neg p)
/-- All literals of a clause are false. -/
def Dead (s : St) (a : Nat) : Prop := s.Is a ∧ ∀ p, s.Lit a p → s.val p = -1

theorem Vars.ext_inj {s : St} (h : Vars s) {p q : Nat} (hp : p < 2 * s.nv) (hq : q < 2 * s.nv) (e : s.ext p = s.ext q) : p = q := by
  unfold ext at e
  have h1 := h.pos (p / 2) (by omega)
  have h2 := h.pos (q / 2) (by omega)
  split at e <;> split at e
  · have := h.inj _ _ (by omega) (by omega) e; omega
  · omega
  · omega
  · have := h.inj _ _ (by omega) (by omega) (by omega : s.vr (p / 2) = s.vr (q / 2)); omega
theorem Vars.ext_ne {s : St} (h : Vars s) {p : Nat} (hp : p < 2 * s.nv) : s.ext p ≠ 0 := by
  have h1 := h.pos (p / 2) (by omega)
  unfold ext; split <;> omega

theorem Cls.lit_lt {s : St} (h : Cls s) {a p : Nat} (ha : a < s.nc) (hp : s.Lit a p) : p < 2 * s.nv := by
  obtain ⟨i, hi, rfl⟩ := hp; exact h.c_lt a i ha hi
theorem Tra.false_iff {s : St} (h : Tra s) {p : Nat} (hp : p < 2 * s.nv) : s.val p = -1 ↔ ∃ i, i < s.nt ∧ s.tr i = neg p := by
  rw [← h.v_tr (neg p) (neg_lt hp), h.v_neg p hp]; omega
theorem Tra.nt_le {s : St} (h : Tra s) : s.nt ≤ 2 * s.nv := pigeon _ _ s.tr h.t_lt h.t_inj
theorem Tra.not_both {s : St} (h : Tra s) {i j : Nat} (hi : i < s.nt) (hj : j < s.nt) : s.tr i ≠ neg (s.tr j) := by
  intro e
  have h1 := (h.v_tr _ (h.t_lt i hi)).2 ⟨i, hi, rfl⟩
  have h2 := (h.v_tr _ (h.t_lt j hj)).2 ⟨j, hj, rfl⟩
  have h3 := h.v_neg _ (h.t_lt j hj)
  rw [← e] at h3; omega

/-- set -/
def put (s : St) (p r : Nat) : St :=
  { s with val := fun q => if q = p then 1 else if q = neg p then -1 else s.val q, rsn := fun q => if q = p then r else s.rsn q, tr := fun i => if i = s.nt then p else s.tr i, nt := s.nt + 1 }
theorem Tra.put {s : St} (h : Tra s) {p r : Nat} (hp : p < 2 * s.nv) (h0 : s.val p = 0) : Tra (s.put p r) := by
  have hn : ∀ i, i < s.nt → s.tr i ≠ p := fun i hi e => by have := (h.v_tr p hp).2 ⟨i, hi, e⟩; omega
  have hm : ∀ i, i < s.nt → s.tr i ≠ neg p := fun i hi e => by have := (h.false_iff hp).2 ⟨i, hi, e⟩; omega
  refine ⟨?_, ?_, ?_, ?_, ?_, Nat.le_succ_of_le h.d_le⟩
  · intro i hi
    show (if i = s.nt then p else s.tr i) < _
    have hi' : i < s.nt + 1 := hi
    split
    · exact hp
    · exact h.t_lt i (by omega)
  · intro i j hi hj e
    have hi' : i < s.nt + 1 := hi
    have hj' : j < s.nt + 1 := hj
    replace e : (if i = s.nt then p else s.tr i) = (if j = s.nt then p else s.tr j) := e
    split at e <;> split at e
    · omega
    · exact absurd e.symm (hn j (by omega))
    · exact absurd e (hn i (by omega))
    · exact h.t_inj i j (by omega) (by omega) e
  · intro q hq
    show (if q = p then (1 : Int) else if q = neg p then -1 else s.val q) = 1 ↔ ∃ i, i < s.nt + 1 ∧ (if i = s.nt then p else s.tr i) = q
    constructor
    · intro e
      split at e
      · next e2 => exact ⟨s.nt, by omega, by rw [if_pos rfl, e2]⟩
      · split at e
        · omega
        · obtain ⟨i, hi, e3⟩ := (h.v_tr q hq).1 e
          exact ⟨i, by omega, by rw [if_neg (by omega), e3]⟩
    · rintro ⟨i, hi, e⟩
      split at e
      · rw [if_pos e.symm]
      · have h1 : i < s.nt := by omega
        rw [if_neg (fun e2 => hn i h1 (e.trans e2)), if_neg (fun e2 => hm i h1 (e.trans e2))]
        exact (h.v_tr q hq).2 ⟨i, h1, e⟩
  · intro q hq
    show (if neg q = p then (1 : Int) else if neg q = neg p then -1 else s.val (neg q)) = -(if q = p then (1 : Int) else if q = neg p then -1 else s.val q)
    by_cases e : q = p
    · subst e; rw [if_neg (neg_ne q), if_pos rfl, if_pos rfl]
    · by_cases e2 : q = neg p
      · subst e2; rw [neg_neg, if_pos rfl, if_neg (neg_ne p), if_pos rfl]; rfl
      · rw [if_neg (fun e3 => e2 (neg_eq e3)), if_neg (fun e3 => e (neg_inj e3)), if_neg e, if_neg e2]
        exact h.v_neg q hq
  · intro q hq
    show (if q = p then (1 : Int) else if q = neg p then -1 else s.val q) = -1 ∨ _ ∨ _
    show (if q = p then (1 : Int) else if q = neg p then -1 else s.val q) = -1 ∨ (if q = p then (1 : Int) else if q = neg p then -1 else s.val q) = 0 ∨ (if q = p then (1 : Int) else if q = neg p then -1 else s.val q) = 1
    split
    · omega
    · split
      · omega
      · exact h.v_rng q hq
theorem Base.put {s : St} {lv : Nat → Nat → Prop} (h : Base s lv) {p r : Nat} (hp : p < 2 * s.nv) (h0 : s.val p = 0) : Base (s.put p r) lv :=
  ⟨⟨h.vars.pos, h.vars.inj⟩, h.tra.put hp h0, ⟨h.cls.c1, h.cls.c_lt, h.cls.c_ne, h.cls.c_nt, h.cls.c_gone, h.cls.s_ok, h.cls.s_all, h.cls.s_le⟩, ⟨h.wat.w_ok, h.wat.w_has, h.wat.w_uni⟩, h.lens⟩
theorem Fol.put {s : St} {m d : Nat} (h : s.Fol m d) (hm : m ≤ s.nt) (hd : d ≤ s.nt) (p r : Nat) : (s.put p r).Fol m d := by
  intro a i ha h2 hi ⟨k, hk, e⟩
  replace e : (if k = s.nt then p else s.tr k) = neg (s.lt a i) := e
  rw [if_neg (by omega)] at e
  obtain ⟨k', hk', hl⟩ := h a i ha h2 hi ⟨k, hk, e⟩
  refine ⟨k', hk', ?_⟩
  show s.Lit a (if k' = s.nt then p else s.tr k')
  rw [if_neg (by omega)]; exact hl
theorem Fol.mono {s : St} {m m' d d' : Nat} (h : s.Fol m d) (hm : m ≤ m') (hd : d' ≤ d) : s.Fol m' d' := by
  intro a i ha h2 hi ⟨k, hk, e⟩
  obtain ⟨k', hk', hl⟩ := h a i ha h2 hi ⟨k, by omega, e⟩
  exact ⟨k', by omega, hl⟩
theorem Rsn.put {s : St} {so : Nat → Prop} (h : s.Rsn so) (hT : Tra s) {p r : Nat} (hp : p < 2 * s.nv) (h0 : s.val p = 0)
    (hr : (r = 0 ∧ so p) ∨ (s.Is r ∧ s.Lit r p ∧ ∀ q, s.Lit r q → q ≠ p → q < 2 * s.nv ∧ s.val q = -1)) : (s.put p r).Rsn so := by
  intro i hi
  have hi' : i < s.nt + 1 := hi
  have key : ∀ k, k < s.nt → (s.put p r).tr k = s.tr k := fun k hk => if_neg (by omega)
  by_cases e : i = s.nt
  · subst e
    have e1 : (s.put p r).tr s.nt = p := if_pos rfl
    rw [e1]
    have e2 : (s.put p r).rsn p = r := if_pos rfl
    rw [e2]
    rcases hr with h1 | ⟨h1, h2, h3⟩
    · exact .inl h1
    · refine .inr ⟨h1, h2, fun q hq hne => ?_⟩
      obtain ⟨k, hk, ek⟩ := (hT.false_iff (h3 q hq hne).1).1 (h3 q hq hne).2
      exact ⟨k, hk, (key k hk).trans ek⟩
  · have hi2 : i < s.nt := by omega
    have hne : s.tr i ≠ p := fun e => by have := (hT.v_tr p hp).2 ⟨i, hi2, e⟩; omega
    rw [key i hi2]
    have e2 : (s.put p r).rsn (s.tr i) = s.rsn (s.tr i) := if_neg hne
    rw [e2]
    rcases h i hi2 with h1 | ⟨h1, h2, h3⟩
    · exact .inl h1
    · refine .inr ⟨h1, h2, fun q hq hne => ?_⟩
      obtain ⟨k, hk, ek⟩ := h3 q hq hne
      exact ⟨k, hk, (key k (by omega)).trans ek⟩

/-- retreat -/
def cut (s : St) (m : Nat) : St :=
  { s with val := fun q => if (List.range s.nt).any (fun i => decide (m ≤ i) && (s.tr i == q || s.tr i == neg q)) then 0 else s.val q, rsn := fun q => if (List.range s.nt).any (fun i => decide (m ≤ i) && s.tr i == q) then 0 else s.rsn q, nt := m, done := m }
theorem cut_any {s : St} {m q : Nat} : (List.range s.nt).any (fun i => decide (m ≤ i) && (s.tr i == q || s.tr i == neg q)) = true ↔ ∃ i, i < s.nt ∧ m ≤ i ∧ (s.tr i = q ∨ s.tr i = neg q) := by
  simp
theorem cut_any2 {s : St} {m q : Nat} : (List.range s.nt).any (fun i => decide (m ≤ i) && s.tr i == q) = true ↔ ∃ i, i < s.nt ∧ m ≤ i ∧ s.tr i = q := by
  simp
theorem Tra.cut {s : St} (h : Tra s) {m : Nat} (hm : m ≤ s.nt) : Tra (s.cut m) := by
  have hv : ∀ q, (∃ i, i < s.nt ∧ m ≤ i ∧ (s.tr i = q ∨ s.tr i = neg q)) → (s.cut m).val q = 0 := fun q hq => if_pos (cut_any.2 hq)
  have hv2 : ∀ q, ¬ (∃ i, i < s.nt ∧ m ≤ i ∧ (s.tr i = q ∨ s.tr i = neg q)) → (s.cut m).val q = s.val q := fun q hq => if_neg (fun e => hq (cut_any.1 e))
  have hsym : ∀ q, (∃ i, i < s.nt ∧ m ≤ i ∧ (s.tr i = q ∨ s.tr i = neg q)) ↔ (∃ i, i < s.nt ∧ m ≤ i ∧ (s.tr i = neg q ∨ s.tr i = neg (neg q))) := by
    intro q; rw [neg_neg]
    exact ⟨fun ⟨i, a, b, c⟩ => ⟨i, a, b, c.symm⟩, fun ⟨i, a, b, c⟩ => ⟨i, a, b, c.symm⟩⟩
  refine ⟨fun i hi => h.t_lt i (Nat.lt_of_lt_of_le hi hm), fun i j hi hj => h.t_inj i j (Nat.lt_of_lt_of_le hi hm) (Nat.lt_of_lt_of_le hj hm), ?_, ?_, ?_, Nat.le_refl _⟩
  · intro q hq
    by_cases hx : ∃ i, i < s.nt ∧ m ≤ i ∧ (s.tr i = q ∨ s.tr i = neg q)
    · rw [hv q hx]
      refine ⟨fun e => by omega, ?_⟩
      rintro ⟨j, hj, e⟩
      have hj' : j < m := hj
      replace e : s.tr j = q := e
      obtain ⟨i, hi, hmi, e2 | e2⟩ := hx
      · have := h.t_inj i j hi (by omega) (e2.trans e.symm); omega
      · exact absurd (by rw [e2, e]) (h.not_both hi (show j < s.nt by omega))
    · rw [hv2 q hx, h.v_tr q hq]
      constructor
      · rintro ⟨i, hi, e⟩
        exact ⟨i, show i < m from Nat.lt_of_not_le fun h => hx ⟨i, hi, h, .inl e⟩, e⟩
      · rintro ⟨i, hi, e⟩
        exact ⟨i, Nat.lt_of_lt_of_le hi hm, e⟩
  · intro q hq
    by_cases hx : ∃ i, i < s.nt ∧ m ≤ i ∧ (s.tr i = q ∨ s.tr i = neg q)
    · rw [hv q hx, hv _ ((hsym q).1 hx)]; rfl
    · rw [hv2 q hx, hv2 _ (fun e => hx ((hsym q).2 e))]; exact h.v_neg q hq
  · intro q hq
    by_cases hx : ∃ i, i < s.nt ∧ m ≤ i ∧ (s.tr i = q ∨ s.tr i = neg q)
    · rw [hv q hx]; omega
    · rw [hv2 q hx]; exact h.v_rng q hq
theorem Base.cut {s : St} {lv : Nat → Nat → Prop} (h : Base s lv) {m : Nat} (hm : m ≤ s.nt) : Base (s.cut m) lv :=
  ⟨⟨h.vars.pos, h.vars.inj⟩, h.tra.cut hm, ⟨h.cls.c1, h.cls.c_lt, h.cls.c_ne, h.cls.c_nt, h.cls.c_gone, h.cls.s_ok, h.cls.s_all, h.cls.s_le⟩, ⟨h.wat.w_ok, h.wat.w_has, h.wat.w_uni⟩, h.lens⟩
theorem Fol.cut {s : St} {m d : Nat} (h : s.Fol m d) (k : Nat) : (s.cut k).Fol m d := h
theorem Rsn.cut {s : St} {so so' : Nat → Prop} (h : s.Rsn so) (hT : Tra s) {m : Nat} (hm : m ≤ s.nt) (hs : ∀ i, i < m → so (s.tr i) → s.rsn (s.tr i) = 0 → so' (s.tr i)) : (s.cut m).Rsn so' := by
  intro i hi
  have hi' : i < m := hi
  have e : (s.cut m).rsn (s.tr i) = s.rsn (s.tr i) := if_neg fun e => by
    obtain ⟨k, hk, hmk, ek⟩ := cut_any2.1 e
    have := hT.t_inj k i hk (by omega) ek; omega
  have e1 : (s.cut m).tr i = s.tr i := rfl
  rw [e1, e]
  rcases h i (by omega) with ⟨h1, h2⟩ | h1
  · exact .inl ⟨h1, hs i hi' h2 h1⟩
  · exact .inr h1

/-- The first two literals change places. -/
def swp (s : St) (a : Nat) : St := { s with lt := fun b i => if b = a then (if i = 0 then s.lt a 1 else if i = 1 then s.lt a 0 else s.lt a i) else s.lt b i }
/-- Where a literal went. -/
def sw (i : Nat) : Nat := if i = 0 then 1 else if i = 1 then 0 else i
theorem sw_sw (i : Nat) : sw (sw i) = i := by unfold sw; split <;> split <;> (try split) <;> omega
theorem sw_lt {i n : Nat} (h : i < n) (hn : 2 ≤ n) : sw i < n := by unfold sw; split <;> (try split) <;> omega
theorem sw_inj {i j : Nat} (h : sw i = sw j) : i = j := by rw [← sw_sw i, h, sw_sw]
theorem swp_lt (s : St) (a b i : Nat) : (s.swp a).lt b i = s.lt b (if b = a then sw i else i) := by
  show (if b = a then (if i = 0 then s.lt a 1 else if i = 1 then s.lt a 0 else s.lt a i) else s.lt b i) = _
  unfold sw
  split
  · next e => subst e; split <;> (try split) <;> rfl
  · rfl
theorem swp_lit {s : St} {a : Nat} (h2 : 2 ≤ s.ln a) (b p : Nat) : (s.swp a).Lit b p ↔ s.Lit b p := by
  constructor
  · rintro ⟨i, hi, e⟩
    rw [swp_lt] at e
    refine ⟨_, ?_, e⟩
    split
    · next e2 => subst e2; exact sw_lt hi h2
    · exact hi
  · rintro ⟨i, hi, e⟩
    by_cases e2 : b = a
    · subst e2
      exact ⟨sw i, sw_lt hi h2, by rw [swp_lt, if_pos rfl, sw_sw]; exact e⟩
    · exact ⟨i, hi, by rw [swp_lt, if_neg e2]; exact e⟩
theorem Base.swp {s : St} {lv : Nat → Nat → Prop} (h : Base s lv) {a : Nat} (h2 : 2 ≤ s.ln a) : Base (s.swp a) lv := by
  have hix : ∀ b i, i < s.ln b → (if b = a then sw i else i) < s.ln b := by
    intro b i hi; split
    · next e => subst e; exact sw_lt hi h2
    · exact hi
  refine ⟨⟨h.vars.pos, h.vars.inj⟩, ⟨h.tra.t_lt, h.tra.t_inj, h.tra.v_tr, h.tra.v_neg, h.tra.v_rng, h.tra.d_le⟩, ⟨h.cls.c1, ?_, ?_, ?_, h.cls.c_gone, h.cls.s_ok, h.cls.s_all, h.cls.s_le⟩, ⟨?_, ?_, h.wat.w_uni⟩, h.lens⟩
  · intro b i hb hi; rw [swp_lt]; exact h.cls.c_lt b _ hb (hix b i hi)
  · intro b i j hb hi hj e
    rw [swp_lt, swp_lt] at e
    have := h.cls.c_ne b _ _ hb (hix b i hi) (hix b j hj) e
    split at this
    · exact sw_inj this
    · exact this
  · intro b i j hb hi hj; rw [swp_lt, swp_lt]; exact h.cls.c_nt b _ _ hb (hix b i hi) (hix b j hj)
  · intro l j hl hj hv
    obtain ⟨h3, h4, h5, h6⟩ := h.wat.w_ok l j hl hj hv
    refine ⟨h3, h4, h5, fun hg => ?_⟩
    obtain ⟨h7, h8, h9⟩ := h6 hg
    refine ⟨h7, ?_, (swp_lit h2 _ _).2 h9⟩
    show (s.swp a).lt (s.wa l j) 0 = l ∨ (s.swp a).lt (s.wa l j) 1 = l
    rw [swp_lt, swp_lt]
    split
    · exact h8.symm
    · exact h8
  · intro b i hb hn hi
    rw [swp_lt]
    exact h.wat.w_has b _ hb hn (by unfold sw; split <;> (try split) <;> (try split) <;> omega)
end St
end Go.Proofs.Ytoffhgiljnagcaa
