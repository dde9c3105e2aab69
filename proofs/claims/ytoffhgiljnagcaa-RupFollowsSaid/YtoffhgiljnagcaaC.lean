/- What is known, as mathematics: watches that move, lists that are gone through, clauses that come and go. -/
import Derived.Test.YtoffhgiljnagcaaB
namespace Go.Proofs.Ytoffhgiljnagcaa
namespace St

theorem swp_fol {s : St} {a : Nat} (h2 : 2 ≤ s.ln a) {m d : Nat} (h : s.Fol m d) : (s.swp a).Fol m d := by
  intro b i hb hn hi hk
  have hk' : ∃ k, k < d ∧ s.tr k = neg (s.lt b (if b = a then sw i else i)) := by
    obtain ⟨k, h3, h4⟩ := hk
    exact ⟨k, h3, by rw [← swp_lt]; exact h4⟩
  obtain ⟨k, h3, h4⟩ := h b _ hb hn (by unfold sw; split <;> (try split) <;> (try split) <;> omega) hk'
  exact ⟨k, h3, (swp_lit h2 _ _).2 h4⟩
theorem swp_rsn {s : St} {a : Nat} (h2 : 2 ≤ s.ln a) {so : Nat → Prop} (h : s.Rsn so) : (s.swp a).Rsn so := by
  intro i hi
  rcases h i hi with h1 | ⟨h1, h2', h3⟩
  · exact .inl h1
  · exact .inr ⟨h1, (swp_lit h2 _ _).2 h2', fun p hp => h3 p ((swp_lit h2 _ _).1 hp)⟩

/-- What watches: only the lists' entries have turned. -/
def lists (s : St) (wn' : Nat → Nat) (wa' wo' : Nat → Nat → Nat) : St := { s with wn := wn', wa := wa', wo := wo' }
theorem Wat.turn {s : St} {lv lv' : Nat → Nat → Prop} (h : Wat s lv) {wn' : Nat → Nat} {wa' wo' : Nat → Nat → Nat} (φ : Nat → Nat → Nat)
    (h1 : ∀ l j, l < 2 * s.nv → j < wn' l → lv' l j → φ l j < s.wn l ∧ lv l (φ l j) ∧ wa' l j = s.wa l (φ l j) ∧ wo' l j < 2 * s.nv ∧ (s.gone (wa' l j) = false → s.Lit (wa' l j) (wo' l j)))
    (h2 : ∀ l j k, l < 2 * s.nv → j < wn' l → k < wn' l → lv' l j → lv' l k → φ l j = φ l k → j = k)
    (h3 : ∀ l j, j < s.wn l → lv l j → s.gone (s.wa l j) = false → ∃ j', j' < wn' l ∧ lv' l j' ∧ wa' l j' = s.wa l j) : Wat (s.lists wn' wa' wo') lv' := by
  refine ⟨?_, ?_, ?_⟩
  · intro l j hl hj hv
    obtain ⟨a1, a2, a3, a4, a5⟩ := h1 l j hl hj hv
    obtain ⟨b1, b2, b3, b4⟩ := h.w_ok l _ hl a1 a2
    show 1 ≤ wa' l j ∧ wa' l j < s.nc ∧ wo' l j < 2 * s.nv ∧ (s.gone (wa' l j) = false → 2 ≤ s.ln (wa' l j) ∧ (s.lt (wa' l j) 0 = l ∨ s.lt (wa' l j) 1 = l) ∧ s.Lit (wa' l j) (wo' l j))
    refine ⟨by omega, by omega, a4, fun hg => ?_⟩
    have hg' := hg
    rw [a3] at hg'
    obtain ⟨c1, c2, c3⟩ := b4 hg'
    exact ⟨by rw [a3]; exact c1, by rw [a3]; exact c2, a5 hg⟩
  · intro a i ha hn hi
    obtain ⟨j, hj, hv, e⟩ := h.w_has a i ha hn hi
    obtain ⟨j', hj', hv', e'⟩ := h3 _ j hj hv (by rw [e]; exact ha.2.2)
    exact ⟨j', hj', hv', e'.trans e⟩
  · intro l j k hl hj hk hvj hvk e
    replace e : wa' l j = wa' l k := e
    obtain ⟨a1, a2, a3, _⟩ := h1 l j hl hj hvj
    obtain ⟨b1, b2, b3, _⟩ := h1 l k hl hk hvk
    exact h2 l j k hl hj hk hvj hvk (h.w_uni l _ _ hl a1 b1 a2 b2 (by rw [← a3, ← b3, e]))

/-- A list that is gone through: the first k stay, those from n on are to come. -/
def lvF (l k n : Nat) : Nat → Nat → Prop := fun l' j => l' ≠ l ∨ j < k ∨ n ≤ j

theorem Wat.start {s : St} (h : Wat s All) (l : Nat) : Wat s (lvF l 0 0) := by
  refine h.turn (s := s) (wn' := s.wn) (wa' := s.wa) (wo' := s.wo) (fun _ j => j) ?_ (fun _ _ _ _ _ _ _ _ e => e) ?_
  · intro l' j hl hj _
    obtain ⟨b1, b2, b3, b4⟩ := h.w_ok l' j hl hj trivial
    exact ⟨hj, trivial, rfl, b3, fun hg => (b4 hg).2.2⟩
  · exact fun l' j hj _ _ => ⟨j, hj, .inr (.inr (Nat.zero_le _)), rfl⟩

/-- An entry of a clause that is gone falls. -/
theorem Wat.drop {s : St} {l k n : Nat} (h : Wat s (lvF l k n)) (hg : s.gone (s.wa l n) = true) : Wat s (lvF l k (n + 1)) := by
  refine h.turn (s := s) (wn' := s.wn) (wa' := s.wa) (wo' := s.wo) (fun _ j => j) ?_ (fun _ _ _ _ _ _ _ _ e => e) ?_
  · intro l' j hl hj hv
    have hv' : lvF l k n l' j := by
      rcases hv with h1 | h1 | h1
      · exact .inl h1
      · exact .inr (.inl h1)
      · exact .inr (.inr (by omega))
    obtain ⟨b1, b2, b3, b4⟩ := h.w_ok l' j hl hj hv'
    exact ⟨hj, hv', rfl, b3, fun hg => (b4 hg).2.2⟩
  · intro l' j hj hv hg'
    refine ⟨j, hj, ?_, rfl⟩
    rcases hv with h1 | h1 | h1
    · exact .inl h1
    · exact .inr (.inl h1)
    · by_cases e : l' = l ∧ j = n
      · obtain ⟨rfl, rfl⟩ := e; rw [hg] at hg'; cases hg'
      · by_cases e2 : l' = l
        · exact .inr (.inr (by omega))
        · exact .inl e2

def kee (s : St) (l k a o : Nat) : St := s.lists s.wn (fun l' j => if l' = l ∧ j = k then a else s.wa l' j) (fun l' j => if l' = l ∧ j = k then o else s.wo l' j)
/-- An entry stays, perhaps with another literal beside it. -/
theorem Wat.kee {s : St} {l k n o : Nat} (h : Wat s (lvF l k n)) (hk : k ≤ n) (hn : n < s.wn l) (hl : l < 2 * s.nv) (ho : o < 2 * s.nv) (hL : s.gone (s.wa l n) = false → s.Lit (s.wa l n) o) :
    Wat (s.kee l k (s.wa l n) o) (lvF l (k + 1) (n + 1)) := by
  refine h.turn (fun l' j => if l' = l ∧ j = k then n else j) ?_ ?_ ?_
  · intro l' j hl' hj hv
    show (if l' = l ∧ j = k then n else j) < s.wn l' ∧ lvF l k n l' (if l' = l ∧ j = k then n else j) ∧ (if l' = l ∧ j = k then s.wa l n else s.wa l' j) = s.wa l' (if l' = l ∧ j = k then n else j) ∧ (if l' = l ∧ j = k then o else s.wo l' j) < 2 * s.nv ∧ (s.gone (if l' = l ∧ j = k then s.wa l n else s.wa l' j) = false → s.Lit (if l' = l ∧ j = k then s.wa l n else s.wa l' j) (if l' = l ∧ j = k then o else s.wo l' j))
    by_cases e : l' = l ∧ j = k
    · simp only [if_pos e]
      obtain ⟨rfl, rfl⟩ := e
      exact ⟨hn, .inr (.inr (Nat.le_refl _)), rfl, ho, hL⟩
    · simp only [if_neg e]
      have hv' : lvF l k n l' j := by
        rcases hv with h1 | h1 | h1
        · exact .inl h1
        · by_cases e2 : l' = l
          · exact .inr (.inl (by omega))
          · exact .inl e2
        · exact .inr (.inr (by omega))
      obtain ⟨b1, b2, b3, b4⟩ := h.w_ok l' j hl' hj hv'
      exact ⟨hj, hv', trivial, b3, fun hg => (b4 hg).2.2⟩
  · intro l' j j' hl' hj hj' hv hv' e
    replace e : (if l' = l ∧ j = k then n else j) = (if l' = l ∧ j' = k then n else j') := e
    split at e <;> split at e
    · omega
    · next a b =>
      rcases hv' with h1 | h1 | h1
      · exact absurd a.1 h1
      · omega
      · omega
    · next a b =>
      rcases hv with h1 | h1 | h1
      · exact absurd b.1 h1
      · omega
      · omega
    · exact e
  · intro l' j hj hv hg
    by_cases e : l' = l
    · subst e
      by_cases e2 : j = n
      · subst e2
        exact ⟨k, Nat.lt_of_le_of_lt hk hn, .inr (.inl (by omega)), by show (if _ then _ else _) = _; rw [if_pos ⟨rfl, rfl⟩]⟩
      · rcases hv with h1 | h1 | h1
        · exact absurd rfl h1
        · exact ⟨j, hj, .inr (.inl (by omega)), if_neg (by omega)⟩
        · exact ⟨j, hj, .inr (.inr (by omega)), if_neg (by omega)⟩
    · exact ⟨j, hj, .inl e, if_neg (fun e2 => e e2.1)⟩

def cpt (s : St) (l k n : Nat) : St := s.lists (fun l' => if l' = l then k + (s.wn l - n) else s.wn l') (fun l' j => if l' = l ∧ k ≤ j then s.wa l (j - k + n) else s.wa l' j) (fun l' j => if l' = l ∧ k ≤ j then s.wo l (j - k + n) else s.wo l' j)
/-- What is left closes up. -/
theorem Wat.cpt {s : St} {l k n : Nat} (h : Wat s (lvF l k n)) (hk : k ≤ n) (hn : n ≤ s.wn l) : Wat (s.cpt l k n) All := by
  refine h.turn (fun l' j => if l' = l ∧ k ≤ j then j - k + n else j) ?_ ?_ ?_
  · intro l' j hl' hj _
    replace hj : j < (if l' = l then k + (s.wn l - n) else s.wn l') := hj
    show (if l' = l ∧ k ≤ j then j - k + n else j) < s.wn l' ∧ lvF l k n l' (if l' = l ∧ k ≤ j then j - k + n else j) ∧ (if l' = l ∧ k ≤ j then s.wa l (j - k + n) else s.wa l' j) = s.wa l' (if l' = l ∧ k ≤ j then j - k + n else j) ∧ (if l' = l ∧ k ≤ j then s.wo l (j - k + n) else s.wo l' j) < 2 * s.nv ∧ (s.gone (if l' = l ∧ k ≤ j then s.wa l (j - k + n) else s.wa l' j) = false → s.Lit (if l' = l ∧ k ≤ j then s.wa l (j - k + n) else s.wa l' j) (if l' = l ∧ k ≤ j then s.wo l (j - k + n) else s.wo l' j))
    by_cases e : l' = l ∧ k ≤ j
    · simp only [if_pos e]
      obtain ⟨rfl, e2⟩ := e
      rw [if_pos rfl] at hj
      have hv' : lvF l' k n l' (j - k + n) := .inr (.inr (by omega))
      obtain ⟨b1, b2, b3, b4⟩ := h.w_ok l' (j - k + n) hl' (by omega) hv'
      exact ⟨by omega, hv', rfl, b3, fun hg => (b4 hg).2.2⟩
    · simp only [if_neg e]
      have hj' : j < s.wn l' := by
        split at hj
        · next e2 => subst e2; omega
        · exact hj
      have hv' : lvF l k n l' j := by
        by_cases e2 : l' = l
        · exact .inr (.inl (by omega))
        · exact .inl e2
      obtain ⟨b1, b2, b3, b4⟩ := h.w_ok l' j hl' hj' hv'
      exact ⟨hj', hv', trivial, b3, fun hg => (b4 hg).2.2⟩
  · intro l' j j' hl' hj hj' _ _ e
    replace e : (if l' = l ∧ k ≤ j then j - k + n else j) = (if l' = l ∧ k ≤ j' then j' - k + n else j') := e
    split at e <;> split at e <;> omega
  · intro l' j hj hv hg
    by_cases e : l' = l
    · subst e
      rcases hv with h1 | h1 | h1
      · exact absurd rfl h1
      · exact ⟨j, by rw [if_pos rfl]; omega, trivial, if_neg (by omega)⟩
      · exact ⟨j - n + k, by rw [if_pos rfl]; omega, trivial, by show (if _ then _ else _) = _; rw [if_pos ⟨rfl, by omega⟩, show j - n + k - k + n = j by omega]⟩
    · exact ⟨j, by rw [if_neg e]; exact hj, trivial, if_neg (fun e2 => e e2.1)⟩

/-- One more entry in the list of m. -/
def ent (s : St) (m a o : Nat) : St := s.lists (fun l => if l = m then s.wn m + 1 else s.wn l) (fun l j => if l = m ∧ j = s.wn m then a else s.wa l j) (fun l j => if l = m ∧ j = s.wn m then o else s.wo l j)
/-- The second literal and that at i change places. -/
def mv (i j : Nat) : Nat := if j = 1 then i else if j = i then 1 else j
theorem mv_mv (i j : Nat) : mv i (mv i j) = j := by unfold mv; split <;> split <;> (try split) <;> omega
theorem mv_lt {i j n : Nat} (h : j < n) (hi : i < n) (hn : 2 ≤ n) : mv i j < n := by unfold mv; split <;> (try split) <;> omega
theorem mv_inj {i j k : Nat} (h : mv i j = mv i k) : j = k := by rw [← mv_mv i j, h, mv_mv]
def mov (s : St) (a i : Nat) : St := { s with lt := fun b j => if b = a then (if j = 1 then s.lt a i else if j = i then s.lt a 1 else s.lt a j) else s.lt b j }
theorem mov_lt (s : St) (a i b j : Nat) : (s.mov a i).lt b j = s.lt b (if b = a then mv i j else j) := by
  show (if b = a then (if j = 1 then s.lt a i else if j = i then s.lt a 1 else s.lt a j) else s.lt b j) = _
  unfold mv
  split
  · next e => subst e; split <;> (try split) <;> rfl
  · rfl
theorem mov_lit {s : St} {a i : Nat} (hi : i < s.ln a) (h2 : 2 ≤ s.ln a) (b p : Nat) : (s.mov a i).Lit b p ↔ s.Lit b p := by
  constructor
  · rintro ⟨j, hj, e⟩
    rw [mov_lt] at e
    refine ⟨_, ?_, e⟩
    split
    · next e2 => subst e2; exact mv_lt hj hi h2
    · exact hj
  · rintro ⟨j, hj, e⟩
    by_cases e2 : b = a
    · subst e2
      exact ⟨mv i j, mv_lt hj hi h2, by rw [mov_lt, if_pos rfl, mv_mv]; exact e⟩
    · exact ⟨j, hj, by rw [mov_lt, if_neg e2]; exact e⟩
theorem Cls.mov {s : St} (h : Cls s) {a i : Nat} (hi : i < s.ln a) (h2 : 2 ≤ s.ln a) : Cls (s.mov a i) := by
  have hix : ∀ b j, j < s.ln b → (if b = a then mv i j else j) < s.ln b := by
    intro b j hj; split
    · next e => subst e; exact mv_lt hj hi h2
    · exact hj
  refine ⟨h.c1, ?_, ?_, ?_, h.c_gone, h.s_ok, h.s_all, h.s_le⟩
  · intro b j hb hj; rw [mov_lt]; exact h.c_lt b _ hb (hix b j hj)
  · intro b j k hb hj hk e
    rw [mov_lt, mov_lt] at e
    have := h.c_ne b _ _ hb (hix b j hj) (hix b k hk) e
    split at this
    · exact mv_inj this
    · exact this
  · intro b j k hb hj hk; rw [mov_lt, mov_lt]; exact h.c_nt b _ _ hb (hix b j hj) (hix b k hk)
theorem mov_rsn {s : St} {a i : Nat} (hi : i < s.ln a) (h2 : 2 ≤ s.ln a) {so : Nat → Prop} (h : s.Rsn so) : (s.mov a i).Rsn so := by
  intro k hk
  rcases h k hk with h1 | ⟨h1, h2', h3⟩
  · exact .inl h1
  · exact .inr ⟨h1, (mov_lit hi h2 _ _).2 h2', fun p hp => h3 p ((mov_lit hi h2 _ _).1 hp)⟩
theorem mov_fol {s : St} {a i : Nat} (hi : i < s.ln a) (h2 : 2 ≤ s.ln a) (hi2 : 2 ≤ i) {m d : Nat} (h : s.Fol m d) (hv : ∀ k, k < d → s.tr k ≠ neg (s.lt a i)) : (s.mov a i).Fol m d := by
  intro b j hb hn hj ⟨k, hk, e⟩
  rw [mov_lt] at e
  replace e : s.tr k = neg (s.lt b (if b = a then mv i j else j)) := e
  have : ∃ k, k < m ∧ s.Lit b (s.tr k) := by
    by_cases e2 : b = a
    · rw [if_pos e2] at e
      subst e2
      by_cases e3 : j = 1
      · subst e3
        exact absurd (by rw [e]; rfl) (hv k hk)
      · have e4 : mv i j = j := by unfold mv; rw [if_neg e3, if_neg (by omega)]
        rw [e4] at e
        exact h b j hb hn hj ⟨k, hk, e⟩
    · rw [if_neg e2] at e
      exact h b j hb hn hj ⟨k, hk, e⟩
  obtain ⟨k', h3, h4⟩ := this
  exact ⟨k', h3, (mov_lit hi h2 _ _).2 h4⟩

/-- A clause watches another literal. -/
theorem Wat.move {s : St} {l k n i : Nat} (h : Wat s (lvF l k n)) (hc : Cls s) (hk : k ≤ n) (hn : n < s.wn l) (hl : l < 2 * s.nv) (hg : s.gone (s.wa l n) = false) (h1 : s.lt (s.wa l n) 1 = l) (hi : i < s.ln (s.wa l n)) (hi2 : 2 ≤ i) :
    Wat ((s.mov (s.wa l n) i).ent (s.lt (s.wa l n) i) (s.wa l n) (s.lt (s.wa l n) 0)) (lvF l k (n + 1)) := by
  obtain ⟨w1, w2, w3, w4⟩ := h.w_ok l n hl hn (.inr (.inr (Nat.le_refl _)))
  obtain ⟨w5, _, _⟩ := w4 hg
  generalize ha : s.wa l n = a at *
  have hml : s.lt a i ≠ l := fun e => by have := hc.c_ne a i 1 w2 hi (by omega) (e.trans h1.symm); omega
  have hm0 : s.lt a i ≠ s.lt a 0 := fun e => by have := hc.c_ne a i 0 w2 hi (by omega) e; omega
  have hl0 : s.lt a 0 ≠ l := fun e => by have := hc.c_ne a 0 1 w2 (by omega) (by omega) (e.trans h1.symm); omega
  have hml2 : ∀ j, j < s.wn (s.lt a i) → s.wa (s.lt a i) j ≠ a := by
    intro j hj e
    obtain ⟨_, _, _, b4⟩ := h.w_ok (s.lt a i) j (hc.c_lt a i w2 hi) hj (.inl hml)
    rw [e] at b4
    rcases (b4 hg).2.1 with e2 | e2
    · exact hm0 e2.symm
    · exact hml (e2.symm.trans h1)
  have up : ∀ l' j, lvF l k (n + 1) l' j → lvF l k n l' j := by
    intro l' j hv
    rcases hv with h1 | h1 | h1
    · exact .inl h1
    · exact .inr (.inl h1)
    · exact .inr (.inr (by omega))
  refine ⟨?_, ?_, ?_⟩
  · intro l' j hl' hj hv
    replace hj : j < (if l' = s.lt a i then s.wn (s.lt a i) + 1 else s.wn l') := hj
    show 1 ≤ (if l' = s.lt a i ∧ j = s.wn (s.lt a i) then a else s.wa l' j) ∧ (if l' = s.lt a i ∧ j = s.wn (s.lt a i) then a else s.wa l' j) < s.nc ∧ (if l' = s.lt a i ∧ j = s.wn (s.lt a i) then s.lt a 0 else s.wo l' j) < 2 * s.nv ∧
      (s.gone (if l' = s.lt a i ∧ j = s.wn (s.lt a i) then a else s.wa l' j) = false → 2 ≤ s.ln (if l' = s.lt a i ∧ j = s.wn (s.lt a i) then a else s.wa l' j) ∧ ((s.mov a i).lt (if l' = s.lt a i ∧ j = s.wn (s.lt a i) then a else s.wa l' j) 0 = l' ∨ (s.mov a i).lt (if l' = s.lt a i ∧ j = s.wn (s.lt a i) then a else s.wa l' j) 1 = l') ∧ (s.mov a i).Lit (if l' = s.lt a i ∧ j = s.wn (s.lt a i) then a else s.wa l' j) (if l' = s.lt a i ∧ j = s.wn (s.lt a i) then s.lt a 0 else s.wo l' j))
    by_cases e : l' = s.lt a i ∧ j = s.wn (s.lt a i)
    · simp only [if_pos e]
      obtain ⟨rfl, rfl⟩ := e
      exact ⟨w1, w2, hc.c_lt a 0 w2 (by omega), fun _ => ⟨w5, .inr (by rw [mov_lt, if_pos rfl]; rfl), (mov_lit hi w5 _ _).2 ⟨0, by omega, rfl⟩⟩⟩
    · simp only [if_neg e]
      have hj' : j < s.wn l' := by
        split at hj
        · next e2 => subst e2; omega
        · exact hj
      obtain ⟨b1, b2, b3, b4⟩ := h.w_ok l' j hl' hj' (up _ _ hv)
      refine ⟨b1, b2, b3, fun hg' => ?_⟩
      obtain ⟨c1, c2, c3⟩ := b4 hg'
      refine ⟨c1, ?_, (mov_lit hi w5 _ _).2 c3⟩
      by_cases e2 : s.wa l' j = a
      · rw [e2] at c2 ⊢
        rw [mov_lt, mov_lt, if_pos rfl, if_pos rfl]
        have e0 : mv i 0 = 0 := by unfold mv; rw [if_neg (by omega), if_neg (by omega)]
        rw [e0]
        rcases c2 with c2 | c2
        · exact .inl c2
        · exfalso
          have hll : l' = l := c2.symm.trans h1
          subst hll
          have := h.w_uni l' j n hl' hj' hn (up _ _ hv) (.inr (.inr (Nat.le_refl _))) (e2.trans ha.symm)
          subst this
          rcases hv with x | x | x
          · exact x rfl
          · omega
          · omega
      · rw [mov_lt, mov_lt, if_neg e2, if_neg e2]; exact c2
  · intro b j hb h2 hj
    replace hb : s.Is b := hb
    replace h2 : 2 ≤ s.ln b := h2
    by_cases e : b = a
    · subst e
      by_cases e1 : j = 1
      · subst e1
        have e2 : ((s.mov b i).ent (s.lt b i) b (s.lt b 0)).lt b 1 = s.lt b i := by
          show (s.mov b i).lt b 1 = _
          rw [mov_lt, if_pos rfl]; rfl
        rw [e2]
        exact ⟨s.wn (s.lt b i), Nat.lt_of_lt_of_eq (Nat.lt_succ_self _) (if_pos rfl).symm, .inl hml, by show (if _ then _ else _) = _; exact if_pos ⟨rfl, rfl⟩⟩
      · have e0 : j = 0 := by omega
        subst e0
        have e2 : ((s.mov b i).ent (s.lt b i) b (s.lt b 0)).lt b 0 = s.lt b 0 := by
          show (s.mov b i).lt b 0 = _
          rw [mov_lt, if_pos rfl]; congr 1; unfold mv; rw [if_neg (by omega), if_neg (by omega)]
        rw [e2]
        obtain ⟨j, hj1, hj2, hj3⟩ := h.w_has b 0 hb h2 (by omega)
        exact ⟨j, by show _ < (if _ then _ else _); rw [if_neg (Ne.symm hm0)]; exact hj1, .inl hl0, by show (if _ then _ else _) = b; rw [if_neg (fun e => hm0 e.1.symm)]; exact hj3⟩
    · have e2 : ((s.mov a i).ent (s.lt a i) a (s.lt a 0)).lt b j = s.lt b j := by
        show (s.mov a i).lt b j = _
        rw [mov_lt, if_neg e]
      rw [e2]
      obtain ⟨j', hj1, hj2, hj3⟩ := h.w_has b j hb h2 hj
      refine ⟨j', ?_, ?_, ?_⟩
      · show j' < (if s.lt b j = s.lt a i then s.wn (s.lt a i) + 1 else s.wn (s.lt b j))
        split
        · next e3 => rw [← e3]; omega
        · exact hj1
      · rcases hj2 with x | x | x
        · exact .inl x
        · exact .inr (.inl x)
        · by_cases e4 : s.lt b j = l
          · refine .inr (.inr ?_)
            have : j' ≠ n := fun e5 => by rw [e4, e5, ha] at hj3; exact e hj3.symm
            omega
          · exact .inl e4
      · show (if s.lt b j = s.lt a i ∧ j' = s.wn (s.lt a i) then a else s.wa (s.lt b j) j') = b
        rw [if_neg (fun e3 => by rw [e3.1, e3.2] at hj1; omega)]
        exact hj3
  · intro l' j j' hl' hj hj' hv hv' e
    replace hj : j < (if l' = s.lt a i then s.wn (s.lt a i) + 1 else s.wn l') := hj
    replace hj' : j' < (if l' = s.lt a i then s.wn (s.lt a i) + 1 else s.wn l') := hj'
    replace e : (if l' = s.lt a i ∧ j = s.wn (s.lt a i) then a else s.wa l' j) = (if l' = s.lt a i ∧ j' = s.wn (s.lt a i) then a else s.wa l' j') := e
    by_cases e1 : l' = s.lt a i ∧ j = s.wn (s.lt a i) <;> by_cases e2 : l' = s.lt a i ∧ j' = s.wn (s.lt a i)
    · omega
    · rw [if_pos e1, if_neg e2] at e
      obtain ⟨rfl, rfl⟩ := e1
      rw [if_pos rfl] at hj'
      exact absurd e.symm (hml2 j' (by omega))
    · rw [if_neg e1, if_pos e2] at e
      obtain ⟨rfl, rfl⟩ := e2
      rw [if_pos rfl] at hj
      exact absurd e (hml2 j (by omega))
    · rw [if_neg e1, if_neg e2] at e
      refine h.w_uni l' j j' hl' ?_ ?_ (up _ _ hv) (up _ _ hv') e
      · split at hj
        · next x => subst x; omega
        · exact hj
      · split at hj'
        · next x => subst x; omega
        · exact hj'
end St
end Go.Proofs.Ytoffhgiljnagcaa
