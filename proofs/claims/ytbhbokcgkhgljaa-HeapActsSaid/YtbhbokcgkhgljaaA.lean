/- Plain mathematics of a heap of variables: orders, places, counts. -/
namespace Go.Proofs.Ytbhbokcgkhgljaa

/-- v comes before w. -/
def bef (A : Nat → Int) (v w : Nat) : Prop := A w < A v ∨ (A v = A w ∧ v < w)
instance (A : Nat → Int) (v w : Nat) : Decidable (bef A v w) := by unfold bef; exact inferInstance
theorem bef_asymm {A : Nat → Int} {v w : Nat} (h : bef A v w) : ¬ bef A w v := by unfold bef at *; omega
theorem bef_irrefl (A : Nat → Int) (v : Nat) : ¬ bef A v v := by unfold bef; omega
theorem bef_trans {A : Nat → Int} {u v w : Nat} (h : bef A u v) (k : bef A v w) : bef A u w := by unfold bef at *; omega
theorem nbef_trans {A : Nat → Int} {u v w : Nat} (h : ¬ bef A u v) (k : ¬ bef A v w) : ¬ bef A u w := by unfold bef at *; omega
theorem nbef_eq {A : Nat → Int} {v w : Nat} (h : ¬ bef A v w) (k : ¬ bef A w v) : v = w := by unfold bef at *; omega

def par (j : Nat) : Nat := (j - 1) / 2
theorem par_lt {j : Nat} (h : 0 < j) : par j < j := by unfold par; omega

/-- No variable comes before the one above it, from place lo on. -/
def Up (A : Nat → Int) (O : Nat → Nat) (lo m : Nat) : Prop := ∀ j, j < m → 0 < j → lo ≤ par j → ¬ bef A (O j) (O (par j))
structure RiseInv (A : Nat → Int) (O : Nat → Nat) (m i : Nat) : Prop where
  one : ∀ j, j < m → 0 < j → j ≠ i → ¬ bef A (O j) (O (par j))
  two : ∀ j, j < m → 0 < j → par j = i → 0 < i → ¬ bef A (O j) (O (par i))
structure SinkInv (A : Nat → Int) (O : Nat → Nat) (lo m i : Nat) : Prop where
  one : ∀ j, j < m → 0 < j → lo ≤ par j → par j ≠ i → ¬ bef A (O j) (O (par j))
  two : ∀ j, j < m → 0 < j → par j = i → 0 < i → lo ≤ par i → ¬ bef A (O j) (O (par i))

def swO (O : Nat → Nat) (i k : Nat) : Nat → Nat := fun j => if j = k then O i else if j = i then O k else O j
def swP (P : Nat → Int) (O : Nat → Nat) (i k : Nat) : Nat → Int := fun u => if u = O k then (i : Int) else if u = O i then (k : Int) else P u
theorem swO_l {O : Nat → Nat} {i k : Nat} : swO O i k i = O k := by unfold swO; split <;> simp_all
theorem swO_r {O : Nat → Nat} {i k : Nat} : swO O i k k = O i := by simp [swO]
theorem swO_o {O : Nat → Nat} {i k j : Nat} (h : j ≠ i) (h' : j ≠ k) : swO O i k j = O j := by simp [swO, h, h']

structure Link (n m : Nat) (O : Nat → Nat) (P : Nat → Int) : Prop where
  ord : ∀ i, i < m → 1 ≤ O i ∧ O i ≤ n ∧ P (O i) = i
  pla : ∀ v, 1 ≤ v → v ≤ n → P v ≠ -1 → ∃ i, i < m ∧ P v = i ∧ O i = v
theorem Link.inj {n m : Nat} {O : Nat → Nat} {P : Nat → Int} (h : Link n m O P) {i j : Nat} (hi : i < m) (hj : j < m) (e : O i = O j) : i = j := by
  have h1 := (h.ord i hi).2.2
  have h2 := (h.ord j hj).2.2
  rw [e, h2] at h1; omega
theorem Link.bd {n m : Nat} {O : Nat → Nat} {P : Nat → Int} (h : Link n m O P) {v : Nat} (h1 : 1 ≤ v) (h2 : v ≤ n) : -1 ≤ P v ∧ P v < m := by
  by_cases e : P v = -1
  · omega
  · obtain ⟨i, hi, hp, _⟩ := h.pla v h1 h2 e; omega
theorem Link.swap {n m : Nat} {O : Nat → Nat} {P : Nat → Int} (h : Link n m O P) {i k : Nat} (hi : i < m) (hk : k < m) :
    Link n m (swO O i k) (swP P O i k) ∧ ∀ v, swP P O i k v = -1 ↔ P v = -1 := by
  have hoi := h.ord i hi
  have hok := h.ord k hk
  refine ⟨⟨fun j hj => ?_, fun v h1 h2 h3 => ?_⟩, fun v => ?_⟩
  · have hoj := h.ord j hj
    by_cases e1 : j = k
    · subst e1
      rw [swO_r]
      refine ⟨hoi.1, hoi.2.1, ?_⟩
      unfold swP
      split
      · rename_i e
        have := h.inj hi hj e
        omega
      · simp
    · by_cases e2 : j = i
      · subst e2
        rw [swO_l]
        refine ⟨hok.1, hok.2.1, by simp [swP]⟩
      · rw [swO_o e2 e1]
        refine ⟨hoj.1, hoj.2.1, ?_⟩
        unfold swP
        rw [if_neg (fun e => e1 (h.inj hj hk e)), if_neg (fun e => e2 (h.inj hj hi e))]
        exact hoj.2.2
  · by_cases e1 : v = O k
    · refine ⟨i, hi, by simp [swP, e1], by rw [swO_l, e1]⟩
    · by_cases e2 : v = O i
      · refine ⟨k, hk, ?_, by rw [swO_r, e2]⟩
        unfold swP; rw [if_neg e1, if_pos e2]
      · have e3 : swP P O i k v = P v := by unfold swP; rw [if_neg e1, if_neg e2]
        rw [e3] at h3 ⊢
        obtain ⟨j, hj, hp, ho⟩ := h.pla v h1 h2 h3
        refine ⟨j, hj, hp, ?_⟩
        rw [swO_o (fun e => e2 (by rw [← ho, e])) (fun e => e1 (by rw [← ho, e]))]
        exact ho
  · unfold swP
    split
    · rename_i e
      rw [e, hok.2.2]; omega
    · split
      · rename_i e
        rw [e, hoi.2.2]; omega
      · exact Iff.rfl

theorem rise_done {A : Nat → Int} {O : Nat → Nat} {m i : Nat} (h : RiseInv A O m i) (hi : i < m) (hd : i = 0 ∨ ¬ bef A (O i) (O (par i))) : Up A O 0 m := by
  intro j hj h0 _
  by_cases e : j = i
  · subst e; rcases hd with hd | hd
    · omega
    · exact hd
  · exact h.one j hj h0 e
theorem rise_step {A : Nat → Int} {O : Nat → Nat} {m i : Nat} (h : RiseInv A O m i) (hi : i < m) (h0 : 0 < i) (hb : bef A (O i) (O (par i))) : RiseInv A (swO O i (par i)) m (par i) := by
  have hp := par_lt h0
  refine ⟨fun j hj hj0 hji => ?_, fun j hj hj0 hpj hpi => ?_⟩
  · by_cases e : j = i
    · subst e
      rw [swO_l, swO_r]
      exact bef_asymm hb
    · rw [swO_o e hji]
      have hpj := par_lt hj0
      by_cases e2 : par j = i
      · rw [e2, swO_l]
        exact h.two j hj hj0 e2 h0
      · by_cases e3 : par j = par i
        · rw [e3, swO_r]
          have h1 := h.one j hj hj0 e
          rw [e3] at h1
          intro hh
          exact h1 (bef_trans hh hb)
        · rw [swO_o e2 e3]
          exact h.one j hj hj0 e
  · have hpp := par_lt hpi
    rw [swO_o (j := par (par i)) (by omega) (by omega)]
    have h1 := h.one (par i) (by omega) hpi (by omega)
    by_cases e : j = i
    · subst e; rw [swO_l]; exact h1
    · have hjp : j ≠ par i := by have := par_lt hj0; omega
      rw [swO_o e hjp]
      have h2 := h.one j hj hj0 e
      rw [hpj] at h2
      exact nbef_trans h2 h1

/-- The greater of a place and those below it, so far (up to place b). -/
structure FirstInv (A : Nat → Int) (O : Nat → Nat) (m i b f : Nat) : Prop where
  is : f = i ∨ (par f = i ∧ 0 < f ∧ f < m ∧ bef A (O f) (O i))
  top : ¬ bef A (O i) (O f)
  all : ∀ j, 0 < j → par j = i → j < b → j < m → ¬ bef A (O j) (O f)
theorem FirstInv.start (A : Nat → Int) (O : Nat → Nat) (m i : Nat) : FirstInv A O m i (2 * i + 1) i :=
  ⟨.inl rfl, bef_irrefl _ _, fun j h0 h h2 => by unfold par at h; omega⟩
theorem FirstInv.lt {A : Nat → Int} {O : Nat → Nat} {m i b f : Nat} (h : FirstInv A O m i b f) (hi : i < m) : f < m := by
  rcases h.is with h | h
  · omega
  · exact h.2.2.1
theorem FirstInv.hit {A : Nat → Int} {O : Nat → Nat} {m i b f : Nat} (h : FirstInv A O m i b f) (hb : b < m) (hb0 : 0 < b) (hp : par b = i) (hh : bef A (O b) (O f)) : FirstInv A O m i (b + 1) b := by
  have hbi : bef A (O b) (O i) := by
    rcases h.is with e | e
    · subst e; exact hh
    · exact bef_trans hh e.2.2.2
  refine ⟨.inr ⟨hp, hb0, hb, hbi⟩, bef_asymm hbi, fun j h0 hj h1 h2 => ?_⟩
  by_cases e : j = b
  · subst e; exact bef_irrefl _ _
  · have := h.all j h0 hj (by omega) h2
    exact nbef_trans this (bef_asymm hh)
theorem FirstInv.miss {A : Nat → Int} {O : Nat → Nat} {m i b f : Nat} (h : FirstInv A O m i b f) (hh : ¬ bef A (O b) (O f)) : FirstInv A O m i (b + 1) f :=
  ⟨h.is, h.top, fun j h0 hj h1 h2 => by
    by_cases e : j = b
    · subst e; exact hh
    · exact h.all j h0 hj (by omega) h2⟩
theorem FirstInv.full {A : Nat → Int} {O : Nat → Nat} {m i b f : Nat} (h : FirstInv A O m i b f) (hb : b = 2 * i + 3 ∨ m ≤ b) : ∀ j, 0 < j → par j = i → j < m → ¬ bef A (O j) (O f) :=
  fun j h0 hj h1 => h.all j h0 hj (by unfold par at hj; omega) h1
theorem sink_done {A : Nat → Int} {O : Nat → Nat} {lo m i : Nat} (h : SinkInv A O lo m i) (hf : ∀ j, 0 < j → par j = i → j < m → ¬ bef A (O j) (O i)) : Up A O lo m := by
  intro j hj h0 hl
  by_cases e : par j = i
  · rw [e]; exact hf j h0 e hj
  · exact h.one j hj h0 hl e
theorem sink_step {A : Nat → Int} {O : Nat → Nat} {lo m i c : Nat} (h : SinkInv A O lo m i) (hlo : lo ≤ i) (hc0 : 0 < c) (hc : c < m) (hp : par c = i) (hb : bef A (O c) (O i)) (hf : ∀ j, 0 < j → par j = i → j < m → ¬ bef A (O j) (O c)) :
    SinkInv A (swO O i c) lo m c := by
  have hic : i < c := by have := par_lt hc0; omega
  refine ⟨fun j hj hj0 hl hjc => ?_, fun j hj hj0 hpj hpi hl => ?_⟩
  · have hpj := par_lt hj0
    by_cases e : j = c
    · subst e
      rw [hp, swO_l, swO_r]
      exact bef_asymm hb
    · by_cases e2 : j = i
      · subst e2
        rw [swO_l, swO_o (by omega) (by omega)]
        exact h.two c hc hc0 hp hj0 hl
      · rw [swO_o e2 e]
        by_cases e3 : par j = i
        · rw [e3, swO_l]
          exact hf j hj0 e3 hj
        · rw [swO_o e3 hjc]
          exact h.one j hj hj0 hl e3
  · have hpj' := par_lt hj0
    rw [hp, swO_l, swO_o (by omega) (by omega)]
    have := h.one j hj hj0 (by omega) (by omega)
    rw [hpj] at this
    exact this

theorem root_most {A : Nat → Int} {O : Nat → Nat} {m : Nat} (h : Up A O 0 m) : ∀ j, j < m → ¬ bef A (O j) (O 0) := by
  intro j
  induction j using Nat.strongRecOn with
  | _ j ih =>
    intro hj
    by_cases h0 : j = 0
    · subst h0; exact bef_irrefl _ _
    · have hp := par_lt (j := j) (by omega)
      exact nbef_trans (h j hj (by omega) (Nat.zero_le _)) (ih _ hp (by omega))

/-- How many of the variables from 1 to n are p. -/
def cnt (p : Nat → Bool) : Nat → Nat
  | 0 => 0
  | n + 1 => cnt p n + if p (n + 1) then 1 else 0
theorem cnt_le (p : Nat → Bool) (n : Nat) : cnt p n ≤ n := by
  induction n with
  | zero => exact Nat.le_refl _
  | succ n ih => simp only [cnt]; split <;> omega
theorem cnt_congr {p q : Nat → Bool} {n : Nat} (h : ∀ v, 1 ≤ v → v ≤ n → p v = q v) : cnt p n = cnt q n := by
  induction n with
  | zero => rfl
  | succ n ih => simp only [cnt]; rw [ih fun v h1 h2 => h v h1 (by omega), h (n + 1) (by omega) (by omega)]
theorem cnt_pos {p : Nat → Bool} {n v : Nat} (h1 : 1 ≤ v) (h2 : v ≤ n) (h : p v = true) : 0 < cnt p n := by
  induction n with
  | zero => omega
  | succ n ih =>
    simp only [cnt]
    by_cases e : v = n + 1
    · subst e; rw [h]; simp
    · have := ih (by omega); omega
def upd (p : Nat → Bool) (v : Nat) (b : Bool) : Nat → Bool := fun u => if u = v then b else p u
theorem upd_same (p : Nat → Bool) (v : Nat) (b : Bool) : upd p v b v = b := by simp [upd]
theorem upd_other (p : Nat → Bool) {v u : Nat} (b : Bool) (h : u ≠ v) : upd p v b u = p u := by simp [upd, h]
theorem cnt_upd {p : Nat → Bool} {n v : Nat} (h1 : 1 ≤ v) (h2 : v ≤ n) (h : p v = false) : cnt (upd p v true) n = cnt p n + 1 := by
  induction n with
  | zero => omega
  | succ n ih =>
    simp only [cnt]
    by_cases e : v = n + 1
    · subst e
      rw [cnt_congr (q := p) fun u _ hu => upd_other p true (by omega), upd_same, h]
      simp
    · rw [ih (by omega), upd_other p true (fun e2 => e e2.symm)]
      omega
theorem cnt_lt {p : Nat → Bool} {n v : Nat} (h1 : 1 ≤ v) (h2 : v ≤ n) (h : p v = false) : cnt p n < n := by
  have := cnt_upd h1 h2 h
  have := cnt_le (upd p v true) n
  omega
theorem cnt_upd_f {p : Nat → Bool} {n v : Nat} (h1 : 1 ≤ v) (h2 : v ≤ n) (h : p v = true) : cnt (upd p v false) n + 1 = cnt p n := by
  have e := cnt_upd (p := upd p v false) h1 h2 (upd_same _ _ _)
  rw [← e]
  refine cnt_congr fun u _ _ => ?_
  unfold upd
  split
  · rename_i e; rw [e, h]
  · rfl
theorem cnt_zero {p : Nat → Bool} {n v : Nat} (h0 : cnt p n = 0) (h1 : 1 ≤ v) (h2 : v ≤ n) : p v = false := by
  cases h : p v
  · rfl
  · have := cnt_pos h1 h2 h; omega
theorem cnt_all (n : Nat) : cnt (fun _ => true) n = n := by
  induction n with
  | zero => rfl
  | succ n ih => simp [cnt, ih]

/-- The heap's state: its order, places and activities are those of the contained variables. -/
structure Good (n m : Nat) (O : Nat → Nat) (P A : Nat → Int) (In : Nat → Bool) : Prop where
  link : Link n m O P
  up : Up A O 0 m
  act : ∀ v, v ≤ n → 0 ≤ A v ∧ A v ≤ 1152921504606846976
  inn : ∀ v, 1 ≤ v → v ≤ n → (In v = true ↔ P v ≠ -1)
  num : m = cnt In n
theorem Good.le {n m : Nat} {O : Nat → Nat} {P A : Nat → Int} {In : Nat → Bool} (h : Good n m O P A In) : m ≤ n := by rw [h.num]; exact cnt_le _ _
theorem Good.in_iff {n m : Nat} {O : Nat → Nat} {P A : Nat → Int} {In : Nat → Bool} (h : Good n m O P A In) {v : Nat} (h1 : 1 ≤ v) (h2 : v ≤ n) : In v = decide (P v ≠ -1) := by
  rw [Bool.eq_iff_iff, h.inn v h1 h2]; simp
/-- v is the next one. -/
def IsNext (n : Nat) (A : Nat → Int) (In : Nat → Bool) (v : Nat) : Prop := 1 ≤ v ∧ v ≤ n ∧ In v = true ∧ ∀ u, 1 ≤ u → u ≤ n → In u = true → ¬ bef A u v
theorem IsNext.uniq {n : Nat} {A : Nat → Int} {In : Nat → Bool} {v w : Nat} (h : IsNext n A In v) (k : IsNext n A In w) : v = w :=
  nbef_eq (k.2.2.2 v h.1 h.2.1 h.2.2.1) (h.2.2.2 w k.1 k.2.1 k.2.2.1)
theorem Good.next {n m : Nat} {O : Nat → Nat} {P A : Nat → Int} {In : Nat → Bool} (h : Good n m O P A In) (hm : 0 < m) : IsNext n A In (O 0) := by
  have h0 := h.link.ord 0 hm
  refine ⟨h0.1, h0.2.1, ?_, fun u h1 h2 h3 => ?_⟩
  · rw [h.inn _ h0.1 h0.2.1, h0.2.2]; omega
  · obtain ⟨i, hi, _, ho⟩ := h.link.pla u h1 h2 ((h.inn u h1 h2).1 h3)
    rw [← ho]
    exact root_most h.up i hi

def updO (O : Nat → Nat) (i v : Nat) : Nat → Nat := fun j => if j = i then v else O j
def updI (P : Nat → Int) (v : Nat) (x : Int) : Nat → Int := fun u => if u = v then x else P u
theorem updI_same (P : Nat → Int) (v : Nat) (x : Int) : updI P v x v = x := by simp [updI]
theorem updI_other (P : Nat → Int) {v u : Nat} (x : Int) (h : u ≠ v) : updI P v x u = P u := by simp [updI, h]
theorem updO_same (P : Nat → Nat) (v x : Nat) : updO P v x v = x := by simp [updO]
theorem updO_other (P : Nat → Nat) {v u : Nat} (x : Nat) (h : u ≠ v) : updO P v x u = P u := by simp [updO, h]

/-- What a sift leaves of a state. -/
theorem Good.sifted {n m : Nat} {O O' : Nat → Nat} {P P' A : Nat → Int} {In : Nat → Bool} (ha : ∀ v, v ≤ n → 0 ≤ A v ∧ A v ≤ 1152921504606846976) (hi : ∀ v, 1 ≤ v → v ≤ n → (In v = true ↔ P v ≠ -1)) (hn : m = cnt In n)
    (hl : Link n m O' P') (hs : ∀ v, P' v = -1 ↔ P v = -1) (hu : Up A O' 0 m) : Good n m O' P' A In :=
  ⟨hl, hu, ha, fun v h1 h2 => by rw [hi v h1 h2, Ne, Ne, hs], hn⟩

/-- Put, ahead of the rise. -/
theorem put_mid {n m : Nat} {O : Nat → Nat} {P A : Nat → Int} {In : Nat → Bool} (h : Good n m O P A In) {v : Nat} (h1 : 1 ≤ v) (h2 : v ≤ n) (hv : In v = false) :
    m < n ∧ Link n (m + 1) (updO O m v) (updI P v m) ∧ RiseInv A (updO O m v) (m + 1) m ∧ (∀ u, 1 ≤ u → u ≤ n → (upd In v true u = true ↔ updI P v m u ≠ -1)) ∧ m + 1 = cnt (upd In v true) n := by
  have hpv : P v = -1 := by
    have := h.inn v h1 h2
    rw [hv] at this
    simpa using this
  have hO : ∀ i, i < m → O i ≠ v := fun i hi e => by have := (h.link.ord i hi).2.2; rw [e, hpv] at this; omega
  refine ⟨?_, ⟨fun i hi => ?_, fun u hu1 hu2 hu => ?_⟩, ⟨fun j hj hj0 hji => ?_, fun j hj hj0 hp => ?_⟩, fun u hu1 hu2 => ?_, ?_⟩
  · rw [h.num]; exact cnt_lt h1 h2 hv
  · by_cases e : i = m
    · subst e; rw [updO_same, updI_same]; exact ⟨h1, h2, rfl⟩
    · have ho := h.link.ord i (by omega)
      rw [updO_other _ _ e, updI_other _ _ (hO i (by omega))]
      exact ho
  · by_cases e : u = v
    · subst e; exact ⟨m, by omega, updI_same _ _ _, updO_same _ _ _⟩
    · rw [updI_other _ _ e] at hu
      obtain ⟨i, hi, hp, ho⟩ := h.link.pla u hu1 hu2 hu
      exact ⟨i, by omega, by rw [updI_other _ _ e]; exact hp, by rw [updO_other _ _ (by omega)]; exact ho⟩
  · have hp := par_lt hj0
    rw [updO_other _ _ hji, updO_other _ _ (by omega)]
    exact h.up j (by omega) hj0 (Nat.zero_le _)
  · have := par_lt hj0; omega
  · by_cases e : u = v
    · subst e; rw [upd_same, updI_same]; simp
    · rw [upd_other _ _ e, updI_other _ _ e]; exact h.inn u hu1 hu2
  · rw [cnt_upd h1 h2 hv, h.num]

/-- Next, ahead of the sink. -/
theorem next_mid {n m : Nat} {O : Nat → Nat} {P A : Nat → Int} {In : Nat → Bool} (h : Good n (m + 1) O P A In) :
    Link n m (swO O 0 m) (updI (swP P O 0 m) (O 0) (-1)) ∧ SinkInv A (swO O 0 m) 0 m 0 ∧ (∀ u, 1 ≤ u → u ≤ n → (upd In (O 0) false u = true ↔ updI (swP P O 0 m) (O 0) (-1) u ≠ -1)) ∧ m = cnt (upd In (O 0) false) n := by
  obtain ⟨hl, hs⟩ := h.link.swap (i := 0) (k := m) (by omega) (by omega)
  have h0 := h.link.ord 0 (by omega)
  have hnx := h.next (by omega)
  have hne : ∀ i, i < m → swO O 0 m i ≠ O 0 := fun i hi e => by
    have := hl.inj (i := i) (j := m) (by omega) (by omega) (by rw [e, swO_r])
    omega
  refine ⟨⟨fun i hi => ?_, fun u hu1 hu2 hu => ?_⟩, ⟨fun j hj hj0 _ hp => ?_, fun j hj hj0 _ hp => by omega⟩, fun u hu1 hu2 => ?_, ?_⟩
  · have ho := hl.ord i (by omega)
    rw [updI_other _ _ (hne i hi)]
    exact ho
  · by_cases e : u = O 0
    · subst e; rw [updI_same] at hu; omega
    · rw [updI_other _ _ e] at hu ⊢
      obtain ⟨i, hi, hp, ho⟩ := hl.pla u hu1 hu2 hu
      refine ⟨i, ?_, hp, ho⟩
      by_cases e2 : i = m
      · subst e2; rw [swO_r] at ho; omega
      · omega
  · have hpl := par_lt hj0
    rw [swO_o (by omega) (by omega), swO_o (by omega) (by omega)]
    exact h.up j (by omega) hj0 (Nat.zero_le _)
  · by_cases e : u = O 0
    · subst e; rw [upd_same, updI_same]; simp
    · rw [upd_other _ _ e, updI_other _ _ e, h.inn u hu1 hu2, Ne, Ne, hs]
  · have := cnt_upd_f h0.1 h0.2.1 hnx.2.2.1
    have := h.num
    omega

/-- Bump, ahead of the rise. -/
theorem bump_mid {n m : Nat} {O : Nat → Nat} {P A : Nat → Int} {In : Nat → Bool} (h : Good n m O P A In) {v : Nat} {x : Int} (hx : A v ≤ x) {i : Nat} (hi : i < m) (ho : O i = v) :
    RiseInv (updI A v x) O m i := by
  have hO : ∀ j, j < m → j ≠ i → O j ≠ v := fun j hj hne e => hne (h.link.inj hj hi (by rw [e, ho]))
  have hup : ∀ j, j < m → 0 < j → ¬ bef A (O j) (O (par j)) := fun j hj h0 => h.up j hj h0 (Nat.zero_le _)
  refine ⟨fun j hj hj0 hji => ?_, fun j hj hj0 hp hi0 => ?_⟩
  · have hu := hup j hj hj0
    have hpl := par_lt hj0
    have e1 := updI_other A (v := v) x (hO j hj hji)
    by_cases e : par j = i
    · rw [e, ho] at hu ⊢
      have e2 := updI_same A v x
      unfold bef at *
      rw [e1, e2]
      omega
    · have e2 := updI_other A (v := v) x (hO (par j) (by omega) e)
      unfold bef at *
      rw [e1, e2]
      exact hu
  · have hu := hup j hj hj0
    have hpl := par_lt hj0
    have hpl2 := par_lt hi0
    have hu2 := hup i hi hi0
    rw [hp] at hu
    have := nbef_trans hu hu2
    have e1 := updI_other A (v := v) x (hO j hj (by omega))
    have e2 := updI_other A (v := v) x (hO (par i) (by omega) (by omega))
    unfold bef at *
    rw [e1, e2]
    exact this
theorem bump_out {n m : Nat} {O : Nat → Nat} {P A : Nat → Int} {In : Nat → Bool} (h : Good n m O P A In) {v : Nat} {x : Int} (hv : P v = -1) : Up (updI A v x) O 0 m := by
  have hO : ∀ j, j < m → O j ≠ v := fun j hj e => by have := (h.link.ord j hj).2.2; rw [e, hv] at this; omega
  intro j hj hj0 _
  have hu := h.up j hj hj0 (Nat.zero_le _)
  have hpl := par_lt hj0
  have e1 := updI_other A (v := v) x (hO j hj)
  have e2 := updI_other A (v := v) x (hO (par j) (by omega))
  unfold bef at *
  rw [e1, e2]
  exact hu
theorem up_start (A : Nat → Int) (O : Nat → Nat) (m : Nat) : Up A O (m / 2) m := by
  intro j hj h0 h; unfold par at h; omega
theorem sink_start {A : Nat → Int} {O : Nat → Nat} {m i : Nat} (h : Up A O (i + 1) m) : SinkInv A O i m i :=
  ⟨fun j hj h0 hl hne => h j hj h0 (by omega), fun j _ _ _ h0 hl => by have := par_lt h0; omega⟩

/-- A new heap. -/
theorem good_new (n : Nat) : Good n n (fun i => i + 1) (fun v => (v : Int) - 1) (fun _ => 0) (fun _ => true) :=
  ⟨⟨fun i hi => ⟨by omega, by omega, by simp⟩, fun v h1 h2 _ => ⟨v - 1, by omega, by omega, by omega⟩⟩, fun j hj h0 _ => by have := par_lt h0; unfold bef; simp only []; omega, fun v _ => by omega, fun v h1 h2 => by simp; omega, by rw [cnt_all]⟩
end Go.Proofs.Ytbhbokcgkhgljaa
