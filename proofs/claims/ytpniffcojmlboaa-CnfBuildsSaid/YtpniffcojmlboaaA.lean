/- Mathematics: graphs of ands, each once. -/
namespace Go.Proofs.Ytpniffcojmlboaa

/-- Nodes behind node 0: none is an input, some (a, b) the and of two edges. -/
structure Gr where
  n : Nat
  L : Nat → Option (Nat × Nat)

def nt (e : Nat) : Nat := if e % 2 = 0 then e + 1 else e - 1
/-- An edge of the graph, or false. -/
def edg (n : Nat) (e : Int) : Nat := if 0 ≤ e ∧ e < 2 * ((n : Int) + 1) then e.toNat else 0
theorem edg_lt (n : Nat) (e : Int) : edg n e < 2 * (n + 1) := by unfold edg; split <;> omega
theorem edg_of {n : Nat} {e : Nat} (h : e < 2 * (n + 1)) : edg n (e : Int) = e := by unfold edg; rw [if_pos (by omega)]; omega
theorem nt_lt {n e : Nat} (h : e < 2 * (n + 1)) : nt e < 2 * (n + 1) := by unfold nt; split <;> omega
theorem nt_nt (e : Nat) : nt (nt e) = e := by unfold nt; split <;> split <;> omega

/-- The first place of an and. -/
def fnd (L : Nat → Option (Nat × Nat)) (a b : Nat) : Nat → Option Nat
  | 0 => none
  | k + 1 => match fnd L a b k with
    | some i => some i
    | none => if L k = some (a, b) then some k else none
theorem fnd_some {L : Nat → Option (Nat × Nat)} {a b i : Nat} : ∀ {k : Nat}, fnd L a b k = some i → i < k ∧ L i = some (a, b) ∧ ∀ j, j < i → L j ≠ some (a, b)
  | 0, h => by cases h
  | k + 1, h => by
    have hn : fnd L a b k = none → ∀ j, j < k → L j ≠ some (a, b) := by
      clear h
      induction k with
      | zero => intro _ j hj; omega
      | succ k ih =>
        intro h j hj
        unfold fnd at h
        cases e : fnd L a b k with
        | some x => rw [e] at h; cases h
        | none =>
          rw [e] at h
          by_cases e2 : L k = some (a, b)
          · simp [e2] at h
          · by_cases ej : j = k
            · subst ej; exact e2
            · exact ih e j (by omega)
    unfold fnd at h
    cases e : fnd L a b k with
    | some x =>
      rw [e] at h
      injection h with h; subst h
      have := fnd_some e
      exact ⟨by omega, this.2⟩
    | none =>
      rw [e] at h
      by_cases e2 : L k = some (a, b)
      · simp [e2] at h
        subst h
        exact ⟨by omega, e2, hn e⟩
      · simp [e2] at h
theorem fnd_none {L : Nat → Option (Nat × Nat)} {a b : Nat} : ∀ {k : Nat}, (fnd L a b k = none ↔ ∀ j, j < k → L j ≠ some (a, b))
  | 0 => ⟨fun _ j hj => by omega, fun _ => rfl⟩
  | k + 1 => by
    constructor
    · intro h j hj
      unfold fnd at h
      cases e : fnd L a b k with
      | some x => rw [e] at h; cases h
      | none =>
        rw [e] at h
        by_cases e2 : L k = some (a, b)
        · simp [e2] at h
        · by_cases ej : j = k
          · subst ej; exact e2
          · exact fnd_none.1 e j (by omega)
    · intro h
      have h1 : fnd L a b k = none := fnd_none.2 fun j hj => h j (by omega)
      unfold fnd
      rw [h1]
      simp [h k (by omega)]
/-- The first one is found, however many stand behind. -/
theorem fnd_first {L : Nat → Option (Nat × Nat)} {a b i k : Nat} (hi : i < k) (h : L i = some (a, b)) (hn : ∀ j, j < i → L j ≠ some (a, b)) : fnd L a b k = some i := by
  cases e : fnd L a b k with
  | none => exact absurd h (fnd_none.1 e i hi)
  | some x =>
    obtain ⟨h1, h2, h3⟩ := fnd_some e
    rcases Nat.lt_trichotomy x i with e | e | e
    · exact absurd h2 (hn x e)
    · rw [e]
    · exact absurd h (h3 i e)

def Gr.add (s : Gr) (x : Option (Nat × Nat)) : Gr := ⟨s.n + 1, fun i => if i = s.n then x else s.L i⟩
/-- The and of a and b, a the lesser one. -/
def andS (s : Gr) (a b : Nat) : Nat × Gr :=
  if a = 0 ∨ b = nt a then (0, s) else if a = 1 ∨ a = b then (b, s) else
  match fnd s.L a b s.n with
  | some i => (2 * (i + 1), s)
  | none => (2 * (s.n + 1), s.add (some (a, b)))
def andN (s : Gr) (x y : Nat) : Nat × Gr := andS s (min x y) (max x y)
def andI (s : Gr) (x y : Int) : Nat × Gr := andN s (edg s.n x) (edg s.n y)
theorem andN_comm (s : Gr) (x y : Nat) : andN s x y = andN s y x := by unfold andN; rw [Nat.min_comm, Nat.max_comm]

/-- Each and is of lesser nodes. -/
def Gr.Ok (s : Gr) : Prop := ∀ k, k < s.n → ∀ a b, s.L k = some (a, b) → 2 ≤ a ∧ a < b ∧ b < 2 * (k + 1) ∧ b ≠ nt a
structure Ext (s t : Gr) : Prop where
  n : s.n ≤ t.n
  L : ∀ i, i < s.n → t.L i = s.L i
theorem Ext.refl (s : Gr) : Ext s s := ⟨Nat.le_refl _, fun _ _ => rfl⟩
theorem Ext.trans {s t u : Gr} (h : Ext s t) (k : Ext t u) : Ext s u := ⟨Nat.le_trans h.n k.n, fun i hi => (k.L i (Nat.lt_of_lt_of_le hi h.n)).trans (h.L i hi)⟩
theorem Ext.add (s : Gr) (x : Option (Nat × Nat)) : Ext s (s.add x) := ⟨Nat.le_succ _, fun i hi => if_neg (Nat.ne_of_lt hi)⟩
theorem Gr.Ok.input {s : Gr} (h : s.Ok) : (s.add none).Ok := fun k hk a b e => by
  by_cases ek : k = s.n
  · simp [Gr.add, ek] at e
  · simp only [Gr.add, if_neg ek] at e
    exact h k (by simp only [Gr.add] at hk; omega) a b e
def Gr.new : Gr := ⟨0, fun _ => none⟩
theorem Gr.Ok.new : Gr.new.Ok := fun k hk => absurd hk (Nat.not_lt_zero _)

/-- How many inputs stand ahead of place k. -/
def cnt (L : Nat → Option (Nat × Nat)) : Nat → Nat
  | 0 => 0
  | k + 1 => cnt L k + if L k = none then 1 else 0
theorem cnt_congr {L L' : Nat → Option (Nat × Nat)} : ∀ {k : Nat}, (∀ i, i < k → L' i = L i) → cnt L' k = cnt L k
  | 0, _ => rfl
  | k + 1, h => by unfold cnt; rw [cnt_congr fun i hi => h i (by omega), h k (by omega)]
theorem cnt_le (L : Nat → Option (Nat × Nat)) : ∀ k, cnt L k ≤ k
  | 0 => Nat.le_refl _
  | k + 1 => by unfold cnt; have := cnt_le L k; split <;> omega
/-- An edge's value out of the nodes'. -/
def ed (v : Nat → Bool) (e : Nat) : Bool := v (e / 2) != decide (e % 2 = 1)
/-- Values of the nodes 0 to k. -/
def tab (I : Nat → Bool) (L : Nat → Option (Nat × Nat)) : Nat → Nat → Bool
  | 0 => fun _ => false
  | k + 1 => fun j => if j = k + 1 then (match L k with
      | none => I (cnt L k)
      | some (a, b) => ed (tab I L k) a && ed (tab I L k) b) else tab I L k j
theorem tab_out {I : Nat → Bool} {L : Nat → Option (Nat × Nat)} : ∀ {k j : Nat}, k < j → tab I L k j = false
  | 0, _, _ => rfl
  | k + 1, j, h => by unfold tab; rw [if_neg (by omega)]; exact tab_out (by omega)
theorem tab_at {I : Nat → Bool} {L : Nat → Option (Nat × Nat)} {j : Nat} : ∀ {k : Nat}, j ≤ k → tab I L k j = tab I L j j
  | 0, h => by obtain rfl : j = 0 := by omega
               rfl
  | k + 1, h => by
    by_cases e : j = k + 1
    · rw [e]
    · rw [show tab I L (k + 1) j = tab I L k j from if_neg e]; exact tab_at (by omega)
theorem tab_zero {I : Nat → Bool} {L : Nat → Option (Nat × Nat)} (k : Nat) : tab I L k 0 = false := (tab_at (Nat.zero_le k)).trans rfl
theorem tab_congr {I : Nat → Bool} {L L' : Nat → Option (Nat × Nat)} : ∀ {k : Nat}, (∀ i, i < k → L' i = L i) → tab I L' k = tab I L k
  | 0, _ => rfl
  | k + 1, h => by
    have h1 := tab_congr (I := I) (k := k) fun i hi => h i (by omega)
    have h2 := cnt_congr (k := k) fun i hi => h i (by omega)
    funext j
    unfold tab
    rw [h1, h2, h k (by omega)]
def val (I : Nat → Bool) (s : Gr) (e : Nat) : Bool := ed (tab I s.L s.n) e
theorem ed_zero {v : Nat → Bool} (h : v 0 = false) : ed v 0 = false := by simp [ed, h]
theorem ed_nt (v : Nat → Bool) (e : Nat) : ed v (nt e) = !ed v e := by
  unfold ed nt
  by_cases h : e % 2 = 0
  · rw [if_pos h, show (e + 1) / 2 = e / 2 by omega, show (e + 1) % 2 = 1 by omega, h]
    cases v (e / 2) <;> rfl
  · rw [if_neg h, show (e - 1) / 2 = e / 2 by omega, show (e - 1) % 2 = 0 by omega, show e % 2 = 1 by omega]
    cases v (e / 2) <;> rfl
theorem val_nt (I : Nat → Bool) (s : Gr) (e : Nat) : val I s (nt e) = !val I s e := ed_nt _ e
theorem val_zero (I : Nat → Bool) (s : Gr) : val I s 0 = false := ed_zero (tab_zero _)
theorem val_one (I : Nat → Bool) (s : Gr) : val I s 1 = true := by
  have := val_nt I s 0
  rw [val_zero] at this
  exact this
theorem val_ext {I : Nat → Bool} {s t : Gr} (h : Ext s t) {e : Nat} (he : e < 2 * (s.n + 1)) : val I t e = val I s e := by
  have h1 : tab I t.L t.n (e / 2) = tab I s.L s.n (e / 2) := by
    rw [tab_at (k := t.n) (by have := h.n; omega), tab_at (k := s.n) (by omega), tab_congr fun i hi => h.L i (by omega)]
  unfold val ed
  rw [h1]
/-- An input's value. -/
theorem val_input {I : Nat → Bool} {s : Gr} {k : Nat} (hk : k < s.n) (h : s.L k = none) : val I s (2 * (k + 1)) = I (cnt s.L k) := by
  unfold val ed
  rw [show 2 * (k + 1) / 2 = k + 1 by omega, show 2 * (k + 1) % 2 = 0 by omega, tab_at (by omega)]
  unfold tab
  rw [if_pos rfl, h]
  simp
/-- An and's value. -/
theorem val_and {I : Nat → Bool} {s : Gr} {k a b : Nat} (hk : k < s.n) (h : s.L k = some (a, b)) (ha : a < 2 * (k + 1)) (hb : b < 2 * (k + 1)) : val I s (2 * (k + 1)) = (val I s a && val I s b) := by
  unfold val
  have e1 : ∀ e, e < 2 * (k + 1) → ed (tab I s.L s.n) e = ed (tab I s.L k) e := fun e he => by
    unfold ed
    rw [tab_at (k := s.n) (by omega), tab_at (k := k) (by omega)]
  rw [e1 a ha, e1 b hb]
  unfold ed
  rw [show 2 * (k + 1) / 2 = k + 1 by omega, show 2 * (k + 1) % 2 = 0 by omega, tab_at (j := k + 1) (by omega)]
  conv => lhs; unfold tab
  rw [if_pos rfl, h]
  simp [ed]
/-- What an and of two edges is. -/
structure AndIs (I : Nat → Bool) (s : Gr) (a b : Nat) (r : Nat × Gr) : Prop where
  ok : r.2.Ok
  ext : Ext s r.2
  lt : r.1 < 2 * (r.2.n + 1)
  n : r.2.n ≤ s.n + 1
  val : val I r.2 r.1 = (val I s a && val I s b)
theorem andS_is {I : Nat → Bool} {s : Gr} (hs : s.Ok) {a b : Nat} (hab : a ≤ b) (hb : b < 2 * (s.n + 1)) : AndIs I s a b (andS s a b) := by
  unfold andS
  by_cases h1 : a = 0 ∨ b = nt a
  · rw [if_pos h1]
    refine ⟨hs, Ext.refl s, by show 0 < _; omega, by show s.n ≤ _; omega, ?_⟩
    show Go.Proofs.Ytpniffcojmlboaa.val I s 0 = _
    rw [val_zero]
    rcases h1 with h | h
    · rw [h, val_zero]; rfl
    · rw [h, val_nt]; cases Go.Proofs.Ytpniffcojmlboaa.val I s a <;> rfl
  · rw [if_neg h1]
    by_cases h2 : a = 1 ∨ a = b
    · rw [if_pos h2]
      refine ⟨hs, Ext.refl s, hb, by show s.n ≤ _; omega, ?_⟩
      show Go.Proofs.Ytpniffcojmlboaa.val I s b = _
      rcases h2 with h | h
      · rw [h, val_one]; rfl
      · rw [h]; cases Go.Proofs.Ytpniffcojmlboaa.val I s b <;> rfl
    · rw [if_neg h2]
      cases e : fnd s.L a b s.n with
      | some i =>
        obtain ⟨hi, hl, _⟩ := fnd_some e
        obtain ⟨_, _, h5, _⟩ := hs i hi a b hl
        exact ⟨hs, Ext.refl s, by show 2 * (i + 1) < 2 * (s.n + 1); omega, by show s.n ≤ _; omega, val_and hi hl (by omega) h5⟩
      | none =>
        have hx := Ext.add s (some (a, b))
        have hl : (s.add (some (a, b))).L s.n = some (a, b) := if_pos rfl
        refine ⟨fun k hk a' b' e' => ?_, hx, by show 2 * (s.n + 1) < 2 * (s.n + 1 + 1); omega, Nat.le_refl _, ?_⟩
        · by_cases ek : k = s.n
          · subst ek
            have e' : (s.add (some (a, b))).L s.n = some (a', b') := e'
            rw [hl] at e'
            injection e' with e'
            injection e' with e1 e2
            subst e1 e2
            exact ⟨by omega, by omega, by omega, fun h => h1 (.inr h)⟩
          · have e' : (if k = s.n then some (a, b) else s.L k) = some (a', b') := e'
            rw [if_neg ek] at e'
            have hk : k < s.n + 1 := hk
            exact hs k (by omega) a' b' e'
        · show Go.Proofs.Ytpniffcojmlboaa.val I (s.add (some (a, b))) (2 * (s.n + 1)) = _
          rw [val_and (show s.n < s.n + 1 by omega) hl (by omega) hb, val_ext hx (by omega), val_ext hx hb]
/-- Laid again, it is the same. -/
theorem andS_again {s t : Gr} {a b : Nat} (hx : Ext (andS s a b).2 t) : andS t a b = ((andS s a b).1, t) := by
  unfold andS at hx ⊢
  by_cases h1 : a = 0 ∨ b = nt a
  · rw [if_pos h1, if_pos h1]
  · rw [if_neg h1] at hx
    rw [if_neg h1, if_neg h1]
    by_cases h2 : a = 1 ∨ a = b
    · rw [if_pos h2, if_pos h2]
    · rw [if_neg h2] at hx
      rw [if_neg h2, if_neg h2]
      cases e : fnd s.L a b s.n with
      | some i =>
        rw [e] at hx
        have hx : Ext s t := hx
        obtain ⟨hi, hl, hn⟩ := fnd_some e
        rw [fnd_first (Nat.lt_of_lt_of_le hi hx.n) ((hx.L i hi).trans hl) fun j hj => by rw [hx.L j (by omega)]; exact hn j hj]
      | none =>
        rw [e] at hx
        have hx : Ext (s.add (some (a, b))) t := hx
        have hl : (s.add (some (a, b))).L s.n = some (a, b) := if_pos rfl
        have hn := fnd_none.1 e
        have hxn : s.n + 1 ≤ t.n := hx.n
        rw [fnd_first (i := s.n) (by omega) ((hx.L s.n (Nat.lt_succ_self _)).trans hl) fun j hj => by
          rw [hx.L j (Nat.lt_succ_of_lt hj), show (s.add (some (a, b))).L j = s.L j from if_neg (by omega)]
          exact hn j hj]
theorem AndIs.swap {I : Nat → Bool} {s : Gr} {a b : Nat} {r : Nat × Gr} (h : AndIs I s a b r) : AndIs I s b a r := ⟨h.ok, h.ext, h.lt, h.n, by rw [h.val, Bool.and_comm]⟩
theorem andN_is {I : Nat → Bool} {s : Gr} (hs : s.Ok) {a b : Nat} (ha : a < 2 * (s.n + 1)) (hb : b < 2 * (s.n + 1)) : AndIs I s a b (andN s a b) := by
  unfold andN
  by_cases h : a ≤ b
  · rw [Nat.min_eq_left h, Nat.max_eq_right h]; exact andS_is hs h hb
  · rw [Nat.min_eq_right (by omega), Nat.max_eq_left (by omega)]; exact (andS_is hs (by omega) ha).swap
theorem andN_again {s t : Gr} {a b : Nat} (hx : Ext (andN s a b).2 t) : andN t a b = ((andN s a b).1, t) := andS_again hx
theorem andN_again' {s t : Gr} {a b : Nat} (hx : Ext (andN s a b).2 t) : andN t b a = ((andN s a b).1, t) := by rw [andN_comm]; exact andS_again hx

/-- Or, exclusive or, one of two. -/
def orN (s : Gr) (x y : Nat) : Nat × Gr := let r := andN s (nt x) (nt y); (nt r.1, r.2)
def xorN (s : Gr) (x y : Nat) : Nat × Gr := let r := andN s x (nt y); let q := andN r.2 (nt x) y; orN q.2 r.1 q.1
def muxN (s : Gr) (c x y : Nat) : Nat × Gr := let r := andN s c x; let q := andN r.2 (nt c) y; orN q.2 r.1 q.1
/-- What a step that lays some nodes keeps. -/
structure LayIs (I : Nat → Bool) (s : Gr) (v : Bool) (m : Nat) (r : Nat × Gr) : Prop where
  ok : r.2.Ok
  ext : Ext s r.2
  lt : r.1 < 2 * (r.2.n + 1)
  n : r.2.n ≤ s.n + m
  val : val I r.2 r.1 = v
theorem AndIs.lay {I : Nat → Bool} {s : Gr} {a b : Nat} {r : Nat × Gr} (h : AndIs I s a b r) : LayIs I s (Go.Proofs.Ytpniffcojmlboaa.val I s a && Go.Proofs.Ytpniffcojmlboaa.val I s b) 1 r := ⟨h.ok, h.ext, h.lt, h.n, h.val⟩
theorem orN_is {I : Nat → Bool} {s : Gr} (hs : s.Ok) {a b : Nat} (ha : a < 2 * (s.n + 1)) (hb : b < 2 * (s.n + 1)) : LayIs I s (val I s a || val I s b) 1 (orN s a b) := by
  have h := andN_is (I := I) hs (nt_lt ha) (nt_lt hb)
  exact ⟨h.ok, h.ext, nt_lt h.lt, h.n, by
    show Go.Proofs.Ytpniffcojmlboaa.val I (andN s (nt a) (nt b)).2 (nt (andN s (nt a) (nt b)).1) = _
    rw [val_nt, h.val, val_nt, val_nt]; cases Go.Proofs.Ytpniffcojmlboaa.val I s a <;> cases Go.Proofs.Ytpniffcojmlboaa.val I s b <;> rfl⟩
theorem two_is {I : Nat → Bool} {s : Gr} (hs : s.Ok) {a b c d : Nat} (ha : a < 2 * (s.n + 1)) (hb : b < 2 * (s.n + 1)) (hc : c < 2 * (s.n + 1)) (hd : d < 2 * (s.n + 1)) :
    LayIs I s ((val I s a && val I s b) || (val I s c && val I s d)) 3 (let r := andN s a b; let q := andN r.2 c d; orN q.2 r.1 q.1) := by
  have h := andN_is (I := I) hs ha hb
  have hn := h.ext.n
  have k := andN_is (I := I) h.ok (a := c) (b := d) (by omega) (by omega)
  have kn := k.ext.n
  have hlt := h.lt
  have o := orN_is (I := I) k.ok (a := (andN s a b).1) (b := (andN (andN s a b).2 c d).1) (by omega) k.lt
  refine ⟨o.ok, (h.ext.trans k.ext).trans o.ext, o.lt, by have := o.n; have := k.n; have := h.n; show _ ≤ _; simp only; omega, ?_⟩
  show Go.Proofs.Ytpniffcojmlboaa.val I (orN _ _ _).2 (orN _ _ _).1 = _
  rw [o.val, val_ext k.ext hlt, h.val, k.val, val_ext h.ext hc, val_ext h.ext hd]
theorem xorN_is {I : Nat → Bool} {s : Gr} (hs : s.Ok) {a b : Nat} (ha : a < 2 * (s.n + 1)) (hb : b < 2 * (s.n + 1)) : LayIs I s (val I s a != val I s b) 3 (xorN s a b) := by
  have h := two_is (I := I) hs ha (nt_lt hb) (nt_lt ha) hb
  rw [val_nt, val_nt] at h
  rw [show (Go.Proofs.Ytpniffcojmlboaa.val I s a != Go.Proofs.Ytpniffcojmlboaa.val I s b) = ((Go.Proofs.Ytpniffcojmlboaa.val I s a && !Go.Proofs.Ytpniffcojmlboaa.val I s b) || (!Go.Proofs.Ytpniffcojmlboaa.val I s a && Go.Proofs.Ytpniffcojmlboaa.val I s b)) by cases Go.Proofs.Ytpniffcojmlboaa.val I s a <;> cases Go.Proofs.Ytpniffcojmlboaa.val I s b <;> rfl]
  exact h
theorem muxN_is {I : Nat → Bool} {s : Gr} (hs : s.Ok) {c a b : Nat} (hc : c < 2 * (s.n + 1)) (ha : a < 2 * (s.n + 1)) (hb : b < 2 * (s.n + 1)) : LayIs I s ((val I s c && val I s a) || (!val I s c && val I s b)) 3 (muxN s c a b) := by
  have h := two_is (I := I) hs hc ha (nt_lt hc) hb
  rw [val_nt] at h
  exact h

theorem LayIs.trans {I : Nat → Bool} {s : Gr} {v v' : Bool} {m m' : Nat} {r r' : Nat × Gr} (h : LayIs I s v m r) (k : LayIs I r.2 v' m' r') : LayIs I s v' (m + m') r' := ⟨k.ok, h.ext.trans k.ext, k.lt, by have := k.n; have := h.n; omega, k.val⟩
/-- All, one of, an odd number of the first k. -/
def allB (v : Nat → Bool) : Nat → Bool
  | 0 => true
  | k + 1 => allB v k && v k
def anyB (v : Nat → Bool) : Nat → Bool
  | 0 => false
  | k + 1 => anyB v k || v k
def xorB (v : Nat → Bool) : Nat → Bool
  | 0 => false
  | k + 1 => xorB v k != v k
theorem allB_iff {v : Nat → Bool} : ∀ {k}, (allB v k = true ↔ ∀ j, j < k → v j = true)
  | 0 => ⟨fun _ j hj => by omega, fun _ => rfl⟩
  | k + 1 => by
    unfold allB
    rw [Bool.and_eq_true, allB_iff]
    exact ⟨fun h j hj => by
      by_cases e : j = k
      · rw [e]; exact h.2
      · exact h.1 j (by omega), fun h => ⟨fun j hj => h j (by omega), h k (by omega)⟩⟩
theorem anyB_iff {v : Nat → Bool} : ∀ {k}, (anyB v k = true ↔ ∃ j, j < k ∧ v j = true)
  | 0 => ⟨fun h => (by cases h), fun ⟨_, h, _⟩ => by omega⟩
  | k + 1 => by
    unfold anyB
    rw [Bool.or_eq_true, anyB_iff]
    constructor
    · intro h
      rcases h with ⟨j, h1, h2⟩ | h
      · exact ⟨j, by omega, h2⟩
      · exact ⟨k, by omega, h⟩
    · rintro ⟨j, h1, h2⟩
      by_cases e : j = k
      · exact .inr (e ▸ h2)
      · exact .inl ⟨j, by omega, h2⟩
/-- The same ones in any order. -/
theorem allB_rev (v : Nat → Bool) (n : Nat) : allB (fun i => v (n - 1 - i)) n = allB v n := by
  rw [Bool.eq_iff_iff, allB_iff, allB_iff]
  exact ⟨fun h j hj => by have := h (n - 1 - j) (by omega); rwa [show n - 1 - (n - 1 - j) = j by omega] at this, fun h j hj => h _ (by omega)⟩
theorem anyB_rev (v : Nat → Bool) (n : Nat) : anyB (fun i => v (n - 1 - i)) n = anyB v n := by
  rw [Bool.eq_iff_iff, anyB_iff, anyB_iff]
  exact ⟨fun ⟨j, hj, h⟩ => ⟨n - 1 - j, by omega, h⟩, fun ⟨j, hj, h⟩ => ⟨n - 1 - j, by omega, by rwa [show n - 1 - (n - 1 - j) = j by omega]⟩⟩
theorem xorB_front (v : Nat → Bool) : ∀ n, xorB v (n + 1) = (v 0 != xorB (fun i => v (i + 1)) n)
  | 0 => by simp [xorB]
  | n + 1 => by
    rw [show xorB v (n + 1 + 1) = (xorB v (n + 1) != v (n + 1)) from rfl, xorB_front v n, show xorB (fun i => v (i + 1)) (n + 1) = (xorB (fun i => v (i + 1)) n != v (n + 1)) from rfl]
    cases v 0 <;> cases v (n + 1) <;> cases xorB (fun i => v (i + 1)) n <;> rfl
theorem xorB_congr {v u : Nat → Bool} : ∀ {n}, (∀ i, i < n → v i = u i) → xorB v n = xorB u n
  | 0, _ => rfl
  | n + 1, h => by unfold xorB; rw [xorB_congr fun i hi => h i (by omega), h n (by omega)]
theorem xorB_rev (v : Nat → Bool) : ∀ n, xorB (fun i => v (n - 1 - i)) n = xorB v n
  | 0 => rfl
  | n + 1 => by
    rw [xorB_front, show xorB v (n + 1) = (xorB v n != v n) from rfl, ← xorB_rev v n]
    have h : xorB (fun i => v (n + 1 - 1 - (i + 1))) n = xorB (fun i => v (n - 1 - i)) n := xorB_congr fun i _ => by rw [show n + 1 - 1 - (i + 1) = n - 1 - i by omega]
    rw [h, show n + 1 - 1 - 0 = n by omega]
    cases v n <;> cases xorB (fun i => v (n - 1 - i)) n <;> rfl
/-- All and Any, from left to right. -/
def allN (s : Gr) (f : Nat → Int) : Nat → Nat × Gr
  | 0 => (1, s)
  | k + 1 => andN (allN s f k).2 (allN s f k).1 (edg (allN s f k).2.n (f k))
def anyN (s : Gr) (f : Nat → Int) : Nat → Nat × Gr
  | 0 => (0, s)
  | k + 1 => orN (anyN s f k).2 (anyN s f k).1 (edg (anyN s f k).2.n (f k))
theorem allN_is {I : Nat → Bool} {s : Gr} (hs : s.Ok) {f : Nat → Int} {g : Nat → Nat} : ∀ {k : Nat}, (∀ j, j < k → f j = (g j : Int) ∧ g j < 2 * (s.n + 1)) → LayIs I s (allB (fun j => val I s (g j)) k) k (allN s f k)
  | 0, _ => ⟨hs, Ext.refl s, by show 1 < _; omega, Nat.le_refl _, val_one I s⟩
  | k + 1, h => by
    have ih := allN_is (I := I) hs (f := f) (g := g) (k := k) fun j hj => h j (by omega)
    obtain ⟨e, hg⟩ := h k (by omega)
    have hn := ih.ext.n
    have he : edg (allN s f k).2.n (f k) = g k := by rw [e]; exact edg_of (by omega)
    have a := (andN_is (I := I) ih.ok ih.lt (b := g k) (by omega)).lay
    have hh := ih.trans a
    show LayIs I s _ (k + 1) (andN (allN s f k).2 (allN s f k).1 (edg (allN s f k).2.n (f k)))
    rw [he]
    refine ⟨hh.ok, hh.ext, hh.lt, hh.n, ?_⟩
    rw [hh.val, ih.val, val_ext ih.ext hg]
    rfl
theorem anyN_is {I : Nat → Bool} {s : Gr} (hs : s.Ok) {f : Nat → Int} {g : Nat → Nat} : ∀ {k : Nat}, (∀ j, j < k → f j = (g j : Int) ∧ g j < 2 * (s.n + 1)) → LayIs I s (anyB (fun j => val I s (g j)) k) k (anyN s f k)
  | 0, _ => ⟨hs, Ext.refl s, by show 0 < _; omega, Nat.le_refl _, val_zero I s⟩
  | k + 1, h => by
    have ih := anyN_is (I := I) hs (f := f) (g := g) (k := k) fun j hj => h j (by omega)
    obtain ⟨e, hg⟩ := h k (by omega)
    have hn := ih.ext.n
    have he : edg (anyN s f k).2.n (f k) = g k := by rw [e]; exact edg_of (by omega)
    have a := orN_is (I := I) ih.ok ih.lt (b := g k) (by omega)
    have hh := ih.trans a
    show LayIs I s _ (k + 1) (orN (anyN s f k).2 (anyN s f k).1 (edg (anyN s f k).2.n (f k)))
    rw [he]
    refine ⟨hh.ok, hh.ext, hh.lt, hh.n, ?_⟩
    rw [hh.val, ih.val, val_ext ih.ext hg]
    rfl
end Go.Proofs.Ytpniffcojmlboaa
