/- Mathematics: variables and clauses of the nodes that are needed. -/
import Derived.Test.YtpniffcojmlboaaA
namespace Go.Proofs.Ytpniffcojmlboaa

/-- A node's two edges. -/
def nd (s : Gr) (n : Nat) : Option (Nat × Nat) := if n = 0 then none else s.L (n - 1)
theorem nd_lt {s : Gr} (hs : s.Ok) {n a b : Nat} (hn : n ≤ s.n) (h : nd s n = some (a, b)) : a / 2 < n ∧ b / 2 < n ∧ a / 2 ≤ s.n ∧ b / 2 ≤ s.n ∧ b < 2 * n ∧ a < b := by
  unfold nd at h
  by_cases e : n = 0
  · rw [if_pos e] at h; cases h
  · rw [if_neg e] at h
    have := hs (n - 1) (by omega) a b h
    omega
theorem nd_ext {s t : Gr} (h : Ext s t) {n : Nat} (hn : n ≤ s.n) : nd t n = nd s n := by
  unfold nd
  by_cases e : n = 0
  · rw [if_pos e, if_pos e]
  · rw [if_neg e, if_neg e, h.L _ (by omega)]

/-- A node's variable. -/
def vr (V : List Nat) (n : Nat) : Nat := if n ∈ V then V.idxOf n + 1 else 0
/-- An edge's literal. -/
def lit (V : List Nat) (e : Nat) : Int := if e % 2 = 1 then -(vr V (e / 2) : Int) else (vr V (e / 2) : Int)
theorem vr_pos {V : List Nat} {n : Nat} : 0 < vr V n ↔ n ∈ V := by
  unfold vr; split <;> simp_all
theorem vr_le (V : List Nat) (n : Nat) : vr V n ≤ V.length := by
  unfold vr
  split
  · next h => have := List.idxOf_lt_length_of_mem h; omega
  · omega
theorem vr_app {V : List Nat} {n : Nat} (h : n ∈ V) (X : List Nat) : vr (V ++ X) n = vr V n := by
  unfold vr
  rw [if_pos h, if_pos (List.mem_append_left _ h), List.idxOf_append, if_pos h]
theorem vr_new {V : List Nat} {n : Nat} (h : n ∉ V) : vr (V ++ [n]) n = V.length + 1 := by
  unfold vr
  rw [if_pos (by simp), List.idxOf_append, if_neg h]
  simp
theorem vr_other {V : List Nat} {n x : Nat} (h : x ≠ n) : vr (V ++ [n]) x = vr V x := by
  by_cases e : x ∈ V
  · exact vr_app e _
  · unfold vr
    rw [if_neg e, if_neg (by simp [e, h])]
theorem lit_app {V : List Nat} {e : Nat} (h : e / 2 ∈ V) (X : List Nat) : lit (V ++ X) e = lit V e := by
  unfold lit; rw [vr_app h]
theorem lit_abs {V : List Nat} (e : Nat) : -(V.length : Int) ≤ lit V e ∧ lit V e ≤ V.length := by
  have := vr_le V (e / 2)
  unfold lit; split <;> omega
theorem lit_ne {V : List Nat} {e : Nat} (h : e / 2 ∈ V) : lit V e ≠ 0 := by
  have := vr_pos.2 h
  unfold lit; split <;> omega
theorem lit_nt (V : List Nat) (e : Nat) : lit V (nt e) = -lit V e := by
  unfold lit nt
  by_cases h : e % 2 = 0
  · rw [if_pos h, if_pos (by omega), if_neg (by omega), show (e + 1) / 2 = e / 2 by omega]
  · rw [if_neg h, if_neg (by omega), if_pos (by omega), show (e - 1) / 2 = e / 2 by omega, Int.neg_neg]

abbrev St := List Nat × List (List Int)
/-- The clauses of an and that comes behind V. -/
def cls (V : List Nat) (a b : Nat) : List (List Int) := [[-((V.length : Int) + 1), lit V a], [-((V.length : Int) + 1), lit V b], [(V.length : Int) + 1, -lit V a, -lit V b]]
def put (s : Gr) (st : St) (n : Nat) : St := (st.1 ++ [n], st.2 ++ match nd s n with | none => [] | some (a, b) => cls st.1 a b)
def nee (s : Gr) : Nat → St → Nat → St
  | 0, st, _ => st
  | k + 1, st, n => if n ∈ st.1 then st else put s (match nd s n with | none => st | some (a, b) => nee s k (nee s k st (a / 2)) (b / 2)) n
def need (s : Gr) (st : St) (n : Nat) : St := nee s (n + 1) st n
theorem nee_fuel {s : Gr} (hs : s.Ok) : ∀ {k k' n : Nat} (st : St), n ≤ s.n → n < k → n < k' → nee s k st n = nee s k' st n
  | 0, _, _, _, _, h, _ => absurd h (Nat.not_lt_zero _)
  | _ + 1, 0, _, _, _, _, h => absurd h (Nat.not_lt_zero _)
  | k + 1, k' + 1, n, st, hn, h, h' => by
    unfold nee
    by_cases e : n ∈ st.1
    · rw [if_pos e, if_pos e]
    · rw [if_neg e, if_neg e]
      cases e2 : nd s n with
      | none => rfl
      | some p =>
        obtain ⟨a, b⟩ := p
        have := nd_lt hs hn e2
        show put s (nee s k (nee s k st (a / 2)) (b / 2)) n = put s (nee s k' (nee s k' st (a / 2)) (b / 2)) n
        rw [nee_fuel hs (k := k) (k' := k') st (by omega) (by omega) (by omega), nee_fuel hs (k := k) (k' := k') _ (by omega) (by omega) (by omega)]
theorem need_in {s : Gr} {st : St} {n : Nat} (h : n ∈ st.1) : need s st n = st := by unfold need nee; rw [if_pos h]
theorem need_leaf {s : Gr} {st : St} {n : Nat} (h : n ∉ st.1) (e : nd s n = none) : need s st n = put s st n := by unfold need nee; rw [if_neg h, e]
theorem need_and {s : Gr} (hs : s.Ok) {st : St} {n a b : Nat} (hn : n ≤ s.n) (h : n ∉ st.1) (e : nd s n = some (a, b)) : need s st n = put s (need s (need s st (a / 2)) (b / 2)) n := by
  have := nd_lt hs hn e
  rw [show need s st n = nee s (n + 1) st n from rfl]
  unfold nee; rw [if_neg h, e]
  show put s (nee s n (nee s n st (a / 2)) (b / 2)) n = _
  rw [nee_fuel hs (k := n) (k' := a / 2 + 1) st (by omega) (by omega) (by omega), nee_fuel hs (k := n) (k' := b / 2 + 1) _ (by omega) (by omega) (by omega)]
  rfl

/-- How it grows. -/
structure Gw (st st' : St) (n : Nat) : Prop where
  v : ∃ X, st'.1 = st.1 ++ X ∧ ∀ x ∈ X, x ≤ n
  c : ∃ Y, st'.2 = st.2 ++ Y
theorem Gw.refl (st : St) (n : Nat) : Gw st st n := ⟨⟨[], by simp⟩, ⟨[], by simp⟩⟩
theorem Gw.trans {a b c : St} {n m k : Nat} (h : Gw a b n) (k' : Gw b c m) (hn : n ≤ k) (hm : m ≤ k) : Gw a c k := by
  obtain ⟨⟨X, h1, h2⟩, ⟨Y, h3⟩⟩ := h
  obtain ⟨⟨X', h4, h5⟩, ⟨Y', h6⟩⟩ := k'
  refine ⟨⟨X ++ X', by rw [h4, h1, List.append_assoc], fun x hx => ?_⟩, ⟨Y ++ Y', by rw [h6, h3, List.append_assoc]⟩⟩
  rcases List.mem_append.1 hx with e | e
  · exact Nat.le_trans (h2 x e) hn
  · exact Nat.le_trans (h5 x e) hm
theorem Gw.put (s : Gr) (st : St) (n : Nat) : Gw st (put s st n) n := ⟨⟨[n], rfl, fun x hx => by simp at hx; omega⟩, ⟨_, rfl⟩⟩
theorem Gw.mem {st st' : St} {n x : Nat} (h : Gw st st' n) (hx : x ∈ st.1) : x ∈ st'.1 := by
  obtain ⟨⟨X, h1, _⟩, _⟩ := h
  rw [h1]; exact List.mem_append_left _ hx
theorem Gw.not {st st' : St} {n x : Nat} (h : Gw st st' n) (hx : x ∉ st.1) (hn : n < x) : x ∉ st'.1 := by
  obtain ⟨⟨X, h1, h2⟩, _⟩ := h
  rw [h1]
  intro e
  rcases List.mem_append.1 e with e | e
  · exact hx e
  · have := h2 x e; omega
theorem Gw.lit {st st' : St} {n e : Nat} (h : Gw st st' n) (he : e / 2 ∈ st.1) : lit st'.1 e = lit st.1 e := by
  obtain ⟨⟨X, h1, _⟩, _⟩ := h
  rw [h1]; exact lit_app he _
theorem Gw.len {st st' : St} {n : Nat} (h : Gw st st' n) : st.1.length ≤ st'.1.length := by
  obtain ⟨⟨X, h1, _⟩, _⟩ := h
  rw [h1]; simp
/-- By steps: what holds, and is kept when a node comes behind those of its edges, holds behind need. -/
theorem need_step {s : Gr} (hs : s.Ok) (I : St → Prop) (hI : ∀ st n, I st → n ≤ s.n → n ∉ st.1 → (∀ a b, nd s n = some (a, b) → a / 2 ∈ st.1 ∧ b / 2 ∈ st.1) → I (put s st n)) :
    ∀ (n : Nat) (st : St), n ≤ s.n → I st → I (need s st n) ∧ Gw st (need s st n) n ∧ n ∈ (need s st n).1 := by
  intro n
  induction n using Nat.strongRecOn with
  | _ n ih =>
    intro st hn h
    by_cases e : n ∈ st.1
    · rw [need_in e]; exact ⟨h, Gw.refl _ _, e⟩
    · cases e2 : nd s n with
      | none =>
        rw [need_leaf e e2]
        exact ⟨hI st n h hn e (fun a b k => by rw [e2] at k; cases k), Gw.put s st n, by simp [put]⟩
      | some p =>
        obtain ⟨a, b⟩ := p
        have := nd_lt hs hn e2
        rw [need_and hs hn e e2]
        obtain ⟨i1, g1, m1⟩ := ih (a / 2) (by omega) st (by omega) h
        obtain ⟨i2, g2, m2⟩ := ih (b / 2) (by omega) _ (by omega) i1
        have g := g1.trans g2 (k := n - 1) (by omega) (by omega)
        refine ⟨hI _ n i2 hn (g.not e (by omega)) fun a' b' k => ?_, g.trans (Gw.put s _ n) (k := n) (by omega) (Nat.le_refl _), by simp [put]⟩
        rw [e2] at k
        injection k with k; injection k with k1 k2
        subst k1 k2
        exact ⟨g2.mem m1, m2⟩
theorem need_gw {s : Gr} (hs : s.Ok) {n : Nat} (st : St) (hn : n ≤ s.n) : Gw st (need s st n) n ∧ n ∈ (need s st n).1 :=
  (need_step hs (fun _ => True) (fun _ _ _ _ _ _ => trivial) n st hn trivial).2
/-- Clauses that were there before stay ahead. -/
theorem nee_pre (s : Gr) (V : List Nat) (D : List (List Int)) : ∀ (k n : Nat) (V : List Nat) (C : List (List Int)), nee s k (V, D ++ C) n = ((nee s k (V, C) n).1, D ++ (nee s k (V, C) n).2)
  | 0, _, _, _ => rfl
  | k + 1, n, V, C => by
    unfold nee
    by_cases e : n ∈ V
    · rw [if_pos e, if_pos e]
    · rw [if_neg e, if_neg e]
      cases e2 : nd s n with
      | none => simp [put, e2]
      | some p =>
        obtain ⟨a, b⟩ := p
        show put s (nee s k (nee s k (V, D ++ C) (a / 2)) (b / 2)) n = ((put s (nee s k (nee s k (V, C) (a / 2)) (b / 2)) n).1, D ++ (put s (nee s k (nee s k (V, C) (a / 2)) (b / 2)) n).2)
        rw [nee_pre s V D k, nee_pre s V D k]
        simp [put, e2]
theorem need_pre (s : Gr) (V : List Nat) (D C : List (List Int)) (n : Nat) : need s (V, D ++ C) n = ((need s (V, C) n).1, D ++ (need s (V, C) n).2) := nee_pre s V D _ _ _ _

/-- What is still to be done: a way, its last node first. -/
def fin (s : Gr) (st : St) : List Nat → St
  | [] => st
  | n :: r => fin s (need s st n) r
theorem fin_in {s : Gr} {st : St} {n : Nat} {r : List Nat} (h : n ∈ st.1) : fin s st (n :: r) = fin s st r := by
  show fin s (need s st n) r = _
  rw [need_in h]
theorem fin_first {s : Gr} (hs : s.Ok) {st : St} {n a b : Nat} {r : List Nat} (hn : n ≤ s.n) (h : n ∉ st.1) (e : nd s n = some (a, b)) : fin s st (a / 2 :: n :: r) = fin s st (n :: r) := by
  have := nd_lt hs hn e
  obtain ⟨g1, m1⟩ := need_gw hs (n := a / 2) st (by omega)
  show fin s (need s (need s st (a / 2)) n) r = fin s (need s st n) r
  rw [need_and hs hn h e, need_and hs hn (g1.not h (by omega)) e, need_in m1]
theorem fin_second {s : Gr} (hs : s.Ok) {st : St} {n a b : Nat} {r : List Nat} (hn : n ≤ s.n) (h : n ∉ st.1) (e : nd s n = some (a, b)) (ha : a / 2 ∈ st.1) : fin s st (b / 2 :: n :: r) = fin s st (n :: r) := by
  have := nd_lt hs hn e
  obtain ⟨g1, m1⟩ := need_gw hs (n := b / 2) st (by omega)
  show fin s (need s (need s st (b / 2)) n) r = fin s (need s st n) r
  rw [need_and hs hn h e, need_and hs hn (g1.not h (by omega)) e, need_in ha, need_in (g1.mem ha), need_in m1]
theorem fin_put {s : Gr} (hs : s.Ok) {st : St} {n : Nat} {r : List Nat} (hn : n ≤ s.n) (h : n ∉ st.1) (e : ∀ a b, nd s n = some (a, b) → a / 2 ∈ st.1 ∧ b / 2 ∈ st.1) : fin s (put s st n) (n :: r) = fin s st (n :: r) := by
  have h1 : need s st n = put s st n := by
    cases e2 : nd s n with
    | none => exact need_leaf h e2
    | some p =>
      obtain ⟨a, b⟩ := p
      obtain ⟨h1, h2⟩ := e a b e2
      rw [need_and hs hn h e2, need_in h1, need_in h2]
  show fin s (need s (put s st n) n) r = fin s (need s st n) r
  rw [h1, need_in (by simp [put])]

/-- Different numbers up to m are at most m + 1. -/
theorem few : ∀ {m : Nat} {V : List Nat}, V.Nodup → (∀ x ∈ V, x < m) → V.length ≤ m
  | 0, [], _, _ => Nat.le_refl _
  | 0, x :: _, _, h => absurd (h x (by simp)) (Nat.not_lt_zero _)
  | m + 1, V, hd, h => by
    have ih := few (m := m) (V := V.erase m) (hd.erase m) (fun x hx => by
      have h1 := h x (List.mem_of_mem_erase hx)
      have h2 : x ≠ m := fun e => by subst e; exact absurd hx (List.Nodup.not_mem_erase hd)
      omega)
    have := List.length_erase (a := m) (l := V)
    split at this <;> omega
/-- The variables of a graph. -/
structure Vs (s : Gr) (V : List Nat) : Prop where
  dis : V.Nodup
  le : ∀ n ∈ V, n ≤ s.n
  zero : V.head? = some 0
theorem Vs.few {s : Gr} {V : List Nat} (h : Vs s V) : V.length ≤ s.n + 1 := Go.Proofs.Ytpniffcojmlboaa.few h.dis fun x hx => by have := h.le x hx; omega
theorem Vs.put {s : Gr} {V : List Nat} {n : Nat} (h : Vs s V) (hn : n ≤ s.n) (e : n ∉ V) : Vs s (V ++ [n]) := by
  refine ⟨List.nodup_append.2 ⟨h.dis, by simp, fun x hx y hy => ?_⟩, fun x hx => ?_, ?_⟩
  · simp at hy; subst hy; intro k; subst k; exact e hx
  · rcases List.mem_append.1 hx with k | k
    · exact h.le x k
    · simp at k; omega
  · have := h.zero
    cases V with
    | nil => cases this
    | cons x r => exact this
theorem Vs.ext {s t : Gr} {V : List Nat} (h : Vs s V) (k : Ext s t) : Vs t V := ⟨h.dis, fun n hn => Nat.le_trans (h.le n hn) k.n, h.zero⟩
theorem Vs.need {s : Gr} (hs : s.Ok) {st : St} (h : Vs s st.1) {n : Nat} (hn : n ≤ s.n) : Vs s (need s st n).1 :=
  (need_step hs (fun st => Vs s st.1) (fun _ _ h hn e _ => h.put hn e) n st hn h).1
theorem Vs.pos {s : Gr} {V : List Nat} (h : Vs s V) : 0 ∈ V := by
  have := h.zero
  cases V with
  | nil => cases this
  | cons x r => injection this with this; subst this; simp
/-- The clauses are three for each and, and one. -/
theorem need_three {s : Gr} (hs : s.Ok) {st : St} {n : Nat} (hn : n ≤ s.n) : (need s st n).2.length % 3 = st.2.length % 3 :=
  (need_step hs (fun t => t.2.length % 3 = st.2.length % 3) (fun t n h hn e _ => by
    cases e2 : nd s n with
    | none => simpa [put, e2] using h
    | some p => obtain ⟨a, b⟩ := p; simp [put, e2, cls]; omega) n st hn rfl).1
end Go.Proofs.Ytpniffcojmlboaa
