/- The short clauses that are not gone: mathematics; in memory. -/
import Derived.Test.YtoffhgiljnagcaaM
import Derived.Test.YtoffhgiljnagcaaZa
import Derived.Laws.IdiomCopy
namespace Go.Proofs.Ytoffhgiljnagcaa
open Go.RowKit Go.Lib Go.Maps
namespace St
/-- Of the first j short clauses those that are there are the first i of σ. -/
structure Kept (s : St) (σ : Nat → Nat) (i j : Nat) : Prop where
  lt : i < j
  le : j ≤ s.ns
  in' : ∀ t, t < i → s.gone (σ t) = false ∧ ∃ u, u < j ∧ s.sh u = σ t
  all : ∀ u, u < j → s.gone (s.sh u) = false → ∃ t, t < i ∧ σ t = s.sh u
  rest : ∀ t, j ≤ t → σ t = s.sh t
theorem Kept.start {s : St} {i : Nat} (hi : i < s.ns) (hg : s.gone (s.sh i) = true) (hn : ∀ u, u < i → s.gone (s.sh u) = false) : s.Kept s.sh i (i + 1) :=
  ⟨Nat.lt_succ_self _, hi, fun t ht => ⟨hn t ht, t, by omega, rfl⟩, fun u hu hgu => by
    by_cases e : u = i
    · subst e; rw [hg] at hgu; cases hgu
    · exact ⟨u, by omega, rfl⟩, fun _ _ => rfl⟩
theorem Kept.skip {s : St} {σ : Nat → Nat} {i j : Nat} (h : s.Kept σ i j) (hj : j < s.ns) (hg : s.gone (s.sh j) = true) : s.Kept σ i (j + 1) :=
  ⟨by have := h.lt; omega, hj, fun t ht => by
    obtain ⟨a, u, hu, e⟩ := h.in' t ht
    exact ⟨a, u, by omega, e⟩, fun u hu hgu => by
    by_cases e : u = j
    · subst e; rw [hg] at hgu; cases hgu
    · exact h.all u (by omega) hgu, fun t ht => h.rest t (by omega)⟩
theorem Kept.keep {s : St} {σ : Nat → Nat} {i j : Nat} (h : s.Kept σ i j) (hj : j < s.ns) (hg : s.gone (s.sh j) = false) : s.Kept (fun t => if t = i then s.sh j else σ t) (i + 1) (j + 1) := by
  have hlt := h.lt
  refine ⟨by omega, hj, fun t ht => ?_, fun u hu hgu => ?_, fun t ht => ?_⟩
  · by_cases e : t = i
    · simp only [if_pos e]; exact ⟨hg, j, by omega, rfl⟩
    · simp only [if_neg e]
      obtain ⟨a, u, hu, e⟩ := h.in' t (by omega)
      exact ⟨a, u, by omega, e⟩
  · by_cases e : u = j
    · subst e; exact ⟨i, by omega, if_pos rfl⟩
    · obtain ⟨t, ht, e2⟩ := h.all u (by omega) hgu
      exact ⟨t, by omega, by simp only [if_neg (show ¬ t = i by omega)]; exact e2⟩
  · simp only [if_neg (show ¬ t = i by omega)]
    exact h.rest t (by omega)
/-- The first m of σ are the short clauses that are there. -/
structure KeptE (s : St) (σ : Nat → Nat) (m : Nat) : Prop where
  le : m ≤ s.ns
  in' : ∀ t, t < m → s.gone (σ t) = false ∧ ∃ u, u < s.ns ∧ s.sh u = σ t
  all : ∀ u, u < s.ns → s.gone (s.sh u) = false → ∃ t, t < m ∧ σ t = s.sh u
theorem Kept.fin {s : St} {σ σ' : Nat → Nat} {i : Nat} (h : s.Kept σ i s.ns) (e : ∀ t, t < i → σ' t = σ t) : s.KeptE σ' i :=
  ⟨by have := h.lt; omega, fun t ht => by rw [e t ht]; exact h.in' t ht, fun u hu hg => by
    obtain ⟨t, ht, e2⟩ := h.all u hu hg
    exact ⟨t, ht, (e t ht).trans e2⟩⟩
theorem KeptE.none {s : St} (h : ∀ u, u < s.ns → s.gone (s.sh u) = false) : s.KeptE s.sh s.ns :=
  ⟨Nat.le_refl _, fun t ht => ⟨h t ht, t, ht, rfl⟩, fun u hu _ => ⟨u, hu, rfl⟩⟩
/-- The short clauses that are left. -/
def left (s : St) (σ : Nat → Nat) (m : Nat) : St := { s with sh := σ, ns := m }
theorem Base.left {s : St} {lv : Nat → Nat → Prop} (h : Base s lv) {σ : Nat → Nat} {m : Nat} (hk : s.KeptE σ m) : Base (s.left σ m) lv :=
  ⟨⟨h.vars.pos, h.vars.inj⟩, ⟨h.tra.t_lt, h.tra.t_inj, h.tra.v_tr, h.tra.v_neg, h.tra.v_rng, h.tra.d_le⟩, ⟨h.cls.c1, h.cls.c_lt, h.cls.c_ne, h.cls.c_nt, h.cls.c_gone, fun j hj => by
    obtain ⟨_, u, hu, e⟩ := hk.in' j hj
    have := h.cls.s_ok u hu
    rw [e] at this; exact this, fun a ha h1 => by
    obtain ⟨j, hj, e⟩ := h.cls.s_all a ha h1
    obtain ⟨t, ht, e2⟩ := hk.all j hj (by rw [e]; exact ha.2.2)
    exact ⟨t, ht, e2.trans e⟩, Nat.le_trans hk.le h.cls.s_le⟩, ⟨h.wat.w_ok, h.wat.w_has, h.wat.w_uni⟩, h.lens⟩
end St

section
variable {K M : Nat} {w : World} {L : Tag → Value} {s : St} (h : Mem w K M L s)
include h
theorem Mem.stSh {g n c : Nat} (hL : L .sho = .slice (some ⟨g, 0, none⟩) n c) (i x : Nat) : Tn K M w L (w.setCell ⟨g, i, none⟩ (.int .i32 x)) L { s with sh := fun j => if j = i then x else s.sh j } := by
  refine h.cell hL i _ _ rfl ⟨rfl, rfl, rfl⟩ ⟨rfl, fun j _ => ?_⟩ fun t ht => ⟨by cases t <;> rfl, fun j _ => by cases t <;> first | rfl | exact absurd rfl ht⟩
  show (if j = i then Value.int .i32 x else .int .i32 (s.sh j)) = .int .i32 (if j = i then x else s.sh j : Nat)
  split <;> rfl
end
theorem Mem.clrSh {K M : Nat} {L : Tag → Value} {g n c : Nat} (hL : L .sho = .slice (some ⟨g, 0, none⟩) n c) : ∀ (k o : Nat) (w : World) (s : St), Mem w K M L s →
    ∃ σ, (∀ t, t < o → σ t = s.sh t) ∧ Tn K M w L (w.setCells g o (List.replicate k (.int .i32 0))) L { s with sh := σ }
  | 0, o, w, s, h => ⟨s.sh, fun _ _ => rfl, h.refl⟩
  | k + 1, o, w, s, h => by
    have T := h.stSh hL o 0
    obtain ⟨σ, h1, h2⟩ := Mem.clrSh hL k (o + 1) _ _ T.mem
    refine ⟨σ, fun t ht => (h1 t (by omega)).trans (if_neg (by omega)), ?_⟩
    exact T.trans h2
/-- The head's slice of the short ones is cut. -/
theorem Mem.cutSho {K M : Nat} {w : World} {L : Tag → Value} {s : St} (h : Mem w K M L s) {al : Option Addr} {n c m : Nat} (hL : L .sho = .slice al n c) (hm : m ≤ s.ns) (h0 : al = none → m = 0 ∧ c = 0) :
    Tn K M w L (w.setCell ⟨K, 2, none⟩ (.slice al m c)) (up L .sho (.slice al m c)) { s with ns := m } := by
  have hf : Fr (fun b => b = K) w (w.setCell ⟨K, 2, none⟩ (.slice al m c)) := (Fr.refl (fun b => b = K) w).set (p := ⟨K, 2, none⟩) rfl _
  have hrow := h.row .sho
  rw [hL] at hrow
  refine h.turn .sho (.slice al m c) _ hf (fun t _ b hb e => absurd (e ▸ hb) (h.kb t)) ?_ ?_ ?_ (fun t ht _ => ⟨by cases t <;> first | rfl | exact absurd rfl ht, fun j _ => ?_⟩) (fun b hb => .inl ?_) (fun l hl => ?_) (fun b e _ => .inl e)
  · refine (h.hd.set 2 (.slice al m c)).congr fun j hj => ?_
    unfold hdF
    match j, hj with
    | 0, _ | 1, _ | 2, _ | 3, _ | 4, _ | 5, _ | 6, _ | 7, _ | 8, _ | 9, _ => rfl
  · obtain ⟨D, hD, hN⟩ := h.mp
    exact ⟨D, ownsMap_of_block hD (hf.block _ hD.lt (fun e => h.km e.symm)), hN⟩
  · cases al with
    | none => obtain ⟨rfl, rfl⟩ := h0 rfl; exact Sl.nil
    | some ad =>
      rcases hrow with ⟨e, _⟩ | ⟨g, c', F, e, h2, h3, h4, h5⟩
      · cases e
      · injection e with e1 e2 e3
        injection e1 with e1
        subst e1 e2 e3
        have hg : g ≠ K := fun e => h.kb .sho (by rw [hL, e]; rfl)
        have h2' : s.ns ≤ c := h2
        refine .inr ⟨g, c, F, rfl, (show m ≤ c by omega), h3, ?_, fun j hj => h5 j ?_⟩
        · exact hf.rowIs h4 hg
        · have hj' : j < m * 1 := hj
          show j < s.ns * 1
          omega
  · cases t <;> first | rfl | exact absurd rfl ht
  · rw [hL]; cases al <;> exact hb
  · rw [up_other _ (by intro e; cases e)]; exact h.farw l hl
end Go.Proofs.Ytoffhgiljnagcaa
