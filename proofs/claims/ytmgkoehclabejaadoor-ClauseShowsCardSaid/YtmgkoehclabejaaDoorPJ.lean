/- Clauses as they are read, word by word: what is in memory. -/
import Derived.Test.YtmgkoehclabejaaDoorPI
import Derived.RangeFuncBox
import Derived.Shelf.Strings.FieldsFuncGrows
namespace Go.Proofs.YtmgkoehclabejaaDoor
open Go Go.RowKit Go.Lib

theorem info22 : (Tryd.prog.info? 22).map (fun i => (i.zero, i.size, i.bytes)) = some (some (.slice none 0 0), 1, 24) := by kernel_rfl
theorem info3 : (Tryd.prog.info? 3).map (fun i => (i.zero, i.size, i.bytes)) = some (some (.int .i64 0), 1, 8) := by kernel_rfl

theorem add0 (g j : Nat) : (⟨g, 0, none⟩ : Addr).add j = ⟨g, 0 + j, none⟩ := by cases j <;> simp [Addr.add]

def intsV (l : List Int) : List Value := l.map (.int .i64)
theorem intsV_length (l : List Int) : (intsV l).length = l.length := by simp [intsV]

/-- Two owned rows of different elements are two blocks. -/
theorem own_apart {W : World} {B B' : Nat} {e e' : TypeId} {k k' : Nat} {v v' : Value} {xs xs' : List Value} (hne : e ≠ e') (h : W.ownsRow B e 1 v k xs) (h' : W.ownsRow B' e' 1 v' k' xs') : v.ownBlock = none ∨ v.ownBlock ≠ v'.ownBlock := by
  rcases h.2 with ⟨rfl, _⟩ | ⟨g, cap, cur, rfl, _, hg, _⟩
  · exact .inl rfl
  · right
    rcases h'.2 with ⟨rfl, _⟩ | ⟨g', cap', cur', rfl, _, hg', _⟩
    · simp [Value.ownBlock]
    · intro e
      obtain rfl : g = g' := by simpa [Value.ownBlock] using e
      rw [hg] at hg'; cases hg'; exact hne rfl
theorem own_kept {W W' : World} {B : Nat} {e : TypeId} {k : Nat} {v : Value} {xs : List Value} {row : Option Nat} (h : W.ownsRow B e 1 v k xs) (hg : W.grownBy W' row) (hr : v.ownBlock = none ∨ v.ownBlock ≠ row) : W'.ownsRow B e 1 v k xs := by
  refine h.kept hg ?_
  rcases h.2 with ⟨rfl, _⟩ | ⟨g, cap, cur, rfl, _, _⟩
  · exact .inl rfl
  · rcases hr with hr | hr
    · cases hr
    · exact .inr hr

/-- The clauses so far (out), in vcs; the clause that is being read (now), in vc. -/
structure Reading (B : Nat) (W : World) (vcs : Value) (vals : List Value) (out : List (List Int)) (vc : Value) (Bc : Nat) (now : List Int) : Prop where
  rows : W.ownsRow B 22 1 vcs out.length vals
  each : ∀ (j : Nat) (l : List Int), out[j]? = some l → ∃ a c, vals[j]? = some (Value.slice a l.length c) ∧ W.ownsRow B 3 1 (Value.slice a l.length c) l.length (intsV l) ∧ ∀ g, (Value.slice a l.length c).ownBlock = some g → g < Bc
  cur : W.ownsRow Bc 3 1 vc now.length (intsV now)
  base : B ≤ Bc
  size : Bc ≤ W.heap.size

theorem Reading.start (W : World) : Reading W.heap.size W (.slice none 0 0) [] [] (.slice none 0 0) W.heap.size [] where
  rows := World.ownsRow_nil _ _ _ _
  each := fun j l h => by simp at h
  cur := World.ownsRow_nil _ _ _ _
  base := Nat.le_refl _
  size := Nat.le_refl _
theorem Reading.below {B : Nat} {W W' : World} {vcs vc : Value} {vals : List Value} {out : List (List Int)} {Bc : Nat} {now : List Int} (h : Reading B W vcs vals out vc Bc now) (hb : Below W.heap.size W W') : Reading B W' vcs vals out vc Bc now where
  rows := own_below h.rows hb
  each := fun j l hj => by
    obtain ⟨a, c, h1, h2, h3⟩ := h.each j l hj
    exact ⟨a, c, h1, own_below h2 hb, h3⟩
  cur := own_below h.cur hb
  base := h.base
  size := Nat.le_trans h.size hb.size
/-- A literal more. -/
theorem Reading.lit {B : Nat} {W W' : World} {vcs vc vc' : Value} {vals : List Value} {out : List (List Int)} {Bc : Nat} {now : List Int} {x : Int} (h : Reading B W vcs vals out vc Bc now)
    (hown : W'.ownsRow Bc 3 1 vc' (now.length + 1) (intsV now ++ [.int .i64 x])) (hg : W.grownBy W' vc.ownBlock) : Reading B W' vcs vals out vc' Bc (now ++ [x]) where
  rows := own_kept h.rows hg (own_apart (by decide) h.rows h.cur)
  each := fun j l hj => by
    obtain ⟨a, c, h1, h2, h3⟩ := h.each j l hj
    refine ⟨a, c, h1, own_kept h2 hg ?_, h3⟩
    rcases h.cur.2 with ⟨rfl, _⟩ | ⟨g, cap, cur, rfl, hgb, _⟩
    · by_cases e : (Value.slice a l.length c).ownBlock = none
      · exact .inl e
      · exact .inr e
    · right
      intro e
      have := h3 g e
      omega
  cur := by simpa [intsV] using hown
  base := h.base
  size := Nat.le_trans h.size hg.size
/-- A clause more. -/
theorem Reading.clause {B : Nat} {W W' : World} {vcs vcs' : Value} {a : Option Addr} {c : Nat} {vals : List Value} {out : List (List Int)} {Bc : Nat} {now : List Int} (h : Reading B W vcs vals out (.slice a now.length c) Bc now)
    (hown : W'.ownsRow B 22 1 vcs' (out.length + 1) (vals ++ [.slice a now.length c])) (hg : W.grownBy W' vcs.ownBlock) : Reading B W' vcs' (vals ++ [.slice a now.length c]) (out ++ [now]) (.slice none 0 0) W'.heap.size [] where
  rows := by simpa using hown
  each := fun j l hj => by
    have hvl : vals.length = out.length := by have := h.rows.1; omega
    rcases Nat.lt_or_ge j out.length with hlt | hge
    · rw [List.getElem?_append_left hlt] at hj
      obtain ⟨a', c', h1, h2, h3⟩ := h.each j l hj
      refine ⟨a', c', by rw [List.getElem?_append_left (by omega)]; exact h1, own_kept h2 hg (own_apart (by decide) h2 h.rows), fun g hg' => ?_⟩
      have := h3 g hg'; have := h.size; have := hg.size; omega
    · have hj' : j = out.length := by
        rw [List.getElem?_append_right hge] at hj
        by_cases e : j - out.length = 0
        · omega
        · obtain ⟨m, hm⟩ : ∃ m, j - out.length = m + 1 := ⟨j - out.length - 1, by omega⟩
          rw [hm] at hj; simp at hj
      subst hj'
      simp at hj
      subst hj
      have h2 : W.ownsRow B 3 1 (.slice a now.length c) now.length (intsV now) := ⟨h.cur.1, h.cur.2.imp id (fun ⟨g, cap, cur, p, q, r⟩ => ⟨g, cap, cur, p, by have := h.base; omega, r⟩)⟩
      refine ⟨a, c, by rw [← hvl]; simp, own_kept h2 hg (own_apart (by decide) h2 h.rows), fun g hg' => ?_⟩
      have := (h2.lt g hg').2
      have := hg.size
      omega
  cur := World.ownsRow_nil _ _ _ _
  base := by have := h.base; have := h.size; have := hg.size; omega
  size := Nat.le_refl _

/-- What was read, as rows. -/
def rowAtOf (vals : List Value) (out : List (List Int)) (j : Nat) : Row :=
  match vals[j]? with
  | some (.slice a n c) => ⟨a, n, c, fun i => (out.getD j []).getD i 0⟩
  | _ => ⟨none, 0, 0, fun _ => 0⟩
theorem Reading.rws {B : Nat} {W : World} {a : Option Addr} {n c : Nat} {vc : Value} {vals : List Value} {out : List (List Int)} {Bc : Nat} {now : List Int} (h : Reading B W (.slice a n c) vals out vc Bc now) (hn : n = out.length) :
    Rws W a n (rowAtOf vals out) ∧ rowsL (rowAtOf vals out) n = out := by
  subst hn
  have hrow : ∀ (j : Nat) (l : List Int), out[j]? = some l → ∃ a c, vals[j]? = some (Value.slice a l.length c) ∧ rowAtOf vals out j = ⟨a, l.length, c, fun i => l.getD i 0⟩ ∧ Has W a l.length (fun i => l.getD i 0) := by
    intro j l hj
    obtain ⟨a, c, h1, h2, _⟩ := h.each j l hj
    refine ⟨a, c, h1, ?_, ?_⟩
    · unfold rowAtOf
      rw [h1]
      simp only [List.getD_eq_getElem?_getD, hj, Option.getD_some]
    · rcases h2.2 with ⟨e, h0⟩ | ⟨g, cap, cur, e, _, hg, _⟩
      · exact .inl h0
      · refine .inr ⟨g, 0, by cases e; rfl, (Array.getElem?_eq_some_iff.1 hg).1, fun i hi => ?_⟩
        have hc := h2.cells (g := g) (by cases e; rfl) i (.int .i64 (l.getD i 0)) (by simp [intsV, List.getElem?_map, List.getD_eq_getElem?_getD, List.getElem?_eq_getElem hi])
        rw [add0] at hc; exact hc
  refine ⟨?_, ?_⟩
  · rcases h.rows.2 with ⟨e, h0⟩ | ⟨g, cap, cur, e, _, hg, _⟩
    · exact .inl h0
    · refine .inr ⟨g, 0, by cases e; rfl, (Array.getElem?_eq_some_iff.1 hg).1, fun j hj => ?_⟩
      obtain ⟨a', c', h1, h2, h3⟩ := hrow j out[j] (List.getElem?_eq_getElem hj)
      rw [h2]
      refine ⟨?_, h3⟩
      have hc := h.rows.cells (g := g) (by cases e; rfl) j _ h1
      rw [add0] at hc; exact hc
  · refine List.ext_getElem? fun j => ?_
    unfold rowsL
    rw [List.getElem?_map]
    rcases Nat.lt_or_ge j out.length with hlt | hge
    · obtain ⟨a', c', h1, h2, h3⟩ := hrow j out[j] (List.getElem?_eq_getElem hlt)
      rw [List.getElem?_range hlt, List.getElem?_eq_getElem hlt, Option.map_some, h2]
      simp only [lof]
      congr 1
      refine List.ext_getElem? fun i => ?_
      rw [List.getElem?_map]
      rcases Nat.lt_or_ge i out[j].length with hi | hi
      · rw [List.getElem?_range hi, List.getElem?_eq_getElem hi]
        simp [List.getD_eq_getElem?_getD, List.getElem?_eq_getElem hi]
      · rw [List.getElem?_eq_none (by simpa using hi), List.getElem?_eq_none hi]; rfl
    · rw [List.getElem?_eq_none (by simpa using hge), List.getElem?_eq_none hge]; rfl
end Go.Proofs.YtmgkoehclabejaaDoor
