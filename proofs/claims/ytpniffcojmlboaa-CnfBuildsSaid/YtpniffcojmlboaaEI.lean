/- The memory of the law CnfBuilds (gen_ei.py). -/
import Derived.Test.YtpniffcojmlboaaEG
namespace Go.Proofs.Ytpniffcojmlboaa
open Go.RowKit Go.Lib Go.Maps
set_option maxRecDepth 100000

/-- Rows that nobody turns. -/
def TRow (w : World) (κ : Nat → Nat) (hs : Nat → Value) (D : List (List Int)) : Prop := Ti w κ 7 (fun b => ∃ j, j < D.length ∧ (hs j).ownBlock = some b) (fun w => ∀ j (h : j < D.length), Row w (hs j) D[j])
theorem Ti.join {w : World} {κ : Nat → Nat} {i : Nat} {O1 O2 O : Nat → Prop} {P1 P2 P : World → Prop} (h1 : Ti w κ i O1 P1) (h2 : Ti w κ i O2 P2) (hO : ∀ b, O b ↔ O1 b ∨ O2 b) (hP : ∀ w, P1 w → P2 w → P w) : Ti w κ i O P :=
  ⟨hP _ h1.at' h2.at', fun b e => ((hO b).1 e).elim (h1.own b) (h2.own b), fun w' k => hP _ (h1.st _ (k.weak fun b _ e => fun e2 => e ((hO b).2 (.inl e2)))) (h2.st _ (k.weak fun b _ e => fun e2 => e ((hO b).2 (.inr e2))))⟩
theorem row_st {w w' : World} {hs : Nat → Value} {D : List (List Int)} (h : ∀ j (hj : j < D.length), Row w (hs j) D[j]) (k : Fr (fun b => ¬ ∃ j, j < D.length ∧ (hs j).ownBlock = some b) w w') : ∀ j (hj : j < D.length), Row w' (hs j) D[j] :=
  fun j hj => (h j hj).of_block k.size fun b e => k.block b ((h j hj).lt e) fun hn => hn ⟨j, hj, e⟩
/-- What was taken becomes rows that nobody turns. -/
theorem TM.take3 {w w' : World} {κ : Nat → Nat} {K G Mv : Nat} {fv : Value} {hs : Nat → Value} {V : List Nat} {ls : List (List Int)} (h : TM w κ K G Mv fv hs V ls) (T : Taken w K G Mv fv hs w' V ls) : ∃ κ', Ot w κ 2 w' κ' ∧ TM w' κ' K G Mv (.slice none 0 0) hs V [] ∧ TRow w' κ' hs ls := by
  have h1 : ∀ b, Oc K Mv (.slice none 0 0) ([] : List (List Int)).length hs b → b = K ∨ b = Mv := by
    rintro b ((e | e | e) | ⟨j, hj, _⟩)
    · exact .inl e
    · exact .inr e
    · cases e
    · exact absurd hj (Nat.not_lt_zero _)
  refine Ti.call2 h (T.fr.weak fun b _ e => .inl (.inl e)) (fun b e => .inl (.inl ((h1 b e).imp id .inl))) (fun b e => .inl (.inr e)) (fun b e k => ?_) T.cm (fun b e => T.cm.lt e) (fun w2 k => cm_st T.cm k) T.rws.row (fun b ⟨j, hj, e⟩ => (T.rws.row j hj).lt e) (fun w2 k => row_st T.rws.row k) 7
  obtain ⟨j, hj, k⟩ := k
  rcases h1 b e with rfl | rfl
  · exact h.cm.out j hj _ k (.inl rfl)
  · exact h.cm.out j hj _ k (.inr (.inl rfl))
theorem rm_st {w w' : World} {R T : Nat} {lv cv : Value} {hs : Nat → Value} {V : List Nat} {C : List (List Int)} (h : Rm w R T lv cv hs V C) (k : Fr (fun b => ¬ Om R lv cv C.length hs b) w w') : Rm w' R T lv cv hs V C := h.of_block k.size fun b e => k.block b (h.lt e) fun hn => hn e
theorem rg_st {w w' : World} {T : Nat} {tv : Value} {s : Gr} (h : Rg w T tv s) (k : Fr (fun b => ¬ (b = T ∨ tv.ownBlock = some b)) w w') : Rg w' T tv s := h.of_block fun b e => k.block b (h.lt e) fun hn => hn e
structure Lb (w0 w : World) (G : Nat) (M : Nat) (v : Value) (iv : Value) (s : Gr) (K : Nat) (Mv : Nat) (fv : Value) (fh : Nat → Value) (V : List Nat) (ls : List (List Int)) (ev : Value) (q : Nat) (F : Nat → Int) (T : Nat) (tv : Value) (R : Nat) (lv : Value) (cv : Value) (rh : Nat → Value) (U : List Nat) (C : List (List Int)) (dv : Value) (D : List (List Int)) (dh : Nat → Value) (xv : Value) (nx : Nat) (X : Nat → Value) (yv : Value) (ny : Nat) (Y : Nat → Value) : Prop where
  all : ∃ κ, Base w0 w κ ∧ TG w κ G M v iv s ∧ TM w κ K G Mv fv fh V ls ∧ TS w κ 3 3 ev q (inI F) ∧ Ti w κ 4 (fun b => b = T ∨ tv.ownBlock = some b) (fun w => Rg w T tv s) ∧ Ti w κ 5 (Om R lv cv C.length rh) (fun w => Rm w R T lv cv rh U C) ∧ TS w κ 6 26 dv D.length dh ∧ TRow w κ dh D ∧ TS w κ 8 4 xv nx X ∧ TS w κ 9 4 yv ny Y
variable {w0 w w1 w2 w' : World} {G : Nat} {M : Nat} {v : Value} {iv : Value} {s : Gr} {K : Nat} {Mv : Nat} {fv : Value} {fh : Nat → Value} {V : List Nat} {ls : List (List Int)} {ev : Value} {q : Nat} {F : Nat → Int} {T : Nat} {tv : Value} {R : Nat} {lv : Value} {cv : Value} {rh : Nat → Value} {U : List Nat} {C : List (List Int)} {dv : Value} {D : List (List Int)} {dh : Nat → Value} {xv : Value} {nx : Nat} {X : Nat → Value} {yv : Value} {ny : Nat} {Y : Nat → Value}
variable {fv' lv' cv' xv' dv' yv' : Value} {fh' rh' dh' : Nat → Value} {V' U' : List Nat} {ls' C' : List (List Int)} {nx' ny' : Nat} {X' Y' : Nat → Value}
theorem Lb.gm (h : Lb w0 w G M v iv s K Mv fv fh V ls ev q F T tv R lv cv rh U C dv D dh xv nx X yv ny Y) : Gm w G M v iv s := by obtain ⟨κ, base, g, m, e, t, r, d, o, x, y⟩ := h.all; exact g.gm
theorem Lb.cm (h : Lb w0 w G M v iv s K Mv fv fh V ls ev q F T tv R lv cv rh U C dv D dh xv nx X yv ny Y) : Cm w K G Mv fv fh V ls := by obtain ⟨κ, base, g, m, e, t, r, d, o, x, y⟩ := h.all; exact m.cm
theorem Lb.apart (h : Lb w0 w G M v iv s K Mv fv fh V ls ev q F T tv R lv cv rh U C dv D dh xv nx X yv ny Y) : Apart G M v iv K Mv fv ls.length fh := by obtain ⟨κ, base, g, m, e, t, r, d, o, x, y⟩ := h.all; exact g.apart m
theorem Lb.bel (h : Lb w0 w G M v iv s K Mv fv fh V ls ev q F T tv R lv cv rh U C dv D dh xv nx X yv ny Y) : Below w0.heap.size w0 w := by obtain ⟨κ, base, g, m, e, t, r, d, o, x, y⟩ := h.all; exact base.at'
theorem Lb.es (h : Lb w0 w G M v iv s K Mv fv fh V ls ev q F T tv R lv cv rh U C dv D dh xv nx X yv ny Y) : Sl w 3 1 ev q (inI F) := by obtain ⟨κ, base, g, m, e, t, r, d, o, x, y⟩ := h.all; exact e.sl
theorem Lb.rg (h : Lb w0 w G M v iv s K Mv fv fh V ls ev q F T tv R lv cv rh U C dv D dh xv nx X yv ny Y) : Rg w T tv s := by obtain ⟨κ, base, g, m, e, t, r, d, o, x, y⟩ := h.all; exact t.at'
theorem Lb.rm (h : Lb w0 w G M v iv s K Mv fv fh V ls ev q F T tv R lv cv rh U C dv D dh xv nx X yv ny Y) : Rm w R T lv cv rh U C := by obtain ⟨κ, base, g, m, e, t, r, d, o, x, y⟩ := h.all; exact r.at'
theorem Lb.rapart (h : Lb w0 w G M v iv s K Mv fv fh V ls ev q F T tv R lv cv rh U C dv D dh xv nx X yv ny Y) : RApart T tv R lv cv C.length rh := by obtain ⟨κ, base, g, m, e, t, r, d, o, x, y⟩ := h.all; exact fun b hb hb2 => by have h1 := (t.own b hb).2; have h2 := (r.own b hb2).2; omega
theorem Lb.cs (h : Lb w0 w G M v iv s K Mv fv fh V ls ev q F T tv R lv cv rh U C dv D dh xv nx X yv ny Y) : Rws w dv dh D := by obtain ⟨κ, base, g, m, e, t, r, d, o, x, y⟩ := h.all; exact ⟨d.sl, o.at'⟩
theorem Lb.vx (h : Lb w0 w G M v iv s K Mv fv fh V ls ev q F T tv R lv cv rh U C dv D dh xv nx X yv ny Y) : Sl w 4 1 xv nx X := by obtain ⟨κ, base, g, m, e, t, r, d, o, x, y⟩ := h.all; exact x.sl
theorem Lb.vy (h : Lb w0 w G M v iv s K Mv fv fh V ls ev q F T tv R lv cv rh U C dv D dh xv nx X yv ny Y) : Sl w 4 1 yv ny Y := by obtain ⟨κ, base, g, m, e, t, r, d, o, x, y⟩ := h.all; exact y.sl
theorem Lb.quiet (h : Lb w0 w G M v iv s K Mv fv fh V ls ev q F T tv R lv cv rh U C dv D dh xv nx X yv ny Y) (hb : Below w.heap.size w w') : Lb w0 w' G M v iv s K Mv fv fh V ls ev q F T tv R lv cv rh U C dv D dh xv nx X yv ny Y := by
  obtain ⟨κ, base, g, m, e, t, r, d, o, x, y⟩ := h.all
  exact ⟨κ, Ti.below base hb, Ti.below g hb, Ti.below m hb, Ti.below e hb, Ti.below t hb, Ti.below r hb, Ti.below d hb, Ti.below o hb, Ti.below x hb, Ti.below y hb⟩
theorem Lb.maker (h : Lb w0 w G M v iv s K Mv fv fh V ls ev q F T tv R lv cv rh U C dv D dh xv nx X yv ny Y) (T0 : CmT K G Mv w fv fh ls.length w' fv' fh' V' ls') : Lb w0 w' G M v iv s K Mv fv' fh' V' ls' ev q F T tv R lv cv rh U C dv D dh xv nx X yv ny Y := by
  obtain ⟨κ, base, g, m, e, t, r, d, o, x, y⟩ := h.all
  obtain ⟨κ', o', m'⟩ := m.call T0
  exact ⟨κ', Ti.keep base o' (by decide), Ti.keep g o' (by decide), m', Ti.keep e o' (by decide), Ti.keep t o' (by decide), Ti.keep r o' (by decide), Ti.keep d o' (by decide), Ti.keep o o' (by decide), Ti.keep x o' (by decide), Ti.keep y o' (by decide)⟩
theorem Lb.ref (h : Lb w0 w G M v iv s K Mv fv fh V ls ev q F T tv R lv cv rh U C dv D dh xv nx X yv ny Y) (T0 : RmT R T w lv cv rh C.length w' lv' cv' rh' U' C') : Lb w0 w' G M v iv s K Mv fv fh V ls ev q F T tv R lv' cv' rh' U' C' dv D dh xv nx X yv ny Y := by
  obtain ⟨κ, base, g, m, e, t, r, d, o, x, y⟩ := h.all
  obtain ⟨κ', o', r'⟩ := Ti.call r T0.fr T0.own T0.rm (fun b e => T0.rm.lt e) fun w2 k => rm_st T0.rm k
  exact ⟨κ', Ti.keep base o' (by decide), Ti.keep g o' (by decide), Ti.keep m o' (by decide), Ti.keep e o' (by decide), Ti.keep t o' (by decide), r', Ti.keep d o' (by decide), Ti.keep o o' (by decide), Ti.keep x o' (by decide), Ti.keep y o' (by decide)⟩
theorem Lb.val (h : Lb w0 w G M v iv s K Mv fv fh V ls ev q F T tv R lv cv rh U C dv D dh xv nx X yv ny Y) (fr : Fr (fun b => xv.ownBlock = some b) w w') (own : ∀ b, xv'.ownBlock = some b → xv.ownBlock = some b ∨ w.heap.size ≤ b) (hs1 : Sl w' 4 1 xv' nx' X') : Lb w0 w' G M v iv s K Mv fv fh V ls ev q F T tv R lv cv rh U C dv D dh xv' nx' X' yv ny Y := by
  obtain ⟨κ, base, g, m, e, t, r, d, o, x, y⟩ := h.all
  obtain ⟨κ', o', x'⟩ := x.call fr own hs1
  exact ⟨κ', Ti.keep base o' (by decide), Ti.keep g o' (by decide), Ti.keep m o' (by decide), Ti.keep e o' (by decide), Ti.keep t o' (by decide), Ti.keep r o' (by decide), Ti.keep d o' (by decide), Ti.keep o o' (by decide), x', Ti.keep y o' (by decide)⟩
theorem Lb.inn (h : Lb w0 w G M v iv s K Mv fv fh V ls ev q F T tv R lv cv rh U C dv D dh xv nx X yv ny Y) (hf : Frs 4 w w' yv' ny' Y') : Lb w0 w' G M v iv s K Mv fv fh V ls ev q F T tv R lv cv rh U C dv D dh xv nx X yv' ny' Y' := by
  obtain ⟨κ, base, g, m, e, t, r, d, o, x, y⟩ := h.all
  obtain ⟨κ', o', y'⟩ := TS.new κ 9 hf
  exact ⟨κ', Ti.keep base o' (by decide), Ti.keep g o' (by decide), Ti.keep m o' (by decide), Ti.keep e o' (by decide), Ti.keep t o' (by decide), Ti.keep r o' (by decide), Ti.keep d o' (by decide), Ti.keep o o' (by decide), Ti.keep x o' (by decide), y'⟩
theorem Lb.take (h : Lb w0 w G M v iv s K Mv fv fh V ls ev q F T tv R lv cv rh U C dv D dh xv nx X yv ny Y) (T0 : Taken w K G Mv fv fh w1 V ls) (fr : Fr (fun b => dv.ownBlock = some b) w1 w2) (own : ∀ b, dv'.ownBlock = some b → dv.ownBlock = some b ∨ w1.heap.size ≤ b) (hs1 : Sl w2 26 1 dv' (D.length + ls.length) (catV dh D.length fh)) : Lb w0 w2 G M v iv s K Mv (.slice none 0 0) fh V [] ev q F T tv R lv cv rh U C dv' (D ++ ls) (catV dh D.length fh) xv nx X yv ny Y := by
  obtain ⟨κ, base, g, m, e, t, r, d, o, x, y⟩ := h.all
  obtain ⟨κ1, o1, m1, n1⟩ := m.take3 T0
  have base1 := Ti.keep base o1 (by decide)
  have g1 := Ti.keep g o1 (by decide)
  have e1 := Ti.keep e o1 (by decide)
  have t1 := Ti.keep t o1 (by decide)
  have r1 := Ti.keep r o1 (by decide)
  have d1 := Ti.keep d o1 (by decide)
  have o1r := Ti.keep o o1 (by decide)
  have x1 := Ti.keep x o1 (by decide)
  have y1 := Ti.keep y o1 (by decide)
  obtain ⟨κ', o', d'⟩ := TS.call (by exact d1) fr own hs1
  have n2 := Ti.keep n1 o' (by decide)
  have or2 := Ti.keep o1r o' (by decide)
  have oj : TRow w2 κ' (catV dh D.length fh) (D ++ ls) := Ti.join or2 n2 (fun b => ⟨fun ⟨j, hj, e⟩ => ?_, fun e => ?_⟩) (fun w h1 h2 j hj => ?_)
  · refine ⟨κ', Ti.keep base1 o' (by decide), Ti.keep g1 o' (by decide), Ti.keep m1 o' (by decide), Ti.keep e1 o' (by decide), Ti.keep t1 o' (by decide), Ti.keep r1 o' (by decide), (by rw [List.length_append]; exact d'), oj, Ti.keep x1 o' (by decide), Ti.keep y1 o' (by decide)⟩
  · unfold catV at e
    by_cases k : j < D.length
    · rw [if_pos k] at e; exact .inl ⟨j, k, e⟩
    · rw [if_neg k] at e
      refine .inr ⟨j - D.length, by simp at hj; omega, e⟩
  · rcases e with ⟨j, hj, e⟩ | ⟨j, hj, e⟩
    · exact ⟨j, by simp; omega, by unfold catV; rw [if_pos hj]; exact e⟩
    · exact ⟨D.length + j, by simp; omega, by unfold catV; rw [if_neg (by omega), Nat.add_sub_cancel_left]; exact e⟩
  · unfold catV
    by_cases k : j < D.length
    · rw [if_pos k, List.getElem_append_left k]; exact h1 j k
    · rw [if_neg k, List.getElem_append_right (by omega)]; exact h2 _ (by simp at hj; omega)
end Go.Proofs.Ytpniffcojmlboaa
