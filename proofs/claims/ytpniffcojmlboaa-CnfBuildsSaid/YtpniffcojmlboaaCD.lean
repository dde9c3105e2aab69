/- Contracts: add. -/
import Derived.Test.YtpniffcojmlboaaCC
namespace Go.Proofs.Ytpniffcojmlboaa
open Go.RowKit Go.Lib Go.Maps
set_option maxRecDepth 100000

theorem neg_in {l : Int} {n : Nat} (h : -(n : Int) ≤ l ∧ l ≤ n) (hn : n ≤ 1000000) : IntKind.i64.wrap (-l) = -l := by
  refine IntWalk.i64_in _ ⟨?_, ?_⟩ <;> omega
theorem ndO_nat (s : Gr) {n : Nat} (hn : n ≤ s.n) : ndO s n = nd s n := by
  unfold ndO nd
  by_cases e : n = 0
  · subst e; rfl
  · rw [if_pos (show 1 ≤ (n : Int) ∧ (n : Int) ≤ s.n by omega), if_neg e, Int.toNat_natCast]
variable {w w' : World} {K G M Mv : Nat} {v iv fv : Value} {hs : Nat → Value} {s : Gr} {V : List Nat} {ls : List (List Int)}
/-- The map is turned. -/
theorem Cm.map {w1 : World} {V' : List Nat} (h : Cm w K G Mv fv hs V ls) (hm : VMap w1 Mv V') (hg : w.grownBy w1 (some Mv)) : CmT K G Mv w fv hs ls.length w1 fv hs V' ls := by
  have hf : Fr (fun b => b = Mv) w w1 := (Fr.refl _ w).grown hg fun k e _ => by cases e; rfl
  refine ⟨⟨hf.rowIs h.hd fun e => h.n2 e.symm, hm, h.sl.of_block fun b e => hf.block b (h.sl.lt e) fun k => h.n3 (k ▸ e), fun j hj => (h.row j hj).of_block hf.size fun b e => hf.block b ((h.row j hj).lt e) fun k => h.out j hj b e (.inr (.inl k)), h.out, h.n1, h.n2, h.n3⟩, hf.weak fun b _ e => .inl (.inr (.inl e)), fun b e => .inl e⟩
/-- Its graph stands apart. -/
def Apart (G M : Nat) (v iv : Value) (K Mv : Nat) (fv : Value) (n : Nat) (hs : Nat → Value) : Prop := ∀ b, Bg G M v iv b → ¬ Oc K Mv fv n hs b
theorem Apart.gm {n : Nat} {fv' : Value} {hs' : Nat → Value} {V' : List Nat} {ls' : List (List Int)} (h : Apart G M v iv K Mv fv n hs) (hg : Gm w G M v iv s) (T : CmT K G Mv w fv hs n w' fv' hs' V' ls') : Gm w' G M v iv s ∧ Apart G M v iv K Mv fv' ls'.length hs' :=
  ⟨hg.of_block fun b e => T.fr.block b (hg.lt e) (h b e), fun b e k => (T.own b k).elim (h b e) fun k => by have := hg.lt e; omega⟩
set_option maxHeartbeats 2000000 in
/-- add -/
theorem add_any (h : Cm w K G Mv fv hs V ls) (hg : Gm w G M v iv s) (ha : Apart G M v iv K Mv fv ls.length hs) (hn : s.n ≤ 100000) (hV : V.length ≤ 200000) (hl : ls.length ≤ 900000) (n : Nat) (hnn : n ≤ s.n) (hnV : n ∉ V) :
    Calls Try.prog 41 #[.pointer (some ⟨K, 0, none⟩), .int .i64 n] w fun e w' => e = .returned (.tuple #[]) ∧ ∃ fv' hs', Hid (CmT K G Mv w fv hs ls.length w' fv' hs' (put s (V, ls) n).1 (put s (V, ls) n).2) := by
  have HV := Lib.hid (vars_any h)
  have c0 := h.c0
  have c1 := h.c1
  obtain ⟨w1, hrun, hm, hgw⟩ := h.mp.store (k := n) (by omega) (by omega) hnV
  have T1 := h.map hm hgw
  obtain ⟨hg1, ha1⟩ := ha.gm hg T1
  have d0 := T1.cm.c0
  have HN := Lib.hid (node_any hg1 (by omega) n (by omega))
  rw [ndO_nat s hnn] at HN
  cases e : nd s n with
  | none =>
    rw [e, show ndT none = .tuple #[.int .i64 0, .int .i64 0, .bool false] from rfl] at HN
    rw [show put s (V, ls) n = (V ++ [n], ls ++ []) by simp [put, e], List.append_nil]
    have HT := Lib.hid T1
    clear h hg ha hm hgw T1 hg1 ha1
    go_enter Try.func41, Try.ntmps41
    go_wp2_with (first
      | (go_at_call 13; refine HV.out.mono ?_; rintro e w' ⟨rfl, rfl⟩)
      | (go_at_call 21; refine HN.out.mono ?_; rintro e w2 ⟨rfl, hb2⟩; have HB2 := Lib.hid hb2; clear hb2))
    go_end0
    exact ⟨rfl, _, _, Lib.hid (HT.out.below HB2.out)⟩
  | some p =>
    obtain ⟨a, b⟩ := p
    obtain ⟨hla, hlb, _, _, hb2, _⟩ := nd_lt hg.ok hnn e
    rw [e, show ndT (some (a, b)) = .tuple #[.int .i64 a, .int .i64 b, .bool true] from rfl] at HN
    have ela : lit (V ++ [n]) a = lit V a := by unfold lit; rw [vr_other (by omega)]
    have elb : lit (V ++ [n]) b = lit V b := by unfold lit; rw [vr_other (by omega)]
    rw [show put s (V, ls) n = (V ++ [n], ls ++ [[-((V.length : Int) + 1), lit V a], [-((V.length : Int) + 1), lit V b], [(V.length : Int) + 1, -lit V a, -lit V b]]) by simp [put, e, cls]]
    have HLa := Lib.hid (show ∀ w2, Below w1.heap.size w1 w2 → Calls Try.prog 32 #[.pointer (some ⟨K, 0, none⟩), .int .i64 a] w2 fun r w' => r = .returned (.int .i64 (lit V a)) ∧ w2 = w' from fun w2 hb => ela ▸ literal_any (T1.cm.below hb) (by simp; omega) a (by omega))
    have HLb := Lib.hid (show ∀ w2, Below w1.heap.size w1 w2 → Calls Try.prog 32 #[.pointer (some ⟨K, 0, none⟩), .int .i64 b] w2 fun r w' => r = .returned (.int .i64 (lit V b)) ∧ w2 = w' from fun w2 hb => elb ▸ literal_any (T1.cm.below hb) (by simp; omega) b (by omega))
    have ba := lit_abs (V := V) a
    have bb := lit_abs (V := V) b
    generalize lit V a = la at *
    generalize lit V b = lb at *
    have m1 : IntKind.i64.wrap (-((V.length : Int) + 1)) = -((V.length : Int) + 1) := IntWalk.i64_in _ (by omega)
    have m2 : IntKind.i64.wrap (-la) = -la := neg_in ba (Nat.le_trans hV (by decide))
    have m3 : IntKind.i64.wrap (-lb) = -lb := neg_in bb (Nat.le_trans hV (by decide))
    have HB := Lib.hid (show ∀ w2, Below w1.heap.size w1 w2 → w2.cell? ⟨K, 2, none⟩ = some fv ∧ Hid (Cm w2 K G Mv fv hs (V ++ [n]) ls) from fun w2 hb => ⟨(T1.cm.below hb).c2, Lib.hid (T1.cm.below hb)⟩)
    have HT := Lib.hid T1
    obtain ⟨av, cv, rfl, _, _⟩ := h.sl.shape
    clear h hg ha hm hgw T1 hg1 ha1 ba bb ela elb
    go_enter Try.func41, Try.ntmps41
    go_wp2_with (first
      | (go_at_call 13; refine HV.out.mono ?_; rintro e w' ⟨rfl, rfl⟩)
      | (go_at_call 21; refine HN.out.mono ?_; rintro e w2 ⟨rfl, hb2⟩; obtain ⟨e2, HC2⟩ := HB.out _ hb2; have HB2 := Lib.hid hb2; clear hb2)
      | (go_at_call 32; (with_reducible refine (HLa.out _ HB2.out).mono ?_); rintro e w' ⟨rfl, rfl⟩)
      | (go_at_call 32; (with_reducible refine (HLb.out _ HB2.out).mono ?_); rintro e w' ⟨rfl, rfl⟩)
      | (at_builtin; refine Cm.app3 HC2 (by omega) [-((V.length : Int) + 1), la] [-((V.length : Int) + 1), lb] [(V.length : Int) + 1, -la, -lb] rfl rfl rfl rfl rfl rfl rfl _ _ rfl rfl rfl ?_; intro a' c' w3 hs' hd3 H3; have e3 : w3.cell? ⟨K, 2, none⟩ = some (.slice av ls.length cv) := hd3.out.cell (i := 2) (by omega); have g3 := hd3.out.frozen 2))
    go_end0
    exact ⟨rfl, _, _, Lib.hid ((HT.out.below HB2.out).trans H3.out)⟩
end Go.Proofs.Ytpniffcojmlboaa
