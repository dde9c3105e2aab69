/- Contracts: Same; awake. -/
import Derived.Test.YtgikihbnafadjaaDoorK
namespace Go.Proofs.YtgikihbnafadjaaDoor
open Go Go.RowKit Go.Lib Go.Maps

/-- Tokens in memory, to readers. -/
def Tkr (w : World) (a : Option Addr) (T : List Tk) : Prop := T = [] ∨ ∃ g, a = some ⟨g, 0, none⟩ ∧ g < w.heap.size ∧ ∀ j t, T[j]? = some t → w.cell? ⟨g, j * 3, none⟩ = some (.int .i64 t.k) ∧ w.cell? ⟨g, j * 3 + 1, none⟩ = some (.string (bs t.s)) ∧ w.cell? ⟨g, j * 3 + 2, none⟩ = some (.int .i64 t.a)
theorem Tks.tkr {W w : World} {a : Option Addr} {n c : Nat} {T : List Tk} (h : Tks W w (.slice a n c) T) : n = T.length ∧ Tkr w a T := by
  rcases h.own with ⟨e, h0⟩ | ⟨g, c', F, e, h2, h3, h4, h5⟩
  · cases e
    exact ⟨h0.symm, .inl (List.length_eq_zero_iff.1 h0)⟩
  · cases e
    refine ⟨rfl, .inr ⟨g, rfl, h4.lt, fun j t hj => ?_⟩⟩
    have hlt : j < T.length := (List.getElem?_eq_some_iff.1 hj).1
    have hV : ∀ i, i < 3 → w.cell? ⟨g, j * 3 + i, none⟩ = some (tkV T (j * 3 + i)) := fun i hi => h.own.cell (by omega)
    have e3 : ∀ i, i < 3 → tkV T (j * 3 + i) = if i = 0 then .int .i64 t.k else if i = 1 then .string (bs t.s) else .int .i64 t.a := fun i hi => by
      unfold tkV
      rw [show (j * 3 + i) / 3 = j by omega, hj, show (j * 3 + i) % 3 = i by omega]
    exact ⟨by rw [show j * 3 = j * 3 + 0 from rfl, hV 0 (by omega), e3 0 (by omega)]; rfl, by rw [hV 1 (by omega), e3 1 (by omega)]; rfl, by rw [hV 2 (by omega), e3 2 (by omega)]; rfl⟩
theorem Tkr.below {w w' : World} {a : Option Addr} {T : List Tk} (h : Tkr w a T) (hb : Below w.heap.size w w') : Tkr w' a T := by
  rcases h with h | ⟨g, e, hlt, hc⟩
  · exact .inl h
  · refine .inr ⟨g, e, Nat.lt_of_lt_of_le hlt hb.size, fun j t hj => ?_⟩
    obtain ⟨h1, h2, h3⟩ := hc j t hj
    exact ⟨by rw [← h1]; exact hb.cell (p := ⟨g, j * 3, none⟩) hlt, by rw [← h2]; exact hb.cell (p := ⟨g, j * 3 + 1, none⟩) hlt, by rw [← h3]; exact hb.cell (p := ⟨g, j * 3 + 2, none⟩) hlt⟩

def SamePost (T U : List Tk) (w : World) (e : Ending) (w' : World) : Prop := e = .returned (.bool (decide (T = U))) ∧ ∃ q, w' = w.drewN q
set_option maxRecDepth 100000 in
set_option maxHeartbeats 4000000 in
/-- Same -/
theorem same_any {w : World} {a b : Option Addr} {T U : List Tk} (c d : Nat) (hT : T.length ≤ 100000) (hU : U.length ≤ 100000) (h1 : Tkr w a T) (h2 : Tkr w b U) :
    Calls Tryd.prog 12 #[.slice a T.length c, .slice b U.length d] w (SamePost T U w) := by
  by_cases hl : T.length = U.length
  · have hlen : ((T.length : Int) != (U.length : Int)) = false := by simp [hl]
    have HL := Lib.hid hl; clear hl
    go_enter Tryd.func12, Tryd.ntmps12
    go_wp2
    go_loopw [5] (fun i wr => ∃ (k q : Nat), k ≤ T.length ∧ i = .int .i64 k ∧ wr = w.drewN q ∧ Hid (∀ j, j < k → T[j]? = U[j]?)) (fun i _ => T.length - (Lib.intOf i).toNat)
    case atStart => exact ⟨0, 0, Nat.zero_le _, rfl, rfl, Lib.hid fun j h => absurd h (Nat.not_lt_zero _)⟩
    case round =>
      obtain ⟨k, q, hk, rfl, rfl, hn⟩ := hrel
      by_cases hlt : k < T.length
      · obtain ⟨t, ht⟩ : ∃ t, T[k]? = some t := ⟨T[k], List.getElem?_eq_getElem hlt⟩
        have hlt' : k < U.length := HL.out ▸ hlt
        obtain ⟨u, hu⟩ : ∃ u, U[k]? = some u := ⟨U[k], List.getElem?_eq_getElem hlt'⟩
        rcases h1 with h1 | ⟨g, rfl, _, hc1⟩
        · subst h1; simp at hlt
        rcases h2 with h2 | ⟨g2, rfl, _, hc2⟩
        · subst h2; simp at hlt'
        obtain ⟨p1, p2, p3⟩ := hc1 k t ht
        obtain ⟨q1, q2, q3⟩ := hc2 k u hu
        clear hc1 hc2
        have hq := bs_eq2 t.s u.s
        by_cases he : t = u
        · subst he
          have hn2 : Hid (∀ j, j < k + 1 → T[j]? = U[j]?) := Lib.hid fun j hj => by
            by_cases e : j = k
            · subst e; rw [ht, hu]
            · exact hn.out j (by omega)
          clear ht hu
          go_wp2
          go_quiet (fail)
          go_wp2
          go_roundw
          case rel => exact ⟨k + 1, q + nq, by omega, by go_num, rfl, hn2⟩
          case measure => simp [Lib.intOf]; omega
        · have hne : T ≠ U := fun e => he (Option.some.inj (by rw [← ht, ← hu, e]))
          have HNE := Lib.hid hne
          clear hne ht hu
          by_cases e1 : t.k = u.k
          · by_cases e2 : t.s = u.s
            · have e3 : t.a ≠ u.a := fun e3 => he (by cases t; cases u; simp_all)
              have r3 : ((t.a : Int) == (u.a : Int)) = false := by rw [beq_eq_false_iff_ne]; omega
              rw [decide_eq_true e2] at hq
              rw [e1, e2] at *
              clear e1 e2 he e3
              go_wp2
              go_quiet (fail)
              go_wp2
              go_ret
              exact ⟨ret_bool (decide_eq_false HNE.out).symm, _, World.drewN_drewN _ _ _⟩
            · rw [decide_eq_false e2] at hq
              clear he
              go_wp2
              go_quiet (fail)
              go_wp2
              go_ret
              exact ⟨ret_bool (decide_eq_false HNE.out).symm, _, World.drewN_drewN _ _ _⟩
          · have r1 : ((t.k : Int) == (u.k : Int)) = false := by rw [beq_eq_false_iff_ne]; omega
            clear he e1
            go_wp2
            go_quiet (fail)
            go_wp2
            go_ret
            exact ⟨ret_bool (decide_eq_false HNE.out).symm, _, World.drewN_drewN _ _ _⟩
      · have he : T = U := List.ext_getElem? fun j => by
          by_cases hj : j < T.length
          · exact hn.out j (by omega)
          · rw [List.getElem?_eq_none (by omega), List.getElem?_eq_none (by have := HL.out; omega)]
        have HE := Lib.hid he; clear he
        go_wp2
        go_ret
        exact ⟨ret_bool (decide_eq_true HE.out).symm, _, rfl⟩
  · have hlen : ((T.length : Int) == (U.length : Int)) = false := by rw [beq_eq_false_iff_ne]; omega
    have hne : T ≠ U := fun e => hl (by rw [e])
    have HNE := Lib.hid hne; clear hne
    go_enter Tryd.func12, Tryd.ntmps12
    go_wp2
    go_ret
    exact ⟨ret_bool (decide_eq_false HNE.out).symm, 0, rfl⟩

/-- awake -/
theorem lex_ex1 : lexR [120, 49, 61, 61, 50] = ([⟨0, [120, 49], 0⟩, ⟨2, [61, 61], 2⟩, ⟨1, [50], 4⟩, ⟨3, [], 5⟩], 0, 0) := by
  have s1 : skip [120, 49, 61, 61, 50] = 0 := by simp [skip, isB]
  have s2 : skip [61, 61, 50] = 0 := by simp [skip, isB]
  have s3 : skip [50] = 0 := by simp [skip, isB]
  have h3 : lexL 5 [] = ([], none) := lex_end (Nat.zero_le _)
  have h2 : lexL 4 [50] = ([⟨1, [50], 4⟩], none) := by
    rw [lex_one (k := 1) (n := 1) (by rw [s3]; decide) (by rw [s3]; decide) (by decide), s3]
    simp [h3]
  have h1 : lexL 2 [61, 61, 50] = ([⟨2, [61, 61], 2⟩, ⟨1, [50], 4⟩], none) := by
    rw [lex_one (k := 2) (n := 2) (by rw [s2]; decide) (by rw [s2]; decide) (by decide), s2]
    simp [h2]
  have h0 : lexL 0 [120, 49, 61, 61, 50] = ([⟨0, [120, 49], 0⟩, ⟨2, [61, 61], 2⟩, ⟨1, [50], 4⟩], none) := by
    rw [lex_one (k := 0) (n := 2) (by rw [s1]; decide) (by rw [s1]; decide) (by decide), s1]
    simp [h1]
  rw [lexR_good (by decide) h0]; rfl
theorem lex_ex2 : lexR [97, 38, 98] = ([], 10, 1) := by
  have s1 : skip [97, 38, 98] = 0 := by simp [skip, isB]
  have s2 : skip [38, 98] = 0 := by simp [skip, isB]
  have h1 : lexL 1 [38, 98] = ([], some 1) := by
    rw [lex_bad (by rw [s2]; decide) (by rw [s2]; decide), s2]
  have h0 : lexL 0 [97, 38, 98] = ([⟨0, [97], 0⟩], some 1) := by
    rw [lex_one (k := 0) (n := 1) (by rw [s1]; decide) (by rw [s1]; decide) (by decide), s1]
    simp [h1]
  exact lexR_bad (by decide) (by rw [h0])
set_option maxRecDepth 100000 in
set_option maxHeartbeats 4000000 in
theorem awake_any {w : World} (h : Gl w) : Calls Tryd.prog 9 #[] w fun e w' => e = .returned (.bool true) ∧ Below w.heap.size w w' := by
  have HG := Lib.hid h; clear h
  have E1 := Lib.hid lex_ex1
  have E2 := Lib.hid lex_ex2
  go_enter Tryd.func9, Tryd.ntmps9
  go_wp2_with fail
  refine (tokens_any [120, 49, 61, 61, 50] (by decide) HG.out).mono ?_
  rintro e w1 ⟨v1, rfl, hT1⟩
  rw [E1.out] at hT1 ⊢
  have HT1 := Lib.hid hT1; clear hT1
  obtain ⟨a1, c1, rfl, _, _⟩ := HT1.out.own.shape
  have hr1 := HT1.out.tkr.2
  obtain ⟨W2, hW2⟩ : ∃ W2, W2 = w1.alloc (.cells #[.int .i64 0, .int .i64 0] 26) := ⟨_, rfl⟩
  have hb12 : Below w1.heap.size w1 W2 := by rw [hW2]; exact (Below.refl _ _).alloc (Nat.le_refl _) _
  have HB2 := Lib.hid (HT1.out.bel.trans (hb12.mono HT1.out.bel.size))
  have hr2 := hr1.below hb12
  have hf2 : W2.heap[w1.heap.size]? = some (.cells #[.int .i64 0, .int .i64 0] 26 (0, 0)) := by rw [hW2]; exact heap_alloc_new _ _
  have HW2 := Lib.hid hW2
  clear hr1 hb12 hW2
  go_wp2_with fail
  rw [← HW2.out]
  refine (tokens_any [97, 38, 98] (by decide) (HG.out.below HB2.out)).mono ?_
  rintro e w3 ⟨v2, rfl, hT2⟩
  rw [E2.out] at hT2 ⊢
  obtain ⟨W4, hW4⟩ : ∃ W4, W4 = w3.alloc (.cells #[.int .i64 10, .int .i64 1] 26) := ⟨_, rfl⟩
  have hb34 : Below w3.heap.size w3 W4 := by rw [hW4]; exact (Below.refl _ _).alloc (Nat.le_refl _) _
  have hb24 := hT2.bel.trans (hb34.mono hT2.bel.size)
  have HB4 := Lib.hid (HB2.out.trans (hb24.mono HB2.out.size))
  have hr4 := hr2.below hb24
  have hf4 : W4.heap[w1.heap.size]? = some (.cells #[.int .i64 0, .int .i64 0] 26 (0, 0)) := by rw [hb24.block _ (lt_of_block hf2)]; exact hf2
  have hg4 : W4.heap[w3.heap.size]? = some (.cells #[.int .i64 10, .int .i64 1] 26 (0, 0)) := by rw [hW4]; exact heap_alloc_new _ _
  obtain ⟨f0, f1, _⟩ := res_cells hf4 (.int .i64 0)
  obtain ⟨g0, g1, _⟩ := res_cells hg4 (.int .i64 0)
  rcases hr4 with hr4 | ⟨g, rfl, _, hc⟩
  · cases hr4
  obtain ⟨_, q2, _⟩ := hc 1 ⟨2, [61, 61], 2⟩ rfl
  have hq := bs_eq [61, 61] [61, 61]
  rw [decide_eq_true rfl] at hq
  have q4 : W4.cell? ⟨g, 4, none⟩ = some (.string (bs [61, 61])) := q2
  have HN := Lib.hid (fun h => name_any [120, 49] (by decide) (w := W4) h)
  have hn1 : isName [120, 49] = true := by decide
  have hk1 : isKey [99, 104, 97, 110] = true := by decide
  have HK1 := Lib.hid hk1; clear hk1
  rw [hn1] at HN
  have HG4 := Lib.hid (HG.out.below HB4.out)
  clear hr2 hf2 hb34 hb24 hf4 hg4 hc q2 hn1
  subst hW4
  go_wp2_with fail
  refine (HN.out HG4.out).mono ?_
  rintro e w5 ⟨rfl, hb5⟩
  have HB5 := Lib.hid (HB4.out.trans (hb5.mono HB4.out.size))
  have HK5 := Lib.hid (key_any [99, 104, 97, 110] (HG4.out.below hb5))
  rw [show isKey [99, 104, 97, 110] = true from HK1.out] at HK5
  clear hb5
  go_wp2_with fail
  refine HK5.out.mono ?_
  rintro e w6 ⟨rfl, hw6⟩
  subst hw6
  go_wp2
  go_ret
  exact ⟨rfl, HB5.out⟩
end Go.Proofs.YtgikihbnafadjaaDoor
