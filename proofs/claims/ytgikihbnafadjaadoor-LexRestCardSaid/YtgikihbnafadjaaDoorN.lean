/- Laws: LexTokens, LexNames, LexPlaces. -/
import Derived.Test.YtgikihbnafadjaaDoorL
namespace Go.Proofs.YtgikihbnafadjaaDoor
open Go Go.RowKit Go.Lib Go.Maps

def LawPost (w : World) (e : Ending) (w' : World) : Prop := e = .returned (.bool true) ∧ Below w.heap.size w w'
theorem lexR_len (l : Wd) (hl : l.length ≤ 100000) : (lexR l).1.length ≤ 100000 := by
  unfold lexR
  split
  · simp
  · rename_i h
    obtain ⟨T, o, e⟩ : ∃ T o, lexL 0 l = (T, o) := ⟨_, _, rfl⟩
    have := (lex_few 0 l T o e).2
    rw [e]
    cases o <;> simp; omega
theorem bel_alloc {w w' : World} (h : Below w.heap.size w w') (o : Obj) : Below w.heap.size w (w'.alloc o) := h.alloc h.size o
theorem bel_drewN {w w' : World} (h : Below w.heap.size w w') (q : Nat) : Below w.heap.size w (w'.drewN q) := ⟨h.os, h.tape, h.output, h.size, h.block⟩

set_option maxRecDepth 100000 in
set_option maxHeartbeats 4000000 in
theorem lexTokens_law (l : Wd) (hl : l.length ≤ 9223372036854775807) {w : World} (h : Gl w) : Calls Tryd.prog 3 #[.string (bs l)] w (LawPost w) := by
  have hsz := bs_size l
  have HG := Lib.hid h
  have HA := Lib.hid (fun w' (hb : Below w.heap.size w w') => awake_any (h.below hb))
  clear h
  by_cases h5 : 5000 < l.length
  · have h5' : (5000 : Int) < l.length := by omega
    go_enter Tryd.func3, Tryd.ntmps3
    go_wp2_with fail
    refine (HA.out _ (Below.refl _ _)).mono ?_
    rintro e w1 ⟨rfl, hb1⟩
    have HB1 := Lib.hid hb1; clear hb1
    go_wp2_with fail
    refine (HA.out _ HB1.out).mono ?_
    rintro e w2 ⟨rfl, hb2⟩
    have HB2 := Lib.hid (HB1.out.trans (hb2.mono HB1.out.size)); clear hb2
    go_wp2
    go_ret
    exact ⟨rfl, HB2.out⟩
  · have h5' : ¬ (5000 : Int) < l.length := by omega
    have hl1 : l.length ≤ 100000 := by omega
    have HL1 := Lib.hid hl1; clear hl1
    have hTl := lexR_len l HL1.out
    obtain ⟨T, p, q, hR⟩ : ∃ T p q, lexR l = (T, p, q) := ⟨_, _, _, rfl⟩
    rw [hR] at hTl
    have HR := Lib.hid hR; clear hR
    go_enter Tryd.func3, Tryd.ntmps3
    go_wp2_with fail
    refine (HA.out _ (Below.refl _ _)).mono ?_
    rintro e w1 ⟨rfl, hb1⟩
    have HB1 := Lib.hid hb1; clear hb1
    go_wp2_with fail
    refine (tokens_any l HL1.out (HG.out.below HB1.out)).mono ?_
    rintro e w2 ⟨v1, rfl, hT1⟩
    rw [HR.out] at hT1 ⊢
    obtain ⟨a1, c1, rfl, _, _⟩ := hT1.own.shape
    have hr1 := hT1.tkr.2
    obtain ⟨W3, hW3⟩ : ∃ W3, W3 = w2.alloc (.cells #[.int .i64 p, .int .i64 q] 26) := ⟨_, rfl⟩
    have hb23 : Below w2.heap.size w2 W3 := by rw [hW3]; exact bel_alloc (Below.refl _ _) _
    have HB3 := Lib.hid (HB1.out.trans ((hT1.bel.trans (hb23.mono hT1.bel.size)).mono HB1.out.size))
    have hr3 := hr1.below hb23
    have hf3 : W3.heap[w2.heap.size]? = some (.cells #[.int .i64 p, .int .i64 q] 26 (0, 0)) := by rw [hW3]; exact heap_alloc_new _ _
    have HW3 := Lib.hid hW3
    clear hr1 hb23 hW3 hT1
    go_wp2_with fail
    rw [← HW3.out]
    refine (rtokens_any l HL1.out _).mono ?_
    rintro e w4 ⟨v2, rfl, hT2⟩
    rw [HR.out] at hT2 ⊢
    obtain ⟨a2, c2, rfl, _, _⟩ := hT2.own.shape
    have hr2 := hT2.tkr.2
    obtain ⟨W5, hW5⟩ : ∃ W5, W5 = w4.alloc (.cells #[.int .i64 p, .int .i64 q] 26) := ⟨_, rfl⟩
    have hb45 : Below w4.heap.size w4 W5 := by rw [hW5]; exact bel_alloc (Below.refl _ _) _
    have hb35 := hT2.bel.trans (hb45.mono hT2.bel.size)
    have HB5 := Lib.hid (HB3.out.trans (hb35.mono HB3.out.size))
    have hrA := hr3.below hb35
    have hrB := hr2.below hb45
    have hf5 : W5.heap[w2.heap.size]? = some (.cells #[.int .i64 p, .int .i64 q] 26 (0, 0)) := by rw [hb35.block _ (lt_of_block hf3)]; exact hf3
    have hg5 : W5.heap[w4.heap.size]? = some (.cells #[.int .i64 p, .int .i64 q] 26 (0, 0)) := by rw [hW5]; exact heap_alloc_new _ _
    obtain ⟨f0, f1, _⟩ := res_cells hf5 (.int .i64 0)
    obtain ⟨g0, g1, _⟩ := res_cells hg5 (.int .i64 0)
    have HS := Lib.hid (same_any c1 c2 hTl hTl hrA hrB)
    have HW5 := Lib.hid hW5
    clear hr3 hr2 hb45 hb35 hrA hrB hf5 hg5 hf3 hT2
    subst hW5
    go_wp2_with fail
    refine HS.out.mono ?_
    rintro e w6 ⟨rfl, q6, rfl⟩
    rw [decide_eq_true rfl]
    go_wp2
    go_ret
    exact ⟨rfl, bel_drewN HB5.out _⟩

set_option maxRecDepth 100000 in
set_option maxHeartbeats 4000000 in
theorem lexNames_law (l : Wd) (hl : l.length ≤ 9223372036854775807) (a : Int) (ha : -9223372036854775808 ≤ a ∧ a ≤ 9223372036854775807) {w : World} (h : Gl w) : Calls Tryd.prog 4 #[.string (bs l), .int .i64 a] w (LawPost w) := by
  have hsz := bs_size l
  have HG := Lib.hid h
  have HA := Lib.hid (fun w' (hb : Below w.heap.size w w') => awake_any (h.below hb))
  clear h
  by_cases h5 : 500 < l.length
  · have h5' : (500 : Int) < l.length := by omega
    go_enter Tryd.func4, Tryd.ntmps4
    go_wp2_with fail
    refine (HA.out _ (Below.refl _ _)).mono ?_
    rintro e w1 ⟨rfl, hb1⟩
    have HB1 := Lib.hid hb1; clear hb1
    go_wp2_with fail
    refine (HA.out _ HB1.out).mono ?_
    rintro e w2 ⟨rfl, hb2⟩
    have HB2 := Lib.hid (HB1.out.trans (hb2.mono HB1.out.size)); clear hb2
    go_wp2
    go_ret
    exact ⟨rfl, HB2.out⟩
  · have h5' : ¬ (500 : Int) < l.length := by omega
    have hl1 : l.length ≤ 100000 := by omega
    have HL1 := Lib.hid hl1; clear hl1
    have hex : isKey l = true → isName l = false := fun h => by simp [isName, h]
    generalize hm : clamp l a = m at *
    have HM := Lib.hid hm; clear hm
    generalize hp : lineOf l m = p at *
    generalize hq : colOf l m = q at *
    have HPQ := Lib.hid (And.intro hp hq); clear hp hq
    have HK := Lib.hid (fun w' (h : Gl w') => key_any l h)
    have HRK := Lib.hid (fun w' => rkey_any l w')
    have HN := Lib.hid (fun w' (h : Gl w') => name_any l HL1.out h)
    have HRN := Lib.hid (fun w' => rname_any l HL1.out w')
    generalize isKey l = kk at *
    generalize isName l = nn at *
    have hex2 : (kk == kk) = true := by simp
    have hex3 : (nn == nn) = true := by simp
    obtain ⟨ha1, ha2⟩ := ha
    go_enter Tryd.func4, Tryd.ntmps4
    go_wp2_with fail
    refine (HA.out _ (Below.refl _ _)).mono ?_
    rintro e w1 ⟨rfl, hb1⟩
    have HB1 := Lib.hid hb1; clear hb1
    go_wp2_with fail
    refine (place_any l HL1.out a _).mono ?_
    rintro e w2 ⟨rfl, hw2⟩
    subst hw2
    rw [HM.out, HPQ.out.1, HPQ.out.2]
    go_wp2_with fail
    refine (rplace_any l HL1.out a ⟨ha1, ha2⟩ _).mono ?_
    rintro e w2 ⟨rfl, hw2⟩
    subst hw2
    rw [HM.out, HPQ.out.1, HPQ.out.2]
    go_wp2_with fail
    refine (HK.out _ (HG.out.below HB1.out)).mono ?_
    rintro e w2 ⟨rfl, hw2⟩
    subst hw2
    go_wp2_with fail
    refine (HRK.out _).mono ?_
    rintro e w2 ⟨rfl, hb2⟩
    have HB2 := Lib.hid (HB1.out.trans (hb2.mono HB1.out.size)); clear hb2
    go_wp2_with fail
    refine (HN.out _ (HG.out.below HB2.out)).mono ?_
    rintro e w3 ⟨rfl, hb3⟩
    have HB3 := Lib.hid (HB2.out.trans (hb3.mono HB2.out.size)); clear hb3
    go_wp2_with fail
    refine (HRN.out _).mono ?_
    rintro e w4 ⟨rfl, hb4⟩
    have HB4 := Lib.hid (HB3.out.trans (hb4.mono HB3.out.size)); clear hb4
    go_wp2_with fail
    refine (HK.out _ (HG.out.below HB4.out)).mono ?_
    rintro e w5 ⟨rfl, hw5⟩
    subst hw5
    cases kk with
    | false =>
      go_wp2
      go_ret
      exact ⟨rfl, HB4.out⟩
    | true =>
      have hnf := hex rfl
      subst hnf
      go_wp2_with fail
      refine (HN.out _ (HG.out.below HB4.out)).mono ?_
      rintro e w6 ⟨rfl, hb6⟩
      have HB6 := Lib.hid (HB4.out.trans (hb6.mono HB4.out.size)); clear hb6
      go_wp2
      go_ret
      exact ⟨rfl, HB6.out⟩

set_option maxRecDepth 100000 in
set_option maxHeartbeats 4000000 in
theorem lexPlaces_law (l : Wd) (hl : l.length ≤ 9223372036854775807) (a : Int) (ha : -9223372036854775808 ≤ a ∧ a ≤ 9223372036854775807) {w : World} (h : Gl w) : Calls Tryd.prog 8 #[.string (bs l), .int .i64 a] w (LawPost w) := by
  have hsz := bs_size l
  have HG := Lib.hid h
  have HA := Lib.hid (fun w' (hb : Below w.heap.size w w') => awake_any (h.below hb))
  obtain ⟨ha1, ha2⟩ := ha
  clear h
  by_cases hout : 500 < l.length ∨ a < 0 ∨ (l.length : Int) < a
  · have hend : Hid (∀ w1, Below w.heap.size w w1 → Calls Tryd.prog 9 #[] w1 fun e w' => e = .returned (.bool true) ∧ Below w.heap.size w w') := Lib.hid fun w1 hb1 => (HA.out w1 hb1).mono fun e w2 ⟨h, hb2⟩ => ⟨h, hb1.trans (hb2.mono hb1.size)⟩
    by_cases h5 : 500 < l.length
    · have h5' : (500 : Int) < l.length := by omega
      go_enter Tryd.func8, Tryd.ntmps8
      go_wp2_with fail
      refine (HA.out _ (Below.refl _ _)).mono ?_
      rintro e w1 ⟨rfl, hb1⟩
      have HB1 := Lib.hid hb1; clear hb1
      go_wp2_with fail
      refine (hend.out _ HB1.out).mono ?_
      rintro e w2 ⟨rfl, hb2⟩
      go_wp2
      go_ret
      exact ⟨rfl, hb2⟩
    · have h5' : decide ((500 : Int) < l.length) = false := decide_eq_false (by omega)
      by_cases h0 : a < 0
      · have h0' : decide (a < 0) = true := decide_eq_true h0
        go_enter Tryd.func8, Tryd.ntmps8
        go_wp2_with fail
        refine (HA.out _ (Below.refl _ _)).mono ?_
        rintro e w1 ⟨rfl, hb1⟩
        have HB1 := Lib.hid hb1; clear hb1
        go_wp2_with fail
        refine (hend.out _ HB1.out).mono ?_
        rintro e w2 ⟨rfl, hb2⟩
        go_wp2
        go_ret
        exact ⟨rfl, hb2⟩
      · have h0' : decide (a < 0) = false := decide_eq_false h0
        have h1 : (l.length : Int) < a := by omega
        have h1' : decide ((l.length : Int) < a) = true := decide_eq_true h1
        go_enter Tryd.func8, Tryd.ntmps8
        go_wp2_with fail
        refine (HA.out _ (Below.refl _ _)).mono ?_
        rintro e w1 ⟨rfl, hb1⟩
        have HB1 := Lib.hid hb1; clear hb1
        go_wp2_with fail
        refine (hend.out _ HB1.out).mono ?_
        rintro e w2 ⟨rfl, hb2⟩
        go_wp2
        go_ret
        exact ⟨rfl, hb2⟩
  · have h5 : l.length ≤ 500 := by omega
    obtain ⟨k, rfl⟩ : ∃ k : Nat, a = (k : Int) := ⟨a.toNat, by omega⟩
    have hk : k ≤ l.length := by omega
    have h5' : decide ((500 : Int) < l.length) = false := decide_eq_false (by omega)
    have h0' : decide ((k : Int) < 0) = false := decide_eq_false (by omega)
    have h1' : decide ((l.length : Int) < (k : Int)) = false := decide_eq_false (by omega)
    have hcl : clamp l (k : Int) = k := by unfold clamp; omega
    have hlp : lineOf l k = ((cntN l k + 1 : Nat) : Int) := by unfold lineOf; omega
    have hge := lastN_ge l k
    have hcb := cntN_le l k
    have hcp : colOf l k = (k : Int) - lastN l k := rfl
    have HP := Lib.hid (place_any l (by omega) (k : Int) · )
    unfold PlacePost at HP
    rw [hcl, hlp, hcp] at HP
    have HLAST := Lib.hid (fun i h1 h2 h3 => lastN_of l (i := i) (k := k) h1 h2 h3)
    clear hcl hlp hcp hout
    generalize lastN l k = d at *
    generalize hN : cntN l k = N at *
    have HN := Lib.hid hN; clear hN
    have hNs : ((N + 1 : Nat) : Int) = (N : Int) + 1 := rfl
    obtain ⟨hge1, hge2⟩ := hge
    go_enter Tryd.func8, Tryd.ntmps8
    go_wp2_with fail
    refine (HA.out _ (Below.refl _ _)).mono ?_
    rintro e w1 ⟨rfl, hb1⟩
    have HB1 := Lib.hid hb1; clear hb1
    go_wp2_with fail
    refine (HP.out _).mono ?_
    rintro e w2 ⟨rfl, hw2⟩
    subst hw2
    go_wp2
    go_loop [7, 8] (fun s7 s8 => ∃ (i n : Nat), i ≤ k ∧ n ≤ N ∧ s7 = .int .i64 i ∧ s8 = .int .i64 ((n + 1 : Nat) : Int) ∧ Hid (cntN l i = n) ∧ Hid (i = 0 ∨ l[i - 1]? = some 10)) (fun _ s8 => N + 1 - (Lib.intOf s8).toNat)
    case atStart => exact ⟨0, 0, Nat.zero_le _, Nat.zero_le _, rfl, rfl, Lib.hid rfl, Lib.hid (.inl rfl)⟩
    case round =>
      obtain ⟨i, n, hi, hn, rfl, rfl, HC, HI⟩ := hrel
      by_cases hlt : n < N
      · have hlt' : ((n + 1 : Nat) : Int) < ((N + 1 : Nat) : Int) := by omega
        obtain ⟨j0, hj0, hj1, hj2⟩ := cntN_some l (a := i) (b := k) (by rw [HC.out, HN.out]; exact hlt)
        have HJ := Lib.hid (And.intro hj0 (And.intro hj1 hj2))
        clear hj0 hj1 hj2
        go_wp2
        go_loop [7] (fun s7 => ∃ j : Nat, i ≤ j ∧ j ≤ j0 ∧ s7 = .int .i64 j ∧ Hid (∀ x, i ≤ x → x < j → l[x]? ≠ some 10)) (fun s7 => k - (Lib.intOf s7).toNat)
        case atStart => exact ⟨i, Nat.le_refl _, HJ.out.1, rfl, Lib.hid fun x h1 h2 => absurd h2 (by omega)⟩
        case round =>
          obtain ⟨j, hj1, hj2, rfl, hno⟩ := hrel
          have hj0k : j0 < k := HJ.out.2.1
          have hjl : j < l.length := by omega
          have hg := bs_at l j hjl (by rw [hsz]; exact hjl)
          have hb := u8_beq l[j] 10
          have hgo : l[j]? = some l[j] := List.getElem?_eq_getElem hjl
          cases hq : l[j] == 10 with
          | true =>
            rw [hq] at hb
            have hb2 : ((l[j].toNat : Int) == 10) = true := hb
            have he : l[j] = 10 := by simpa using hq
            have hc2 : cntN l (j + 1) = n + 1 := by
              rw [cntN_succ, if_pos (by rw [hgo, he]), cntN_flat l hj1 hno.out, HC.out]
            have HC2 := Lib.hid hc2
            have HI2 : Hid (j + 1 = 0 ∨ l[j + 1 - 1]? = some 10) := Lib.hid (.inr (by rw [Nat.add_sub_cancel, hgo, he]))
            clear hb hq hgo hc2
            have HE := Lib.hid he; clear he
            go_wp2
            go_round
            case rel => exact ⟨j + 1, n + 1, by omega, by omega, by go_num, by go_num, HC2, HI2⟩
            case measure => simp [Lib.intOf]; omega
          | false =>
            rw [hq] at hb
            have hb2 : ((l[j].toNat : Int) == 10) = false := hb
            have he : l[j]? ≠ some 10 := by rw [hgo]; intro e; rw [Option.some.inj e] at hq; cases hq
            have hne : j ≠ j0 := fun e => he (by rw [e]; exact HJ.out.2.2)
            have HE := Lib.hid he
            clear hb hq hgo he
            go_wp2
            go_round
            case rel => exact ⟨j + 1, by omega, by omega, by go_num, Lib.hid fun x h1 h2 => by
              by_cases e : x = j
              · subst e; exact HE.out
              · exact hno.out x h1 (by omega)⟩
            case measure => simp [Lib.intOf]; omega
      · have hnN : n = N := by omega
        have hlast := HLAST.out i hi (by rw [HC.out, hnN]) HI.out
        have hlt' : ¬ ((n + 1 : Nat) : Int) < ((N + 1 : Nat) : Int) := by omega
        have hfin : ((i : Int) + ((k : Int) - d) - 1 == (k : Int)) = true := by rw [beq_iff_eq]; omega
        have HL2 := Lib.hid hlast; clear hlast
        have HNN := Lib.hid hnN; clear hnN
        go_wp2
        go_ret
        exact ⟨rfl, HB1.out⟩
end Go.Proofs.YtgikihbnafadjaaDoor
