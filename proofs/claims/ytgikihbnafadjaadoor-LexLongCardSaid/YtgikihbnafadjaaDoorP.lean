/- The law LexApart. -/
import Derived.Test.YtgikihbnafadjaaDoorO
namespace Go.Proofs.YtgikihbnafadjaaDoor
open Go Go.RowKit Go.Lib Go.Maps

theorem joined_take (sep : Wd) (T : List Tk) {i : Nat} {t : Tk} (h : T[i]? = some t) : joined sep (T.take (i + 1)) = joined sep (T.take i) ++ t.s ++ sep := by
  rw [List.take_add_one, h]
  simp [joined, List.flatMap_append]
theorem joined_le (sep : Wd) (T : List Tk) (i : Nat) : (joined sep (T.take i)).length ≤ (joined sep T).length := by
  have : joined sep T = joined sep (T.take i) ++ joined sep (T.drop i) := by
    unfold joined; rw [← List.flatMap_append, List.take_append_drop]
  rw [this, List.length_append]; omega
theorem joined_end (sep : Wd) (T : List Tk) (n : Nat) : joined sep (T ++ [⟨3, [], n⟩]) = joined sep T ++ sep := by
  simp [joined, List.flatMap_append]
/-- The text with something behind each token. -/
theorem lexR_join {sep : Wd} (hs : isSep sep) (hs4 : sep.length ≤ 4) {l : Wd} (hl : l.length ≤ 700) {T : List Tk} (h : lexL 0 l = (T, none)) (n : Nat) :
    (joined sep (T ++ [⟨3, [], n⟩])).length ≤ 3504 ∧ ∃ T', lexR (joined sep (T ++ [⟨3, [], n⟩])) = (T', 0, 0) ∧ T'.length = T.length + 1 ∧ ∀ (i : Nat) (t : Tk), (T ++ [⟨3, [], n⟩])[i]? = some t → ∃ u : Tk, T'[i]? = some u ∧ u.k = t.k ∧ u.s = t.s := by
  have hlen : (joined sep (T ++ [⟨3, [], n⟩])).length ≤ 3504 := by
    have := joined_len sep 0 l
    rw [h] at this
    simp only at this
    rw [joined_end, List.length_append]
    have h2 : l.length * (sep.length + 1) ≤ 700 * 5 := Nat.mul_le_mul hl (by omega)
    omega
  refine ⟨hlen, ?_⟩
  obtain ⟨T', h1, h2⟩ := lex_join hs 0 l T h 0
  rw [← joined_end sep T n] at h1
  refine ⟨T' ++ [⟨3, [], (joined sep (T ++ [⟨3, [], n⟩])).length⟩], lexR_good (by omega) h1, ?_, ?_⟩
  · have := congrArg List.length h2
    simp only [kinds, List.length_map] at this
    simp [this]
  · have hl2 : T'.length = T.length := by
      have := congrArg List.length h2
      simpa only [kinds, List.length_map] using this
    intro i t ht
    by_cases hi : i < T.length
    · rw [List.getElem?_append_left hi] at ht
      have := congrArg (fun L : List (Nat × Wd) => L[i]?) h2
      simp only [kinds, List.getElem?_map, ht, Option.map_some, Option.map_eq_some_iff, Prod.mk.injEq] at this
      obtain ⟨u, hu, h3, h4⟩ := this
      exact ⟨u, by rw [List.getElem?_append_left (by omega)]; exact hu, h3, h4⟩
    · rw [List.getElem?_append_right (by omega)] at ht ⊢
      rw [hl2]
      have h0 : i - T.length = 0 := by
        have := (List.getElem?_eq_some_iff.1 ht).1
        simp at this; omega
      rw [h0] at ht ⊢
      simp at ht
      subst ht
      exact ⟨_, rfl, rfl, rfl⟩

set_option maxRecDepth 100000 in
set_option maxHeartbeats 8000000 in
theorem lexApart_cm (l : Wd) (hl : l.length ≤ 9223372036854775807) {w : World} (h : Gl w) : Calls Tryd.prog 5 #[.string (bs l), .bool true] w (LawPost w) := by
  have hsz := bs_size l
  have HG := Lib.hid h
  have HA := Lib.hid (fun w' (hb : Below w.heap.size w w') => awake_any (h.below hb))
  clear h
  by_cases h5 : 700 < l.length
  · have h5' : (700 : Int) < l.length := by omega
    go_enter Tryd.func5, Tryd.ntmps5
    go_wp2_with fail
    refine (HA.out _ (Below.refl _ _)).mono ?_
    rintro e w1 ⟨rfl, hb1⟩
    have HB1 := Lib.hid hb1; clear hb1
    go_wp2_with fail
    refine (HA.out _ HB1.out).mono ?_
    rintro e w2 ⟨rfl, hb2⟩
    have HB2 := Lib.hid (HB1.out.trans (hb2.mono HB1.out.size)); clear hb2
    go_wp2
    go_ret
    exact ⟨rfl, HB2.out⟩
  · have h5' : ¬ (700 : Int) < l.length := by omega
    have h57 : l.length ≤ 700 := by omega
    have hl1 : l.length ≤ 100000 := by omega
    have HL1 := Lib.hid hl1; clear hl1
    have hTl := lexR_len l HL1.out
    have HOK := Lib.hid (lexR_ok (l := l))
    obtain ⟨T, p, q, hR⟩ : ∃ T p q, lexR l = (T, p, q) := ⟨_, _, _, rfl⟩
    rw [hR] at hTl HOK
    simp only at hTl HOK
    have HR := Lib.hid hR; clear hR
    by_cases hp : p = 0
    · subst hp
      obtain ⟨T0, hT0, hTT, _⟩ := HOK.out rfl
      simp only [Prod.mk.injEq] at hTT
      obtain ⟨hTT, _, rfl⟩ := hTT
      obtain ⟨hjl, T', hJ, hJl, hJT⟩ := lexR_join sepCm (by decide) h57 hT0 l.length
      rw [← hTT] at hjl hJ hJT
      have hTlen : T.length = T0.length + 1 := by rw [hTT]; simp
      obtain ⟨N, hN⟩ : ∃ N, N = T.length := ⟨_, rfl⟩
      have hN6 : N ≤ 100000 := by omega
      have hJl' : T'.length = N := by omega
      have HJ := Lib.hid hJ
      have HJT := Lib.hid hJT
      have HN := Lib.hid hN
      have HJL := Lib.hid hJl'
      have HJLE := Lib.hid hjl
      clear hJ hJT hJl hJl' hTT hT0 hTlen hjl HOK
      go_enter Tryd.func5, Tryd.ntmps5
      go_wp2_with fail
      refine (HA.out _ (Below.refl _ _)).mono ?_
      rintro e w1 ⟨rfl, hb1⟩
      have HB1 := Lib.hid hb1; clear hb1
      go_wp2_with fail
      refine (rtokens_any l HL1.out _).mono ?_
      rintro e w2 ⟨v1, rfl, hT1⟩
      rw [HR.out] at hT1 ⊢
      obtain ⟨a1, c1, rfl, _, _⟩ := hT1.own.shape
      have hrd := hT1.tkr.2
      have HB2 := Lib.hid (bel_alloc (HB1.out.trans (hT1.bel.mono HB1.out.size)) (.cells #[.int .i64 0, .int .i64 0] 26))
      have hrd2 := hrd.below ((Below.refl w2.heap.size w2).alloc (Nat.le_refl _) (.cells #[.int .i64 0, .int .i64 0] 26))
      have HRD := Lib.hid hrd2
      simp only [← hN]
      clear hN hT1 hrd hrd2 hTl
      go_wp2
      generalize (w2.alloc (.cells #[.int .i64 0, .int .i64 0] 26)) = W3 at *
      go_loop [7, 8] (fun s7 s8 => ∃ i : Nat, i ≤ N ∧ s8 = .int .i64 i ∧ s7 = .string (bs (joined [32, 47, 47, 10] (T.take i)))) (fun _ s8 => N - (Lib.intOf s8).toNat)
      case atStart => exact ⟨0, Nat.zero_le _, rfl, rfl⟩
      case round =>
        obtain ⟨i, hi, rfl, rfl⟩ := hrel
        by_cases hlt : i < N
        · obtain ⟨t, ht⟩ : ∃ t, T[i]? = some t := ⟨T[i]'(by rw [← HN.out]; exact hlt), List.getElem?_eq_getElem _⟩
          rcases HRD.out with h0 | ⟨g, rfl, _, hc⟩
          · rw [h0] at ht; simp at ht
          obtain ⟨p1, p2, p3⟩ := hc i t ht
          have hj := joined_take [32, 47, 47, 10] T ht
          have hle1 := joined_le [32, 47, 47, 10] T (i + 1)
          have hle := HJLE.out
          rw [hj, List.length_append, List.length_append] at hle1
          have happ : bs (joined [32, 47, 47, 10] (T.take i)) ++ bs t.s ++ ⟨#[32, 47, 47, 10]⟩ = bs (joined [32, 47, 47, 10] (T.take (i + 1))) := by
            rw [hj, ← bs_append, ← bs_append]; rfl
          have s1 := bs_size (joined [32, 47, 47, 10] (T.take i))
          have s2 := bs_size t.s
          have HAPP := Lib.hid happ
          clear hc happ hj ht
          generalize bs (joined [32, 47, 47, 10] (T.take i)) = X at *
          generalize joined [32, 47, 47, 10] (T.take i) = Y at *
          go_wp2
          go_round
          case rel => exact ⟨i + 1, by omega, by go_num, by rw [← HAPP.out]⟩
          case measure => simp [Lib.intOf]; omega
        · obtain rfl : i = N := by omega
          have htk : T.take i = T := List.take_of_length_le (by rw [← HN.out]; exact Nat.le_refl _)
          rw [htk]
          clear htk
          go_wp2_with fail
          refine (tokens_any (joined [32, 47, 47, 10] T) (by have := HJLE.out; omega) (HG.out.below HB2.out)).mono ?_
          rintro e w4 ⟨v4, rfl, hT4⟩
          rw [HJ.out] at hT4 ⊢
          obtain ⟨a4, c4, rfl, _, _⟩ := hT4.own.shape
          have hr4 := hT4.tkr.2
          obtain ⟨W5, hW5⟩ : ∃ W5, W5 = w4.alloc (.cells #[.int .i64 0, .int .i64 0] 26) := ⟨_, rfl⟩
          have hb45 : Below w4.heap.size w4 W5 := by rw [hW5]; exact bel_alloc (Below.refl _ _) _
          have hb35 := hT4.bel.trans (hb45.mono hT4.bel.size)
          have HB5 := Lib.hid (HB2.out.trans (hb35.mono HB2.out.size))
          have HRA := Lib.hid (HRD.out.below hb35)
          have HRB := Lib.hid (hr4.below hb45)
          have hf5 : W5.heap[w4.heap.size]? = some (.cells #[.int .i64 0, .int .i64 0] 26 (0, 0)) := by rw [hW5]; exact heap_alloc_new _ _
          obtain ⟨f0, f1, _⟩ := res_cells hf5 (.int .i64 0)
          simp only [HJL.out]
          have hNN : ((i : Int) != (i : Int)) = false := by simp
          clear hT4 hr4 hb45 hb35 hf5 hlt hi
          subst hW5
          go_wp2
          go_loopw [11] (fun s11 wr => ∃ (j q : Nat), j ≤ i ∧ s11 = .int .i64 j ∧ wr = (w4.alloc (.cells #[.int .i64 0, .int .i64 0] 26)).drewN q) (fun s11 _ => i - (Lib.intOf s11).toNat)
          case atStart => exact ⟨0, 0, Nat.zero_le _, rfl, rfl⟩
          case round =>
            obtain ⟨j, q, hj, rfl, rfl⟩ := hrel
            by_cases hjlt : j < i
            · obtain ⟨t, ht⟩ : ∃ t, T[j]? = some t := ⟨T[j]'(by rw [← HN.out]; exact hjlt), List.getElem?_eq_getElem _⟩
              obtain ⟨u, hu, hk, hs⟩ := HJT.out j t ht
              rcases HRA.out with h0 | ⟨g, rfl, _, hc⟩
              · rw [h0] at ht; simp at ht
              rcases HRB.out with h0 | ⟨g2, rfl, _, hc2⟩
              · rw [h0] at hu; simp at hu
              obtain ⟨p1, p2, _⟩ := hc j t ht
              obtain ⟨q1, q2, _⟩ := hc2 j u hu
              rw [hk] at q1
              rw [hs] at q2
              have hq := bs_eq2 t.s t.s
              rw [decide_eq_true rfl] at hq
              clear hc hc2 ht hu hk hs
              go_wp2
              go_quiet (fail)
              go_wp2
              go_roundw
              case rel => exact ⟨j + 1, q + nq, by omega, by go_num, rfl⟩
              case measure => simp [Lib.intOf]; omega
            · go_wp2
              go_ret
              exact ⟨rfl, bel_drewN HB5.out _⟩
    · have hpb : ((p : Int) == 0) = false := by rw [beq_eq_false_iff_ne]; omega
      go_enter Tryd.func5, Tryd.ntmps5
      go_wp2_with fail
      refine (HA.out _ (Below.refl _ _)).mono ?_
      rintro e w1 ⟨rfl, hb1⟩
      have HB1 := Lib.hid hb1; clear hb1
      go_wp2_with fail
      refine (rtokens_any l HL1.out _).mono ?_
      rintro e w2 ⟨v1, rfl, hT1⟩
      rw [HR.out] at hT1 ⊢
      obtain ⟨a1, c1, rfl, _, _⟩ := hT1.own.shape
      have HB2 := Lib.hid (HB1.out.trans (hT1.bel.mono HB1.out.size))
      clear hT1
      go_wp2
      go_ret
      exact ⟨rfl, bel_alloc HB2.out _⟩

set_option maxRecDepth 100000 in
set_option maxHeartbeats 8000000 in
theorem lexApart_cr (l : Wd) (hl : l.length ≤ 9223372036854775807) {w : World} (h : Gl w) : Calls Tryd.prog 5 #[.string (bs l), .bool false] w (LawPost w) := by
  have hsz := bs_size l
  have HG := Lib.hid h
  have HA := Lib.hid (fun w' (hb : Below w.heap.size w w') => awake_any (h.below hb))
  clear h
  by_cases h5 : 700 < l.length
  · have h5' : (700 : Int) < l.length := by omega
    go_enter Tryd.func5, Tryd.ntmps5
    go_wp2_with fail
    refine (HA.out _ (Below.refl _ _)).mono ?_
    rintro e w1 ⟨rfl, hb1⟩
    have HB1 := Lib.hid hb1; clear hb1
    go_wp2_with fail
    refine (HA.out _ HB1.out).mono ?_
    rintro e w2 ⟨rfl, hb2⟩
    have HB2 := Lib.hid (HB1.out.trans (hb2.mono HB1.out.size)); clear hb2
    go_wp2
    go_ret
    exact ⟨rfl, HB2.out⟩
  · have h5' : ¬ (700 : Int) < l.length := by omega
    have h57 : l.length ≤ 700 := by omega
    have hl1 : l.length ≤ 100000 := by omega
    have HL1 := Lib.hid hl1; clear hl1
    have hTl := lexR_len l HL1.out
    have HOK := Lib.hid (lexR_ok (l := l))
    obtain ⟨T, p, q, hR⟩ : ∃ T p q, lexR l = (T, p, q) := ⟨_, _, _, rfl⟩
    rw [hR] at hTl HOK
    simp only at hTl HOK
    have HR := Lib.hid hR; clear hR
    by_cases hp : p = 0
    · subst hp
      obtain ⟨T0, hT0, hTT, _⟩ := HOK.out rfl
      simp only [Prod.mk.injEq] at hTT
      obtain ⟨hTT, _, rfl⟩ := hTT
      obtain ⟨hjl, T', hJ, hJl, hJT⟩ := lexR_join sep13 (by decide) h57 hT0 l.length
      rw [← hTT] at hjl hJ hJT
      have hTlen : T.length = T0.length + 1 := by rw [hTT]; simp
      obtain ⟨N, hN⟩ : ∃ N, N = T.length := ⟨_, rfl⟩
      have hN6 : N ≤ 100000 := by omega
      have hJl' : T'.length = N := by omega
      have HJ := Lib.hid hJ
      have HJT := Lib.hid hJT
      have HN := Lib.hid hN
      have HJL := Lib.hid hJl'
      have HJLE := Lib.hid hjl
      clear hJ hJT hJl hJl' hTT hT0 hTlen hjl HOK
      go_enter Tryd.func5, Tryd.ntmps5
      go_wp2_with fail
      refine (HA.out _ (Below.refl _ _)).mono ?_
      rintro e w1 ⟨rfl, hb1⟩
      have HB1 := Lib.hid hb1; clear hb1
      go_wp2_with fail
      refine (rtokens_any l HL1.out _).mono ?_
      rintro e w2 ⟨v1, rfl, hT1⟩
      rw [HR.out] at hT1 ⊢
      obtain ⟨a1, c1, rfl, _, _⟩ := hT1.own.shape
      have hrd := hT1.tkr.2
      have HB2 := Lib.hid (bel_alloc (HB1.out.trans (hT1.bel.mono HB1.out.size)) (.cells #[.int .i64 0, .int .i64 0] 26))
      have hrd2 := hrd.below ((Below.refl w2.heap.size w2).alloc (Nat.le_refl _) (.cells #[.int .i64 0, .int .i64 0] 26))
      have HRD := Lib.hid hrd2
      simp only [← hN]
      clear hN hT1 hrd hrd2 hTl
      go_wp2
      generalize (w2.alloc (.cells #[.int .i64 0, .int .i64 0] 26)) = W3 at *
      go_loop [7, 8] (fun s7 s8 => ∃ i : Nat, i ≤ N ∧ s8 = .int .i64 i ∧ s7 = .string (bs (joined [13] (T.take i)))) (fun _ s8 => N - (Lib.intOf s8).toNat)
      case atStart => exact ⟨0, Nat.zero_le _, rfl, rfl⟩
      case round =>
        obtain ⟨i, hi, rfl, rfl⟩ := hrel
        by_cases hlt : i < N
        · obtain ⟨t, ht⟩ : ∃ t, T[i]? = some t := ⟨T[i]'(by rw [← HN.out]; exact hlt), List.getElem?_eq_getElem _⟩
          rcases HRD.out with h0 | ⟨g, rfl, _, hc⟩
          · rw [h0] at ht; simp at ht
          obtain ⟨p1, p2, p3⟩ := hc i t ht
          have hj := joined_take [13] T ht
          have hle1 := joined_le [13] T (i + 1)
          have hle := HJLE.out
          rw [hj, List.length_append, List.length_append] at hle1
          have happ : bs (joined [13] (T.take i)) ++ bs t.s ++ ⟨#[13]⟩ = bs (joined [13] (T.take (i + 1))) := by
            rw [hj, ← bs_append, ← bs_append]; rfl
          have s1 := bs_size (joined [13] (T.take i))
          have s2 := bs_size t.s
          have HAPP := Lib.hid happ
          clear hc happ hj ht
          generalize bs (joined [13] (T.take i)) = X at *
          generalize joined [13] (T.take i) = Y at *
          go_wp2
          go_round
          case rel => exact ⟨i + 1, by omega, by go_num, by rw [← HAPP.out]⟩
          case measure => simp [Lib.intOf]; omega
        · obtain rfl : i = N := by omega
          have htk : T.take i = T := List.take_of_length_le (by rw [← HN.out]; exact Nat.le_refl _)
          rw [htk]
          clear htk
          go_wp2_with fail
          refine (tokens_any (joined [13] T) (by have := HJLE.out; omega) (HG.out.below HB2.out)).mono ?_
          rintro e w4 ⟨v4, rfl, hT4⟩
          rw [HJ.out] at hT4 ⊢
          obtain ⟨a4, c4, rfl, _, _⟩ := hT4.own.shape
          have hr4 := hT4.tkr.2
          obtain ⟨W5, hW5⟩ : ∃ W5, W5 = w4.alloc (.cells #[.int .i64 0, .int .i64 0] 26) := ⟨_, rfl⟩
          have hb45 : Below w4.heap.size w4 W5 := by rw [hW5]; exact bel_alloc (Below.refl _ _) _
          have hb35 := hT4.bel.trans (hb45.mono hT4.bel.size)
          have HB5 := Lib.hid (HB2.out.trans (hb35.mono HB2.out.size))
          have HRA := Lib.hid (HRD.out.below hb35)
          have HRB := Lib.hid (hr4.below hb45)
          have hf5 : W5.heap[w4.heap.size]? = some (.cells #[.int .i64 0, .int .i64 0] 26 (0, 0)) := by rw [hW5]; exact heap_alloc_new _ _
          obtain ⟨f0, f1, _⟩ := res_cells hf5 (.int .i64 0)
          simp only [HJL.out]
          have hNN : ((i : Int) != (i : Int)) = false := by simp
          clear hT4 hr4 hb45 hb35 hf5 hlt hi
          subst hW5
          go_wp2
          go_loopw [11] (fun s11 wr => ∃ (j q : Nat), j ≤ i ∧ s11 = .int .i64 j ∧ wr = (w4.alloc (.cells #[.int .i64 0, .int .i64 0] 26)).drewN q) (fun s11 _ => i - (Lib.intOf s11).toNat)
          case atStart => exact ⟨0, 0, Nat.zero_le _, rfl, rfl⟩
          case round =>
            obtain ⟨j, q, hj, rfl, rfl⟩ := hrel
            by_cases hjlt : j < i
            · obtain ⟨t, ht⟩ : ∃ t, T[j]? = some t := ⟨T[j]'(by rw [← HN.out]; exact hjlt), List.getElem?_eq_getElem _⟩
              obtain ⟨u, hu, hk, hs⟩ := HJT.out j t ht
              rcases HRA.out with h0 | ⟨g, rfl, _, hc⟩
              · rw [h0] at ht; simp at ht
              rcases HRB.out with h0 | ⟨g2, rfl, _, hc2⟩
              · rw [h0] at hu; simp at hu
              obtain ⟨p1, p2, _⟩ := hc j t ht
              obtain ⟨q1, q2, _⟩ := hc2 j u hu
              rw [hk] at q1
              rw [hs] at q2
              have hq := bs_eq2 t.s t.s
              rw [decide_eq_true rfl] at hq
              clear hc hc2 ht hu hk hs
              go_wp2
              go_quiet (fail)
              go_wp2
              go_roundw
              case rel => exact ⟨j + 1, q + nq, by omega, by go_num, rfl⟩
              case measure => simp [Lib.intOf]; omega
            · go_wp2
              go_ret
              exact ⟨rfl, bel_drewN HB5.out _⟩
    · have hpb : ((p : Int) == 0) = false := by rw [beq_eq_false_iff_ne]; omega
      go_enter Tryd.func5, Tryd.ntmps5
      go_wp2_with fail
      refine (HA.out _ (Below.refl _ _)).mono ?_
      rintro e w1 ⟨rfl, hb1⟩
      have HB1 := Lib.hid hb1; clear hb1
      go_wp2_with fail
      refine (rtokens_any l HL1.out _).mono ?_
      rintro e w2 ⟨v1, rfl, hT1⟩
      rw [HR.out] at hT1 ⊢
      obtain ⟨a1, c1, rfl, _, _⟩ := hT1.own.shape
      have HB2 := Lib.hid (HB1.out.trans (hT1.bel.mono HB1.out.size))
      clear hT1
      go_wp2
      go_ret
      exact ⟨rfl, bel_alloc HB2.out _⟩

end Go.Proofs.YtgikihbnafadjaaDoor
