/- Contracts: signs, tokens, names, places. -/
import Derived.Test.YtgikihbnafadjaaDoorF
namespace Go.Proofs.YtgikihbnafadjaaDoor
open Go Go.RowKit Go.Lib

theorem sgnF_hit (l : Wd) : ∀ (L : List Wd) (k : Nat), k < L.length → (∀ j, j < k → (nth L j).isPrefixOf l = false) → (nth L k).isPrefixOf l = true → sgnF L l = (nth L k).length
  | [], k, h, _, _ => by simp at h
  | x :: L, 0, _, _, h2 => by
    have e : nth (x :: L) 0 = x := rfl
    rw [e] at h2 ⊢
    simp [sgnF, h2]
  | x :: L, k + 1, h, h1, h2 => by
    have e : ∀ j, nth (x :: L) (j + 1) = nth L j := fun j => by simp [nth]
    have h0 := h1 0 (by omega)
    have e0 : nth (x :: L) 0 = x := rfl
    rw [e0] at h0
    rw [e] at h2 ⊢
    have := sgnF_hit l L k (by simpa using h) (fun j hj => by rw [← e]; exact h1 (j + 1) (by omega)) h2
    simp only [sgnF, h0, Bool.false_eq_true, if_false, this]
theorem sgnF_none (l : Wd) : ∀ (L : List Wd), (∀ j, j < L.length → (nth L j).isPrefixOf l = false) → sgnF L l = 0
  | [], _ => rfl
  | x :: L, h => by
    have e : ∀ j, nth (x :: L) (j + 1) = nth L j := fun j => by simp [nth]
    have h0 := h 0 (by simp)
    have e0 : nth (x :: L) 0 = x := rfl
    rw [e0] at h0
    have := sgnF_none l L (fun j hj => by rw [← e]; exact h (j + 1) (by simpa using hj))
    simp only [sgnF, h0, Bool.false_eq_true, if_false, this]

set_option maxRecDepth 100000 in
set_option maxHeartbeats 2000000 in
/-- sign -/
theorem sign_any (l : Wd) {w : World} (h : Gl w) : Calls Tryd.prog 32 #[.string (bs l)] w fun e w' => e = .returned (.int .i64 (sgn l)) ∧ w = w' := by
  obtain ⟨t, fr, hg⟩ := h.s
  have hns : (Tryd.prog.info? 54).map (·.size) = some (strs signs).size := by rw [strs_size]; kernel_rfl
  have hat : ∀ k, k < 18 → (strs signs)[k]? = some (.string (bs (nth signs k))) := fun k hk => strs_nth hk
  generalize hV : strs signs = V at *
  clear hV h
  have HP := Lib.hid (fun x => prefix_any l x w)
  go_enter Tryd.func32, Tryd.ntmps32
  go_wp2_with (refine wpList_load_row rfl 54 _ rfl 1 rfl t _ fr _ hg Tryd.underlying54 rfl hns ?_)
  go_loop [6, 4] (fun i _ => ∃ k : Nat, k ≤ 18 ∧ i = .int .i64 k ∧ Hid (∀ j, j < k → (nth signs j).isPrefixOf l = false)) (fun i _ => 18 - (Lib.intOf i).toNat)
  case atStart => exact ⟨0, Nat.zero_le _, rfl, Lib.hid fun j h0 => absurd h0 (Nat.not_lt_zero _)⟩
  case round =>
    obtain ⟨k, hk, rfl, hn⟩ := hrel
    by_cases hlt : k < 18
    · have hc := fun w => index_row 54 18 V k _ w Tryd.underlying54 hlt (hat k hlt)
      have hhit := Lib.hid (fun h => sgnF_hit l signs k hlt hn.out h)
      clear hat hns
      obtain ⟨x, hxe⟩ : ∃ x, x = nth signs k := ⟨_, rfl⟩
      rw [← hxe] at hc hhit
      have HX := Lib.hid hxe; clear hxe
      have HP2 := Lib.hid (HP.out x)
      have hszx := bs_size x
      cases hq : x.isPrefixOf l with
      | true =>
        rw [hq] at HP2
        have HF := Lib.hid (hhit.out hq); clear hq hhit
        rw [sgnF_eq] at HF
        go_wp2_with fail
        refine HP2.out.mono ?_
        rintro e w2 ⟨rfl, hw2⟩
        have hw3 := hw2.symm; subst hw3; clear hw2
        go_wp2
        go_ret
        exact ⟨ret_int (by rw [HF.out]), rfl⟩
      | false =>
        rw [hq] at HP2
        have HQ := Lib.hid hq; clear hq hhit
        go_wp2_with fail
        refine HP2.out.mono ?_
        rintro e w2 ⟨rfl, hw2⟩
        have hw3 := hw2.symm; subst hw3; clear hw2
        go_wp2
        go_round
        case rel => exact ⟨k + 1, by omega, by go_num, Lib.hid fun j hj => by
          by_cases e : j = k
          · subst e; rw [← HX.out]; exact HQ.out
          · exact hn.out j (by omega)⟩
        case measure => simp [Lib.intOf]; omega
    · have hF : sgn l = 0 := by rw [← sgnF_eq]; exact sgnF_none l signs fun j hj => hn.out j (by have : signs.length = 18 := rfl; omega)
      have HF := Lib.hid hF; clear hF hat hns
      go_wp2
      go_ret
      exact ⟨ret_int (by rw [HF.out]; rfl), rfl⟩

def TokPost (l : Wd) (w : World) (e : Ending) (w' : World) : Prop := e = .returned (.tuple #[.int .i64 ((tok l).1 : Nat), .int .i64 ((tok l).2 : Nat)]) ∧ Below w.heap.size w w'
theorem tokPost_of {l : Wd} {w w' : World} {k n : Nat} {x y : Int} (h : tok l = (k, n)) (hx : x = k) (hy : y = n) (hb : Below w.heap.size w w') : TokPost l w (.returned (.tuple #[.int .i64 x, .int .i64 y])) w' := by
  subst hx; subst hy
  refine ⟨?_, hb⟩
  rw [h]
set_option maxRecDepth 100000 in
set_option maxHeartbeats 4000000 in
/-- token -/
theorem token_any (l : Wd) (hl : l.length ≤ 100000) {w : World} (h : Gl w) : Calls Tryd.prog 20 #[.string (bs l)] w (TokPost l w) := by
  have H2 := Lib.hid (run2_any l hl h)
  have H1 := Lib.hid (fun w' (hb : Below w.heap.size w w') => run1_any l hl (h.below hb))
  have H3 := Lib.hid (fun w' (hb : Below w.heap.size w w') => run3_any l hl (h.below hb))
  have HS := Lib.hid (fun w' (hb : Below w.heap.size w w') => sign_any l (h.below hb))
  have hpL := hd_span isL l
  have hpD := hd_span isD l
  have hleL := span_le (p := isL) l
  have hleD := span_le (p := isD) l
  have hleW := span_le (p := isW) l
  have hleS := sgn_le l
  clear h
  generalize hD : span isD l = d at *
  generalize hL : span isL l = a at *
  have hst : Hid ((hd isL l = true → tok l = (0, span isW l)) ∧ (hd isL l = false → hd isD l = true → tok l = (1, if d ≤ 6 then d else 0)) ∧ (hd isL l = false → hd isD l = false → tok l = (2, sgn l))) :=
    Lib.hid ⟨tok_word, fun h h2 => by rw [tok_num h h2, hD], tok_sign⟩
  clear hD hL
  cases hcL : hd isL l with
  | true =>
    rw [hcL] at hpL
    have ha : (0 : Int) < a := by have := of_decide_eq_true hpL.symm; omega
    have HT := Lib.hid (hst.out.1 hcL); clear hst hcL hpL hpD
    generalize span isW l = m at *
    go_enter Tryd.func20, Tryd.ntmps20
    go_wp2_with fail
    refine H2.out.mono ?_
    rintro e w1 ⟨rfl, hw1⟩
    have HB1 : Hid (Below w.heap.size w w1) := Lib.hid (by rw [← hw1]; exact (Below.refl _ _).alloc (Nat.le_refl _) _)
    clear hw1
    go_wp2_with fail
    refine (H1.out _ HB1.out).mono ?_
    rintro e w2 ⟨rfl, hw2⟩
    have HB2 : Hid (Below w.heap.size w w2) := Lib.hid (by rw [← hw2]; exact HB1.out.alloc HB1.out.size _)
    clear hw2
    go_wp2_with fail
    refine (H3.out _ HB2.out).mono ?_
    rintro e w3 ⟨rfl, hw3⟩
    have HB3 : Hid (Below w.heap.size w w3) := Lib.hid (by rw [← hw3]; exact HB2.out.alloc HB2.out.size _)
    clear hw3
    go_wp2
    go_ret2
    exact tokPost_of HT.out rfl rfl HB3.out
  | false =>
    rw [hcL] at hpL
    have ha : ¬ (0 : Int) < a := by have := of_decide_eq_false hpL.symm; omega
    cases hcD : hd isD l with
    | true =>
      rw [hcD] at hpD
      have hd0 : (0 : Int) < d := by have := of_decide_eq_true hpD.symm; omega
      have HT := Lib.hid (hst.out.2.1 hcL hcD); clear hst hcL hpL hpD hcD
      by_cases h6 : d ≤ 6
      · rw [if_pos h6] at HT
        have h6' : ¬ (6 : Int) < d := by omega
        go_enter Tryd.func20, Tryd.ntmps20
        go_wp2_with fail
        refine H2.out.mono ?_
        rintro e w1 ⟨rfl, hw1⟩
        have HB1 : Hid (Below w.heap.size w w1) := Lib.hid (by rw [← hw1]; exact (Below.refl _ _).alloc (Nat.le_refl _) _)
        clear hw1
        go_wp2_with fail
        refine (H1.out _ HB1.out).mono ?_
        rintro e w2 ⟨rfl, hw2⟩
        have HB2 : Hid (Below w.heap.size w w2) := Lib.hid (by rw [← hw2]; exact HB1.out.alloc HB1.out.size _)
        clear hw2
        go_wp2
        go_ret2
        exact tokPost_of HT.out rfl rfl HB2.out
      · rw [if_neg h6] at HT
        have h6' : (6 : Int) < d := by omega
        go_enter Tryd.func20, Tryd.ntmps20
        go_wp2_with fail
        refine H2.out.mono ?_
        rintro e w1 ⟨rfl, hw1⟩
        have HB1 : Hid (Below w.heap.size w w1) := Lib.hid (by rw [← hw1]; exact (Below.refl _ _).alloc (Nat.le_refl _) _)
        clear hw1
        go_wp2_with fail
        refine (H1.out _ HB1.out).mono ?_
        rintro e w2 ⟨rfl, hw2⟩
        have HB2 : Hid (Below w.heap.size w w2) := Lib.hid (by rw [← hw2]; exact HB1.out.alloc HB1.out.size _)
        clear hw2
        go_wp2
        go_ret2
        exact tokPost_of HT.out rfl rfl HB2.out
    | false =>
      rw [hcD] at hpD
      have hd0 : ¬ (0 : Int) < d := by have := of_decide_eq_false hpD.symm; omega
      have hd6 : ¬ (6 : Int) < d := by omega
      have HT := Lib.hid (hst.out.2.2 hcL hcD); clear hst hcL hpL hpD hcD
      generalize sgn l = m at *
      go_enter Tryd.func20, Tryd.ntmps20
      go_wp2_with fail
      refine H2.out.mono ?_
      rintro e w1 ⟨rfl, hw1⟩
      have HB1 : Hid (Below w.heap.size w w1) := Lib.hid (by rw [← hw1]; exact (Below.refl _ _).alloc (Nat.le_refl _) _)
      clear hw1
      go_wp2_with fail
      refine (H1.out _ HB1.out).mono ?_
      rintro e w2 ⟨rfl, hw2⟩
      have HB2 : Hid (Below w.heap.size w w2) := Lib.hid (by rw [← hw2]; exact HB1.out.alloc HB1.out.size _)
      clear hw2
      go_wp2_with fail
      refine (HS.out _ HB2.out).mono ?_
      rintro e w3 ⟨rfl, hw3⟩
      have hw4 := hw3.symm; subst hw4; clear hw3
      go_wp2
      go_ret2
      exact tokPost_of HT.out rfl rfl HB2.out

theorem all_span (l : Wd) (p : UInt8 → Bool) : (l.all p = true) ↔ span p l = l.length := by
  induction l with
  | nil => simp [span]
  | cons c l ih =>
    cases h : p c with
    | true => simp [span, h]; exact ⟨fun h => ih.1 (by simpa using h), fun h => by simpa using ih.2 h⟩
    | false => simp [span, h]
theorem isName_tok (l : Wd) (h : l.length ≤ 12) (hk : isKey l = false) : isName l = (decide ((tok l).1 = 0) && decide ((tok l).2 = l.length)) := by
  unfold isName
  rw [hk, decide_eq_true h]
  simp only [Bool.and_true, Bool.not_false]
  cases hL : hd isL l with
  | true =>
    have h0 : 0 < l.length := by
      cases l with
      | nil => cases hL
      | cons c l => simp
    rw [tok_word hL, decide_eq_true h0]
    simp only [decide_true, Bool.true_and]
    rw [Bool.eq_iff_iff, all_span]; simp
  | false =>
    cases hD : hd isD l with
    | true => rw [tok_num hL hD]; simp
    | false => rw [tok_sign hL hD]; simp
set_option maxRecDepth 100000 in
set_option maxHeartbeats 4000000 in
/-- Name -/
theorem name_any (l : Wd) (hl : l.length ≤ 100000) {w : World} (h : Gl w) : Calls Tryd.prog 17 #[.string (bs l)] w fun e w' => e = .returned (.bool (isName l)) ∧ Below w.heap.size w w' := by
  have hsz := bs_size l
  have HK := Lib.hid (key_any l h)
  have HT := Lib.hid (token_any l hl h)
  clear h
  by_cases h12 : 12 < l.length
  · have hF : isName l = false := by simp [isName, show ¬ l.length ≤ 12 by omega]
    have HF := Lib.hid hF; clear hF
    have h12' : (12 : Int) < (l.length : Int) := by omega
    go_enter Tryd.func17, Tryd.ntmps17
    go_wp2
    go_ret
    exact ⟨ret_bool HF.out.symm, Below.refl _ _⟩
  · have h12' : ¬ (12 : Int) < (l.length : Int) := by omega
    cases hk : isKey l with
    | true =>
      rw [hk] at HK
      have hF : isName l = false := by simp [isName, hk]
      have HF := Lib.hid hF; clear hF hk
      go_enter Tryd.func17, Tryd.ntmps17
      go_wp2_with fail
      refine HK.out.mono ?_
      rintro e w1 ⟨rfl, rfl⟩
      go_wp2
      go_ret
      exact ⟨ret_bool HF.out.symm, Below.refl _ _⟩
    | false =>
      rw [hk] at HK
      have hF := isName_tok l (by omega) hk
      rw [hF]; clear hF hk
      have hle := tok_le l
      unfold TokPost at HT
      generalize tok l = kn at *
      obtain ⟨k, n⟩ := kn
      simp only at *
      by_cases hk0 : k = 0
      · subst hk0
        by_cases hn : n = l.length
        · have hb : ((n : Int) == (l.length : Int)) = true := by simp [hn]
          have HN := Lib.hid hn; clear hn
          go_enter Tryd.func17, Tryd.ntmps17
          go_wp2_with fail
          refine HK.out.mono ?_
          rintro e w1 ⟨rfl, rfl⟩
          go_wp2_with fail
          refine HT.out.mono ?_
          rintro e w1 ⟨rfl, hb1⟩
          go_wp2
          go_ret
          exact ⟨ret_bool (by simp [HN.out]), hb1⟩
        · have hb : ((n : Int) == (l.length : Int)) = false := by simp; omega
          have HN := Lib.hid hn; clear hn
          go_enter Tryd.func17, Tryd.ntmps17
          go_wp2_with fail
          refine HK.out.mono ?_
          rintro e w1 ⟨rfl, rfl⟩
          go_wp2_with fail
          refine HT.out.mono ?_
          rintro e w1 ⟨rfl, hb1⟩
          go_wp2
          go_ret
          exact ⟨ret_bool (by simp [HN.out]), hb1⟩
      · have hb : ((k : Int) == 0) = false := by simp; omega
        have HN := Lib.hid hk0; clear hk0
        go_enter Tryd.func17, Tryd.ntmps17
        go_wp2_with fail
        refine HK.out.mono ?_
        rintro e w1 ⟨rfl, rfl⟩
        go_wp2_with fail
        refine HT.out.mono ?_
        rintro e w1 ⟨rfl, hb1⟩
        go_wp2
        go_ret
        exact ⟨ret_bool (by simp [HN.out]), hb1⟩
end Go.Proofs.YtgikihbnafadjaaDoor
