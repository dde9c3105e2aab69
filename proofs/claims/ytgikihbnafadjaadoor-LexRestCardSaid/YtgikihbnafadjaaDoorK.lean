/- Contract: the answers' Tokens. -/
import Derived.Test.YtgikihbnafadjaaDoorJ
namespace Go.Proofs.YtgikihbnafadjaaDoor
open Go Go.RowKit Go.Lib Go.Maps

def twoV (l : Wd) (i : Nat) : Wd := if i + 2 ≤ l.length then (l.drop i).take 2 else []
theorem twoV_iff (l : Wd) (i : Nat) (a b : UInt8) : twoV l i = [a, b] ↔ (l.drop i).take 2 = [a, b] := by
  unfold twoV
  split
  · exact Iff.rfl
  · rename_i h
    refine ⟨fun e => by simp at e, fun e => ?_⟩
    have := congrArg List.length e
    simp at this; omega
theorem isB_has (c : UInt8) : List.contains [32, 9, 13, 10] c = isB c := isK0 c
/-- What the scan of a comment or a word comes to. -/
theorem span_at {p : UInt8 → Bool} {l : Wd} {k j : Nat} (hkj : k ≤ j) (hj : j ≤ l.length) (h : ∀ x (hx : x < l.length), k ≤ x → x < j → p l[x] = true) (h2 : ∀ hx : j < l.length, p l[j] = false) : k + span p (l.drop k) = j := by
  have := span_of (p := p) (l := l.drop k) (k := j - k) (by rw [List.length_drop]; omega) (fun x hx hx2 => by
    rw [List.getElem_drop]; exact h (k + x) (by rw [List.length_drop] at hx; omega) (by omega) (by omega)) (fun hx => by
    rw [List.getElem_drop]
    have e : k + (j - k) = j := by omega
    have := h2 (by rw [List.length_drop] at hx; omega)
    simpa [e] using this)
  omega
theorem drop_hd {l : Wd} {k : Nat} (h : k < l.length) : l.drop k = l[k] :: l.drop (k + 1) := List.drop_eq_getElem_cons h
theorem hd_drop {p : UInt8 → Bool} {l : Wd} {k : Nat} (h : k < l.length) : hd p (l.drop k) = p l[k] := by rw [drop_hd h]; rfl
theorem len_ext {l : Wd} {k m : Nat} : (bs l).extract k (k + m) = bs ((l.drop k).take m) := mid_ext

set_option maxRecDepth 100000 in
set_option maxHeartbeats 8000000 in
theorem rtokens_any (l : Wd) (hl : l.length ≤ 100000) (w : World) : Calls Tryd.prog 11 #[.string (bs l)] w (TksPost l w) := by
  have hsz := bs_size l
  by_cases h4 : 4000 < l.length
  · have h4' : (4000 : Int) < l.length := by omega
    have HF := Lib.hid (lexR_big h4)
    go_enter Tryd.func11, Tryd.ntmps11
    go_wp2
    (try simp only [Exit.inBlock, Exit.then])
    refine bodyPost_ret (results_two rfl _ (w.alloc (.cells #[.int .i64 12, .int .i64 0] 26)) w.heap.size 26 _ _ rfl (heap_alloc_new _ _) (size26 _ _)) rfl ?_
    exact tksPost_of HF.out rfl rfl (Tks.nil ((Below.refl _ _).alloc (Nat.le_refl _) _))
  · have h4' : ¬ (4000 : Int) < l.length := by omega
    obtain ⟨W1, hW1⟩ : ∃ W1, W1 = w.alloc (.cells #[.int .i64 0, .int .i64 0] 26) := ⟨_, rfl⟩
    have hg0 : W1.heap[w.heap.size]? = some (.cells #[.int .i64 0, .int .i64 0] 26 (0, 0)) := by rw [hW1]; exact heap_alloc_new _ _
    have hlt0 : w.heap.size < W1.heap.size := lt_of_block hg0
    have HN := Lib.hid h4
    have HW1 := Lib.hid hW1
    have HG0 := Lib.hid hg0
    have h40 : l.length ≤ 4000 := by omega
    clear hg0 h4
    have HHAS := Lib.hid (fun x (h : x.length ≤ 100000) => rhas_any x h)
    have HTWO := Lib.hid (rtwo_any l hl)
    have HLET := Lib.hid rletter_any
    have HDIG := Lib.hid rdigit_any
    have HWORD := Lib.hid rword_any
    go_enter Tryd.func11, Tryd.ntmps11
    go_wp2
    rw [← HW1.out]
    generalize hge : w.heap.size = g0 at *
    have HGE := Lib.hid hge; clear hge
    have HT0 := Lib.hid (Tks.nil (Below.refl W1.heap.size W1))
    go_loopw [4, 5, 6, 7, 39, 58, 75, 92] (fun s4 s5 _ _ _ _ _ _ wr => ∃ (k : Nat) (T : List Tk) (a : Option Addr) (c : Nat), k ≤ l.length ∧ s5 = .int .i64 k ∧ s4 = .slice a T.length c ∧ Hid (Tks W1 wr (.slice a T.length c) T) ∧ Hid (At l k T)) (fun _ s5 _ _ _ _ _ _ _ => l.length - (Lib.intOf s5).toNat)
    case atStart => exact ⟨0, [], none, 0, Nat.zero_le _, rfl, rfl, HT0, Lib.hid (At.start l)⟩
    case round =>
      obtain ⟨k, T, a, c, hk, rfl, rfl, HT, HAt⟩ := hrel
      have hTl : T.length ≤ 4000 := by have := HAt.out.2.2; omega
      have HB := Lib.hid (HT.out.bel)
      by_cases hlt : k < l.length
      · have hg := bs_at l k hlt (by rw [hsz]; exact hlt)
        have HH1 := Lib.hid (fun w => HHAS.out [32, 9, 13, 10] (by decide) l[k] w)
        rw [isB_has] at HH1
        have hdr := drop_hd hlt
        have HDR := Lib.hid hdr; clear hdr
        have HX := Lib.hid (HTWO.out k hk)
        have hq1 := bs_eq (twoV l k) [47, 47]
        have hq2 := bs_eq (twoV l k) [61, 61]
        have hq3 := bs_eq (twoV l k) [38, 38]
        have hq4 := bs_eq (twoV l k) [124, 124]
        have HI1 := Lib.hid (twoV_iff l k 47 47)
        have HI2 := Lib.hid (twoV_iff l k 61 61)
        have HI3 := Lib.hid (twoV_iff l k 38 38)
        have HI4 := Lib.hid (twoV_iff l k 124 124)
        rw [show (if k + 2 ≤ l.length then (l.drop k).take 2 else []) = twoV l k from rfl] at HX
        generalize twoV l k = X at *
        cases hcB : isB l[k] with
        | true =>
          rw [hcB] at HH1
          have HA := Lib.hid (HAt.out.gap (g := 1) (by rw [HDR.out, skip_blank hcB]; omega) (by omega))
          clear hcB hq1 hq2 hq3 hq4
          go_wp2_with fail
          refine (HH1.out _).mono ?_
          rintro e w2 ⟨rfl, hw2⟩
          subst hw2
          go_wp2
          go_roundw
          case rel => exact ⟨k + 1, T, a, c, by omega, by go_num, rfl, HT, HA⟩
          case measure => simp [Lib.intOf]; omega
        | false =>
          rw [hcB] at HH1
          by_cases hc1 : (l.drop k).take 2 = [47, 47]
          · rw [decide_eq_true (HI1.out.2 hc1)] at hq1
            have hcm := skip_cmt2 (l.drop k) hc1
            rw [List.drop_drop] at hcm
            have hspl := span_le (p := nl) (l.drop k)
            rw [List.length_drop] at hspl
            have hsp1 : 0 < span nl (l.drop k) := by
              have h2 := hc1
              rw [HDR.out] at h2
              simp only [List.take_succ_cons, List.cons.injEq] at h2
              rw [HDR.out, h2.1]; simp [span, nl]
            have HA := Lib.hid (HAt.out.gap (g := span nl (l.drop k)) (by omega) (by omega))
            have HC := Lib.hid hc1
            clear hcB hq2 hq3 hq4 hc1 hcm
            go_wp2_with fail
            refine (HH1.out _).mono ?_
            rintro e w2 ⟨rfl, hw2⟩
            subst hw2
            go_wp2_with fail
            refine (HX.out _).mono ?_
            rintro e w2 ⟨rfl, hw2⟩
            subst hw2
            go_wp2
            go_loop [5] (fun s5 => ∃ j : Nat, k ≤ j ∧ j ≤ l.length ∧ s5 = .int .i64 j ∧ Hid (∀ x (hx : x < l.length), k ≤ x → x < j → nl l[x] = true)) (fun s5 => l.length - (Lib.intOf s5).toNat)
            case atStart => exact ⟨k, Nat.le_refl _, hk, rfl, Lib.hid fun x hx h1 h2 => absurd h2 (by omega)⟩
            case round =>
              obtain ⟨j, hj1, hj2, rfl, hn⟩ := hrel
              by_cases hjlt : j < l.length
              · have hgj := bs_at l j hjlt (by rw [hsz]; exact hjlt)
                have hb := u8_beq l[j] 10
                cases hq : l[j] == 10 with
                | true =>
                  rw [hq] at hb
                  have hb2 : ((l[j].toNat : Int) == 10) = true := hb
                  have he : k + span nl (l.drop k) = j := span_at hj1 hj2 hn.out (fun h => by simp [nl, bne, hq])
                  have HE := Lib.hid he
                  have hbig : k < j := by omega
                  clear hb hq he
                  rw [HE.out] at HA
                  go_wp2
                  go_roundw
                  case rel => exact ⟨j, T, a, c, hj2, by go_num, rfl, HT, HA⟩
                  case measure => simp [Lib.intOf]; omega
                | false =>
                  rw [hq] at hb
                  have hb2 : ((l[j].toNat : Int) == 10) = false := hb
                  have HQ := Lib.hid hq
                  clear hb hq
                  go_wp2
                  go_round
                  case rel => exact ⟨j + 1, by omega, by omega, by go_num, Lib.hid fun x hx h1 h2 => by
                    by_cases e : x = j
                    · subst e; simp [nl, bne, HQ.out]
                    · exact hn.out x hx h1 (by omega)⟩
                  case measure => simp [Lib.intOf]; omega
              · have he : k + span nl (l.drop k) = j := span_at hj1 hj2 hn.out (fun h => absurd h hjlt)
                have HE := Lib.hid he
                have hbig : k < j := by omega
                clear he
                rw [HE.out] at HA
                go_wp2
                go_roundw
                case rel => exact ⟨j, T, a, c, hj2, by go_num, rfl, HT, HA⟩
                case measure => simp [Lib.intOf]; omega
          · have hqf : X ≠ [47, 47] := fun e => hc1 (HI1.out.1 e)
            rw [decide_eq_false hqf] at hq1
            have hS : skip (l.drop k) = 0 := by
              refine skip_no _ ?_ hc1
              rw [HDR.out]; simp [span, hcB]
            have HS := Lib.hid hS
            clear hS hqf hc1
            have hL := hd_drop (p := isL) hlt
            have hD := hd_drop (p := isD) hlt
            have hap := apart l[k]
            have HL := Lib.hid hL
            have HD := Lib.hid hD
            have HAP := Lib.hid hap
            clear hL hD hap
            by_cases htw : twoS (l.drop k)
            · have hlen2 := twoS_len htw
              rw [List.length_drop] at hlen2
              have hhd : l[k] = 61 ∨ l[k] = 38 ∨ l[k] = 124 := by
                have h2 := htw
                rw [HDR.out] at h2
                exact twoS_hd h2
              have hnl : isL l[k] = false := by rcases hhd with e | e | e <;> rw [e] <;> decide
              have hnd : isD l[k] = false := by rcases hhd with e | e | e <;> rw [e] <;> decide
              have ht : tok (l.drop k) = (2, 2) := by rw [tok_sign (HL.out.trans hnl) (HD.out.trans hnd), sgn_two htw]
              have HTOK := Lib.hid ht
              have hm0 : 0 < 2 := by decide
              have hmle : k + 2 ≤ l.length := by omega
              have hx := mid_ext (l := l) (k := k) (n := 2)
              clear ht hcB hnl hnd hhd
              have hne : ((k : Int) + 2 == (k : Int)) = false := by rw [beq_eq_false_iff_ne]; omega
              by_cases h61 : (l.drop k).take 2 = [61, 61]
              · rw [decide_eq_true (HI2.out.2 h61)] at hq2
                have H6 := Lib.hid h61
                clear htw h61
                go_wp2_with fail
                refine (HH1.out _).mono ?_
                rintro e w2 ⟨rfl, hw2⟩
                subst hw2
                go_wp2_with fail
                refine (HX.out _).mono ?_
                rintro e w2 ⟨rfl, hw2⟩
                subst hw2
                go_wp2_with fail
                refine (HX.out _).mono ?_
                rintro e w2 ⟨rfl, hw2⟩
                subst hw2
                have HA := Lib.hid (HAt.out.token HS.out hlt (HTOK.out) hm0)
                go_wp2_with (first | (at_builtin; refine Tks.app HT ⟨2, (l.drop k).take (2), k⟩ (by omega) (Below.refl _ _) rfl rfl _ _ rfl rfl rfl ?_; intro a4 c4 w4 HT4) | fail)
                go_roundw
                case rel => exact ⟨k + (2), T ++ [⟨2, (l.drop k).take (2), k⟩], a4, c4, hmle, by go_num, by simp, by simpa using HT4, HA⟩
                case measure => simp [Lib.intOf]; omega
              · rw [decide_eq_false (fun e => h61 (HI2.out.1 e))] at hq2
                by_cases h38 : (l.drop k).take 2 = [38, 38]
                · rw [decide_eq_true (HI3.out.2 h38)] at hq3
                  have H6 := Lib.hid (And.intro h61 h38)
                  clear htw h61 h38
                  go_wp2_with fail
                  refine (HH1.out _).mono ?_
                  rintro e w2 ⟨rfl, hw2⟩
                  subst hw2
                  go_wp2_with fail
                  refine (HX.out _).mono ?_
                  rintro e w2 ⟨rfl, hw2⟩
                  subst hw2
                  go_wp2_with fail
                  refine (HX.out _).mono ?_
                  rintro e w2 ⟨rfl, hw2⟩
                  subst hw2
                  go_wp2_with fail
                  refine (HX.out _).mono ?_
                  rintro e w2 ⟨rfl, hw2⟩
                  subst hw2
                  have HA := Lib.hid (HAt.out.token HS.out hlt (HTOK.out) hm0)
                  go_wp2_with (first | (at_builtin; refine Tks.app HT ⟨2, (l.drop k).take (2), k⟩ (by omega) (Below.refl _ _) rfl rfl _ _ rfl rfl rfl ?_; intro a4 c4 w4 HT4) | fail)
                  go_roundw
                  case rel => exact ⟨k + (2), T ++ [⟨2, (l.drop k).take (2), k⟩], a4, c4, hmle, by go_num, by simp, by simpa using HT4, HA⟩
                  case measure => simp [Lib.intOf]; omega
                · rw [decide_eq_false (fun e => h38 (HI3.out.1 e))] at hq3
                  have h124 : (l.drop k).take 2 = [124, 124] := by
                    rcases htw with e | e | e
                    · exact absurd e h61
                    · exact absurd e h38
                    · exact e
                  rw [decide_eq_true (HI4.out.2 h124)] at hq4
                  have H6 := Lib.hid (And.intro h61 (And.intro h38 h124))
                  clear htw h61 h38 h124
                  go_wp2_with fail
                  refine (HH1.out _).mono ?_
                  rintro e w2 ⟨rfl, hw2⟩
                  subst hw2
                  go_wp2_with fail
                  refine (HX.out _).mono ?_
                  rintro e w2 ⟨rfl, hw2⟩
                  subst hw2
                  go_wp2_with fail
                  refine (HX.out _).mono ?_
                  rintro e w2 ⟨rfl, hw2⟩
                  subst hw2
                  go_wp2_with fail
                  refine (HX.out _).mono ?_
                  rintro e w2 ⟨rfl, hw2⟩
                  subst hw2
                  go_wp2_with fail
                  refine (HX.out _).mono ?_
                  rintro e w2 ⟨rfl, hw2⟩
                  subst hw2
                  have HA := Lib.hid (HAt.out.token HS.out hlt (HTOK.out) hm0)
                  go_wp2_with (first | (at_builtin; refine Tks.app HT ⟨2, (l.drop k).take (2), k⟩ (by omega) (Below.refl _ _) rfl rfl _ _ rfl rfl rfl ?_; intro a4 c4 w4 HT4) | fail)
                  go_roundw
                  case rel => exact ⟨k + (2), T ++ [⟨2, (l.drop k).take (2), k⟩], a4, c4, hmle, by go_num, by simp, by simpa using HT4, HA⟩
                  case measure => simp [Lib.intOf]; omega
            · rw [decide_eq_false (fun e => htw (.inl (HI2.out.1 e)))] at hq2
              rw [decide_eq_false (fun e => htw (.inr (.inl (HI3.out.1 e))))] at hq3
              rw [decide_eq_false (fun e => htw (.inr (.inr (HI4.out.1 e))))] at hq4
              have HLET2 := Lib.hid (HLET.out l[k])
              have HTW := Lib.hid htw
              clear htw
              cases hcL : isL l[k] with
              | true =>
                rw [hcL] at HLET2
                have htk := tok_word (HL.out.trans hcL)
                have hspl := span_le (p := isW) (l.drop k)
                rw [List.length_drop] at hspl
                have hm0 : 0 < span isW (l.drop k) := by rw [HDR.out]; simp [span, isW, hcL]
                have HTOK := Lib.hid htk
                clear htk hcB hcL
                go_wp2_with fail
                refine (HH1.out _).mono ?_
                rintro e w2 ⟨rfl, hw2⟩
                subst hw2
                go_wp2_with fail
                refine (HX.out _).mono ?_
                rintro e w2 ⟨rfl, hw2⟩
                subst hw2
                go_wp2_with fail
                refine (HX.out _).mono ?_
                rintro e w2 ⟨rfl, hw2⟩
                subst hw2
                go_wp2_with fail
                refine (HX.out _).mono ?_
                rintro e w2 ⟨rfl, hw2⟩
                subst hw2
                go_wp2_with fail
                refine (HX.out _).mono ?_
                rintro e w2 ⟨rfl, hw2⟩
                subst hw2
                go_wp2_with fail
                refine (HLET2.out _).mono ?_
                rintro e w2 ⟨rfl, hw2⟩
                subst hw2
                go_wp2
                go_loop [6] (fun s6 => ∃ j : Nat, k ≤ j ∧ j ≤ l.length ∧ s6 = .int .i64 j ∧ Hid (∀ x (hx : x < l.length), k ≤ x → x < j → isW l[x] = true)) (fun s6 => l.length - (Lib.intOf s6).toNat)
                case atStart => exact ⟨k, Nat.le_refl _, hk, rfl, Lib.hid fun x hx h1 h2 => absurd h2 (by omega)⟩
                case round =>
                  obtain ⟨j, hj1, hj2, rfl, hn⟩ := hrel
                  by_cases hjlt : j < l.length
                  · have hgj := bs_at l j hjlt (by rw [hsz]; exact hjlt)
                    have HC := Lib.hid (HWORD.out l[j])
                    cases hq : isW l[j] with
                    | true =>
                      rw [hq] at HC
                      have HQ := Lib.hid hq
                      clear hq
                      go_wp2_with fail
                      refine (HC.out _).mono ?_
                      rintro e w2 ⟨rfl, hw2⟩
                      subst hw2
                      go_wp2
                      go_round
                      case rel => exact ⟨j + 1, by omega, by omega, by go_num, Lib.hid fun x hx h1 h2 => by
                        by_cases e : x = j
                        · subst e; exact HQ.out
                        · exact hn.out x hx h1 (by omega)⟩
                      case measure => simp [Lib.intOf]; omega
                    | false =>
                      rw [hq] at HC
                      obtain ⟨m, hm⟩ : ∃ m, m = span isW (l.drop k) := ⟨_, rfl⟩
                      have he : k + span isW (l.drop k) = j := span_at hj1 hj2 hn.out (fun h => hq)
                      rw [← hm] at he hm0 hspl HTOK
                      subst he
                      clear hq hm
                      have hmle : k + m ≤ l.length := by omega
                      have hx := mid_ext (l := l) (k := k) (n := m)
                      have hne : (((k : Int) + (m : Int)) == (k : Int)) = false := by rw [beq_eq_false_iff_ne]; omega
                      go_wp2_with fail
                      refine (HC.out _).mono ?_
                      rintro e w2 ⟨rfl, hw2⟩
                      subst hw2
                      have HA := Lib.hid (HAt.out.token HS.out hlt (HTOK.out) hm0)
                      go_wp2_with (first | (at_builtin; refine Tks.app HT ⟨0, (l.drop k).take (m), k⟩ (by omega) (Below.refl _ _) rfl rfl _ _ rfl rfl rfl ?_; intro a4 c4 w4 HT4) | fail)
                      go_roundw
                      case rel => exact ⟨k + (m), T ++ [⟨0, (l.drop k).take (m), k⟩], a4, c4, hmle, by go_num, by simp, by simpa using HT4, HA⟩
                      case measure => simp [Lib.intOf]; omega
                  · obtain ⟨m, hm⟩ : ∃ m, m = span isW (l.drop k) := ⟨_, rfl⟩
                    have he : k + span isW (l.drop k) = j := span_at hj1 hj2 hn.out (fun h => absurd h hjlt)
                    rw [← hm] at he hm0 hspl HTOK
                    subst he
                    clear hm
                    have hmle : k + m ≤ l.length := by omega
                    have hx := mid_ext (l := l) (k := k) (n := m)
                    have hne : (((k : Int) + (m : Int)) == (k : Int)) = false := by rw [beq_eq_false_iff_ne]; omega
                    have HA := Lib.hid (HAt.out.token HS.out hlt (HTOK.out) hm0)
                    go_wp2_with (first | (at_builtin; refine Tks.app HT ⟨0, (l.drop k).take (m), k⟩ (by omega) (Below.refl _ _) rfl rfl _ _ rfl rfl rfl ?_; intro a4 c4 w4 HT4) | fail)
                    go_roundw
                    case rel => exact ⟨k + (m), T ++ [⟨0, (l.drop k).take (m), k⟩], a4, c4, hmle, by go_num, by simp, by simpa using HT4, HA⟩
                    case measure => simp [Lib.intOf]; omega
              | false =>
                rw [hcL] at HLET2
                have HDIG2 := Lib.hid (HDIG.out l[k])
                cases hcD : isD l[k] with
                | true =>
                  rw [hcD] at HDIG2
                  have htk := tok_num (HL.out.trans hcL) (HD.out.trans hcD)
                  have hspl := span_le (p := isD) (l.drop k)
                  rw [List.length_drop] at hspl
                  have hm0 : 0 < span isD (l.drop k) := by rw [HDR.out]; simp [span, hcD]
                  have HTOK := Lib.hid htk
                  clear htk hcB hcL hcD
                  go_wp2_with fail
                  refine (HH1.out _).mono ?_
                  rintro e w2 ⟨rfl, hw2⟩
                  subst hw2
                  go_wp2_with fail
                  refine (HX.out _).mono ?_
                  rintro e w2 ⟨rfl, hw2⟩
                  subst hw2
                  go_wp2_with fail
                  refine (HX.out _).mono ?_
                  rintro e w2 ⟨rfl, hw2⟩
                  subst hw2
                  go_wp2_with fail
                  refine (HX.out _).mono ?_
                  rintro e w2 ⟨rfl, hw2⟩
                  subst hw2
                  go_wp2_with fail
                  refine (HX.out _).mono ?_
                  rintro e w2 ⟨rfl, hw2⟩
                  subst hw2
                  go_wp2_with fail
                  refine (HLET2.out _).mono ?_
                  rintro e w2 ⟨rfl, hw2⟩
                  subst hw2
                  go_wp2_with fail
                  refine (HDIG2.out _).mono ?_
                  rintro e w2 ⟨rfl, hw2⟩
                  subst hw2
                  go_wp2
                  go_loop [6] (fun s6 => ∃ j : Nat, k ≤ j ∧ j ≤ l.length ∧ s6 = .int .i64 j ∧ Hid (∀ x (hx : x < l.length), k ≤ x → x < j → isD l[x] = true)) (fun s6 => l.length - (Lib.intOf s6).toNat)
                  case atStart => exact ⟨k, Nat.le_refl _, hk, rfl, Lib.hid fun x hx h1 h2 => absurd h2 (by omega)⟩
                  case round =>
                    obtain ⟨j, hj1, hj2, rfl, hn⟩ := hrel
                    by_cases hjlt : j < l.length
                    · have hgj := bs_at l j hjlt (by rw [hsz]; exact hjlt)
                      have HC := Lib.hid (HDIG.out l[j])
                      cases hq : isD l[j] with
                      | true =>
                        rw [hq] at HC
                        have HQ := Lib.hid hq
                        clear hq
                        go_wp2_with fail
                        refine (HC.out _).mono ?_
                        rintro e w2 ⟨rfl, hw2⟩
                        subst hw2
                        go_wp2
                        go_round
                        case rel => exact ⟨j + 1, by omega, by omega, by go_num, Lib.hid fun x hx h1 h2 => by
                          by_cases e : x = j
                          · subst e; exact HQ.out
                          · exact hn.out x hx h1 (by omega)⟩
                        case measure => simp [Lib.intOf]; omega
                      | false =>
                        rw [hq] at HC
                        obtain ⟨m, hm⟩ : ∃ m, m = span isD (l.drop k) := ⟨_, rfl⟩
                        have he : k + span isD (l.drop k) = j := span_at hj1 hj2 hn.out (fun h => hq)
                        rw [← hm] at he hm0 hspl HTOK
                        subst he
                        clear hq hm
                        have hmle : k + m ≤ l.length := by omega
                        have hx := mid_ext (l := l) (k := k) (n := m)
                        have hne : (((k : Int) + (m : Int)) == (k : Int)) = false := by rw [beq_eq_false_iff_ne]; omega
                        by_cases h6 : m ≤ 6
                        · have h6' : decide ((6 : Int) < (k : Int) + (m : Int) - (k : Int)) = false := decide_eq_false (by omega)
                          have h6a : ¬ (6 : Int) < (k : Int) + (m : Int) - (k : Int) := by omega
                          rw [if_pos h6] at HTOK
                          go_wp2_with fail
                          refine (HC.out _).mono ?_
                          rintro e w2 ⟨rfl, hw2⟩
                          subst hw2
                          have HA := Lib.hid (HAt.out.token HS.out hlt (HTOK.out) hm0)
                          go_wp2_with (first | (at_builtin; refine Tks.app HT ⟨1, (l.drop k).take (m), k⟩ (by omega) (Below.refl _ _) rfl rfl _ _ rfl rfl rfl ?_; intro a4 c4 w4 HT4) | fail)
                          go_roundw
                          case rel => exact ⟨k + (m), T ++ [⟨1, (l.drop k).take (m), k⟩], a4, c4, hmle, by go_num, by simp, by simpa using HT4, HA⟩
                          case measure => simp [Lib.intOf]; omega
                        · have h6' : decide ((6 : Int) < (k : Int) + (m : Int) - (k : Int)) = true := decide_eq_true (by omega)
                          have h6a : (6 : Int) < (k : Int) + (m : Int) - (k : Int) := by omega
                          rw [if_neg h6] at HTOK
                          go_wp2_with fail
                          refine (HC.out _).mono ?_
                          rintro e w2 ⟨rfl, hw2⟩
                          subst hw2
                          have HF := Lib.hid (lexR_bad HN.out (HAt.out.bad HS.out hlt (by rw [HTOK.out])))
                          have hg2 : wr.heap[g0]? = some (.cells #[.int .i64 0, .int .i64 0] 26 (0, 0)) := by rw [HB.out.block g0 hlt0]; exact HG0.out
                          obtain ⟨c0, c1, f0, f1, c2, f2⟩ := res_cells hg2 (.int .i64 10)
                          have HG3 := Lib.hid hg2; clear hg2
                          go_wp2
                          (try simp only [Exit.inBlock, Exit.then])
                          rw [set2_eq HG3.out]
                          refine bodyPost_ret (results_two rfl _ _ g0 26 _ _ rfl (setRow_cells HG3.out _) (size26 _ _)) rfl ?_
                          refine tksPost_of HF.out rfl rfl ?_
                          rw [← HGE.out]
                          exact Tks.setRow HW1.out (Tks.nil HB.out) _
                    · obtain ⟨m, hm⟩ : ∃ m, m = span isD (l.drop k) := ⟨_, rfl⟩
                      have he : k + span isD (l.drop k) = j := span_at hj1 hj2 hn.out (fun h => absurd h hjlt)
                      rw [← hm] at he hm0 hspl HTOK
                      subst he
                      clear hm
                      have hmle : k + m ≤ l.length := by omega
                      have hx := mid_ext (l := l) (k := k) (n := m)
                      have hne : (((k : Int) + (m : Int)) == (k : Int)) = false := by rw [beq_eq_false_iff_ne]; omega
                      by_cases h6 : m ≤ 6
                      · have h6' : decide ((6 : Int) < (k : Int) + (m : Int) - (k : Int)) = false := decide_eq_false (by omega)
                        have h6a : ¬ (6 : Int) < (k : Int) + (m : Int) - (k : Int) := by omega
                        rw [if_pos h6] at HTOK
                        have HA := Lib.hid (HAt.out.token HS.out hlt (HTOK.out) hm0)
                        go_wp2_with (first | (at_builtin; refine Tks.app HT ⟨1, (l.drop k).take (m), k⟩ (by omega) (Below.refl _ _) rfl rfl _ _ rfl rfl rfl ?_; intro a4 c4 w4 HT4) | fail)
                        go_roundw
                        case rel => exact ⟨k + (m), T ++ [⟨1, (l.drop k).take (m), k⟩], a4, c4, hmle, by go_num, by simp, by simpa using HT4, HA⟩
                        case measure => simp [Lib.intOf]; omega
                      · have h6' : decide ((6 : Int) < (k : Int) + (m : Int) - (k : Int)) = true := decide_eq_true (by omega)
                        have h6a : (6 : Int) < (k : Int) + (m : Int) - (k : Int) := by omega
                        rw [if_neg h6] at HTOK
                        have HF := Lib.hid (lexR_bad HN.out (HAt.out.bad HS.out hlt (by rw [HTOK.out])))
                        have hg2 : wr.heap[g0]? = some (.cells #[.int .i64 0, .int .i64 0] 26 (0, 0)) := by rw [HB.out.block g0 hlt0]; exact HG0.out
                        obtain ⟨c0, c1, f0, f1, c2, f2⟩ := res_cells hg2 (.int .i64 10)
                        have HG3 := Lib.hid hg2; clear hg2
                        go_wp2
                        (try simp only [Exit.inBlock, Exit.then])
                        rw [set2_eq HG3.out]
                        refine bodyPost_ret (results_two rfl _ _ g0 26 _ _ rfl (setRow_cells HG3.out _) (size26 _ _)) rfl ?_
                        refine tksPost_of HF.out rfl rfl ?_
                        rw [← HGE.out]
                        exact Tks.setRow HW1.out (Tks.nil HB.out) _
                | false =>
                  rw [hcD] at HDIG2
                  have HH2 := Lib.hid (fun w => HHAS.out [123, 125, 91, 93, 40, 41, 59, 61, 60, 43, 45, 42, 47, 37, 33] (by decide) l[k] w)
                  rw [show List.contains [123, 125, 91, 93, 40, 41, 59, 61, 60, 43, 45, 42, 47, 37, 33] l[k] = isS l[k] from rfl] at HH2
                  have htk := tok_sign (HL.out.trans hcL) (HD.out.trans hcD)
                  have hsg : sgn (l.drop k) = if isS l[k] then 1 else 0 := by
                    have h2 := HTW.out
                    rw [HDR.out] at h2 ⊢
                    exact sgn_one h2
                  rw [hsg] at htk
                  clear hsg hcB hcL hcD
                  cases hcS : isS l[k] with
                  | true =>
                    rw [hcS] at HH2
                    rw [hcS, if_pos rfl] at htk
                    have HTOK := Lib.hid htk
                    clear htk
                    have hm0 : 0 < 1 := by decide
                    have hmle : k + 1 ≤ l.length := by omega
                    have hx := mid_ext (l := l) (k := k) (n := 1)
                    have hne : ((k : Int) + 1 == (k : Int)) = false := by rw [beq_eq_false_iff_ne]; omega
                    clear hcS
                    go_wp2_with fail
                    refine (HH1.out _).mono ?_
                    rintro e w2 ⟨rfl, hw2⟩
                    subst hw2
                    go_wp2_with fail
                    refine (HX.out _).mono ?_
                    rintro e w2 ⟨rfl, hw2⟩
                    subst hw2
                    go_wp2_with fail
                    refine (HX.out _).mono ?_
                    rintro e w2 ⟨rfl, hw2⟩
                    subst hw2
                    go_wp2_with fail
                    refine (HX.out _).mono ?_
                    rintro e w2 ⟨rfl, hw2⟩
                    subst hw2
                    go_wp2_with fail
                    refine (HX.out _).mono ?_
                    rintro e w2 ⟨rfl, hw2⟩
                    subst hw2
                    go_wp2_with fail
                    refine (HLET2.out _).mono ?_
                    rintro e w2 ⟨rfl, hw2⟩
                    subst hw2
                    go_wp2_with fail
                    refine (HDIG2.out _).mono ?_
                    rintro e w2 ⟨rfl, hw2⟩
                    subst hw2
                    go_wp2_with fail
                    refine (HH2.out _).mono ?_
                    rintro e w2 ⟨rfl, hw2⟩
                    subst hw2
                    have HA := Lib.hid (HAt.out.token HS.out hlt (HTOK.out) hm0)
                    go_wp2_with (first | (at_builtin; refine Tks.app HT ⟨2, (l.drop k).take (1), k⟩ (by omega) (Below.refl _ _) rfl rfl _ _ rfl rfl rfl ?_; intro a4 c4 w4 HT4) | fail)
                    go_roundw
                    case rel => exact ⟨k + (1), T ++ [⟨2, (l.drop k).take (1), k⟩], a4, c4, hmle, by go_num, by simp, by simpa using HT4, HA⟩
                    case measure => simp [Lib.intOf]; omega
                  | false =>
                    rw [hcS] at HH2
                    rw [hcS, if_neg Bool.false_ne_true] at htk
                    have HTOK := Lib.hid htk
                    clear htk hcS
                    go_wp2_with fail
                    refine (HH1.out _).mono ?_
                    rintro e w2 ⟨rfl, hw2⟩
                    subst hw2
                    go_wp2_with fail
                    refine (HX.out _).mono ?_
                    rintro e w2 ⟨rfl, hw2⟩
                    subst hw2
                    go_wp2_with fail
                    refine (HX.out _).mono ?_
                    rintro e w2 ⟨rfl, hw2⟩
                    subst hw2
                    go_wp2_with fail
                    refine (HX.out _).mono ?_
                    rintro e w2 ⟨rfl, hw2⟩
                    subst hw2
                    go_wp2_with fail
                    refine (HX.out _).mono ?_
                    rintro e w2 ⟨rfl, hw2⟩
                    subst hw2
                    go_wp2_with fail
                    refine (HLET2.out _).mono ?_
                    rintro e w2 ⟨rfl, hw2⟩
                    subst hw2
                    go_wp2_with fail
                    refine (HDIG2.out _).mono ?_
                    rintro e w2 ⟨rfl, hw2⟩
                    subst hw2
                    go_wp2_with fail
                    refine (HH2.out _).mono ?_
                    rintro e w2 ⟨rfl, hw2⟩
                    subst hw2
                    have HF := Lib.hid (lexR_bad HN.out (HAt.out.bad HS.out hlt (by rw [HTOK.out])))
                    have hg2 : wr.heap[g0]? = some (.cells #[.int .i64 0, .int .i64 0] 26 (0, 0)) := by rw [HB.out.block g0 hlt0]; exact HG0.out
                    obtain ⟨c0, c1, f0, f1, c2, f2⟩ := res_cells hg2 (.int .i64 10)
                    have HG3 := Lib.hid hg2; clear hg2
                    go_wp2
                    (try simp only [Exit.inBlock, Exit.then])
                    rw [set2_eq HG3.out]
                    refine bodyPost_ret (results_two rfl _ _ g0 26 _ _ rfl (setRow_cells HG3.out _) (size26 _ _)) rfl ?_
                    refine tksPost_of HF.out rfl rfl ?_
                    rw [← HGE.out]
                    exact Tks.setRow HW1.out (Tks.nil HB.out) _
      · have HF := Lib.hid (lexR_good HN.out (HAt.out.done (by omega)))
        go_wp2_with (first | (at_builtin; refine Tks.app HT ⟨3, [], l.length⟩ (by omega) (Below.refl _ _) rfl rfl _ _ rfl rfl rfl ?_; intro a4 c4 w4 HT4; have hg4 : w4.heap[g0]? = some (.cells #[.int .i64 0, .int .i64 0] 26 (0, 0)) := by { rw [HT4.out.bel.block g0 hlt0]; exact HG0.out }; obtain ⟨c0, c1, f0, f1, c2, f2⟩ := res_cells hg4 (.int .i64 0); have HG4 := Lib.hid hg4; clear hg4) | fail)
        (try simp only [Exit.inBlock, Exit.then])
        rw [set2_eq HG4.out]
        refine bodyPost_ret (results_two rfl _ _ g0 26 _ _ rfl (setRow_cells HG4.out _) (size26 _ _)) rfl ?_
        refine tksPost_of HF.out rfl rfl ?_
        rw [← HGE.out]
        exact Tks.setRow HW1.out HT4.out _
end Go.Proofs.YtgikihbnafadjaaDoor
