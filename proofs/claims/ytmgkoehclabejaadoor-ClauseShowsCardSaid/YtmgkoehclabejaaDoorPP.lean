/- Contract: Parse (the answers'). -/
import Derived.Test.YtmgkoehclabejaaDoorPO
import Derived.Test.YtmgkoehclabejaaDoorN
namespace Go.Proofs.YtmgkoehclabejaaDoor
open Go Go.RowKit Go.Lib

theorem numR_bd {l : Wd} {x : Int} (h : numR l = some x) : -999999 ≤ x ∧ x ≤ 999999 := by
  unfold numR at h
  split at h
  · split at h
    · rename_i y hy
      have := numB_some hy
      split at h
      · simp only [Option.some.injEq] at h; omega
      · cases h
    · cases h
  · have := numB_some h; omega
theorem numB_of_none {l : Wd} (h : numR l = none) : numB l = none := by rw [head_alike, h]
theorem numB_of_neg {l : Wd} {x : Int} (h : numR l = some x) (hx : x < 0) : numB l = none := by rw [head_alike, h]; dsimp only; rw [if_pos hx]
theorem numB_of_pos {l : Wd} {x : Int} (h : numR l = some x) (hx : ¬ x < 0) : numB l = some x := by rw [head_alike, h]; dsimp only; rw [if_neg hx]
theorem litB_none {v : Int} (hv : 0 ≤ v) {u : Wd} (h : numR u = none) : litB v u = none := by rw [lit_alike hv]; unfold litB'; rw [h]
theorem litB_zero' {v : Int} (hv : 0 ≤ v) {u : Wd} (h : numR u = some 0) : litB v u = some 0 := by rw [lit_alike hv]; unfold litB'; rw [h]; dsimp only; rw [if_neg (by omega)]
theorem litB_not {v x : Int} (hv : 0 ≤ v) {u : Wd} (h : numR u = some x) (h0 : x ≠ 0) (hl : lit x = false) : litB v u = none := by
  have := lit_not.1 hl
  rw [lit_alike hv]; unfold litB'; rw [h]; dsimp only; rw [if_pos ⟨h0, .inl (by omega)⟩]
theorem litB_far {v x : Int} (hv : 0 ≤ v) {u : Wd} (h : numR u = some x) (h0 : x ≠ 0) (hg : v < av x) : litB v u = none := by
  rw [lit_alike hv]; unfold litB'; rw [h]; dsimp only; rw [if_pos ⟨h0, .inr hg⟩]
theorem litB_is {v x : Int} (hv : 0 ≤ v) {u : Wd} (h : numR u = some x) (h0 : x ≠ 0) (hl : lit x = true) (hg : ¬ v < av x) : litB v u = some x := by
  have := lit_iff.1 hl
  rw [lit_alike hv]; unfold litB'; rw [h]; dsimp only
  rw [if_neg]
  rintro ⟨_, h | h⟩
  · omega
  · exact hg h

theorem headR_none1 {x y z t : Wd} {L : List Wd} (h : x = [112] ∧ y = [99, 110, 102]) (hz : numB z = none) : headB (x :: y :: z :: t :: L) = none := by rw [headB_good h, hz]; rfl
theorem headR_none2 {x y z t : Wd} {L : List Wd} (h : x = [112] ∧ y = [99, 110, 102]) (hz : numB t = none) : headB (x :: y :: z :: t :: L) = none := by rw [headB_good h, hz]; cases numB z <;> rfl
theorem headR_some {x y z t : Wd} {L : List Wd} {a b : Int} (h : x = [112] ∧ y = [99, 110, 102]) (hz : numB z = some a) (ht : numB t = some b) : headB (x :: y :: z :: t :: L) = some (a, b) := by rw [headB_good h, hz, ht]; rfl

set_option maxRecDepth 100000 in
set_option maxHeartbeats 8000000 in
theorem refParse_any (l : List UInt8) (hl : l.length ≤ 100000) (w : World) : Calls Tryd.prog 24 #[.string (bs l)] w (ParsePost l w) := by
  obtain ⟨i0, hi, hz0, hz1, hz2⟩ := info_parts info3
  obtain ⟨i1, hj, hy0, hy1, hy2⟩ := info_parts info22
  have hw : Calls Tryd.prog 52 #[.string (bs l)] w fun e w' => ∃ a c, e = .returned (.slice a (wordsL l).length c) ∧ Strs w' a (wordsL l) ∧ (4 ≤ (wordsL l).length → ∃ g, a = some ⟨g, 0, none⟩ ∧ (wordsL l).length ≤ c) ∧ Below w.heap.size w w' := by
    refine (refWords_core l hl w).mono ?_
    rintro e w' ⟨v, rfl, hown, hb⟩
    obtain ⟨a, c, rfl⟩ := own_shape hown
    obtain ⟨h1, h2, h3⟩ := strs_of_own hown
    exact ⟨a, c, rfl, h1, fun h4 => h3.elim (fun h => by omega) id, hb⟩
  have hmem : ∀ u ∈ wordsL l, u.length ≤ 1000000 := fun u hu => by have := wordsL_mem hu; omega
  have hcnt := wordsL_len l
  have hsz := bs_size l
  have hno : ∀ w', parseB l = none → Below w.heap.size w w' → ParsePost l w (.returned (.tuple #[.slice none 0 0, .int .i64 11])) w' := fun w' h hb => ⟨.inl ⟨h, rfl⟩, hb⟩
  have HNO := Lib.hid hno; clear hno
  have HW := Lib.hid hw; clear hw
  have hhd : headB (wordsL l) = none → parseB l = none := parseB_nohead
  have hnb : ∀ v n, headB (wordsL l) = some (v, n) → bodyB v ((wordsL l).drop 4) = none → parseB l = none := fun v n => parseB_nobody
  have hod : ∀ v n out now, headB (wordsL l) = some (v, n) → bodyB v ((wordsL l).drop 4) = some ⟨out, now⟩ → ¬ (now = [] ∧ (out.length : Int) = n) → parseB l = none := fun v n out now => parseB_odd
  have hev : ∀ v n out now, headB (wordsL l) = some (v, n) → bodyB v ((wordsL l).drop 4) = some ⟨out, now⟩ → (now = [] ∧ (out.length : Int) = n) → parseB l = some out := fun v n out now => parseB_even
  have HHD := Lib.hid hhd
  have HNB := Lib.hid hnb
  have HOD := Lib.hid hod
  have HEV := Lib.hid hev
  clear hhd hnb hod hev
  go_enter Tryd.func24, Tryd.ntmps24
  go_wp2_with fail
  refine HW.out.mono ?_
  rintro e w1 ⟨a, c, rfl, hstr, hfour, hb1⟩
  clear HW
  have hbl : bodyB = bodyB := rfl
  generalize hL : wordsL l = L at *
  match L, hmem, hcnt, hstr, hfour, HHD, HNB, HOD, HEV with
  | [], hmem, hcnt, hstr, hfour, HHD, HNB, HOD, HEV =>
    have HP := Lib.hid (HNO.out w1 (HHD.out rfl) hb1)
    go_wp2
    go_ret2
    exact HP.out
  | [_], hmem, hcnt, hstr, hfour, HHD, HNB, HOD, HEV =>
    have HP := Lib.hid (HNO.out w1 (HHD.out rfl) hb1)
    go_wp2
    go_ret2
    exact HP.out
  | [_, _], hmem, hcnt, hstr, hfour, HHD, HNB, HOD, HEV =>
    have HP := Lib.hid (HNO.out w1 (HHD.out rfl) hb1)
    go_wp2
    go_ret2
    exact HP.out
  | [_, _, _], hmem, hcnt, hstr, hfour, HHD, HNB, HOD, HEV =>
    have HP := Lib.hid (HNO.out w1 (HHD.out rfl) hb1)
    go_wp2
    go_ret2
    exact HP.out
  | x :: y :: z :: t :: K, hmem, hcnt, hstr, hfour, HHD, HNB, HOD, HEV =>
    obtain ⟨g, rfl, hcap⟩ := hfour (by simp)
    have hcells : ∀ j u, (x :: y :: z :: t :: K)[j]? = some u → w1.cell? ⟨g, 0 + j, none⟩ = some (.string (bs u)) := by
      rcases hstr with h | ⟨b, off, e, hlt, hc⟩
      · cases h
      · cases e; exact hc
    have hgl : g < w1.heap.size := by
      rcases hstr with h | ⟨b, off, e, hlt, hc⟩
      · cases h
      · cases e; exact hlt
    have c0 : w1.cell? ⟨g, 0, none⟩ = some (.string (bs x)) := hcells 0 x rfl
    have c1 : w1.cell? ⟨g, 1, none⟩ = some (.string (bs y)) := hcells 1 y rfl
    have c2 : w1.cell? ⟨g, 2, none⟩ = some (.string (bs z)) := hcells 2 z rfl
    have c3 : w1.cell? ⟨g, 3, none⟩ = some (.string (bs t)) := hcells 3 t rfl
    have hnz := fun w => refNumber_any z (hmem z (by simp)) w
    have hnt := fun w => refNumber_any t (hmem t (by simp)) w
    have hlenK : (x :: y :: z :: t :: K).length = K.length + 4 := by simp
    rw [hlenK] at hcnt hcap ⊢
    have ex := bs_eq x [112]
    have ey := bs_eq y [99, 110, 102]
    have hK : (x :: y :: z :: t :: K).drop 4 = K := rfl
    rw [hK] at HNB HOD HEV
    have hKm : ∀ u ∈ K, u.length ≤ 1000000 := fun u hu => hmem u (by simp [hu])
    have hKc : ∀ j u, K[j]? = some u → w1.cell? ⟨g, j + 4, none⟩ = some (.string (bs u)) := fun j u h => by
      have := hcells (j + 4) u (by simpa using h)
      rwa [Nat.zero_add] at this
    clear hcells hstr hfour hK hlenK hmem
    generalize hn : K.length + 4 = n at *
    have hn4 : 4 ≤ n := by omega
    have HNZ0 := Lib.hid hnz
    have HNT0 := Lib.hid hnt
    clear hnz hnt
    by_cases hx : x = [112]
    · rw [decide_eq_true hx] at ex
      by_cases hy : y = [99, 110, 102]
      · rw [decide_eq_true hy] at ey
        cases hz : numR z with
        | none =>
          have HP := Lib.hid (HNO.out w1 (HHD.out (headR_none1 ⟨hx, hy⟩ (numB_of_none hz))) hb1)
          have hnz : ∀ w, Calls Tryd.prog 53 #[.string (bs z)] w fun e w' => e = .returned (.tuple #[.int .i64 0, .bool false]) ∧ w' = w := fun w => by
            have := HNZ0.out w; rw [hz] at this; exact this
          have hnt : ∀ w, Calls Tryd.prog 53 #[.string (bs t)] w fun e w' => e = .returned (.tuple #[.int .i64 ((numR t).getD 0), .bool (numR t).isSome]) ∧ w' = w := HNT0.out
          generalize (numR t).getD 0 = p at hnt
          generalize (numR t).isSome = ok at hnt
          have HNZ := Lib.hid hnz
          have HNT := Lib.hid hnt
          clear hnz hnt HNZ0 HNT0 hz hx hy hKc hKm hL
          cases ok
          · go_wp2_with fail
            refine (HNZ.out _).mono ?_
            rintro e w' ⟨rfl, hw'⟩
            replace hw' := hw'.symm
            subst hw'
            go_wp2_with fail
            refine (HNT.out _).mono ?_
            rintro e w' ⟨rfl, hw'⟩
            replace hw' := hw'.symm
            subst hw'
            go_wp2
            go_ret2
            exact HP.out
          · go_wp2_with fail
            refine (HNZ.out _).mono ?_
            rintro e w' ⟨rfl, hw'⟩
            replace hw' := hw'.symm
            subst hw'
            go_wp2_with fail
            refine (HNT.out _).mono ?_
            rintro e w' ⟨rfl, hw'⟩
            replace hw' := hw'.symm
            subst hw'
            go_wp2
            go_ret2
            exact HP.out
        | some a =>
          have hnz : ∀ w, Calls Tryd.prog 53 #[.string (bs z)] w fun e w' => e = .returned (.tuple #[.int .i64 a, .bool true]) ∧ w' = w := fun w => by
            have := HNZ0.out w; rw [hz] at this; exact this
          have HNZ := Lib.hid hnz
          clear hnz HNZ0
          cases ht : numR t with
          | none =>
            have HP := Lib.hid (HNO.out w1 (HHD.out (headR_none2 ⟨hx, hy⟩ (numB_of_none ht))) hb1)
            have hnt : ∀ w, Calls Tryd.prog 53 #[.string (bs t)] w fun e w' => e = .returned (.tuple #[.int .i64 0, .bool false]) ∧ w' = w := fun w => by
              have := HNT0.out w; rw [ht] at this; exact this
            have HNT := Lib.hid hnt
            clear hnt HNT0 hz ht hx hy hKc hKm hL
            go_wp2_with fail
            refine (HNZ.out _).mono ?_
            rintro e w' ⟨rfl, hw'⟩
            replace hw' := hw'.symm
            subst hw'
            go_wp2_with fail
            refine (HNT.out _).mono ?_
            rintro e w' ⟨rfl, hw'⟩
            replace hw' := hw'.symm
            subst hw'
            go_wp2
            go_ret2
            exact HP.out
          | some b =>
            have hnt : ∀ w, Calls Tryd.prog 53 #[.string (bs t)] w fun e w' => e = .returned (.tuple #[.int .i64 b, .bool true]) ∧ w' = w := fun w => by
              have := HNT0.out w; rw [ht] at this; exact this
            have HNT := Lib.hid hnt
            clear hnt HNT0
            by_cases ha2 : a < 0
            · have HP := Lib.hid (HNO.out w1 (HHD.out (headR_none1 ⟨hx, hy⟩ (numB_of_neg hz ha2))) hb1)
              clear hz ht hx hy hKc hKm hL
              go_wp2_with fail
              refine (HNZ.out _).mono ?_
              rintro e w' ⟨rfl, hw'⟩
              replace hw' := hw'.symm
              subst hw'
              go_wp2_with fail
              refine (HNT.out _).mono ?_
              rintro e w' ⟨rfl, hw'⟩
              replace hw' := hw'.symm
              subst hw'
              go_wp2
              go_ret2
              exact HP.out
            · by_cases hb3 : b < 0
              · have HP := Lib.hid (HNO.out w1 (HHD.out (headR_none2 ⟨hx, hy⟩ (numB_of_neg ht hb3))) hb1)
                clear hz ht hx hy hKc hKm hL
                go_wp2_with fail
                refine (HNZ.out _).mono ?_
                rintro e w' ⟨rfl, hw'⟩
                replace hw' := hw'.symm
                subst hw'
                go_wp2_with fail
                refine (HNT.out _).mono ?_
                rintro e w' ⟨rfl, hw'⟩
                replace hw' := hw'.symm
                subst hw'
                go_wp2
                go_ret2
                exact HP.out
              · have hzb := numB_of_pos hz ha2
                have htb := numB_of_pos ht hb3
                have hhead := headR_some (z := z) (t := t) (L := K) ⟨hx, hy⟩ hzb htb
                have HHEAD := Lib.hid hhead
                have hab : 0 ≤ a ∧ a ≤ 999999 := by have := numR_bd hz; omega
                have hbb : 0 ≤ b ∧ b ≤ 999999 := by have := numR_bd ht; omega
                obtain ⟨ha0, ha1⟩ := hab
                obtain ⟨hb0, hb2⟩ := hbb
                have HKC := Lib.hid hKc
                have HKM := Lib.hid hKm
                have HB1 := Lib.hid hb1
                clear hzb htb hz ht hKc hKm hx hy hb1 hL hhead ha2 hb3
                go_wp2_with fail
                refine (HNZ.out _).mono ?_
                rintro e w' ⟨rfl, hw'⟩
                replace hw' := hw'.symm
                subst hw'
                go_wp2_with fail
                refine (HNT.out _).mono ?_
                rintro e w' ⟨rfl, hw'⟩
                replace hw' := hw'.symm
                subst hw'
                go_wp2
                go_loopw [9, 10, 11, 12, 13] (fun s9 s10 i _ _ wr => ∃ (m : Nat) (out : List (List Int)) (now : List Int) (vals : List Value) (Bc : Nat), 4 ≤ m ∧ m ≤ n ∧ i = .int .i64 m ∧ Hid (bodyB a (K.take (m - 4)) = some ⟨out, now⟩) ∧ Hid (Reading w1.heap.size wr s9 vals out s10 Bc now) ∧ Hid (Below w.heap.size w wr) ∧ Hid (Below w1.heap.size w1 wr))
                  (fun _ _ i _ _ _ => n - (intOf i).toNat)
                case atStart => exact ⟨4, [], [], [], _, Nat.le_refl _, hn4, rfl, Lib.hid rfl, Lib.hid (Reading.start w1), HB1, Lib.hid (Below.refl _ _)⟩
                case round =>
                  obtain ⟨m, out, now, vals, Bc, hm4, hmn, rfl, HBD, HR, HWW, HW1⟩ := hrel
                  obtain ⟨a6, c6, rfl⟩ := own_shape HR.out.rows
                  obtain ⟨a7, c7, rfl⟩ := own_shape HR.out.cur
                  have hlens : out.length + now.length ≤ m := by
                    have := bodyB_lens a (K.take (m - 4)) ⟨[], []⟩ _ HBD.out
                    simp at this; omega
                  have hs0 : w.heap.size ≤ wr.heap.size := HWW.out.size
                  have hs1 : w1.heap.size ≤ wr.heap.size := HW1.out.size
                  have hbs := HR.out.base
                  have hbz := HR.out.size
                  have hww1 : w.heap.size ≤ w1.heap.size := HB1.out.size
                  by_cases hlt2 : m < n
                  · have hkl : m - 4 < K.length := by omega
                    have hu := List.getElem?_eq_getElem hkl
                    have hul := HKM.out _ (List.getElem_mem hkl)
                    have hcell : wr.cell? ⟨g, m, none⟩ = some (.string (bs K[m - 4])) := by
                      have := HKC.out _ _ hu
                      rw [Nat.sub_add_cancel hm4] at this
                      rw [← this]; exact HW1.out.cell (p := ⟨g, m, none⟩) hgl
                    have htk := take_snoc hu
                    have hstep : bodyB a (K.take (m + 1 - 4)) = bstep a (some ⟨out, now⟩) K[m - 4] := by rw [show m + 1 - 4 = (m - 4) + 1 by omega, htk, bodyB_snoc, HBD.out]
                    have hstop : bodyB a (K.take (m + 1 - 4)) = none → bodyB a K = none := fun h => by
                      rw [← List.take_append_drop (m + 1 - 4) K]; exact bodyB_stop h
                    have hsg := fun w => refNumber_any K[m - 4] hul w
                    have hlt3 : (m : Int) < (n : Int) := by omega
                    generalize K[m - 4] = u at *
                    clear hu hul htk hkl
                    cases hxx : numR u with
                    | none =>
                      have hnone := HNB.out a b HHEAD.out (hstop (by rw [hstep]; exact bstep_bad (litB_none ha0 hxx)))
                      have HN := Lib.hid (HNO.out wr hnone HWW.out)
                      have hsg' : ∀ w, Calls Tryd.prog 53 #[.string (bs u)] w fun e w' => e = .returned (.tuple #[.int .i64 0, .bool false]) ∧ w' = w := fun w => by
                        have := hsg w; rw [hxx] at this; exact this
                      have HG := Lib.hid hsg'
                      clear hsg hsg' hxx hnone hstop hstep
                      go_wp2_with fail
                      refine (HG.out _).mono ?_
                      rintro e w' ⟨rfl, hw'⟩
                      replace hw' := hw'.symm
                      subst hw'
                      go_wp2
                      go_ret2
                      exact HN.out
                    | some xx =>
                      have hxb := numR_bd hxx
                      obtain ⟨hxb0, hxb1⟩ := hxb
                      have hsg' : ∀ w, Calls Tryd.prog 53 #[.string (bs u)] w fun e w' => e = .returned (.tuple #[.int .i64 xx, .bool true]) ∧ w' = w := fun w => by
                        have := hsg w; rw [hxx] at this; exact this
                      have HG := Lib.hid hsg'
                      clear hsg hsg'
                      by_cases h0 : xx = 0
                      · have hnext : bodyB a (K.take (m + 1 - 4)) = some ⟨out ++ [now], []⟩ := by rw [hstep]; exact bstep_end (litB_zero' ha0 (by rw [hxx, h0]))
                        have HNX := Lib.hid hnext
                        clear hnext hstep hstop hxx hxb0 hxb1
                        subst h0
                        have HRA := Lib.hid (fun o => HR.out.below ((Below.refl wr.heap.size wr).alloc (Nat.le_refl _) o))
                        go_wp2_with fail
                        refine (HG.out _).mono ?_
                        rintro e w' ⟨rfl, hw'⟩
                        replace hw' := hw'.symm
                        subst hw'
                        go_wp2_with (first | (at_builtin; refine wpList_append_own _ rfl (.tmp 95) (.tmp 97) 30 rfl w1.heap.size 22 i1 (.slice none 0 0) 1 24 Tryd.underlying30 hj hy0 hy1 hy2 rfl (by decide) _ _ _ rfl (HRA.out _).rows ⟨wr.heap.size, 0, none⟩ 1 1 [.slice a7 now.length c7] rfl rfl ?c1 ?c2 ?c3 ?c4 ?c5 ?_) | fail)
                        case c1 => exact one_cell _ _ _
                        case c2 => intro u hu; simp at hu; subst hu; rfl
                        case c3 => unfold maxLen; omega
                        case c4 => omega
                        case c5 => simp; omega
                        intro v' w2 hown hgrow _
                        have HRN := Lib.hid ((HRA.out _).clause hown hgrow)
                        have HWN := Lib.hid ((HWW.out.alloc hs0 _).grown hgrow (by simp; omega) (fun q hq => by have := ((HRA.out (.cells #[.slice a7 now.length c7] 22)).rows.lt q hq).1; omega))
                        have HW1N := Lib.hid ((HW1.out.alloc hs1 _).grown hgrow (by simp; omega) (fun q hq => by have := ((HRA.out (.cells #[.slice a7 now.length c7] 22)).rows.lt q hq).1; omega))
                        clear HR HWW HW1 HRA hown hgrow
                        go_wp2
                        go_roundw
                        case rel => exact ⟨m + 1, _, _, _, _, by omega, by omega, by go_num, HNX, HRN, HWN, HW1N⟩
                        case measure => simp [intOf] <;> omega
                      · have h0b : (xx == 0) = false := by simpa using h0
                        have h0c : (xx != 0) = true := by simpa using h0
                        have hli := fun w => refLiteral_any xx w
                        cases hlx : lit xx with
                        | false =>
                          rw [hlx] at hli
                          have HL := Lib.hid hli
                          have hnone := HNB.out a b HHEAD.out (hstop (by rw [hstep]; exact bstep_bad (litB_not ha0 hxx h0 hlx)))
                          have HN := Lib.hid (HNO.out wr hnone HWW.out)
                          clear hli hnone hstop hstep hxx hlx h0
                          go_wp2_with fail
                          refine (HG.out _).mono ?_
                          rintro e w' ⟨rfl, hw'⟩
                          replace hw' := hw'.symm
                          subst hw'
                          go_wp2_with fail
                          refine (HL.out _).mono ?_
                          rintro e w' ⟨rfl, rfl⟩
                          go_wp2
                          go_ret2
                          exact HN.out
                        | true =>
                          rw [hlx] at hli
                          have HL := Lib.hid hli
                          have hlb := lit_iff.1 hlx
                          have hva := fun w => abs_any xx hlb.2.1 hlb.2.2 w
                          have HV := Lib.hid hva
                          clear hli hva hlb
                          by_cases hg : a < av xx
                          · have hnone := HNB.out a b HHEAD.out (hstop (by rw [hstep]; exact bstep_bad (litB_far ha0 hxx h0 hg)))
                            have HN := Lib.hid (HNO.out wr hnone HWW.out)
                            clear hnone hstop hstep hxx hlx h0
                            generalize av xx = y at *
                            go_wp2_with fail
                            refine (HG.out _).mono ?_
                            rintro e w' ⟨rfl, hw'⟩
                            replace hw' := hw'.symm
                            subst hw'
                            go_wp2_with fail
                            refine (HL.out _).mono ?_
                            rintro e w' ⟨rfl, rfl⟩
                            go_wp2_with fail
                            refine (HV.out _).mono ?_
                            rintro e w' ⟨rfl, rfl⟩
                            go_wp2
                            go_ret2
                            exact HN.out
                          · have hnext : bodyB a (K.take (m + 1 - 4)) = some ⟨out, now ++ [xx]⟩ := by rw [hstep]; exact bstep_lit (litB_is ha0 hxx h0 hlx hg) h0
                            have HNX := Lib.hid hnext
                            clear hnext hstep hstop hxx hlx h0
                            generalize av xx = y at *
                            have HRA := Lib.hid (fun o => HR.out.below ((Below.refl wr.heap.size wr).alloc (Nat.le_refl _) o))
                            go_wp2_with fail
                            refine (HG.out _).mono ?_
                            rintro e w' ⟨rfl, hw'⟩
                            replace hw' := hw'.symm
                            subst hw'
                            go_wp2_with fail
                            refine (HL.out _).mono ?_
                            rintro e w' ⟨rfl, rfl⟩
                            go_wp2_with fail
                            refine (HV.out _).mono ?_
                            rintro e w' ⟨rfl, rfl⟩
                            go_wp2_with (first | (at_builtin; refine wpList_append_own _ rfl (.tmp 99) (.tmp 101) 22 rfl Bc 3 i0 (.int .i64 0) 1 8 Tryd.underlying22 hi hz0 hz1 hz2 rfl (by decide) _ _ _ rfl (HRA.out _).cur ⟨wr.heap.size, 0, none⟩ 1 1 [.int .i64 xx] rfl rfl ?c1 ?c2 ?c3 ?c4 ?c5 ?_) | fail)
                            case c1 => exact one_cell _ _ _
                            case c2 => intro u hu; simp at hu; subst hu; rfl
                            case c3 => unfold maxLen; omega
                            case c4 => omega
                            case c5 => simp; omega
                            intro v' w2 hown hgrow _
                            have HRN := Lib.hid ((HRA.out _).lit hown hgrow)
                            have HWN := Lib.hid ((HWW.out.alloc hs0 _).grown hgrow (by simp; omega) (fun q hq => by have := ((HRA.out (.cells #[.int .i64 xx] 3)).cur.lt q hq).1; omega))
                            have HW1N := Lib.hid ((HW1.out.alloc hs1 _).grown hgrow (by simp; omega) (fun q hq => by have := ((HRA.out (.cells #[.int .i64 xx] 3)).cur.lt q hq).1; omega))
                            clear HR HWW HW1 HRA hown hgrow
                            go_wp2
                            go_roundw
                            case rel => exact ⟨m + 1, _, _, _, _, by omega, by omega, by go_num, HNX, HRN, HWN, HW1N⟩
                            case measure => simp [intOf] <;> omega
                  · obtain rfl : m = n := by omega
                    have hall := HBD.out
                    rw [List.take_of_length_le (by omega)] at hall
                    have hhead := HHEAD.out
                    clear hlt2
                    have HA := Lib.hid HBD.out
                    obtain ⟨hrws, hrl⟩ := HR.out.rws rfl
                    have hol : out.length ≤ 100000 := by omega
                    by_cases hnow : now.length = 0
                    · by_cases hq : (out.length : Int) = b
                      · have HP := Lib.hid (show ParsePost l w (.returned (.tuple #[.slice a6 out.length c6, .int .i64 0])) wr from ⟨.inr ⟨out, a6, c6, _, HEV.out a b out now hhead hall ⟨List.length_eq_zero_iff.1 hnow, hq⟩, rfl, hrws, hrl⟩, HWW.out⟩)
                        have hqb : ((out.length : Int) != b) = false := by simpa using hq
                        clear hrws hrl HR HBD HA hall hq
                        generalize out.length = q at *
                        generalize now.length = q2 at *
                        subst hnow
                        go_wp2
                        go_ret2
                        exact HP.out
                      · have HP := Lib.hid (HNO.out wr (HOD.out a b out now hhead hall (fun h => hq h.2)) HWW.out)
                        have hqb : ((out.length : Int) != b) = true := by simpa using hq
                        clear hrws hrl HR HBD HA hall hq
                        generalize out.length = q at *
                        generalize now.length = q2 at *
                        subst hnow
                        go_wp2
                        go_ret2
                        exact HP.out
                    · have HP := Lib.hid (HNO.out wr (HOD.out a b out now hhead hall (fun h => hnow (by rw [h.1]; rfl))) HWW.out)
                      have hpos : (0 : Int) < (now.length : Int) := by omega
                      clear hrws hrl HR HBD HA hall
                      generalize out.length = q at *
                      generalize now.length = q2 at *
                      go_wp2
                      go_ret2
                      exact HP.out
      · have HP := Lib.hid (HNO.out w1 (HHD.out (headB_bad (fun h => hy h.2))) hb1)
        rw [decide_eq_false hy] at ey
        clear hx hy hKc hKm hL
        go_wp2
        go_ret2
        exact HP.out
    · have HP := Lib.hid (HNO.out w1 (HHD.out (headB_bad (fun h => hx h.1))) hb1)
      rw [decide_eq_false hx] at ex
      clear hx ey hKc hKm hL
      go_wp2
      go_ret2
      exact HP.out
end Go.Proofs.YtmgkoehclabejaaDoor
