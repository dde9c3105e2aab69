/- Appends of tokens; the law LexRest. -/
import Derived.Test.YtgikihbnafadjaaDoorN
namespace Go.Proofs.YtgikihbnafadjaaDoor
open Go Go.RowKit Go.Lib Go.Maps

/-- An operation whose guard is met is as one with none. -/
theorem wpList_unguard {P : Program} {ops : Array Oper} {Q : Exit → Act → World → Prop} {rest : List Oper} {o : Oper} {a : Act} {w : World}
    (hw : Region.wanted o (yielded ops a.tmps) = true) (h : wpList P ops Q ({ o with guard := none } :: rest) a w) : wpList P ops Q (o :: rest) a w := by
  have h2 : Region.wanted { o with guard := none } (yielded ops a.tmps) = true := rfl
  simp only [wpList, hw, h2, if_true] at h ⊢
  exact h
theorem tkV_one (U : List Tk) {j : Nat} (h : j < U.length * 3) : (tkV U j).oneCell' = true := by
  unfold tkV
  rw [List.getElem?_eq_getElem (show j / 3 < U.length by omega)]
  simp only
  split
  · rfl
  · split <;> rfl
theorem tkV_cat {T U : List Tk} {j : Nat} : tkV (T ++ U) (T.length * 3 + j) = tkV U j := by
  unfold tkV
  rw [List.getElem?_append_right (by omega), show (T.length * 3 + j) / 3 - T.length = j / 3 by omega, show (T.length * 3 + j) % 3 = j % 3 by omega]
theorem tkV_left {T U : List Tk} {j : Nat} (h : j < T.length * 3) : tkV (T ++ U) j = tkV T j := by
  unfold tkV
  rw [List.getElem?_append_left (by omega)]
/-- append of tokens that lie elsewhere. -/
theorem Tks.appU {W w : World} {v : Value} {T U : List Tk} (h : Hid (Tks W w v T)) (hn : T.length ≤ 100000) (hm : U.length ≤ 100000) {g c m : Nat} (hUm : U.length = m) (hU : ∀ j, j < U.length * 3 → w.cell? ⟨g, j, none⟩ = some (tkV U j))
    {ops : Array Oper} {rest : List Oper} {o : Oper} {a : Act} {Q : Exit → Act → World → Prop} (hgd : o.guard = none) (p y : Operand)
    (ho : o.op = .call { callee := .builtin .append, args := #[p, y], argTypes := #[23, 23] }) (hs : a.eval p = v) (hy : a.eval y = .slice (some ⟨g, 0, none⟩) m c)
    (k : ∀ a' c' w', Hid (Tks W w' (.slice a' (T.length + m) c') (T ++ U) ∧ Fr (fun b => v.ownBlock = some b) w w') → wpList Tryd.prog ops Q rest (a.put o.dst (.slice a' (T.length + m) c')) w') :
    wpList Tryd.prog ops Q (o :: rest) a w := by
  subst hUm
  obtain ⟨i, hi, hz, hsz, hby⟩ := info_parts info35
  have hT := h.out
  refine wpList_append_own_at _ hgd p y 23 ho 0 35 i _ 3 32 Tryd.underlying23 hi hz hsz hby rfl (by decide) v T.length _ hs hT.own.owns ⟨g, 0, none⟩ U.length c (lst (tkV U) (U.length * 3)) hy (by simp [lst]) (fun j u hj => ?_) (fun u hu => ?_) (by unfold maxLen; omega) (by omega) (Nat.zero_le _) ?_
  · simp only [lst, List.getElem?_map] at hj
    by_cases hj3 : j < U.length * 3
    · rw [List.getElem?_range hj3] at hj
      simp only [Option.map_some, Option.some.injEq] at hj
      rw [adr, Nat.zero_add, hU j hj3, hj]
    · rw [List.getElem?_eq_none (by simp; omega)] at hj
      cases hj
  · simp only [lst, List.mem_map, List.mem_range] at hu
    obtain ⟨j, hj, rfl⟩ := hu
    exact tkV_one U hj
  · intro v' w' g1 g2 _ g3
    have hF : Sl w' 35 3 v' (T.length + U.length) (tkV (T ++ U)) := Sl.of_app g1 (fun j hj => tkV_left hj) (fun j hj => by rw [tkV_cat]; simp [lst, hj])
    obtain ⟨a', c', rfl, _⟩ := hF.shape
    have hf : Fr (fun b => v.ownBlock = some b) w w' := (Fr.refl _ _).grown g2 (fun k e _ => e)
    refine k a' c' w' (Lib.hid ⟨⟨by simpa using hF, hT.bel.trans (hf.below hT.bel.size fun b e => hT.new b e), fun b hb => ?_⟩, hf⟩)
    rcases g3 with e | e
    · rw [e] at hb; exact hT.new b hb
    · rw [e] at hb; cases hb
      exact hT.bel.size
/-- None that was made. -/
theorem Tks.made {W w : World} (hb : Below W.heap.size W w) : Tks W (w.alloc (.cells #[] 35)) (.slice (some ⟨w.heap.size, 0, none⟩) 0 0) [] := by
  refine ⟨.inr ⟨w.heap.size, 0, fun _ => .bool false, rfl, Nat.le_refl _, Nat.zero_le _, ?_, fun j hj => absurd hj (Nat.not_lt_zero _)⟩, hb.alloc hb.size _, fun b e => by cases e; exact hb.size⟩
  exact World.rowIs_alloc w #[] 35 _ (fun i hi => absurd hi (Nat.not_lt_zero _))
/-- All cells, to readers. -/
theorem Tks.cells {W w : World} {a : Option Addr} {n c : Nat} {T : List Tk} (h : Tks W w (.slice a n c) T) (h0 : 0 < T.length) : ∃ g, a = some ⟨g, 0, none⟩ ∧ g < w.heap.size ∧ ∀ j, j < T.length * 3 → w.cell? ⟨g, j, none⟩ = some (tkV T j) := by
  obtain ⟨g, c', e, _, _, hlt⟩ := h.own.pos h0
  cases e
  exact ⟨g, rfl, hlt, fun j hj => h.own.cell hj⟩
theorem lexR_ok {l : Wd} (h : (lexR l).2.1 = 0) : ∃ T, lexL 0 l = (T, none) ∧ lexR l = (T ++ [⟨3, [], l.length⟩], 0, 0) ∧ l.length ≤ 4000 := by
  by_cases h4 : 4000 < l.length
  · rw [lexR_big h4] at h; cases h
  · obtain ⟨T, o, e⟩ : ∃ T o, lexL 0 l = (T, o) := ⟨_, _, rfl⟩
    cases o with
    | some a => rw [lexR_bad h4 (by rw [e])] at h; cases h
    | none => exact ⟨T, e, lexR_good h4 e, by omega⟩
theorem lexR_cut {l : Wd} {T : List Tk} (h : lexL 0 l = (T, none)) (h4 : l.length ≤ 4000) {k : Nat} {t : Tk} (ht : T[k]? = some t) :
    t.a + t.s.length ≤ l.length ∧ lexR (l.take (t.a + t.s.length)) = (T.take (k + 1) ++ [⟨3, [], t.a + t.s.length⟩], 0, 0) := by
  have hb := lex_at 0 l T none h t (List.mem_of_getElem? ht)
  have hc := lex_cut 0 l T none h k t ht
  rw [Nat.sub_zero] at hc
  have hlen : (l.take (t.a + t.s.length)).length = t.a + t.s.length := by rw [List.length_take]; omega
  refine ⟨by omega, ?_⟩
  rw [lexR_good (by rw [hlen]; omega) hc, hlen]

set_option maxRecDepth 100000 in
set_option maxHeartbeats 8000000 in
theorem lexRest_law (l : Wd) (hl : l.length ≤ 9223372036854775807) (z : Nat) (hz : z ≤ 255) {w : World} (h : Gl w) : Calls Tryd.prog 7 #[.string (bs l), .int .u8 (z : Int)] w (LawPost w) := by
  have hsz := bs_size l
  have HG := Lib.hid h
  have HA := Lib.hid (fun w' (hb : Below w.heap.size w w') => awake_any (h.below hb))
  clear h
  by_cases h5 : 700 < l.length
  · have h5' : (700 : Int) < l.length := by omega
    go_enter Tryd.func7, Tryd.ntmps7
    go_wp2_with fail
    refine (HA.out _ (Below.refl _ _)).mono ?_
    rintro e w1 ⟨rfl, hb1⟩
    have HB1 := Lib.hid hb1; clear hb1
    go_wp2_with fail
    refine (HA.out _ HB1.out).mono ?_
    rintro e w2 ⟨rfl, hb2⟩
    have HB2 := Lib.hid (HB1.out.trans (hb2.mono HB1.out.size)); clear hb2
    go_wp2
    go_ret
    exact ⟨rfl, HB2.out⟩
  · have h5' : ¬ (700 : Int) < l.length := by omega
    have hl1 : l.length ≤ 100000 := by omega
    have HL1 := Lib.hid hl1; clear hl1
    have hTl := lexR_len l HL1.out
    have HOK := Lib.hid (lexR_ok (l := l))
    obtain ⟨T, p, q, hR⟩ : ∃ T p q, lexR l = (T, p, q) := ⟨_, _, _, rfl⟩
    rw [hR] at hTl HOK
    simp only at hTl HOK
    have HR := Lib.hid hR; clear hR
    by_cases hp : p = 0
    · subst hp
      obtain ⟨T0, hT0, hTT, _⟩ := HOK.out rfl
      simp only [Prod.mk.injEq] at hTT
      obtain ⟨rfl, _, rfl⟩ := hTT
      have HT0 := Lib.hid hT0; clear hT0
      simp only [List.length_append, List.length_singleton] at hTl
      by_cases h1 : T0.length = 0
      · have hlen : (T0 ++ [⟨3, [], l.length⟩] : List Tk).length = 1 := by simp; exact List.length_eq_zero_iff.1 h1
        go_enter Tryd.func7, Tryd.ntmps7
        go_wp2_with fail
        refine (HA.out _ (Below.refl _ _)).mono ?_
        rintro e w1 ⟨rfl, hb1⟩
        have HB1 := Lib.hid hb1; clear hb1
        go_wp2_with fail
        refine (rtokens_any l HL1.out _).mono ?_
        rintro e w2 ⟨v1, rfl, hT1⟩
        rw [HR.out] at hT1 ⊢
        obtain ⟨a1, c1, rfl, _, _⟩ := hT1.own.shape
        simp only [hlen]
        have HB2 := Lib.hid (HB1.out.trans (hT1.bel.mono HB1.out.size))
        clear hT1
        go_wp2
        go_ret
        exact ⟨rfl, bel_alloc HB2.out _⟩
      · obtain ⟨N, hN⟩ : ∃ N, N = T0.length + 1 := ⟨_, rfl⟩
        have h1' : decide ((N : Int) < 2) = false := decide_eq_false (by omega)
        have hN2 : 2 ≤ N := by omega
        obtain ⟨k, hk⟩ : ∃ k, k = z % T0.length := ⟨_, rfl⟩
        have hklt : k < T0.length := by rw [hk]; exact Nat.mod_lt _ (by omega)
        have htm : Int.tmod (z : Int) ((N : Int) - 1) = (k : Int) := by
          rw [show (N : Int) - 1 = (T0.length : Int) by omega, Int.tmod_eq_emod_of_nonneg (by omega), hk]; rfl
        have hN3 : ¬ ((N : Int) - 1 = 0) := by omega
        have hN4 : ((N : Int) - 1 == 0) = false := by rw [beq_eq_false_iff_ne]; omega
        have hN6 : N ≤ 100000 := by omega
        obtain ⟨t, ht⟩ : ∃ t, T0[k]? = some t := ⟨T0[k], List.getElem?_eq_getElem hklt⟩
        obtain ⟨hend, hcut⟩ := lexR_cut HT0.out (by omega) ht
        obtain ⟨E, hE⟩ : ∃ E, E = t.a + t.s.length := ⟨_, rfl⟩
        rw [← hE] at hend hcut
        have HCUT := Lib.hid hcut
        have HT := Lib.hid ht
        clear hcut ht hk
        go_enter Tryd.func7, Tryd.ntmps7
        go_wp2_with fail
        refine (HA.out _ (Below.refl _ _)).mono ?_
        rintro e w1 ⟨rfl, hb1⟩
        have HB1 := Lib.hid hb1; clear hb1
        go_wp2_with fail
        refine (rtokens_any l HL1.out _).mono ?_
        rintro e w2 ⟨v1, rfl, hT1⟩
        rw [HR.out] at hT1 ⊢
        have hlen : (T0 ++ [⟨3, [], l.length⟩] : List Tk).length = N := by rw [hN]; simp
        obtain ⟨a1, c1, rfl, hc1, _⟩ := hT1.own.shape
        have hc1 : N ≤ c1 := by rw [← hlen]; exact hc1
        obtain ⟨g, rfl, hglt, hcl⟩ := hT1.cells (by rw [hlen]; omega)
        have hrd := hT1.tkr.2
        obtain ⟨W3, hW3⟩ : ∃ W3, W3 = w2.alloc (.cells #[.int .i64 0, .int .i64 0] 26) := ⟨_, rfl⟩
        have hb23 : Below w2.heap.size w2 W3 := by rw [hW3]; exact bel_alloc (Below.refl _ _) _
        have HB3 := Lib.hid (HB1.out.trans ((hT1.bel.trans (hb23.mono hT1.bel.size)).mono HB1.out.size))
        have hr3 := hrd.below hb23
        have hf3 : W3.heap[w2.heap.size]? = some (.cells #[.int .i64 0, .int .i64 0] 26 (0, 0)) := by rw [hW3]; exact heap_alloc_new _ _
        obtain ⟨f0, f1, _⟩ := res_cells hf3 (.int .i64 0)
        rcases hr3 with hr3 | ⟨g', hg', _, hc3⟩
        · exact absurd (congrArg List.length hr3) (by rw [hlen]; simp; omega)
        cases hg'
        have htl : (T0 ++ [⟨3, [], l.length⟩] : List Tk)[k]? = some t := by rw [List.getElem?_append_left hklt]; exact HT.out
        obtain ⟨p1, p2, p3⟩ := hc3 k t htl
        have hszt := bs_size t.s
        have HCL3 := Lib.hid (fun j hj => (hb23.cell (p := ⟨g, j, none⟩) hglt).trans (hcl j hj))
        have hx := take_ext (l := l) (n := E)
        have HW3 := Lib.hid hW3
        rw [hlen] at HCL3 ⊢
        have hk1 : (k : Int) < (N : Int) := by omega
        have hk2 : k < N := by omega
        have HN := Lib.hid hN
        have HKL := Lib.hid hklt
        have hsum : (t.a : Int) + (t.s.length : Int) = (E : Int) := by omega
        have hwr : IntKind.i64.wrap ((t.a : Int) + (t.s.length : Int)) = (E : Int) := by rw [hsum]; exact IntWalk.i64_in _ ⟨by omega, by omega⟩
        have HE := Lib.hid hE; clear hE
        clear hrd hb23 hW3 hT1 hf3 hc3 htl hcl hlen hN hklt h1
        subst W3
        go_wp2_with fail
        go_quiet (fail)
        go_wp2_with fail
        refine (tokens_any (l.take E) (by rw [List.length_take]; omega) (HG.out.below (bel_drewN HB3.out _))).mono ?_
        rintro e w4 ⟨v4, rfl, hT4⟩
        rw [HCUT.out] at hT4 ⊢
        obtain ⟨a4, c4, rfl, _, _⟩ := hT4.own.shape
        have hr4 := hT4.tkr.2
        have hB4 : Below w.heap.size w w4 := (bel_drewN HB3.out nq).trans (hT4.bel.mono (bel_drewN HB3.out nq).size)
        obtain ⟨W5, hW5⟩ : ∃ W5, W5 = w4.alloc (.cells #[.int .i64 0, .int .i64 0] 26) := ⟨_, rfl⟩
        have hb45 : Below w4.heap.size w4 W5 := by rw [hW5]; exact bel_alloc (Below.refl _ _) _
        have hr5 := hr4.below hb45
        have HB5 := Lib.hid (hB4.trans (hb45.mono hB4.size))
        have hg3 : g < (w2.alloc (.cells #[.int .i64 0, .int .i64 0] 26)).heap.size := by simp; omega
        have hg5 : g < W5.heap.size := by have := hT4.bel.size; have := hb45.size; simp only [World.heap_drewN] at *; omega
        have hf5 : W5.heap[w4.heap.size]? = some (.cells #[.int .i64 0, .int .i64 0] 26 (0, 0)) := by rw [hW5]; exact heap_alloc_new _ _
        obtain ⟨c0, c1', _⟩ := res_cells hf5 (.int .i64 0)
        obtain ⟨U, hU⟩ : ∃ U, U = T0.take (k + 1) := ⟨_, rfl⟩
        have hUl : U.length = k + 1 := by rw [hU, List.length_take]; have := HKL.out; omega
        have hTU : T0 ++ [⟨3, [], l.length⟩] = U ++ (T0.drop (k + 1) ++ [⟨3, [], l.length⟩]) := by rw [hU, ← List.append_assoc, List.take_append_drop]
        obtain ⟨W6, hW6⟩ : ∃ W6, W6 = W5.alloc (.cells #[] 35) := ⟨_, rfl⟩
        have hb56 : Below W5.heap.size W5 W6 := by rw [hW6]; exact bel_alloc (Below.refl _ _) _
        have hUc : ∀ j, j < U.length * 3 → W6.cell? ⟨g, j, none⟩ = some (tkV U j) := by
          intro j hj
          have h1 := HCL3.out j (by rw [hUl] at hj; omega)
          rw [hTU, tkV_left hj] at h1
          have h2 := (below_drewN (Below.refl (w2.alloc (.cells #[.int .i64 0, .int .i64 0] 26)).heap.size (w2.alloc (.cells #[.int .i64 0, .int .i64 0] 26))) nq).trans (hT4.bel.trans ((hb45.trans (hb56.mono hb45.size)).mono hT4.bel.size))
          rw [← h1]
          exact h2.cell (p := ⟨g, j, none⟩) hg3
        have hmade : Tks W5 W6 (.slice (some ⟨w4.heap.size + 1, 0, none⟩) 0 0) [] := by
          have := Tks.made (Below.refl W5.heap.size W5)
          rw [← hW6] at this
          have e : W5.heap.size = w4.heap.size + 1 := by rw [hW5]; simp
          rw [e] at this
          rw [hW5] at this ⊢
          exact this
        rw [← hU]
        have HMADE := Lib.hid hmade
        have HUC := Lib.hid hUc
        have HUL := Lib.hid hUl
        have hUs : (U ++ [⟨3, [], E⟩] : List Tk).length ≤ 100000 := by have := HKL.out; have := HN.out; simp; omega
        have hr5' := Lib.hid hr5
        rw [← hU] at hr5'
        have HW5b := Lib.hid (And.intro hW5 hW6)
        have hkk : (k : Int) + 1 ≤ (N : Int) := by omega
        have hkc : (k : Int) + 1 ≤ (c1 : Int) := by omega
        have HUS := Lib.hid hUs
        have hlenU : (U ++ [⟨3, [], E⟩] : List Tk).length = k + 2 := by simp; omega
        have HLU := Lib.hid hlenU
        simp only [hlenU]
        clear hT4 hr4 hB4 hb45 hr5 hf5 hU hUl hTU hb56 hUc hmade hUs hlenU hg5 hg3
        subst W6
        subst W5
        go_wp2_with (first
          | (at_builtin; refine wpList_unguard (by first | rfl | (go_simp; done)) ?_; refine Tks.appU HMADE (by simp) (by rw [HUL.out]; omega) HUL.out HUC.out rfl _ _ rfl rfl rfl ?_; intro a6 c6 w6 H6)
          | (at_builtin; refine wpList_unguard (by first | rfl | (go_simp; done)) ?_; refine Tks.app (v := .slice a6 (k + 1) c6) (T := U) (Lib.hid (by simpa using H6.out.1)) ⟨3, [], E⟩ (by rw [HUL.out]; omega) (Below.refl _ _) rfl rfl _ _ rfl rfl rfl ?_; intro a8 c8 w8 H8)
          | fail)
        have hul : U.length + 1 = k + 2 := by rw [HUL.out]
        rw [hul]
        have HS := same_any (T := U ++ [⟨3, [], E⟩]) (U := U ++ [⟨3, [], E⟩]) c4 c8 HUS.out HUS.out (hr5'.out.below H8.out.bel) H8.out.tkr.2
        rw [HLU.out] at HS
        refine HS.mono ?_
        rintro e w9 ⟨rfl, q9, rfl⟩
        rw [decide_eq_true rfl]
        go_wp2
        go_ret
        exact ⟨rfl, bel_drewN (HB5.out.trans (H8.out.bel.mono HB5.out.size)) _⟩
    · have hpb : ((p : Int) == 0) = false := by rw [beq_eq_false_iff_ne]; omega
      go_enter Tryd.func7, Tryd.ntmps7
      go_wp2_with fail
      refine (HA.out _ (Below.refl _ _)).mono ?_
      rintro e w1 ⟨rfl, hb1⟩
      have HB1 := Lib.hid hb1; clear hb1
      go_wp2_with fail
      refine (rtokens_any l HL1.out _).mono ?_
      rintro e w2 ⟨v1, rfl, hT1⟩
      rw [HR.out] at hT1 ⊢
      obtain ⟨a1, c1, rfl, _, _⟩ := hT1.own.shape
      have HB2 := Lib.hid (HB1.out.trans (hT1.bel.mono HB1.out.size))
      clear hT1
      go_wp2
      go_ret
      exact ⟨rfl, bel_alloc HB2.out _⟩
end Go.Proofs.YtgikihbnafadjaaDoor
