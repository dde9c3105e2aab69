/- Contract: the words of a text (the program's), the walk. -/
import Derived.Test.YtmgkoehclabejaaDoorPE
import Derived.Laws.EntriesVeiled
namespace Go.Proofs.YtmgkoehclabejaaDoor
open Go Go.RowKit Go.Shelf Go.Lib
attribute [local go_sem] Oper.semAt_some

theorem info9 : (Tryd.prog.info? 9).map (fun i => (i.zero, i.size, i.bytes)) = some (some (.string ⟨#[]⟩), 1, 16) := by kernel_rfl

/-- An append, by the equation of its run. -/
theorem wpIn_append_run {F : Fence} {n : Nat} {P : Program} {o : Oper} {a : Act} {w w' : World} {next : Act → World → Prop} {Q : Exit → Act → World → Prop} (s x : Operand) (t : TypeId)
    (hop : o.op = Op.call { callee := Callee.builtin Builtin.append, args := #[s, x], argTypes := #[t, t] }) {vs vx r : Value} (hs : a.eval s = vs) (hx : a.eval x = vx)
    (hrun : (Builtin.append_ #[t, t] o.type #[vs, vx]).run P w = .ok r w') (h : next (a.put o.dst r) w') : o.wpIn F n P a w next Q := by
  unfold Oper.wpIn
  refine ⟨?_, ?_⟩
  · simp [Oper.about, hop, resolve, Target.leads, Sem.run_pure]
  · rw [Oper.semAt_plain F _ _ (by rw [hop]; intro c hc'; cases hc')]
    simp [execOp, hop, resolve, invoke, builtin, hs, hx, hrun, Result.andThen]
    exact h

theorem linesF_mem (n : Nat) : ∀ (l x : Wd), x ∈ linesF n l → x.length ≤ l.length := by
  induction n with
  | zero => intro l x h; simp [linesF] at h; subst h; exact Nat.le_refl _
  | succ n ih =>
    intro l x h
    unfold linesF at h
    split at h
    · rename_i h10
      have hs := congrArg List.length (split10 l h10)
      simp only [List.length_append, List.length_cons] at hs
      rcases List.mem_cons.1 h with rfl | h
      · omega
      · have := ih _ _ h; omega
    · simp at h; subst h; exact Nat.le_refl _
theorem wordsV_pre {L K : List Wd} (h : L <+: K) : (wordsV L).length ≤ (K.flatMap lineW).length := by
  obtain ⟨t, rfl⟩ := h
  simp [wordsV]

set_option maxRecDepth 100000 in
set_option maxHeartbeats 4000000 in
theorem words_any (hIdx : ∀ l w, Calls Tryd.prog 93 #[.string (bs l), .string ⟨#[10]⟩] w fun e w' => e = .returned (.int .i64 (indexByte l 10)) ∧ w' = w)
    (hHP : ∀ l w, Calls Tryd.prog 63 #[.string (bs l), .string ⟨#[99]⟩] w fun e w' => e = .returned (.bool (Lib.hasPrefix l [99])) ∧ w' = w)
    (l : List UInt8) (hl : l.length ≤ 1000000) (w : World) :
    Calls Tryd.prog 49 #[.string (bs l)] w fun e w' => ∃ v, e = .returned v ∧ w'.ownsRow w.heap.size 9 1 v (wordsL l).length ((wordsL l).map fun x => .string (bs x)) ∧ Below w.heap.size w w' := by
  obtain ⟨i0, hi, hz0, hz1, hz2⟩ := info_parts info9
  have hwl : (linesF l.length l).flatMap lineW = wordsL l := (words_lines l.length l (Nat.le_refl _) []).symm
  have hlen := linesF_len l.length l (Nat.le_refl _)
  refine (callsIn_wide (n := 3)).1 ?_
  refine callsIn_of_wp_marks Tryd.func49 rfl trivial ?_ rfl
  simp only [Tryd.ntmps49, List.size_toArray, List.length_cons, List.length_nil, Nat.reduceAdd, Nat.reduceSub, Array.replicate_succ, Array.replicate_zero, List.push_toArray, List.append_toArray, List.nil_append, List.cons_append]
  have hsp := fun w => splitSeq_line (bs l) ⟨#[10]⟩ w
  gi_wp2
  refine ⟨trivial, (callsIn_wide.2 (hsp _)).mono ?_⟩
  rintro e w' ⟨rfl, rfl⟩
  gi_wp2
  obtain ⟨W0, hW0⟩ : ∃ W0, (((((w.alloc (.cells #[.slice none 0 0] 63)).alloc (.cells #[.func (.func 61) #[] #[]] 77)).alloc (.cells #[.string (bs l)] 9)).alloc (.cells #[.string ⟨#[10]⟩] 9)).alloc (.cells #[.int .i64 0] 3)) = W0 := ⟨_, rfl⟩
  rw [hW0]
  have hsz : W0.heap.size = w.heap.size + 5 := by rw [← hW0]; simp
  have bO : Boxed W0 w.heap.size 63 (.slice none 0 0) := by rw [← hW0]; exact ((((Boxed.new w 63 _).alloc _).alloc _).alloc _).alloc _
  have bF : Boxed W0 (w.heap.size + 1) 77 (.func (.func 61) #[] #[]) := by
    rw [← hW0]
    have := Boxed.new (w.alloc (.cells #[.slice none 0 0] 63)) 77 (.func (.func 61) #[] #[])
    rw [World.size_alloc] at this
    exact (((this.alloc _).alloc _).alloc _)
  have bE : Boxed W0 (w.heap.size + 1 + 1) 9 (.string (bs l)) := by
    rw [← hW0]
    have := Boxed.new ((w.alloc (.cells #[.slice none 0 0] 63)).alloc (.cells #[.func (.func 61) #[] #[]] 77)) 9 (.string (bs l))
    rw [World.size_alloc, World.size_alloc] at this
    exact ((this.alloc _).alloc _)
  have bP : Boxed W0 (w.heap.size + 1 + 1 + 1) 9 (.string ⟨#[10]⟩) := by
    rw [← hW0]
    have := Boxed.new (((w.alloc (.cells #[.slice none 0 0] 63)).alloc (.cells #[.func (.func 61) #[] #[]] 77)).alloc (.cells #[.string (bs l)] 9)) 9 (.string ⟨#[10]⟩)
    rw [World.size_alloc, World.size_alloc, World.size_alloc] at this
    exact this.alloc _
  have bV : Boxed W0 (w.heap.size + 1 + 1 + 2) 3 (.int .i64 0) := by
    rw [← hW0]
    have := Boxed.new ((((w.alloc (.cells #[.slice none 0 0] 63)).alloc (.cells #[.func (.func 61) #[] #[]] 77)).alloc (.cells #[.string (bs l)] 9)).alloc (.cells #[.string ⟨#[10]⟩] 9)) 3 (.int .i64 0)
    rw [World.size_alloc, World.size_alloc, World.size_alloc, World.size_alloc] at this
    exact this
  have hB0 : Below w.heap.size w W0 := by
    rw [← hW0]
    exact (((((Below.refl _ w).alloc (Nat.le_refl _) _).alloc (by simp) _).alloc (by simp; omega) _).alloc (by simp; omega) _).alloc (by simp; omega) _
  clear hW0
  refine wpIn_rangeCell rfl (by omega) (gf := 91) (lb := #[.pointer (some ⟨w.heap.size + 1 + 1 + 1, 0, none⟩), .pointer (some ⟨w.heap.size + 1 + 1, 0, none⟩), .pointer (some ⟨w.heap.size + 1 + 1 + 2, 0, none⟩)]) rfl trivial (enters_of Tryd.func91 (by kernel_rfl) rfl)
    (enc := fun x : List UInt8 => #[Value.string (bs x)]) (fun _ => rfl) (Bs := w.heap.size + 1 + 1) (ks := [w.heap.size + 1 + 1 + 1, w.heap.size + 1 + 1, w.heap.size + 1 + 1 + 2]) (by omega) (by intro b hb; simp only [List.mem_cons, List.not_mem_nil, or_false] at hb; omega)
    (xs := linesF l.length l) (lines_hands hIdx 2 _ _ _ l hl W0 (by omega) (by omega) bP bE bV)
    (fun pre W => ∃ v, Boxed W w.heap.size 63 v ∧ Boxed W (w.heap.size + 1) 77 (.func (.func 61) #[] #[]) ∧ W.ownsRow (w.heap.size + 5) 9 1 v (wordsV pre).length (wordsV pre) ∧ Below w.heap.size w W ∧ w.heap.size + 5 ≤ W.heap.size)
    ?hIp ?hIs ?h0
    (fun x => { tmps := #[.string (bs l), undef, .slice none 0 0, .pointer (some ⟨w.heap.size, 0, none⟩), .pointer (some ⟨w.heap.size + 1, 0, none⟩), .string (bs x), .string (bs l), .func (.func 91) #[] #[.pointer (some ⟨w.heap.size + 1 + 1 + 1, 0, none⟩), .pointer (some ⟨w.heap.size + 1 + 1, 0, none⟩), .pointer (some ⟨w.heap.size + 1 + 1 + 2, 0, none⟩)], .string (bs x), undef, undef, undef, undef, undef, undef, undef, undef, undef], defers := [] }) ?assign ?body ?done
  case hIp =>
    rintro pre W lx o' hlx ⟨o, ho, hc⟩ ⟨v, h1, h2, h3, h4, h5⟩
    refine ⟨v, (World.putObj_heap_other (by omega)).trans h1, (World.putObj_heap_other (by omega)).trans h2, ownsRow_putObj h3 o' ho hc, ?_, by simpa using h5⟩
    exact h4.grown (grownBy_putObj' W lx o') h4.size (fun k e => by cases e; omega)
  case hIs =>
    rintro pre W u ⟨v, h1, h2, h3, h4, h5⟩
    refine ⟨v, h1.kept (grownBy_setCell' _ _ _) (by simp only [ne_eq, Option.some.injEq]; omega), h2.kept (grownBy_setCell' _ _ _) (by simp only [ne_eq, Option.some.injEq]; omega), h3.kept (grownBy_setCell' _ _ _) (.inr ?_), h4.setCell (p := ⟨w.heap.size + 1 + 1, 0, none⟩) (by simp; omega) u, Nat.le_trans h5 (KeepsOthers.setCell W ⟨w.heap.size + 1 + 1, 0, none⟩ u).size⟩
    rcases h3.2 with ⟨rfl, _⟩ | ⟨g, cap, cur, rfl, hgb, _⟩
    · simp [Value.ownBlock]
    · simp only [Value.ownBlock, ne_eq, Option.some.injEq]; omega
  case h0 =>
    intro o o'
    exact ⟨_, (bO.alloc _).alloc _, (bF.alloc _).alloc _, World.ownsRow_nil _ _ _ _, (hB0.alloc hB0.size _).alloc (by have := hB0.size; simp; omega) _, by simp; omega⟩
  case assign =>
    intro lp x W K hK
    gi_wp2
    exact hK
  case body =>
    rintro lp pre x W hpx ⟨v, h1, h2, h3, h4, h5⟩
    have hxl := linesF_mem l.length l x (hpx.subset (by simp))
    have hcnt := wordsV_pre hpx
    rw [wordsV_snoc, List.length_append, List.length_map] at hcnt
    have hcO := h1.cell
    have hcF := h2.cell
    have hpc := fun w => hHP x w
    cases hp : Lib.hasPrefix x [99]
    · rw [hp] at hpc
      have HPC := Lib.hid hpc; clear hpc
      have hK := lineW_keep hp
      clear hp
      have hfl : (lineW x).map (fun x => Value.string (bs x)) = fieldsV x := by rw [hK]; rfl
      have hcnt' : (wordsV pre).length + (fieldsV x).length ≤ 1000000 := by rw [← hfl, List.length_map]; omega
      have hff : ∀ W1, W1 = W.drew → Calls Tryd.prog 64 #[.string (bs x), .func (.func 61) #[] #[]] W1 fun e w1 => ∃ A, e = .returned (.slice (some ⟨A, 0, none⟩) (fieldsV x).length (fieldsV x).length) ∧
          (∀ j u, (fieldsV x)[j]? = some u → w1.cell? ((⟨A, 0, none⟩ : Addr).add j) = some u) ∧ Below W.heap.size W w1 ∧ w1.cell? ⟨w.heap.size, 0, none⟩ = some v ∧ w1.cell? ⟨w.heap.size + 1, 0, none⟩ = some (.func (.func 61) #[] #[]) ∧
          w1.ownsRow (w.heap.size + 5) 9 1 v (wordsV pre).length (wordsV pre) ∧ w.heap.size + 5 ≤ w1.heap.size := by
        rintro W1 rfl
        refine (fields_line x (by omega) W.drew).mono ?_
        rintro e w1 ⟨A, rfl, hA, hb⟩
        have hb' : Below W.heap.size W w1 := ((Below.refl W.heap.size W).drew).trans hb
        exact ⟨A, rfl, hA, hb', (hb'.cell (p := ⟨w.heap.size, 0, none⟩) h1.lt).trans hcO, (hb'.cell (p := ⟨w.heap.size + 1, 0, none⟩) h2.lt).trans hcF, own_below h3 hb', Nat.le_trans h5 hb'.size⟩
      have hfin : ∀ w1 w2 v', Below W.heap.size W w1 → w2.ownsRow (w.heap.size + 5) 9 1 v' ((wordsV pre).length + (fieldsV x).length) (wordsV pre ++ fieldsV x) → w1.grownBy w2 v.ownBlock →
          w2.cell? ⟨w.heap.size, 0, none⟩ = some v ∧ w2.frozen? ⟨w.heap.size, 0, none⟩ = false ∧ goesOn [w.heap.size + 1 + 1 + 1, w.heap.size + 1 + 1, w.heap.size + 1 + 1 + 2]
            (fun pre W => ∃ v, Boxed W w.heap.size 63 v ∧ Boxed W (w.heap.size + 1) 77 (.func (.func 61) #[] #[]) ∧ W.ownsRow (w.heap.size + 5) 9 1 v (wordsV pre).length (wordsV pre) ∧ Below w.heap.size w W ∧ w.heap.size + 5 ≤ W.heap.size) (pre ++ [x]) W .normal { tmps := #[], defers := [] } (w2.setCell ⟨w.heap.size, 0, none⟩ v') := by
        intro w1 w2 v' hb hown hg
        obtain ⟨c1, c2, c3, c4, c5, c6, c7⟩ := words_step rfl h1 h2 h3 h4 h5 hb hown hg
        refine ⟨c1.cell, c1.frozen, c2, c3, v', c4, c5, ?_, c7, Nat.le_trans h5 c2.size⟩
        rw [wordsV_snoc, hfl, List.length_append]
        exact c6
      have hone : ∀ u ∈ fieldsV x, u.oneCell' = true := by
        intro u hu
        simp only [fieldsV, List.mem_map] at hu
        obtain ⟨y, _, rfl⟩ := hu
        rfl
      have hfull : ∀ W1, W1 = W.drew → Calls Tryd.prog 64 #[.string (bs x), .func (.func 61) #[] #[]] W1 fun e w1 => ∃ A, e = .returned (.slice (some ⟨A, 0, none⟩) (fieldsV x).length (fieldsV x).length) ∧
          w1.cell? ⟨w.heap.size, 0, none⟩ = some v ∧ w1.cell? ⟨w.heap.size + 1, 0, none⟩ = some (.func (.func 61) #[] #[]) ∧
          ∃ a' n' c' w2, (Builtin.append_ #[63, 63] 63 #[v, .slice (some ⟨A, 0, none⟩) (fieldsV x).length (fieldsV x).length]).run Tryd.prog w1 = .ok (.slice a' n' c') w2 ∧
            w2.cell? ⟨w.heap.size, 0, none⟩ = some v ∧ w2.frozen? ⟨w.heap.size, 0, none⟩ = false ∧ goesOn [w.heap.size + 1 + 1 + 1, w.heap.size + 1 + 1, w.heap.size + 1 + 1 + 2]
            (fun pre W => ∃ v, Boxed W w.heap.size 63 v ∧ Boxed W (w.heap.size + 1) 77 (.func (.func 61) #[] #[]) ∧ W.ownsRow (w.heap.size + 5) 9 1 v (wordsV pre).length (wordsV pre) ∧ Below w.heap.size w W ∧ w.heap.size + 5 ≤ W.heap.size) (pre ++ [x]) W .normal { tmps := #[], defers := [] } (w2.setCell ⟨w.heap.size, 0, none⟩ (.slice a' n' c')) := by
        intro W1 hW1
        refine (hff W1 hW1).mono ?_
        rintro e w1 ⟨A, rfl, hA, hb1, hcO1, hcF1, hr1, hs1⟩
        obtain ⟨v', w2, hrun, hown', hgrow, -⟩ := run_append_own (P := Tryd.prog) w1 (w.heap.size + 5) 63 63 9 i0 (.string ⟨#[]⟩) 1 16 Tryd.underlying63 hi hz0 hz1 hz2 rfl (by decide) v _ _ hr1 ⟨A, 0, none⟩ (fieldsV x).length (fieldsV x).length (fieldsV x) (by simp) hA hone (by unfold maxLen; omega) (by omega) hs1
        obtain ⟨hc2, hf2, hfin2⟩ := hfin _ _ _ hb1 hown' hgrow
        obtain ⟨a', c', rfl⟩ := own_shape hown'
        exact ⟨A, rfl, hcO1, hcF1, a', _, c', w2, hrun, hc2, hf2, hfin2⟩
      clear hff hfin
      have HFF := Lib.hid hfull; clear hfull
      have hcOd : W.drew.cell? ⟨w.heap.size, 0, none⟩ = some v := hcO
      have hcFd : W.drew.cell? ⟨w.heap.size + 1, 0, none⟩ = some (.func (.func 61) #[] #[]) := hcF
      have hmix : Tryd.prog.follows .mixedOrders = true := by kernel_rfl
      clear hcnt hfl hK hpx
      gi_wp2
      refine ⟨trivial, (CallsIn.inRound lp (callsIn_wide.2 (HPC.out _))).mono ?_⟩
      rintro e w' ⟨rfl, rfl⟩
      gi_wp2
      have hsz5 : w.heap.size + 5 ≤ w'.heap.size := h5
      refine wpIn_region_any (by assumption) ?_
      change wpAnyIn _ _ _ _ _ _ _ _ _ (World.drew _)
      refine wpAnyIn_ready (rs := [0, 1, 2]) (by kernel_rfl) (by simp) ?_
      refine AllReadyIn.cons rfl (fun K hK => ?_) (AllReadyIn.cons rfl (fun K hK => ?_) (AllReadyIn.cons rfl (fun K hK => ?_) AllReadyIn.nil))
      · go_simp
        refine hK _ _ ?_
        clear hK K
        refine wpAnyIn_ready (rs := [1, 2]) (by kernel_rfl) (by simp) ?_
        refine AllReadyIn.cons rfl (fun K hK => ?_) (AllReadyIn.cons rfl (fun K hK => ?_) AllReadyIn.nil)
        · go_simp
          refine hK _ _ ?_
          clear hK K
          refine wpAnyIn_ready (rs := [2]) (by kernel_rfl) (by simp) ?_
          refine AllReadyIn.cons rfl (fun K hK => ?_) AllReadyIn.nil
          go_simp
          refine hK _ _ ?_
          clear hK K
          refine wpAnyIn_ready (rs := [3]) (by kernel_rfl) (by simp) ?_
          refine AllReadyIn.cons rfl (fun K hK => ?_) AllReadyIn.nil
          go_simp
          gi_wp2_with (refine ⟨trivial, (CallsIn.inRound lp (callsIn_wide.2 (HFF.out _ rfl))).mono ?_⟩; rintro e w1 ⟨A, rfl, hcO1, hcF1, a', n', c', w2, hrun, hc2, hf2, hfin2⟩)
          refine wpAnyIn_ready (rs := [4]) (by kernel_rfl) (by simp) ?_
          refine AllReadyIn.cons rfl (fun K hK => ?_) AllReadyIn.nil
          rw [if_pos (by kernel_rfl)]
          refine wpIn_append_run (.tmp 12) (.tmp 15) 63 rfl rfl rfl hrun ?_
          go_simp
          refine hK _ _ ?_
          clear hK K
          refine wpAnyIn_ready (rs := [5]) (by kernel_rfl) (by simp) ?_
          refine AllReadyIn.cons rfl (fun K hK => ?_) AllReadyIn.nil
          go_simp
          refine hK _ _ ?_
          clear hK K
          refine wpAnyIn_done (by kernel_rfl) ?_ _
          exact hfin2
        · go_simp
          refine hK _ _ ?_
          clear hK K
          refine wpAnyIn_ready (rs := [1]) (by kernel_rfl) (by simp) ?_
          refine AllReadyIn.cons rfl (fun K hK => ?_) AllReadyIn.nil
          go_simp
          refine hK _ _ ?_
          clear hK K
          refine wpAnyIn_ready (rs := [3]) (by kernel_rfl) (by simp) ?_
          refine AllReadyIn.cons rfl (fun K hK => ?_) AllReadyIn.nil
          go_simp
          gi_wp2_with (refine ⟨trivial, (CallsIn.inRound lp (callsIn_wide.2 (HFF.out _ rfl))).mono ?_⟩; rintro e w1 ⟨A, rfl, hcO1, hcF1, a', n', c', w2, hrun, hc2, hf2, hfin2⟩)
          refine wpAnyIn_ready (rs := [4]) (by kernel_rfl) (by simp) ?_
          refine AllReadyIn.cons rfl (fun K hK => ?_) AllReadyIn.nil
          rw [if_pos (by kernel_rfl)]
          refine wpIn_append_run (.tmp 12) (.tmp 15) 63 rfl rfl rfl hrun ?_
          go_simp
          refine hK _ _ ?_
          clear hK K
          refine wpAnyIn_ready (rs := [5]) (by kernel_rfl) (by simp) ?_
          refine AllReadyIn.cons rfl (fun K hK => ?_) AllReadyIn.nil
          go_simp
          refine hK _ _ ?_
          clear hK K
          refine wpAnyIn_done (by kernel_rfl) ?_ _
          exact hfin2
      · go_simp
        refine hK _ _ ?_
        clear hK K
        refine wpAnyIn_ready (rs := [0, 2]) (by kernel_rfl) (by simp) ?_
        refine AllReadyIn.cons rfl (fun K hK => ?_) (AllReadyIn.cons rfl (fun K hK => ?_) AllReadyIn.nil)
        · go_simp
          refine hK _ _ ?_
          clear hK K
          refine wpAnyIn_ready (rs := [2]) (by kernel_rfl) (by simp) ?_
          refine AllReadyIn.cons rfl (fun K hK => ?_) AllReadyIn.nil
          go_simp
          refine hK _ _ ?_
          clear hK K
          refine wpAnyIn_ready (rs := [3]) (by kernel_rfl) (by simp) ?_
          refine AllReadyIn.cons rfl (fun K hK => ?_) AllReadyIn.nil
          go_simp
          gi_wp2_with (refine ⟨trivial, (CallsIn.inRound lp (callsIn_wide.2 (HFF.out _ rfl))).mono ?_⟩; rintro e w1 ⟨A, rfl, hcO1, hcF1, a', n', c', w2, hrun, hc2, hf2, hfin2⟩)
          refine wpAnyIn_ready (rs := [4]) (by kernel_rfl) (by simp) ?_
          refine AllReadyIn.cons rfl (fun K hK => ?_) AllReadyIn.nil
          rw [if_pos (by kernel_rfl)]
          refine wpIn_append_run (.tmp 12) (.tmp 15) 63 rfl rfl rfl hrun ?_
          go_simp
          refine hK _ _ ?_
          clear hK K
          refine wpAnyIn_ready (rs := [5]) (by kernel_rfl) (by simp) ?_
          refine AllReadyIn.cons rfl (fun K hK => ?_) AllReadyIn.nil
          go_simp
          refine hK _ _ ?_
          clear hK K
          refine wpAnyIn_done (by kernel_rfl) ?_ _
          exact hfin2
        · go_simp
          refine hK _ _ ?_
          clear hK K
          refine wpAnyIn_ready (rs := [0, 3]) (by kernel_rfl) (by simp) ?_
          refine AllReadyIn.cons rfl (fun K hK => ?_) (AllReadyIn.cons rfl (fun K hK => ?_) AllReadyIn.nil)
          · go_simp
            refine hK _ _ ?_
            clear hK K
            refine wpAnyIn_ready (rs := [3]) (by kernel_rfl) (by simp) ?_
            refine AllReadyIn.cons rfl (fun K hK => ?_) AllReadyIn.nil
            go_simp
            gi_wp2_with (refine ⟨trivial, (CallsIn.inRound lp (callsIn_wide.2 (HFF.out _ rfl))).mono ?_⟩; rintro e w1 ⟨A, rfl, hcO1, hcF1, a', n', c', w2, hrun, hc2, hf2, hfin2⟩)
            refine wpAnyIn_ready (rs := [4]) (by kernel_rfl) (by simp) ?_
            refine AllReadyIn.cons rfl (fun K hK => ?_) AllReadyIn.nil
            rw [if_pos (by kernel_rfl)]
            refine wpIn_append_run (.tmp 12) (.tmp 15) 63 rfl rfl rfl hrun ?_
            go_simp
            refine hK _ _ ?_
            clear hK K
            refine wpAnyIn_ready (rs := [5]) (by kernel_rfl) (by simp) ?_
            refine AllReadyIn.cons rfl (fun K hK => ?_) AllReadyIn.nil
            go_simp
            refine hK _ _ ?_
            clear hK K
            refine wpAnyIn_done (by kernel_rfl) ?_ _
            exact hfin2
          · go_simp
            gi_wp2_with (refine ⟨trivial, (CallsIn.inRound lp (callsIn_wide.2 (HFF.out _ rfl))).mono ?_⟩; rintro e w1 ⟨A, rfl, hcO1, hcF1, a', n', c', w2, hrun, hc2, hf2, hfin2⟩)
            refine wpAnyIn_ready (rs := [0]) (by kernel_rfl) (by simp) ?_
            refine AllReadyIn.cons rfl (fun K hK => ?_) AllReadyIn.nil
            go_simp
            refine hK _ _ ?_
            clear hK K
            refine wpAnyIn_ready (rs := [4]) (by kernel_rfl) (by simp) ?_
            refine AllReadyIn.cons rfl (fun K hK => ?_) AllReadyIn.nil
            rw [if_pos (by kernel_rfl)]
            refine wpIn_append_run (.tmp 12) (.tmp 15) 63 rfl rfl rfl hrun ?_
            go_simp
            refine hK _ _ ?_
            clear hK K
            refine wpAnyIn_ready (rs := [5]) (by kernel_rfl) (by simp) ?_
            refine AllReadyIn.cons rfl (fun K hK => ?_) AllReadyIn.nil
            go_simp
            refine hK _ _ ?_
            clear hK K
            refine wpAnyIn_done (by kernel_rfl) ?_ _
            exact hfin2
      · go_simp
        refine hK _ _ ?_
        clear hK K
        refine wpAnyIn_ready (rs := [0, 1]) (by kernel_rfl) (by simp) ?_
        refine AllReadyIn.cons rfl (fun K hK => ?_) (AllReadyIn.cons rfl (fun K hK => ?_) AllReadyIn.nil)
        · go_simp
          refine hK _ _ ?_
          clear hK K
          refine wpAnyIn_ready (rs := [1]) (by kernel_rfl) (by simp) ?_
          refine AllReadyIn.cons rfl (fun K hK => ?_) AllReadyIn.nil
          go_simp
          refine hK _ _ ?_
          clear hK K
          refine wpAnyIn_ready (rs := [3]) (by kernel_rfl) (by simp) ?_
          refine AllReadyIn.cons rfl (fun K hK => ?_) AllReadyIn.nil
          go_simp
          gi_wp2_with (refine ⟨trivial, (CallsIn.inRound lp (callsIn_wide.2 (HFF.out _ rfl))).mono ?_⟩; rintro e w1 ⟨A, rfl, hcO1, hcF1, a', n', c', w2, hrun, hc2, hf2, hfin2⟩)
          refine wpAnyIn_ready (rs := [4]) (by kernel_rfl) (by simp) ?_
          refine AllReadyIn.cons rfl (fun K hK => ?_) AllReadyIn.nil
          rw [if_pos (by kernel_rfl)]
          refine wpIn_append_run (.tmp 12) (.tmp 15) 63 rfl rfl rfl hrun ?_
          go_simp
          refine hK _ _ ?_
          clear hK K
          refine wpAnyIn_ready (rs := [5]) (by kernel_rfl) (by simp) ?_
          refine AllReadyIn.cons rfl (fun K hK => ?_) AllReadyIn.nil
          go_simp
          refine hK _ _ ?_
          clear hK K
          refine wpAnyIn_done (by kernel_rfl) ?_ _
          exact hfin2
        · go_simp
          refine hK _ _ ?_
          clear hK K
          refine wpAnyIn_ready (rs := [0, 3]) (by kernel_rfl) (by simp) ?_
          refine AllReadyIn.cons rfl (fun K hK => ?_) (AllReadyIn.cons rfl (fun K hK => ?_) AllReadyIn.nil)
          · go_simp
            refine hK _ _ ?_
            clear hK K
            refine wpAnyIn_ready (rs := [3]) (by kernel_rfl) (by simp) ?_
            refine AllReadyIn.cons rfl (fun K hK => ?_) AllReadyIn.nil
            go_simp
            gi_wp2_with (refine ⟨trivial, (CallsIn.inRound lp (callsIn_wide.2 (HFF.out _ rfl))).mono ?_⟩; rintro e w1 ⟨A, rfl, hcO1, hcF1, a', n', c', w2, hrun, hc2, hf2, hfin2⟩)
            refine wpAnyIn_ready (rs := [4]) (by kernel_rfl) (by simp) ?_
            refine AllReadyIn.cons rfl (fun K hK => ?_) AllReadyIn.nil
            rw [if_pos (by kernel_rfl)]
            refine wpIn_append_run (.tmp 12) (.tmp 15) 63 rfl rfl rfl hrun ?_
            go_simp
            refine hK _ _ ?_
            clear hK K
            refine wpAnyIn_ready (rs := [5]) (by kernel_rfl) (by simp) ?_
            refine AllReadyIn.cons rfl (fun K hK => ?_) AllReadyIn.nil
            go_simp
            refine hK _ _ ?_
            clear hK K
            refine wpAnyIn_done (by kernel_rfl) ?_ _
            exact hfin2
          · go_simp
            gi_wp2_with (refine ⟨trivial, (CallsIn.inRound lp (callsIn_wide.2 (HFF.out _ rfl))).mono ?_⟩; rintro e w1 ⟨A, rfl, hcO1, hcF1, a', n', c', w2, hrun, hc2, hf2, hfin2⟩)
            refine wpAnyIn_ready (rs := [0]) (by kernel_rfl) (by simp) ?_
            refine AllReadyIn.cons rfl (fun K hK => ?_) AllReadyIn.nil
            go_simp
            refine hK _ _ ?_
            clear hK K
            refine wpAnyIn_ready (rs := [4]) (by kernel_rfl) (by simp) ?_
            refine AllReadyIn.cons rfl (fun K hK => ?_) AllReadyIn.nil
            rw [if_pos (by kernel_rfl)]
            refine wpIn_append_run (.tmp 12) (.tmp 15) 63 rfl rfl rfl hrun ?_
            go_simp
            refine hK _ _ ?_
            clear hK K
            refine wpAnyIn_ready (rs := [5]) (by kernel_rfl) (by simp) ?_
            refine AllReadyIn.cons rfl (fun K hK => ?_) AllReadyIn.nil
            go_simp
            refine hK _ _ ?_
            clear hK K
            refine wpAnyIn_done (by kernel_rfl) ?_ _
            exact hfin2
    · rw [hp] at hpc
      have HPC := Lib.hid hpc; clear hpc
      have hK := lineW_skip hp
      clear hp
      gi_wp2
      refine ⟨trivial, (CallsIn.inRound lp (callsIn_wide.2 (HPC.out _))).mono ?_⟩
      rintro e w' ⟨rfl, rfl⟩
      gi_wp2
      exact ⟨KeepsOthers.refl _, fun _ _ => rfl, v, h1, h2, by rw [wordsV_snoc, hK, List.map_nil, List.append_nil]; exact h3, h4, h5⟩
  case done =>
    rintro D W hD ⟨v, h1, h2, h3, h4, h5⟩ hK
    have hc := h1.cell
    gi_wp2
    refine ⟨by simp, .inl ⟨_, _, rfl, run_takeDeferred hK, ?_⟩⟩
    have hwv : wordsV (linesF l.length l) = (wordsL l).map fun x => .string (bs x) := by unfold wordsV; rw [hwl]
    rw [hwv, List.length_map] at h3
    have h3' := ownsRow_putObj h3 (.deferred none) hK rfl
    exact ⟨_, results_tmp rfl _ _ _, v, rfl, ⟨h3'.1, h3'.2.imp id (fun ⟨g, cap, cur, a, b, c⟩ => ⟨g, cap, cur, a, by omega, c⟩)⟩, h4.grown (grownBy_putObj' W D _) h4.size (fun k e => by cases e; omega)⟩
end Go.Proofs.YtmgkoehclabejaaDoor
