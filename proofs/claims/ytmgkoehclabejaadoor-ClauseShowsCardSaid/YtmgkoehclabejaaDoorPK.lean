/- Contract: the clauses that the words after the head tell (the program's). -/
import Derived.Test.YtmgkoehclabejaaDoorPJ
import Derived.Test.YtmgkoehclabejaaDoorPE
import Derived.Maps.AppendAt
namespace Go.Proofs.YtmgkoehclabejaaDoor
open Go Go.RowKit Go.Lib

def BodyPost (v : Int) (L : List Wd) (w : World) (e : Ending) (w' : World) : Prop :=
  (bodyB v L = none ∧ e = .returned (.tuple #[.slice none 0 0, .bool false]) ∧ Below w.heap.size w w') ∨
  ∃ out now a c vals vc Bc, bodyB v L = some ⟨out, now⟩ ∧ e = .returned (.tuple #[.slice a out.length c, .bool (decide (now.length = 0))]) ∧ Reading w.heap.size w' (.slice a out.length c) vals out vc Bc now ∧ Below w.heap.size w w'

theorem sgnB_bd {l : Wd} {x : Int} (h : sgnB l = some x) : -100000 ≤ x ∧ x ≤ 100000 := by
  unfold sgnB at h
  split at h
  · split at h
    · rename_i y hy
      have := numB_some hy
      split at h
      · simp only [Option.some.injEq] at h; omega
      · cases h
    · cases h
  · split at h
    · rename_i y hy
      have := numB_some hy
      split at h
      · simp only [Option.some.injEq] at h; omega
      · cases h
    · cases h
theorem bodyB_snoc (v : Int) (L : List Wd) (u : Wd) : bodyB v (L ++ [u]) = bstep v (bodyB v L) u := by simp [bodyB]
theorem bodyB_stop {v : Int} {L K : List Wd} (h : bodyB v L = none) : bodyB v (L ++ K) = none := by
  unfold bodyB at *; rw [List.foldl_append, h, bstep_none]
theorem take_snoc {L : List Wd} {k : Nat} {u : Wd} (h : L[k]? = some u) : L.take (k + 1) = L.take k ++ [u] := by rw [List.take_add_one, h]; rfl
theorem bstep_bad {v : Int} {o : List (List Int)} {now : List Int} {u : Wd} (h : litB v u = none) : bstep v (some ⟨o, now⟩) u = none := by simp only [bstep, h]
theorem bstep_lit {v x : Int} {o : List (List Int)} {now : List Int} {u : Wd} (h : litB v u = some x) (hx : x ≠ 0) : bstep v (some ⟨o, now⟩) u = some ⟨o, now ++ [x]⟩ := by simp only [bstep, h]; rw [if_pos hx]
theorem bstep_end {v : Int} {o : List (List Int)} {now : List Int} {u : Wd} (h : litB v u = some 0) : bstep v (some ⟨o, now⟩) u = some ⟨o ++ [now], []⟩ := by simp only [bstep, h]; rfl

theorem one_cell (w : World) (u : Value) (t : TypeId) : ∀ j x, [u][j]? = some x → (w.alloc (.cells #[u] t)).cell? ((⟨w.heap.size, 0, none⟩ : Addr).add j) = some x := by
  intro j x hj
  match j, hj with
  | 0, hj =>
    simp at hj; subst hj
    simp [Addr.add]

theorem bodyB_lens (v : Int) (L : List Wd) : ∀ (s t : Bod), L.foldl (bstep v) (some s) = some t → t.out.length + t.now.length ≤ s.out.length + s.now.length + L.length := by
  induction L with
  | nil => intro s t h; simp at h; subst h; omega
  | cons u L ih =>
    intro s t h
    rw [List.foldl_cons] at h
    cases hl : litB v u with
    | none => rw [show bstep v (some s) u = none by cases s; exact bstep_bad hl, bstep_none] at h; cases h
    | some x =>
      by_cases hx : x = 0
      · subst hx
        rw [show bstep v (some s) u = some ⟨s.out ++ [s.now], []⟩ by cases s; exact bstep_end hl] at h
        have := ih _ _ h
        simp at this ⊢; omega
      · rw [show bstep v (some s) u = some ⟨s.out, s.now ++ [x]⟩ by cases s; exact bstep_lit hl hx] at h
        have := ih _ _ h
        simp at this ⊢; omega

set_option maxRecDepth 100000 in
set_option maxHeartbeats 4000000 in
theorem body_core (b off n c : Nat) (v : Int) (hv : 0 ≤ v ∧ v ≤ 1000000) (L : List Wd) (hL : L.length = n) (hn : n ≤ 1000000) (hs : ∀ u ∈ L, u.length ≤ 1000000) (w : World) (hlt : b < w.heap.size)
    (hc : ∀ j u, L[j]? = some u → w.cell? ⟨b, off + j, none⟩ = some (.string (bs u))) :
    Calls Tryd.prog 51 #[.slice (some ⟨b, off, none⟩) n c, .int .i64 v] w (BodyPost v L w) := by
  obtain ⟨i0, hi, hz0, hz1, hz2⟩ := info_parts info3
  obtain ⟨i1, hj, hy0, hy1, hy2⟩ := info_parts info22
  have HC := Lib.hid hc; clear hc
  have HS := Lib.hid hs; clear hs
  obtain ⟨hv0, hv1⟩ := hv
  go_enter Tryd.func51, Tryd.ntmps51
  go_wp2
  go_loopw [6, 7, 9, 10, 11, 14] (fun s6 s7 _ _ _ i wr => ∃ (k : Nat) (out : List (List Int)) (now : List Int) (vals : List Value) (Bc : Nat), k ≤ n ∧ i = .int .i64 k ∧ Hid (bodyB v (L.take k) = some ⟨out, now⟩) ∧ Hid (Reading w.heap.size wr s6 vals out s7 Bc now) ∧ Hid (Below w.heap.size w wr))
    (fun _ _ _ _ _ i _ => n - (intOf i).toNat)
  case atStart => exact ⟨0, [], [], [], _, Nat.zero_le _, rfl, Lib.hid rfl, Lib.hid (Reading.start w), Lib.hid (Below.refl _ _)⟩
  case round =>
    obtain ⟨k, out, now, vals, Bc, hk, rfl, HB, HR, HW⟩ := hrel
    obtain ⟨a6, c6, rfl⟩ := own_shape HR.out.rows
    obtain ⟨a7, c7, rfl⟩ := own_shape HR.out.cur
    have hlens : out.length + now.length ≤ k := by
      have := bodyB_lens v (L.take k) ⟨[], []⟩ _ HB.out
      simp at this; omega
    by_cases hlt2 : k < n
    · have hu := List.getElem?_eq_getElem (show k < L.length by omega)
      have hul := HS.out _ (List.getElem_mem (show k < L.length by omega))
      have hcell : wr.cell? ⟨b, off + k, none⟩ = some (.string (bs L[k])) := by
        rw [← HC.out k _ hu]; exact HW.out.cell (p := ⟨b, off + k, none⟩) hlt
      have htk := take_snoc hu
      have hstep : bodyB v (L.take (k + 1)) = bstep v (some ⟨out, now⟩) L[k] := by rw [htk, bodyB_snoc, HB.out]
      have hstop : bodyB v (L.take (k + 1)) = none → bodyB v L = none := fun h => by
        rw [← List.take_append_drop (k + 1) L]; exact bodyB_stop h
      have hsg := fun w => signed_any L[k] hul w
      have hlt3 : (k : Int) < (n : Int) := by omega
      generalize L[k] = u at *
      clear hu hul htk
      cases hx : sgnB u with
      | none =>
        have hl : litB v u = none := by unfold litB; rw [hx]
        have hnone := hstop (by rw [hstep]; exact bstep_bad hl)
        have HN := Lib.hid hnone
        have hsg' : ∀ w, Calls Tryd.prog 66 #[.string (bs u)] w fun e w' => e = .returned (.tuple #[.int .i64 0, .bool false]) ∧ Below w.heap.size w w' := fun w => by
          have := hsg w; unfold SgnPost at this; rw [hx] at this; exact this
        have HG := Lib.hid hsg'
        clear hsg hsg' hx hl hnone hstop hstep
        go_wp2_with fail
        refine (HG.out _).mono ?_
        rintro e w1 ⟨rfl, hb1⟩
        go_wp2
        go_ret2
        exact .inl ⟨HN.out, rfl, HW.out.trans (hb1.mono HW.out.size)⟩
      | some x =>
        have hxb := sgnB_bd hx
        have hsg' : ∀ w, Calls Tryd.prog 66 #[.string (bs u)] w fun e w' => e = .returned (.tuple #[.int .i64 x, .bool true]) ∧ Below w.heap.size w w' := fun w => by
          have := hsg w; unfold SgnPost at this; rw [hx] at this; exact this
        have HG := Lib.hid hsg'
        have hva := fun w => variable_any x hxb.1 hxb.2 w
        have HV := Lib.hid hva; clear hva
        have hlb : litB v u = if v < av x then none else some x := by unfold litB; rw [hx]; rfl
        clear hsg hsg' hx
        by_cases hg : v < av x
        · rw [if_pos hg] at hlb
          have hnone := hstop (by rw [hstep]; exact bstep_bad hlb)
          have HN := Lib.hid hnone
          clear hnone hstop hstep hlb
          generalize av x = y at *
          go_wp2_with fail
          refine (HG.out _).mono ?_
          rintro e w1 ⟨rfl, hb1⟩
          go_wp2_with fail
          refine (HV.out _).mono ?_
          rintro e w' ⟨rfl, rfl⟩
          go_wp2
          go_ret2
          exact .inl ⟨HN.out, rfl, HW.out.trans (hb1.mono HW.out.size)⟩
        · rw [if_neg hg] at hlb
          clear hstop
          by_cases h0 : x = 0
          · have hnext : bodyB v (L.take (k + 1)) = some ⟨out ++ [now], []⟩ := by rw [hstep]; exact bstep_end (by rw [hlb, h0])
            have HNX := Lib.hid hnext
            have h0b : (x == 0) = true := by simpa using h0
            clear hnext hstep hlb h0
            generalize av x = y at *
            have hsz := HR.out.size
            have hbs := HR.out.base
            go_wp2_with fail
            refine (HG.out _).mono ?_
            rintro e w1 ⟨rfl, hb1⟩
            have HR1 := Lib.hid (HR.out.below hb1)
            have HW1 := Lib.hid (HW.out.trans (hb1.mono HW.out.size))
            have hs1 : w.heap.size ≤ w1.heap.size := HW1.out.size
            clear HR HW hb1
            go_wp2_with fail
            refine (HV.out _).mono ?_
            rintro e w' ⟨rfl, rfl⟩
            have HRA := Lib.hid (fun o => HR1.out.below ((Below.refl w1.heap.size w1).alloc (Nat.le_refl _) o))
            go_wp2_with (first | (at_builtin; refine wpList_append_own _ rfl (.tmp 37) (.tmp 39) 30 rfl w.heap.size 22 i1 (.slice none 0 0) 1 24 Tryd.underlying30 hj hy0 hy1 hy2 rfl (by decide) _ _ _ rfl (HRA.out _).rows ⟨w1.heap.size, 0, none⟩ 1 1 [.slice a7 now.length c7] rfl rfl ?c1 ?c2 ?c3 ?c4 ?c5 ?_) | fail)
            case c1 => exact one_cell _ _ _
            case c2 => intro u hu; simp at hu; subst hu; rfl
            case c3 => unfold maxLen; omega
            case c4 => omega
            case c5 => simp; omega
            intro v' w2 hown hgrow _
            have HRN := Lib.hid ((HRA.out _).clause hown hgrow)
            have HWN := Lib.hid ((HW1.out.alloc hs1 _).grown hgrow (by simp; omega) (fun q hq => ((HRA.out (.cells #[.slice a7 now.length c7] 22)).rows.lt q hq).1))
            clear HR1 HW1 HRA hown hgrow
            go_wp2
            go_roundw
            case rel => exact ⟨k + 1, _, _, _, _, by omega, by go_num, HNX, HRN, HWN⟩
            case measure => simp [intOf]; omega
          · have hnext : bodyB v (L.take (k + 1)) = some ⟨out, now ++ [x]⟩ := by rw [hstep]; exact bstep_lit hlb h0
            have HNX := Lib.hid hnext
            have h0b : (x == 0) = false := by simpa using h0
            have h0c : (x != 0) = true := by simpa using h0
            clear hnext hstep hlb h0
            generalize av x = y at *
            have hsz := HR.out.size
            have hbs := HR.out.base
            go_wp2_with fail
            refine (HG.out _).mono ?_
            rintro e w1 ⟨rfl, hb1⟩
            have HR1 := Lib.hid (HR.out.below hb1)
            have HW1 := Lib.hid (HW.out.trans (hb1.mono HW.out.size))
            have hs1 : w.heap.size ≤ w1.heap.size := HW1.out.size
            have hs2 : Bc ≤ w1.heap.size := HR1.out.size
            clear HR HW hb1
            go_wp2_with fail
            refine (HV.out _).mono ?_
            rintro e w' ⟨rfl, rfl⟩
            have HRA := Lib.hid (fun o => HR1.out.below ((Below.refl w1.heap.size w1).alloc (Nat.le_refl _) o))
            go_wp2_with (first | (at_builtin; refine wpList_append_own _ rfl (.tmp 33) (.tmp 35) 22 rfl Bc 3 i0 (.int .i64 0) 1 8 Tryd.underlying22 hi hz0 hz1 hz2 rfl (by decide) _ _ _ rfl (HRA.out _).cur ⟨w1.heap.size, 0, none⟩ 1 1 [.int .i64 x] rfl rfl ?c1 ?c2 ?c3 ?c4 ?c5 ?_) | fail)
            case c1 => exact one_cell _ _ _
            case c2 => intro u hu; simp at hu; subst hu; rfl
            case c3 => unfold maxLen; omega
            case c4 => omega
            case c5 => simp; omega
            intro v' w2 hown hgrow _
            have HRN := Lib.hid ((HRA.out _).lit hown hgrow)
            have HWN := Lib.hid ((HW1.out.alloc hs1 _).grown hgrow (by simp; omega) (fun q hq => by have := ((HRA.out (.cells #[.int .i64 x] 3)).cur.lt q hq).1; omega))
            clear HR1 HW1 HRA hown hgrow
            go_wp2
            go_roundw
            case rel => exact ⟨k + 1, _, _, _, _, by omega, by go_num, HNX, HRN, HWN⟩
            case measure => simp [intOf]; omega
    · obtain rfl : k = n := by omega
      have hall := HB.out
      rw [List.take_of_length_le (by omega)] at hall
      have HA := Lib.hid hall; clear hall HB
      clear hlens
      have hbq : ((now.length : Int) == 0) = decide (now.length = 0) := by rw [Bool.eq_iff_iff]; simp
      have HQ := Lib.hid hbq; clear hbq
      go_wp2
      go_ret2
      exact .inr ⟨out, now, a6, c6, vals, _, Bc, HA.out, congrArg (fun z => Ending.returned (.tuple #[.slice a6 out.length c6, .bool z])) HQ.out, HR.out, HW.out⟩

theorem body_zero (a : Option Addr) (c : Nat) (v : Int) (w : World) : Calls Tryd.prog 51 #[.slice a 0 c, .int .i64 v] w (BodyPost v [] w) := by
  have hfin : BodyPost v [] w (.returned (.tuple #[.slice none 0 0, .bool true])) w := .inr ⟨[], [], none, 0, [], _, _, rfl, rfl, Reading.start w, Below.refl _ _⟩
  have HF := Lib.hid hfin; clear hfin
  go_enter Tryd.func51, Tryd.ntmps51
  go_wp2
  go_loopw [6, 7, 9, 10, 11, 14] (fun s6 s7 _ _ _ i wr => s6 = .slice none 0 0 ∧ s7 = .slice none 0 0 ∧ i = .int .i64 0 ∧ wr = w) (fun _ _ _ _ _ _ _ => 0)
  case atStart => exact ⟨rfl, rfl, rfl, rfl⟩
  case round =>
    obtain ⟨rfl, rfl, rfl, rfl⟩ := hrel
    go_wp2
    go_ret2
    exact HF.out
theorem body_any (a : Option Addr) (c : Nat) (v : Int) (hv : 0 ≤ v ∧ v ≤ 1000000) (L : List Wd) (hn : L.length ≤ 1000000) (hs : ∀ u ∈ L, u.length ≤ 1000000) (w : World) (h : Strs w a L) :
    Calls Tryd.prog 51 #[.slice a L.length c, .int .i64 v] w (BodyPost v L w) := by
  rcases h with rfl | ⟨b, off, rfl, hlt, hc⟩
  · exact body_zero a c v w
  · exact body_core b off _ c v hv L rfl hn hs w hlt hc
end Go.Proofs.YtmgkoehclabejaaDoor
