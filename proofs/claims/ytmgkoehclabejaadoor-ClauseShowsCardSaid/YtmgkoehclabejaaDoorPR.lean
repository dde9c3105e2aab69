/- The walk of ClauseParses. -/
import Derived.Test.YtmgkoehclabejaaDoorPP
import Derived.Test.YtmgkoehclabejaaDoorPQ
import Derived.Test.YtmgkoehclabejaaDoorI
namespace Go.Proofs.YtmgkoehclabejaaDoor
open Go Go.RowKit Go.Lib

theorem bodyB_each (v : Int) (L : List Wd) : ∀ (s t : Bod), L.foldl (bstep v) (some s) = some t → (∀ c ∈ t.out, c ∈ s.out ∨ c.length ≤ s.now.length + L.length) := by
  induction L with
  | nil => intro s t h; simp at h; subst h; exact fun c hc => .inl hc
  | cons u L ih =>
    intro s t h c hc
    rw [List.foldl_cons] at h
    cases hl : litB v u with
    | none => rw [show bstep v (some s) u = none by cases s; exact bstep_bad hl, bstep_none] at h; cases h
    | some x =>
      by_cases hx : x = 0
      · subst hx
        rw [show bstep v (some s) u = some ⟨s.out ++ [s.now], []⟩ by cases s; exact bstep_end hl] at h
        rcases ih _ _ h c hc with h | h
        · rcases List.mem_append.1 h with h | h
          · exact .inl h
          · simp at h; subst h; right; omega
        · right; simp at h ⊢; omega
      · rw [show bstep v (some s) u = some ⟨s.out, s.now ++ [x]⟩ by cases s; exact bstep_lit hl hx] at h
        rcases ih _ _ h c hc with h | h
        · exact .inl h
        · right; simp at h ⊢; omega
theorem parseB_small {l : Wd} {out : List (List Int)} (h : parseB l = some out) : out.length ≤ l.length ∧ ∀ c ∈ out, c.length ≤ l.length := by
  unfold parseB at h
  split at h
  · cases h
  · rename_i v n _
    split at h
    · cases h
    · rename_i s hs
      split at h
      · simp only [Option.some.injEq] at h
        subst h
        have h1 := bodyB_lens v _ ⟨[], []⟩ s hs
        have h2 := bodyB_each v _ ⟨[], []⟩ s hs
        have h3 := wordsL_len l
        simp at h1 h2
        exact ⟨by omega, fun c hc => by have := h2 c hc; omega⟩
      · cases h
theorem rows_len {R : Nat → Row} {out : List (List Int)} {j : Nat} (h : rowsL R out.length = out) (hj : j < out.length) : ∃ c ∈ out, (R j).n = c.length := by
  refine ⟨lof (R j).f (R j).n, ?_, (lof_length _ _).symm⟩
  rw [← h]
  unfold rowsL
  exact List.mem_map.2 ⟨j, by simpa using hj, rfl⟩

def TruePost (w : World) (e : Ending) (w' : World) : Prop := e = .returned (.bool true) ∧ Below w.heap.size w w'
set_option maxRecDepth 100000 in
set_option maxHeartbeats 2000000 in
theorem lawParses_l (l : List UInt8) (w : World) (hT : Tab w) : Calls Tryd.prog 5 #[.string (bs l)] w (TruePost w) := by
  have ha := awake_any w hT
  have hsz := bs_size l
  by_cases hl : l.length ≤ 2000
  · have hp := fun w => parse_any l (by omega) w
    have hr := fun w => refParse_any l (by omega) w
    have hl2 : (l.length : Int) ≤ 2000 := by omega
    have HA := Lib.hid ha
    have HP := Lib.hid hp
    have HR := Lib.hid hr
    clear ha hp hr
    go_enter Tryd.func5, Tryd.ntmps5
    go_wp2_with fail
    refine HA.out.mono ?_
    rintro e w1 ⟨rfl, hb1⟩
    go_wp2_with fail
    refine (HP.out _).mono ?_
    rintro e w2 ⟨hp, hb2⟩
    have hb12 := hb1.trans (hb2.mono hb1.size)
    rcases hp with ⟨hn, rfl⟩ | ⟨out, a, c, R, ho, rfl, hrw, hro⟩
    · go_wp2_with fail
      refine (HR.out _).mono ?_
      rintro e w3 ⟨hr, hb3⟩
      rcases hr with ⟨_, rfl⟩ | ⟨out', a', c', R', ho', rfl, _, _⟩
      · have hli := lists_any none none 0 0 0 0 (fun _ => ⟨none, 0, 0, fun _ => 0⟩) (fun _ => ⟨none, 0, 0, fun _ => 0⟩) w3 (by omega) (fun j h => by omega) (.inl rfl) (.inl rfl)
        have hli' : Calls Tryd.prog 23 #[.slice none 0 0, .slice none 0 0] w3 fun e w' => e = .returned (.bool true) ∧ ∃ q, w' = w3.drewN q := hli
        have HLI := Lib.hid hli'
        have HBF := Lib.hid (hb12.trans (hb3.mono hb12.size))
        clear hli hli' hb1 hb2 hb3 hb12 hn
        go_wp2_with fail
        refine HLI.out.mono ?_
        rintro e w4 ⟨rfl, q, rfl⟩
        go_wp2
        go_ret
        exact ⟨rfl, below_drewN' HBF.out q⟩
      · rw [hn] at ho'; cases ho'
    · go_wp2_with fail
      refine (HR.out _).mono ?_
      rintro e w3 ⟨hr, hb3⟩
      rcases hr with ⟨hn, _⟩ | ⟨out', a', c', R', ho', rfl, hrw', hro'⟩
      · rw [hn] at ho; cases ho
      · obtain rfl : out' = out := by rw [ho] at ho'; exact (Option.some.inj ho').symm
        obtain ⟨hs1, hs2⟩ := parseB_small ho
        have hli := lists_any a a' out'.length out'.length c c' R R' w3 (by omega) (fun j hj => by
          obtain ⟨k, hk, e⟩ := rows_len hro hj
          have := hs2 k hk; omega) (hrw.below hb3) hrw'
        have hli' : Calls Tryd.prog 23 #[.slice a out'.length c, .slice a' out'.length c'] w3 fun e w' => e = .returned (.bool true) ∧ ∃ q, w' = w3.drewN q := hli.mono (by
          rintro e w' ⟨rfl, hq⟩
          exact ⟨by rw [hro, hro']; simp, hq⟩)
        have HLI := Lib.hid hli'
        have HBF := Lib.hid (hb12.trans (hb3.mono hb12.size))
        clear hli hli' hb1 hb2 hb3 hb12 ho ho' hrw hrw' hro hro' hs2
        generalize out'.length = m at *
        go_wp2_with fail
        refine HLI.out.mono ?_
        rintro e w4 ⟨rfl, q, rfl⟩
        go_wp2
        go_ret
        exact ⟨rfl, below_drewN' HBF.out q⟩
  · have hl2 : (2000 : Int) < (l.length : Int) := by omega
    have ha2 := fun w1 (hb : Below w.heap.size w w1) => awake_any w1 (hT.below hb)
    have HA := Lib.hid ha
    have HA2 := Lib.hid ha2
    clear ha ha2
    go_enter Tryd.func5, Tryd.ntmps5
    go_wp2_with fail
    refine HA.out.mono ?_
    rintro e w1 ⟨rfl, hb1⟩
    go_wp2_with fail
    refine (HA2.out _ hb1).mono ?_
    rintro e w2 ⟨rfl, hb2⟩
    go_wp2
    go_ret
    exact ⟨rfl, hb1.trans (hb2.mono hb1.size)⟩
theorem lawParses_any (s : ByteArray) (w : World) (hT : Tab w) : Calls Tryd.prog 5 #[.string s] w (TruePost w) := by
  have := lawParses_l s.data.toList w hT
  rwa [bs_of] at this
end Go.Proofs.YtmgkoehclabejaaDoor
