/- Contracts: Lit, Take, New. -/
import Derived.Test.YtpniffcojmlboaaCE
namespace Go.Proofs.Ytpniffcojmlboaa
open Go.RowKit Go.Lib Go.Maps
set_option maxRecDepth 100000

theorem vr_zero {s : Gr} {V : List Nat} (h : Vs s V) : vr V 0 = 1 := by
  have := h.zero
  cases V with
  | nil => cases this
  | cons x r => injection this with this; subst this; simp [vr]
theorem lit_zero {s : Gr} {V : List Nat} (h : Vs s V) : lit V 0 = 1 := by unfold lit; rw [if_neg (by decide), vr_zero h]; rfl
theorem lit_one {s : Gr} {V : List Nat} (h : Vs s V) : lit V 1 = -1 := by unfold lit; rw [if_pos (by decide), vr_zero h]; rfl
variable {w w' : World} {K G M Mv : Nat} {v iv fv : Value} {hs : Nat → Value} {s : Gr} {V : List Nat} {ls : List (List Int)}
set_option maxHeartbeats 1000000 in
/-- Lit, of an edge of the graph -/
theorem lit_any (h : Cm w K G Mv fv hs V ls) (hg : Gm w G M v iv s) (ha : Apart G M v iv K Mv fv ls.length hs) (hn : s.n ≤ 100000) (hV : Vs s V) (hl : ls.length ≤ 100000) (e : Nat) (he : e < 2 * (s.n + 1)) :
    Calls Try.prog 11 #[.pointer (some ⟨K, 0, none⟩), .int .i64 e] w fun r w' => r = .returned (.int .i64 (lit (need s (V, ls) (e / 2)).1 e)) ∧ ∃ fv' hs', Hid (CmT K G Mv w fv hs ls.length w' fv' hs' (need s (V, ls) (e / 2)).1 (need s (V, ls) (e / 2)).2) := by
  have HV := Lib.hid (vars_any h)
  have HNo := Lib.hid (nodes_any hg hn)
  have c0 := h.c0
  have HN := Lib.hid (need_any h hg ha hn hV hl (e / 2) (by omega))
  have hV2 := (hV.need hg.ok (st := (V, ls)) (n := e / 2) (by omega)).few
  have hv0 : ¬ (V.length : Int) = 0 := by
    have := List.length_pos_of_mem hV.pos
    omega
  have HL := Lib.hid (show ∀ w2 fv' hs', CmT K G Mv w fv hs ls.length w2 fv' hs' (need s (V, ls) (e / 2)).1 (need s (V, ls) (e / 2)).2 → Calls Try.prog 32 #[.pointer (some ⟨K, 0, none⟩), .int .i64 e] w2 fun r w' => r = .returned (.int .i64 (lit (need s (V, ls) (e / 2)).1 e)) ∧ w2 = w' from fun w2 fv' hs' T => literal_any T.cm (by omega) e (by omega))
  generalize need s (V, ls) (e / 2) = Z at *
  have h1 : ((e : Int)).tdiv 2 = ((e / 2 : Nat) : Int) := by rw [Int.tdiv_eq_ediv_of_nonneg (by omega)]; omega
  have h2 : (e : Int) / 2 = ((e / 2 : Nat) : Int) := by omega
  have h3 : ¬ ((s.n : Int) + 1 ≤ ((e / 2 : Nat) : Int)) := by omega
  have h4 : ¬ (e : Int) < 0 := by omega
  clear h hg ha hV hV2
  generalize e / 2 = u at *
  go_enter Try.func11, Try.ntmps11
  go_wp2_with (first
    | (go_at_call 13; refine HV.out.mono ?_; rintro e w' ⟨rfl, rfl⟩)
    | (go_at_call 30; refine HNo.out.mono ?_; rintro e w' ⟨rfl, rfl⟩)
    | (go_at_call 31; refine HN.out.mono ?_; rintro e w2 ⟨rfl, fv2, hs2, T2⟩)
    | (go_at_call 32; refine (HL.out _ _ _ T2.out).mono ?_; rintro e w' ⟨rfl, rfl⟩))
  go_ret
  exact ⟨rfl, _, _, T2⟩
set_option maxHeartbeats 1000000 in
/-- Lit, of an edge below 0 -/
theorem lit_neg (h : Cm w K G Mv fv hs V ls) (hg : Gm w G M v iv s) (ha : Apart G M v iv K Mv fv ls.length hs) (hn : s.n ≤ 100000) (hV : Vs s V) (hl : ls.length ≤ 100000) (e : Int) (he : e < 0) :
    Calls Try.prog 11 #[.pointer (some ⟨K, 0, none⟩), .int .i64 e] w fun r w' => r = .returned (.int .i64 1) ∧ ∃ fv' hs', Hid (CmT K G Mv w fv hs ls.length w' fv' hs' V ls) := by
  have HV := Lib.hid (vars_any h)
  have HN := Lib.hid (need_any h hg ha hn hV hl 0 (by omega))
  rw [need_in (by exact hV.pos)] at HN
  have hv0 : ¬ (V.length : Int) = 0 := by
    have := List.length_pos_of_mem hV.pos
    omega
  have hV2 := hV.few
  have HL := Lib.hid (show ∀ w2 fv' hs', CmT K G Mv w fv hs ls.length w2 fv' hs' V ls → Calls Try.prog 32 #[.pointer (some ⟨K, 0, none⟩), .int .i64 0] w2 fun r w' => r = .returned (.int .i64 1) ∧ w2 = w' from fun w2 fv' hs' T => by have := literal_any T.cm (by omega) 0 (by omega); rwa [lit_zero hV] at this)
  clear h hg ha hV hV2
  go_enter Try.func11, Try.ntmps11
  go_wp2_with (first
    | (go_at_call 13; refine HV.out.mono ?_; rintro e w' ⟨rfl, rfl⟩)
    | (go_at_call 31; refine HN.out.mono ?_; rintro e w2 ⟨rfl, fv2, hs2, T2⟩)
    | (go_at_call 32; refine (HL.out _ _ _ T2.out).mono ?_; rintro e w' ⟨rfl, rfl⟩))
  go_ret
  exact ⟨rfl, _, _, T2⟩
/-- Rows of numbers, in memory. -/
structure Rws (w : World) (v : Value) (hs : Nat → Value) (ls : List (List Int)) : Prop where
  sl : Sl w 26 1 v ls.length hs
  row : ∀ j (h : j < ls.length), Row w (hs j) ls[j]
def Orw (v : Value) (n : Nat) (hs : Nat → Value) (b : Nat) : Prop := v.ownBlock = some b ∨ ∃ j, j < n ∧ (hs j).ownBlock = some b
theorem Rws.lt {v : Value} (h : Rws w v hs ls) {b : Nat} (hb : Orw v ls.length hs b) : b < w.heap.size := by
  rcases hb with hb | ⟨j, hj, hb⟩
  · exact h.sl.lt hb
  · exact (h.row j hj).lt hb
theorem Rws.of_block {v : Value} (h : Rws w v hs ls) (hz : w.heap.size ≤ w'.heap.size) (hb : ∀ b, Orw v ls.length hs b → w'.heap[b]? = w.heap[b]?) : Rws w' v hs ls :=
  ⟨h.sl.of_block fun b e => hb b (.inl e), fun j hj => (h.row j hj).of_block hz fun b e => hb b (.inr ⟨j, hj, e⟩)⟩
/-- What Take leaves, and what it hands back. -/
structure Taken (w : World) (K G Mv : Nat) (fv : Value) (hs : Nat → Value) (w' : World) (V : List Nat) (ls : List (List Int)) : Prop where
  cm : Cm w' K G Mv (.slice none 0 0) hs V []
  rws : Rws w' fv hs ls
  fr : Fr (fun b => b = K) w w'
/-- Take -/
theorem take_any (h : Cm w K G Mv fv hs V ls) : Calls Try.prog 14 #[.pointer (some ⟨K, 0, none⟩)] w fun e w' => e = .returned fv ∧ Hid (Taken w K G Mv fv hs w' V ls) := by
  have c2 := h.c2
  have f2 := h.hd.frozen 2
  obtain ⟨a, c, rfl, _⟩ := h.sl.shape
  have HF := Lib.hid (show Taken w K G Mv (.slice a ls.length c) hs (w.setCell ⟨K, 2, none⟩ (.slice none 0 0)) V ls from by
    have hset : ∀ b, b ≠ K → (w.setCell ⟨K, 2, none⟩ (.slice none 0 0)).heap[b]? = w.heap[b]? := fun b e => Below.heap_setCell _ _ _ _ (fun k => e k)
    refine ⟨⟨?_, h.mp.of_block (hset Mv h.n2), Sl.nil, (fun j hj => absurd hj (Nat.not_lt_zero _)), (fun j hj => absurd hj (Nat.not_lt_zero _)), (fun e => by cases e), h.n2, (fun e => by cases e)⟩, ⟨h.sl.of_block fun b e => hset b fun k => h.n1 (k ▸ e), fun j hj => (h.row j hj).of_block (by simp) fun b e => hset b fun k => h.out j hj b e (.inl k)⟩, Fr.set (B := fun b => b = K) (Fr.refl _ w) (p := ⟨K, 2, none⟩) rfl _⟩
    refine World.rowIs.congr (h.hd.set 2 _) fun i hi => ?_
    match i, hi with
    | 0, _ => rfl
    | 1, _ => rfl
    | 2, _ => rfl)
  clear h
  go_enter Try.func14, Try.ntmps14
  go_wp2
  go_ret
  exact ⟨rfl, HF⟩
/-- A maker that has come since w. -/
structure Cn (w : World) (K G Mv : Nat) (w' : World) (fv : Value) (hs : Nat → Value) (V : List Nat) (ls : List (List Int)) : Prop where
  cm : Cm w' K G Mv fv hs V ls
  bel : Below w.heap.size w w'
  new : ∀ b, Oc K Mv fv ls.length hs b → w.heap.size ≤ b
set_option maxHeartbeats 1000000 in
/-- New -/
theorem cnf_new (w : World) (G : Nat) : Calls Try.prog 9 #[.pointer (some ⟨G, 0, none⟩)] w fun e w' => ∃ K Mv fv hs, e = .returned (.pointer (some ⟨K, 0, none⟩)) ∧ Hid (Cn w K G Mv w' fv hs [0] [[-1]]) := by
  have hm0 : VMap (w.alloc (.map #[] 0)) w.heap.size [] := ⟨.map [], World.ownsMap_made w Try.prog 3 (plainElem Try.prog 3), ⟨rfl, fun k => rfl, fun k => rfl⟩⟩
  obtain ⟨w1, hrun, hm1, hg1⟩ := hm0.store (k := 0) (by simp) (by omega) (by simp)
  have hrun1 : (Instr.mapUpdate 63 (.map (some w.heap.size)) (.int .i64 0) (.int .i64 1)).run Try.prog (w.alloc (.map #[] 0)) = .ok () w1 := hrun
  have hmm := @run_makeMap Try.prog
  have hb1 : Below w.heap.size w w1 := ((Below.refl _ w).alloc (Nat.le_refl _) _).trans (by
    have : Fr (fun b => b = w.heap.size) (w.alloc (.map #[] 0)) w1 := (Fr.refl _ _).grown hg1 fun k e _ => by cases e; rfl
    exact this.below (by simp) fun k e => by omega)
  have hz1 := hg1.size
  simp at hz1
  have HF := Lib.hid (show Cn w (w1.heap.size + 1 + 1) G w.heap.size (((w1.alloc (.cells #[.int .i64 (-1)] 3)).alloc (.cells #[.slice (some ⟨w1.heap.size, 0, none⟩) 1 1] 26)).alloc (.cells #[.pointer (some ⟨G, 0, none⟩), .map (some w.heap.size), .slice (some ⟨w1.heap.size + 1, 0, none⟩) 1 1] 65)) (.slice (some ⟨w1.heap.size + 1, 0, none⟩) 1 1) (fun _ => .slice (some ⟨w1.heap.size, 0, none⟩) 1 1) [0] [[-1]] from by
    have r3 := World.rowIs_alloc ((w1.alloc (.cells #[.int .i64 (-1)] 3)).alloc (.cells #[.slice (some ⟨w1.heap.size, 0, none⟩) 1 1] 26)) #[.pointer (some ⟨G, 0, none⟩), .map (some w.heap.size), .slice (some ⟨w1.heap.size + 1, 0, none⟩) 1 1] 65 (hdC G w.heap.size (.slice (some ⟨w1.heap.size + 1, 0, none⟩) 1 1)) (fun i hi => by
        have hi' : i < 3 := hi
        match i, hi' with
        | 0, _ | 1, _ | 2, _ => rfl)
    have r2 := (Frs.made (e := 26) (Below.refl _ (w1.alloc (.cells #[.int .i64 (-1)] 3))) #[.slice (some ⟨w1.heap.size, 0, none⟩) 1 1] (fun _ => .slice (some ⟨w1.heap.size, 0, none⟩) 1 1) (fun j hj => by
      obtain rfl : j = 0 := by simp at hj; omega
      rfl) (by unfold maxLen; simp)).own
    have r1 : Row (((w1.alloc (.cells #[.int .i64 (-1)] 3)).alloc (.cells #[.slice (some ⟨w1.heap.size, 0, none⟩) 1 1] 26)).alloc (.cells #[.pointer (some ⟨G, 0, none⟩), .map (some w.heap.size), .slice (some ⟨w1.heap.size + 1, 0, none⟩) 1 1] 65)) (.slice (some ⟨w1.heap.size, 0, none⟩) 1 1) [-1] := row_new w1 (l := [-1]) rfl _ rfl (((Below.refl _ _).alloc (by simp) _).alloc (by simp) _)
    simp only [World.size_alloc] at r3 r2
    refine ⟨⟨r3, hm1.of_block ?_, r2.of_block fun b e => ?_, fun j hj => ?_, fun j hj b e => ?_, fun e => ?_, ?_, fun e => ?_⟩, ((hb1.alloc hb1.size _).alloc (by simp; omega) _).alloc (by simp; omega) _, ?_⟩
    · rw [Below.heap_alloc _ _ _ (by simp; omega), Below.heap_alloc _ _ _ (by simp; omega), Below.heap_alloc _ _ _ (by omega)]
    · injection e with e; simp at e
      rw [Below.heap_alloc _ _ _ (by simp; omega)]
    · obtain rfl : j = 0 := by simp at hj; omega
      exact r1
    · injection e with e; simp at e
      rintro (e2 | e2 | e2)
      · omega
      · omega
      · injection e2 with e2; simp at e2; omega
    · injection e with e; simp at e
    · omega
    · injection e with e; simp at e; omega
    · rintro b ((e | e | e) | ⟨j, _, e⟩)
      · omega
      · omega
      · injection e with e; simp at e; omega
      · injection e with e; simp at e; omega)
  clear hm0 hm1 hg1 hb1 hrun
  go_enter Try.func9, Try.ntmps9
  go_wp2
  go_ret
  exact ⟨_, _, _, _, rfl, HF⟩
/-- New, of no graph -/
theorem cnf_new_nil (w : World) : Calls Try.prog 9 #[.pointer none] w fun e w' => e = .returned (.pointer none) ∧ w = w' := by
  go_enter Try.func9, Try.ntmps9
  go_wp2
  go_ret
  exact ⟨rfl, rfl⟩
end Go.Proofs.Ytpniffcojmlboaa
