/- Contracts: the answers' New; Inputs. -/
import Derived.Test.YtpniffcojmlboaaED
namespace Go.Proofs.Ytpniffcojmlboaa
open Go.RowKit Go.Lib Go.Maps
set_option maxRecDepth 100000

/-- The answers' maker, come since w. -/
structure Rn (w : World) (R T : Nat) (w' : World) (lv cv : Value) (hs : Nat → Value) (V : List Nat) (C : List (List Int)) : Prop where
  rm : Rm w' R T lv cv hs V C
  bel : Below w.heap.size w w'
  new : ∀ b, Om R lv cv C.length hs b → w.heap.size ≤ b
set_option maxHeartbeats 1000000 in
/-- New, of the answers -/
theorem rnew_any (w : World) (T : Nat) : Calls Try.prog 10 #[.pointer (some ⟨T, 0, none⟩)] w fun e w' => ∃ R lv cv hs, e = .returned (.pointer (some ⟨R, 0, none⟩)) ∧ Hid (Rn w R T w' lv cv hs [0] [[-1]]) := by
  have HF := Lib.hid (show Rn w (w.heap.size + 1 + 1 + 1) T ((((w.alloc (.cells #[.int .i64 0] 3)).alloc (.cells #[.int .i64 (-1)] 3)).alloc (.cells #[.slice (some ⟨w.heap.size + 1, 0, none⟩) 1 1] 26)).alloc (.cells #[.pointer (some ⟨T, 0, none⟩), .slice (some ⟨w.heap.size, 0, none⟩) 1 1, .slice (some ⟨w.heap.size + 1 + 1, 0, none⟩) 1 1] 39)) (.slice (some ⟨w.heap.size, 0, none⟩) 1 1) (.slice (some ⟨w.heap.size + 1 + 1, 0, none⟩) 1 1) (fun _ => .slice (some ⟨w.heap.size + 1, 0, none⟩) 1 1) [0] [[-1]] from by
    have r4 := World.rowIs_alloc (((w.alloc (.cells #[.int .i64 0] 3)).alloc (.cells #[.int .i64 (-1)] 3)).alloc (.cells #[.slice (some ⟨w.heap.size + 1, 0, none⟩) 1 1] 26)) #[.pointer (some ⟨T, 0, none⟩), .slice (some ⟨w.heap.size, 0, none⟩) 1 1, .slice (some ⟨w.heap.size + 1 + 1, 0, none⟩) 1 1] 39 (hdR T (.slice (some ⟨w.heap.size, 0, none⟩) 1 1) (.slice (some ⟨w.heap.size + 1 + 1, 0, none⟩) 1 1)) (fun i hi => by
        have hi' : i < 3 := hi
        match i, hi' with
        | 0, _ | 1, _ | 2, _ => rfl)
    have r3 := (Frs.made (e := 26) (Below.refl _ ((w.alloc (.cells #[.int .i64 0] 3)).alloc (.cells #[.int .i64 (-1)] 3))) #[.slice (some ⟨w.heap.size + 1, 0, none⟩) 1 1] (fun _ => .slice (some ⟨w.heap.size + 1, 0, none⟩) 1 1) (fun j hj => by
      obtain rfl : j = 0 := by simp at hj; omega
      rfl) (by unfold maxLen; simp)).own
    have r1 := (Frs.made (e := 3) (Below.refl _ w) #[.int .i64 0] (nodV [0]) (fun j hj => by
      obtain rfl : j = 0 := by simp at hj; omega
      rfl) (by unfold maxLen; simp)).own
    simp only [World.size_alloc] at r4 r3
    have hb : Below w.heap.size w ((((w.alloc (.cells #[.int .i64 0] 3)).alloc (.cells #[.int .i64 (-1)] 3)).alloc (.cells #[.slice (some ⟨w.heap.size + 1, 0, none⟩) 1 1] 26)).alloc (.cells #[.pointer (some ⟨T, 0, none⟩), .slice (some ⟨w.heap.size, 0, none⟩) 1 1, .slice (some ⟨w.heap.size + 1 + 1, 0, none⟩) 1 1] 39)) := bela (bela (bela (bela (Below.refl _ _))))
    refine ⟨⟨r4, r1.of_block fun b e => ?_, r3.of_block fun b e => ?_, fun j hj => ?_, fun j hj b e => ?_, fun e => ?_, fun e => ?_, fun b e k => ?_⟩, hb, ?_⟩
    · injection e with e; simp at e
      rw [Below.heap_alloc _ _ _ (by simp; omega), Below.heap_alloc _ _ _ (by simp; omega), Below.heap_alloc _ _ _ (by simp; omega)]
    · injection e with e; simp at e
      rw [Below.heap_alloc _ _ _ (by simp; omega)]
    · obtain rfl : j = 0 := by simp at hj; omega
      exact row_new (w.alloc (.cells #[.int .i64 0] 3)) (l := [-1]) rfl _ (by simp) (((Below.refl _ _).alloc (by simp) _).alloc (by simp) _)
    · injection e with e; simp at e
      rintro (e2 | e2 | e2)
      · omega
      · injection e2 with e2; simp at e2; omega
      · injection e2 with e2; simp at e2; omega
    · injection e with e; simp at e; omega
    · injection e with e; simp at e
    · injection e with e; simp at e
      injection k with k; simp at k; omega
    · rintro b ((e | e | e) | ⟨j, _, e⟩)
      · omega
      · injection e with e; simp at e; omega
      · injection e with e; simp at e; omega
      · injection e with e; simp at e; omega)
  go_enter Try.func10, Try.ntmps10
  go_wp2
  go_ret
  exact ⟨_, _, _, _, rfl, HF⟩
variable {w w' : World} {K G M Mv : Nat} {v iv fv : Value} {hs : Nat → Value} {s : Gr} {V : List Nat} {ls : List (List Int)}
/-- An input's value. -/
def inW (s : Gr) (V : List Nat) (m : Nat) (f : Nat → Bool) (j : Nat) : Bool := decide (nin s.L s.n j + 1 ∈ V) && (decide (vr V (nin s.L s.n j + 1) ≤ m) && f (vr V (nin s.L s.n j + 1) - 1))
theorem nin_lt (L : Nat → Option (Nat × Nat)) (j : Nat) : ∀ k, nin L k j ≤ k
  | 0 => Nat.le_refl _
  | k + 1 => by unfold nin; have := nin_lt L j k; split <;> omega
set_option maxHeartbeats 4000000 in
/-- Inputs -/
theorem inputs_m (h : Cm w K G Mv fv hs V ls) (hg : Gm w G M v iv s) (hn : s.n ≤ 100000) (hV : V.length ≤ 200000) {am : Option Addr} {m cm : Nat} {f : Nat → Bool} (hm : HasB w am m f) (hm2 : m ≤ 1000000) :
    Calls Try.prog 18 #[.pointer (some ⟨K, 0, none⟩), .slice am m cm] w fun e w' => ∃ a c, e = .returned (.slice a (cnt s.L s.n) c) ∧ Hid (Frs 4 w w' (.slice a (cnt s.L s.n) c) (cnt s.L s.n) (fun j => .bool (inW s V m f j))) := by
  have HI := Lib.hid (inputs_any hg hn)
  have c0 := h.c0
  have H := Lib.hid h
  have HM := Lib.hid hm
  have hcn := cnt_le s.L s.n
  have HIN := Lib.hid (show ∀ j, inV s j = .int .i64 ((2 * (nin s.L s.n j + 1) : Nat) : Int) from fun _ => rfl)
  generalize hN : cnt s.L s.n = N at *
  have hNb : N ≤ 100000 := by omega
  have HMK := Lib.hid (show ∀ W : World, (Instr.makeSlice 23 (.int .i64 ((N : Nat) : Int)) (.int .i64 ((N : Nat) : Int))).run Try.prog W = .ok (.slice (some ⟨W.heap.size, 0, none⟩) N N) (W.alloc (.cells (madeCells #[.bool false] N) 4)) from fun W => make_bools N (by omega) W)
  have hmk := HMK.out
  clear h hg hm hN hcn
  go_enter Try.func18, Try.ntmps18
  go_wp2_with (go_at_call 20; refine HI.out.mono ?_; rintro e w1 ⟨a1, c1, rfl, H1⟩)
  have HF0 : Hid (Frs 4 w (w1.alloc (.cells (madeCells #[.bool false] N) 4)) (.slice (some ⟨w1.heap.size, 0, none⟩) N N) N (fun j => .bool (decide (j < 0) && inW s V m f j))) := Lib.hid (by
    refine ⟨.inr ⟨w1.heap.size, N, fun _ => .bool false, rfl, Nat.le_refl _, by unfold maxLen; omega, ?_, fun j hj => ?_⟩, H1.out.bel.trans ((Below.refl _ w1).alloc H1.out.bel.size _), fun b e => ?_⟩
    · rw [Nat.mul_one]; exact World.rowIs_made w1 (.bool false) N 4
    · simp
    · injection e with e; simp at e; rw [← e]; exact H1.out.bel.size)
  have H10 : Hid (Sl (w1.alloc (.cells (madeCells #[.bool false] N) 4)) 3 1 (.slice a1 N c1) N (inV s)) := Lib.hid (H1.out.own.of_block fun b e => Below.heap_alloc _ _ _ (H1.out.own.lt e))
  have HNE : Hid (∀ b, (Value.slice a1 N c1).ownBlock = some b → b ≠ w1.heap.size) := Lib.hid fun b e k => by have := H1.out.own.lt e; omega
  generalize hg1 : w1.heap.size = g1 at *
  clear hg1 H1 hmk HMK
  go_loopw [22] (fun i wr => ∃ k : Nat, k ≤ N ∧ i = .int .i64 k ∧ Hid (Frs 4 w wr (.slice (some ⟨g1, 0, none⟩) N N) N (fun j => .bool (decide (j < k) && inW s V m f j))) ∧ Hid (Sl wr 3 1 (.slice a1 N c1) N (inV s))) (fun i _ => N - (intOf i).toNat)
  case atStart => exact ⟨0, Nat.zero_le _, rfl, HF0, H10⟩
  case round =>
    obtain ⟨k, hk, rfl, HF, HA⟩ := hrel
    clear HF0 H10
    by_cases hlt : k < N
    · have hltI : (k : Int) < (N : Int) := by omega
      have hI0 : (0 : Int) ≤ (k : Int) := by omega
      obtain ⟨ga, rfl, _, hc⟩ := HA.out.cells1 (by omega)
      have xc := hc k hlt
      rw [HIN.out] at xc
      have hwr := HF.out.bel
      have hcm := H.out.below hwr
      have c1' := hcm.c1
      have xg := HF.out.own.cell (j := k) (by omega)
      have fg := HF.out.own.frozen k
      have hW : inW s V m f k = (decide (nin s.L s.n k + 1 ∈ V) && (decide (vr V (nin s.L s.n k + 1) ≤ m) && f (vr V (nin s.L s.n k + 1) - 1))) := rfl
      have hul : nin s.L s.n k ≤ s.n := nin_lt _ _ _
      obtain ⟨u, hu⟩ : ∃ u, u = nin s.L s.n k + 1 := ⟨_, rfl⟩
      rw [← hu] at xc hW
      have hub : u ≤ 100001 := by omega
      have hrun := hcm.mp.look (k := u) (by omega) wr rfl
      have hvl := vr_le V u
      have hvp := vr_pos (V := V) (n := u)
      have HMr := Lib.hid (show HasB wr am m f from HM.out.below hwr)
      obtain ⟨e0, he0⟩ : ∃ e0, e0 = 2 * u := ⟨_, rfl⟩
      rw [← he0] at xc
      have d1 : ((e0 : Int)).tdiv 2 = (u : Int) := by rw [Int.tdiv_eq_ediv_of_nonneg (by omega)]; omega
      have d2 : (e0 : Int) / 2 = (u : Int) := by omega
      have hgg : ga ≠ g1 := HNE.out ga rfl
      have HSL := Lib.hid (show ∀ b : Bool, Hid (Sl (wr.setCell ⟨g1, k, none⟩ (.bool b)) 3 1 (.slice (some ⟨ga, 0, none⟩) N c1) N (inV s)) from fun b => Lib.hid (HA.out.of_block fun b' e => Below.heap_setCell _ _ _ _ (fun k' => by cases e; exact hgg k')))
      have HST := Lib.hid (show ∀ b : Bool, inW s V m f k = b → Hid (Frs 4 w (wr.setCell ⟨g1, k, none⟩ (.bool b)) (.slice (some ⟨g1, 0, none⟩) N N) N (fun j => .bool (decide (j < k + 1) && inW s V m f j))) from fun b hb => Lib.hid (by
        refine ⟨(HF.out.own.set k (.bool b)).congr fun j hj => ?_, HF.out.bel.trans (by
          have := HF.out.new g1 rfl
          exact (Fr.set (B := fun b' => b' = g1) (Fr.refl _ wr) (p := ⟨g1, k, none⟩) rfl _).below HF.out.bel.size fun b' e => by omega), HF.out.new⟩
        show (if j = k then Value.bool b else Value.bool (decide (j < k) && inW s V m f j)) = Value.bool (decide (j < k + 1) && inW s V m f j)
        by_cases e : j = k
        · subst e; rw [if_pos rfl, decide_eq_true (show j < j + 1 by omega), hb]; simp
        · rw [if_neg e]
          by_cases e2 : j < k
          · rw [decide_eq_true e2, decide_eq_true (show j < k + 1 by omega)]
          · rw [decide_eq_false e2, decide_eq_false (show ¬ j < k + 1 by omega)]))
      clear hc hwr hcm hul hu he0 hgg
      by_cases hin : u ∈ V
      · obtain ⟨p, hp⟩ : ∃ p, vr V u = p + 1 := ⟨vr V u - 1, by have := hvp.2 hin; omega⟩
        rw [hp] at hrun hvl hW
        rw [decide_eq_true hin, Bool.true_and, Nat.add_sub_cancel] at hW
        clear hvp hp hin
        have hpb : p + 1 ≤ 200000 := by omega
        by_cases hpm : p + 1 ≤ m
        · have h1 : (p : Int) + 1 ≤ (m : Int) := by omega
          have h2 : (p : Int) < (m : Int) := by omega
          have h3 : (0 : Int) < (p : Int) + 1 := by omega
          rcases HMr.out with e | ⟨b2, off2, rfl, _, hc2⟩
          · omega
          have xm := hc2 p (by omega)
          rw [decide_eq_true hpm, Bool.true_and] at hW
          have HSS := HST.out _ hW
          generalize f p = fp at *
          clear hc2 hpm hW HST
          go_wp2
          go_roundw
          case rel => exact ⟨k + 1, by omega, by go_num, HSS, HSL.out _⟩
          case measure => simp [intOf]; omega
        · have h1 : ¬ (p : Int) + 1 ≤ (m : Int) := by omega
          have h3 : (0 : Int) < (p : Int) + 1 := by omega
          rw [decide_eq_false hpm, Bool.false_and] at hW
          have HSS := HST.out _ hW
          clear hpm hW HST
          go_wp2
          go_roundw
          case rel => exact ⟨k + 1, by omega, by go_num, HSS, HSL.out _⟩
          case measure => simp [intOf]; omega
      · have h0 : vr V u = 0 := vr_no hin
        rw [h0] at hrun
        rw [decide_eq_false hin, Bool.false_and] at hW
        have HSS := HST.out _ hW
        clear hvp h0 hin hvl hW HST
        go_wp2
        go_roundw
        case rel => exact ⟨k + 1, by omega, by go_num, HSS, HSL.out _⟩
        case measure => simp [intOf]; omega
    · obtain rfl : k = N := by omega
      have hltI : ¬ (k : Int) < (k : Int) := by omega
      have HR := Lib.hid (show Frs 4 w wr (.slice (some ⟨g1, 0, none⟩) k k) k (fun j => .bool (inW s V m f j)) from HF.out.congr fun j hj => by rw [decide_eq_true hj, Bool.true_and])
      clear hlt
      go_wp2
      go_ret
      exact ⟨_, _, rfl, HR⟩
end Go.Proofs.Ytpniffcojmlboaa
