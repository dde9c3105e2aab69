/- The answers' maker in memory; Var, lit. -/
import Derived.Test.YtpniffcojmlboaaEA
namespace Go.Proofs.Ytpniffcojmlboaa
open Go.RowKit Go.Lib Go.Maps
set_option maxRecDepth 100000

def nodV (V : List Nat) (j : Nat) : Value := .int .i64 (V.getD j 0 : Nat)
def hdR (T : Nat) (lv cv : Value) (j : Nat) : Value := if j = 0 then .pointer (some ⟨T, 0, none⟩) else if j = 1 then lv else cv
def Br (R : Nat) (lv cv : Value) (b : Nat) : Prop := b = R ∨ lv.ownBlock = some b ∨ cv.ownBlock = some b
def Om (R : Nat) (lv cv : Value) (n : Nat) (hs : Nat → Value) (b : Nat) : Prop := Br R lv cv b ∨ ∃ j, j < n ∧ (hs j).ownBlock = some b
structure Rm (w : World) (R T : Nat) (lv cv : Value) (hs : Nat → Value) (V : List Nat) (C : List (List Int)) : Prop where
  hd : w.rowIs R 39 3 (hdR T lv cv)
  lsl : Sl w 3 1 lv V.length (nodV V)
  csl : Sl w 26 1 cv C.length hs
  row : ∀ j (h : j < C.length), Row w (hs j) C[j]
  out : ∀ j, j < C.length → ∀ b, (hs j).ownBlock = some b → ¬ Br R lv cv b
  n1 : lv.ownBlock ≠ some R
  n2 : cv.ownBlock ≠ some R
  n3 : ∀ b, lv.ownBlock = some b → cv.ownBlock ≠ some b
variable {w w' : World} {R T : Nat} {lv cv lv' cv' : Value} {hs hs' : Nat → Value} {V V' : List Nat} {C C' : List (List Int)}
theorem Rm.lt (h : Rm w R T lv cv hs V C) {b : Nat} (hb : Om R lv cv C.length hs b) : b < w.heap.size := by
  rcases hb with (rfl | hb | hb) | ⟨j, hj, hb⟩
  · exact h.hd.lt
  · exact h.lsl.lt hb
  · exact h.csl.lt hb
  · exact (h.row j hj).lt hb
theorem Rm.of_block (h : Rm w R T lv cv hs V C) (hz : w.heap.size ≤ w'.heap.size) (hb : ∀ b, Om R lv cv C.length hs b → w'.heap[b]? = w.heap[b]?) : Rm w' R T lv cv hs V C :=
  ⟨h.hd.of_block (hb R (.inl (.inl rfl))), h.lsl.of_block fun b e => hb b (.inl (.inr (.inl e))), h.csl.of_block fun b e => hb b (.inl (.inr (.inr e))), fun j hj => (h.row j hj).of_block hz fun b e => hb b (.inr ⟨j, hj, e⟩), h.out, h.n1, h.n2, h.n3⟩
theorem Rm.below (h : Rm w R T lv cv hs V C) (hb : Below w.heap.size w w') : Rm w' R T lv cv hs V C := h.of_block hb.size fun b e => hb.block b (h.lt e)
theorem Rm.c0 (h : Rm w R T lv cv hs V C) : w.cell? ⟨R, 0, none⟩ = some (.pointer (some ⟨T, 0, none⟩)) := h.hd.cell (i := 0) (by omega)
theorem Rm.c1 (h : Rm w R T lv cv hs V C) : w.cell? ⟨R, 1, none⟩ = some lv := h.hd.cell (i := 1) (by omega)
theorem Rm.c2 (h : Rm w R T lv cv hs V C) : w.cell? ⟨R, 2, none⟩ = some cv := h.hd.cell (i := 2) (by omega)
theorem Rm.rws (h : Rm w R T lv cv hs V C) : Rws w cv hs C := ⟨h.csl, h.row⟩
structure RmT (R T : Nat) (w : World) (lv cv : Value) (hs : Nat → Value) (n : Nat) (w' : World) (lv' cv' : Value) (hs' : Nat → Value) (V : List Nat) (C : List (List Int)) : Prop where
  rm : Rm w' R T lv' cv' hs' V C
  fr : Fr (Om R lv cv n hs) w w'
  own : ∀ b, Om R lv' cv' C.length hs' b → Om R lv cv n hs b ∨ w.heap.size ≤ b
theorem Rm.refl (h : Rm w R T lv cv hs V C) : RmT R T w lv cv hs C.length w lv cv hs V C := ⟨h, Fr.refl _ _, fun _ e => .inl e⟩
theorem RmT.trans {w1 w2 : World} {lv1 cv1 lv2 cv2 : Value} {hs1 hs2 : Nat → Value} {V1 V2 : List Nat} {n : Nat} {C1 C2 : List (List Int)} (h : RmT R T w lv cv hs n w1 lv1 cv1 hs1 V1 C1) (k : RmT R T w1 lv1 cv1 hs1 C1.length w2 lv2 cv2 hs2 V2 C2) : RmT R T w lv cv hs n w2 lv2 cv2 hs2 V2 C2 :=
  ⟨k.rm, h.fr.then k.fr fun b e => h.own b e, fun b e => (k.own b e).elim (h.own b) fun e => .inr (Nat.le_trans h.fr.size e)⟩
theorem RmT.below {w1 w2 : World} {lv1 cv1 : Value} {hs1 : Nat → Value} {V1 : List Nat} {n : Nat} {C1 : List (List Int)} (h : RmT R T w lv cv hs n w1 lv1 cv1 hs1 V1 C1) (k : Below w1.heap.size w1 w2) : RmT R T w lv cv hs n w2 lv1 cv1 hs1 V1 C1 :=
  h.trans ⟨h.rm.below k, .of_below k, fun _ e => .inl e⟩
theorem vr_at {V : List Nat} {n k : Nat} (hk : k < V.length) (e : V[k] = n) (hn : n ∉ V.take k) : vr V n = k + 1 := by
  have hm : n ∈ V := by rw [← e]; exact List.getElem_mem hk
  have h1 : V = V.take k ++ V.drop k := (List.take_append_drop k V).symm
  have h2 : V.drop k = n :: V.drop (k + 1) := by rw [List.drop_eq_getElem_cons hk, e]
  unfold vr
  rw [if_pos hm]
  congr 1
  rw [h1, List.idxOf_append, if_neg hn, h2]
  simp; omega
theorem vr_no {V : List Nat} {n : Nat} (hn : n ∉ V) : vr V n = 0 := by unfold vr; rw [if_neg hn]
set_option maxHeartbeats 2000000 in
/-- Var -/
theorem var_any (h : Rm w R T lv cv hs V C) (hV : V.length ≤ 1000000) (n : Nat) : Calls Try.prog 19 #[.pointer (some ⟨R, 0, none⟩), .int .i64 n] w fun e w' => e = .returned (.int .i64 (vr V n : Nat)) ∧ w = w' := by
  have c1 := h.c1
  have HS := Lib.hid h.lsl
  obtain ⟨a, c, rfl, _, _⟩ := h.lsl.shape
  obtain ⟨m, hm⟩ : ∃ m, m = V.length := ⟨_, rfl⟩
  rw [← hm] at c1
  have HM := Lib.hid hm
  have hm2 : m ≤ 1000000 := by omega
  clear h hm hV
  go_enter Try.func19, Try.ntmps19
  go_wp2
  go_loopw [5] (fun i wr => ∃ k : Nat, k ≤ m ∧ i = .int .i64 k ∧ wr = w ∧ Hid (n ∉ V.take k)) (fun i _ => m - (intOf i).toNat)
  case atStart => exact ⟨0, Nat.zero_le _, rfl, rfl, Lib.hid (by simp)⟩
  case round =>
    obtain ⟨k, hk, rfl, rfl, HP⟩ := hrel
    by_cases hlt : k < m
    · have hltI : (k : Int) < (m : Int) := by omega
      have hkl : k < V.length := HM.out ▸ hlt
      have hs2 := HS.out
      rw [← HM.out] at hs2
      obtain ⟨g, rfl, _, hc⟩ := hs2.cells1 (by omega)
      have xc : wr.cell? ⟨g, k, none⟩ = some (.int .i64 (V[k] : Nat)) := (hc k hlt).trans (by unfold nodV; simp [hkl])
      clear hc hs2
      by_cases e : V[k] = n
      · have hv := Lib.hid (vr_at hkl e HP.out)
        rw [e] at xc
        clear e hkl
        go_wp2
        go_ret
        exact ⟨by rw [hv.out]; rfl, by first | rfl | trivial⟩
      · have hn : Hid (n ∉ V.take (k + 1)) := Lib.hid (by
          rw [List.take_succ_eq_append_getElem hkl]
          intro k'
          rcases List.mem_append.1 k' with k' | k'
          · exact HP.out k'
          · simp at k'; exact e k'.symm)
        generalize V[k] = x at *
        have eI : ¬ (x : Int) = (n : Int) := by omega
        have eB : ((x : Int) == (n : Int)) = false := by rw [beq_eq_false_iff_ne]; exact eI
        clear e hkl
        go_wp2
        go_roundw
        case rel => exact ⟨k + 1, by omega, by go_num, by first | rfl | trivial, hn⟩
        case measure => simp [intOf]; omega
    · obtain rfl : k = m := by omega
      have hltI : ¬ (k : Int) < (k : Int) := by omega
      have hv := Lib.hid (vr_no (V := V) (n := n) (by have := HP.out; rwa [HM.out, List.take_length] at this))
      clear hlt
      go_wp2
      go_ret
      exact ⟨by rw [hv.out]; rfl, by first | rfl | trivial⟩
/-- lit -/
theorem rlit_any (h : Rm w R T lv cv hs V C) (hV : V.length ≤ 1000000) (e : Nat) (he : e ≤ 1000000) : Calls Try.prog 34 #[.pointer (some ⟨R, 0, none⟩), .int .i64 e] w fun r w' => r = .returned (.int .i64 (lit V e)) ∧ w = w' := by
  have HV := Lib.hid (var_any h hV (e / 2))
  have hd : ((e : Int)).tdiv 2 = ((e / 2 : Nat) : Int) := by rw [Int.tdiv_eq_ediv_of_nonneg (by omega)]; omega
  have hd2 : ((e : Int)) / 2 = ((e / 2 : Nat) : Int) := by omega
  have hv := vr_le V (e / 2)
  have hl : lit V e = if e % 2 = 1 then -((vr V (e / 2) : Nat) : Int) else ((vr V (e / 2) : Nat) : Int) := rfl
  rw [hl]
  clear h hl
  generalize hq : vr V (e / 2) = q at *
  generalize hu : e / 2 = u at *
  by_cases h1 : e % 2 = 1
  · have hm : ((e : Int)).tmod 2 = 1 := by rw [Int.tmod_eq_emod_of_nonneg (by omega)]; omega
    have hm2 : ((e : Int)) % 2 = 1 := by omega
    rw [if_pos h1]
    have hng : IntKind.i64.wrap (-(q : Int)) = -(q : Int) := IntWalk.i64_in _ (by omega)
    go_enter Try.func34, Try.ntmps34
    go_wp2_with (go_at_call 19; refine HV.out.mono ?_; rintro e w1 ⟨rfl, rfl⟩)
    go_ret
    exact ⟨rfl, rfl⟩
  · have hm : ¬ ((e : Int)).tmod 2 = 1 := by rw [Int.tmod_eq_emod_of_nonneg (by omega)]; omega
    have hm2 : ¬ ((e : Int)) % 2 = 1 := by omega
    rw [if_neg h1]
    go_enter Try.func34, Try.ntmps34
    go_wp2_with (go_at_call 19; refine HV.out.mono ?_; rintro e w1 ⟨rfl, rfl⟩)
    go_ret
    exact ⟨rfl, rfl⟩
end Go.Proofs.Ytpniffcojmlboaa
