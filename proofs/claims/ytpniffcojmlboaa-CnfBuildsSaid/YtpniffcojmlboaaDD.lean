/- awake. -/
import Derived.Test.YtpniffcojmlboaaDC
namespace Go.Proofs.Ytpniffcojmlboaa
open Go.RowKit Go.Lib Go.Maps
set_option maxRecDepth 100000

def sA : Gr := ((s0.add none).add none).add (some (2, 4))
def lsA : List (List Int) := [[-1], [-4, 2], [-4, 3], [4, -2, -3]]
theorem and_A : andN ((s0.add none).add none) 2 4 = (6, sA) := rfl
theorem need_A : need sA ([0], [[-1]]) 3 = ([0, 1, 2, 3], lsA) := by decide
theorem vs_A (s : Gr) : Vs s [0] := ⟨by simp, fun n hn => by simp at hn; omega, rfl⟩
def gA (j : Nat) : Int := if j = 0 then 4 else if j = 1 then -2 else -3
set_option maxHeartbeats 4000000 in
/-- awake -/
theorem awake_any (w : World) : Calls Try.prog 6 #[] w fun e w' => e = .returned (.bool true) ∧ Below w.heap.size w w' := by
  have HN := Lib.hid (new_any w)
  have HCN := Lib.hid (show ∀ w1 G M v iv, Gn w G M w1 v iv s0 → Calls Try.prog 9 #[.pointer (some ⟨G, 0, none⟩)] w1 fun e w' => ∃ K Mv fv hs, e = .returned (.pointer (some ⟨K, 0, none⟩)) ∧ Hid (Lo w w' G M v iv s0 K Mv fv hs [0] [[-1]] (.slice none 0 0) 0 (fun _ => ((0 : Nat) : Int)) (.slice none 0 0) 0 (fun _ => 0)) from fun w1 G M v iv g =>
    (cnf_new w1 G).mono fun e w' ⟨K, Mv, fv, hs, h1, h2⟩ => ⟨K, Mv, fv, hs, h1, Lib.hid (Lo.new (Lw.nil g (fun _ => 0)) h2.out)⟩)
  have HCZ := Lib.hid cnf_new_nil
  have HI0 := Lib.hid (show ∀ w1 G M v iv K Mv fv hs ev n F lv m Lf, Lo w w1 G M v iv s0 K Mv fv hs [0] [[-1]] ev n F lv m Lf → Calls Try.prog 26 #[.pointer (some ⟨G, 0, none⟩)] w1 fun e w' => e = .returned (.int .i64 2) ∧ ∃ v' iv', Hid (Lo w w' G M v' iv' (s0.add none) K Mv fv hs [0] [[-1]] ev n F lv m Lf) from fun w1 G M v iv K Mv fv hs ev n F lv m Lf h =>
    (input_any h.gm (by show 0 ≤ _; omega)).mono fun e w' ⟨h1, v', iv', T⟩ => ⟨h1, v', iv', Lib.hid (h.lay T.out)⟩)
  have HI1 := Lib.hid (show ∀ w1 G M v iv K Mv fv hs ev n F lv m Lf, Lo w w1 G M v iv (s0.add none) K Mv fv hs [0] [[-1]] ev n F lv m Lf → Calls Try.prog 26 #[.pointer (some ⟨G, 0, none⟩)] w1 fun e w' => e = .returned (.int .i64 4) ∧ ∃ v' iv', Hid (Lo w w' G M v' iv' ((s0.add none).add none) K Mv fv hs [0] [[-1]] ev n F lv m Lf) from fun w1 G M v iv K Mv fv hs ev n F lv m Lf h =>
    (input_any h.gm (by show 1 ≤ _; omega)).mono fun e w' ⟨h1, v', iv', T⟩ => ⟨h1, v', iv', Lib.hid (h.lay T.out)⟩)
  have HA := Lib.hid (show ∀ w1 G M v iv K Mv fv hs ev n F lv m Lf, Lo w w1 G M v iv ((s0.add none).add none) K Mv fv hs [0] [[-1]] ev n F lv m Lf → Calls Try.prog 23 #[.pointer (some ⟨G, 0, none⟩), .int .i64 2, .int .i64 4] w1 fun e w' => e = .returned (.int .i64 6) ∧ ∃ v' iv', Hid (Lo w w' G M v' iv' sA K Mv fv hs [0] [[-1]] ev n F lv m Lf) from fun w1 G M v iv K Mv fv hs ev n F lv m Lf h => by
    have hc := and_in h.gm (by show 2 ≤ _; omega) 2 4 (by show 2 < 2 * 3; omega) (by show 4 < 2 * 3; omega)
    rw [and_A] at hc
    exact hc.mono fun e w' ⟨h1, v', iv', T⟩ => ⟨h1, v', iv', Lib.hid (h.lay T.out)⟩)
  have HL := Lib.hid (show ∀ w1 G M v iv K Mv fv hs ev n F lv m Lf, Lo w w1 G M v iv sA K Mv fv hs [0] [[-1]] ev n F lv m Lf → Calls Try.prog 11 #[.pointer (some ⟨K, 0, none⟩), .int .i64 6] w1 fun e w' => e = .returned (.int .i64 4) ∧ ∃ fv' hs', Hid (Lo w w' G M v iv sA K Mv fv' hs' [0, 1, 2, 3] lsA ev n F lv m Lf) from fun w1 G M v iv K Mv fv hs ev n F lv m Lf h => by
    have hc := h.lit (by show 3 ≤ _; omega) (vs_A _) (by simp) 6 (by show 6 < 2 * 4; omega)
    rw [show 6 / 2 = 3 from rfl, need_A] at hc
    exact hc)
  have HT := Lib.hid (show ∀ w1 G M v iv K Mv fv hs ev n F lv m Lf, Lo w w1 G M v iv sA K Mv fv hs [0, 1, 2, 3] lsA ev n F lv m Lf → Calls Try.prog 14 #[.pointer (some ⟨K, 0, none⟩)] w1 fun e w' => ∃ g c a3 c3, e = .returned (.slice (some ⟨g, 0, none⟩) 4 c) ∧ w'.cell? ⟨g, 3, none⟩ = some (.slice a3 3 c3) ∧ Hid (HasI w' a3 3 gA) ∧ Hid (Lo w w' G M v iv sA K Mv (.slice none 0 0) hs [0, 1, 2, 3] [] ev n F lv m Lf) from fun w1 G M v iv K Mv fv hs ev n F lv m Lf h =>
    (take_any h.cm).mono fun e w' ⟨h1, T⟩ => by
      obtain ⟨g, c, e1, _⟩ := T.out.rws.sl.pos (by decide)
      have hsl := T.out.rws.sl
      rw [e1] at hsl
      obtain ⟨g', e2, _, hc⟩ := hsl.cells1 (by decide)
      cases e2
      have hr := T.out.rws.row 3 (by decide)
      obtain ⟨a3, c3, e3⟩ := hr.shape
      rw [e3] at hr
      refine ⟨g, c, a3, c3, by rw [h1, e1]; rfl, by rw [hc 3 (by decide), e3]; rfl, Lib.hid ?_, Lib.hid (h.take T.out)⟩
      have h4 := hr.hasI.2
      have : (fun j => (lsA[3] : List Int).getD j 0) = fun j => if j < 3 then gA j else 0 := by
        funext j
        match j with
        | 0 | 1 | 2 => rfl
        | j + 3 => rfl
      rw [this] at h4
      rcases h4 with h4 | ⟨b, off, q1, q2, q3⟩
      · exact absurd h4 (by decide)
      · exact .inr ⟨b, off, q1, q2, fun j hj => (q3 j hj).trans (by show some (Value.int .i64 (if j < 3 then gA j else 0)) = _; rw [if_pos hj])⟩)
  have HV := Lib.hid (show ∀ w1 G M v iv K Mv fv hs ls ev n F lv m Lf, Lo w w1 G M v iv sA K Mv fv hs [0, 1, 2, 3] ls ev n F lv m Lf → Calls Try.prog 13 #[.pointer (some ⟨K, 0, none⟩)] w1 fun e w' => e = .returned (.int .i64 4) ∧ w1 = w' from fun w1 G M v iv K Mv fv hs ls ev n F lv m Lf h => vars_any h.cm)
  have HII := Lib.hid (show ∀ (w5 : World) a3 c3, HasI w5 a3 3 gA → Calls Try.prog 27 #[.slice a3 3 c3, .slice (some ⟨w5.heap.size, 0, none⟩) 3 3] (w5.alloc (.cells #[.int .i64 4, .int .i64 (-2), .int .i64 (-3)] 3)) fun e w' => e = .returned (.bool true) ∧ Below (w5.alloc (.cells #[.int .i64 4, .int .i64 (-2), .int .i64 (-3)] 3)).heap.size (w5.alloc (.cells #[.int .i64 4, .int .i64 (-2), .int .i64 (-3)] 3)) w' from fun w5 a3 c3 h =>
    ints_any (h.below ((Below.refl _ w5).alloc (Nat.le_refl _) _)) (.inr ⟨w5.heap.size, 0, rfl, by simp, fun j hj => by
      have := (World.rowIs_alloc w5 #[.int .i64 4, .int .i64 (-2), .int .i64 (-3)] 3 (fun j => .int .i64 (gA j)) (fun i hi => by
        have hi : i < 3 := hi
        match i, hi with
        | 0, _ | 1, _ | 2, _ => rfl)).cell (i := j) hj
      rw [Nat.zero_add]; exact this⟩) (by decide))
  have HT2 := Lib.hid (show ∀ w1 G M v iv K Mv fv hs ev n F lv m Lf, Lo w w1 G M v iv sA K Mv fv hs [0, 1, 2, 3] [] ev n F lv m Lf → Calls Try.prog 14 #[.pointer (some ⟨K, 0, none⟩)] w1 fun e w' => (∃ a c, e = .returned (.slice a 0 c)) ∧ Below w.heap.size w w' from fun w1 G M v iv K Mv fv hs ev n F lv m Lf h =>
    h.takes.mono fun e w' ⟨h1, T⟩ => ⟨h1, T.out.bel⟩)
  go_enter Try.func6, Try.ntmps6
  go_wp2_with (first
    | (go_at_call 25; refine HN.out.mono ?_; rintro e w1 ⟨G, M, v, iv, rfl, H1⟩)
    | (go_at_call 9; (with_reducible refine (HCZ.out _).mono ?_); rintro e w' ⟨rfl, rfl⟩)
    | (go_at_call 9; refine (HCN.out _ _ _ _ _ H1.out).mono ?_; rintro e w2 ⟨K, Mv, fv, hs, rfl, H2⟩)
    | (go_at_call 26; refine (HI1.out _ _ _ _ _ _ _ _ _ _ _ _ _ _ _ H3.out).mono ?_; rintro e w4 ⟨rfl, v4, iv4, H4⟩)
    | (go_at_call 26; refine (HI0.out _ _ _ _ _ _ _ _ _ _ _ _ _ _ _ H2.out).mono ?_; rintro e w3 ⟨rfl, v3, iv3, H3⟩)
    | (go_at_call 23; refine (HA.out _ _ _ _ _ _ _ _ _ _ _ _ _ _ _ H4.out).mono ?_; rintro e w5 ⟨rfl, v5, iv5, H5⟩)
    | (go_at_call 11; refine (HL.out _ _ _ _ _ _ _ _ _ _ _ _ _ _ _ H5.out).mono ?_; rintro e w6 ⟨rfl, fv6, hs6, H6⟩)
    | (go_at_call 14; refine (HT2.out _ _ _ _ _ _ _ _ _ _ _ _ _ _ _ H8.out).mono ?_; rintro e w9 ⟨⟨a9, c9, rfl⟩, hb9⟩; have HB9 := Lib.hid hb9; clear hb9)
    | (go_at_call 14; refine (HT.out _ _ _ _ _ _ _ _ _ _ _ _ _ _ _ H6.out).mono ?_; rintro e w7 ⟨g, c, a3, c3, rfl, hg3, HI3, H7⟩)
    | (go_at_call 13; refine (HV.out _ _ _ _ _ _ _ _ _ _ _ _ _ _ _ _ H7.out).mono ?_; rintro e w' ⟨rfl, rfl⟩)
    | (go_at_call 27; refine (HII.out _ _ _ HI3.out).mono ?_; rintro e w8 ⟨rfl, hb8⟩; have H8 := Lib.hid ((H7.out.quiet ((Below.refl _ w7).alloc (Nat.le_refl _) _)).quiet hb8); clear hb8))
  go_ret
  exact ⟨rfl, HB9.out⟩
end Go.Proofs.Ytpniffcojmlboaa
