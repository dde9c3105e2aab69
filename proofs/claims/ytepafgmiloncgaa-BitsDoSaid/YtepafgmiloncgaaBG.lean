/- Contracts: negateIf, magnitude, Some. -/
import Derived.Test.YtepafgmiloncgaaBF
namespace Go.Proofs.Ytepafgmiloncgaa
open Go.RowKit Go.Lib Go.Maps
set_option maxRecDepth 100000

theorem bit_zero (j : Nat) : bit 0 j = false := by unfold bit; simp
theorem const_nw (x : Int) (n : Nat) (hn : 1 ≤ n ∧ n ≤ 16) (w : World) : Calls Try.prog 23 #[.int .i64 x, .int .i64 (n : Nat)] w fun e w' => ∃ b, e = .returned (.slice (some ⟨b, 0, none⟩) n n) ∧ Hid (Nw w w' b n (fun j => (bit x j).toNat)) := by
  have := const_any x (n : Int) w
  rw [lim_of hn] at this
  exact this.mono fun e w' ⟨b, he, h⟩ => ⟨b, he, Lib.hid ⟨h.out.1, h.out.2.1, h.out.2.2⟩⟩
theorem num_bit (I : Nat → Bool) (s : Gr) (x : Int) (n : Nat) : num I s (fun j => (bit x j).toNat) n = trm n x := by rw [num_const, sg_bit]
theorem trm_zero {n : Nat} (hn : 0 < n) : trm n 0 = 0 := trm_fit hn (by have := Nat.two_pow_pos (n - 1); omega) (by have := Nat.two_pow_pos (n - 1); omega)
section
variable {w w1 w2 : World} {G M b : Nat} {v iv v1 iv1 v2 iv2 : Value} {s s1 s2 : Gr} {f f' : Nat → Nat}
set_option maxHeartbeats 1000000 in
/-- negateIf -/
theorem negateIf_any (hG : Gm w G M v iv s) (hs : s.n ≤ 86000) {a : Option Addr} {n c1 : Nat} (hn : 1 ≤ n ∧ n ≤ 16) {g : Nat → Nat} (ha : HasE w (Bg G M v iv) a n g) (hg : Vo s n g) {c : Nat} (hc : c < 2 * (s.n + 1)) :
    Calls Try.prog 53 #[.pointer (some ⟨G, 0, none⟩), .int .i64 (c : Nat), .slice a n c1] w (NuR w G M v iv s (10 * n) n (fun I => if val I s c then trm n (0 - num I s g n) else num I s g n)) := by
  have HK := Lib.hid (const_nw 0 n hn w)
  have HS := Lib.hid (show ∀ w1 b1, Nw w w1 b1 n (fun j => (bit 0 j).toNat) → Calls Try.prog 30 #[.pointer (some ⟨G, 0, none⟩), .slice (some ⟨b1, 0, none⟩) n n, .slice a n c1] w1 (NuR w1 G M v iv s (7 * n) n (fun I => trm n (0 - num I s g n))) from fun w1 b1 N => by
    have := sub_any (hG.below N.bel) (by omega) ((N.has (fun k e => hG.lt e)).vc hn n) ((ha.below N.bel).vc hn c1) (Vo.const s n _) hg
    rw [Nat.max_self] at this
    exact this.mono fun e w' h => h.congr fun I => by rw [num_bit, trm_zero (by omega)])
  have HM := Lib.hid (show ∀ w1 b1 w2 b2 f v2 iv2 t, Nw w w1 b1 n (fun j => (bit 0 j).toNat) → GmT G M w1 v iv w2 v2 iv2 t → Nv w1 w2 (Bg G M v2 iv2) b2 n f → Nu s t (7 * n) n f (fun I => trm n (0 - num I s g n)) → Calls Try.prog 28 #[.pointer (some ⟨G, 0, none⟩), .int .i64 (c : Nat), .slice (some ⟨b2, 0, none⟩) n n, .slice a n c1] w2 (NuR w G M v iv s (10 * n) n (fun I => if val I s c then trm n (0 - num I s g n) else num I s g n)) from fun w1 b1 w2 b2 f v2 iv2 t N T N2 U => by
    have := muxv_any T.gm (by have := U.lay.n; omega) (N2.has.vc hn n) (((ha.below N.bel).next T).vc hn c1) U.vo (hg.lay U.lay) (U.lay.lt hc)
    rw [Nat.max_self] at this
    refine this.mono fun e w' ⟨b, f', v', iv', t', he, T', N', U'⟩ => ⟨b, f', v', iv', t', he, Lib.hid (((hG.refl.below N.bel).trans T).trans T'.out), Lib.hid (N'.out.pre (Nat.le_trans N.bel.size T.fr.size)), Lib.hid (((U'.out.trans U.lay).le (by omega)).congr fun I => ?_)⟩
    rw [U.lay.val hc, U.val I, num_lay hg U.lay])
  clear hG ha hg hc
  go_enter Try.func53, Try.ntmps53
  go_wp2_with (first
    | (go_at_call 23; refine HK.out.mono ?_; rintro e w1 ⟨b1, rfl, H1⟩)
    | (go_at_call 30; refine (HS.out _ _ H1.out).mono ?_; rintro e w2 ⟨b2, f, v2, iv2, t, rfl, T2, N2, U2⟩)
    | (go_at_call 28; refine (HM.out _ _ _ _ _ _ _ _ H1.out T2.out N2.out U2.out).mono ?_; rintro e w3 ⟨b3, f3, v3, iv3, t3, rfl, T3, N3, U3⟩))
  go_ret
  exact ⟨_, f3, v3, iv3, t3, rfl, T3, N3, U3⟩
/-- A number without its sign is answered. -/
def MagR (w : World) (G M : Nat) (v iv : Value) (s : Gr) (m n : Nat) (x : (Nat → Bool) → Nat) (e : Ending) (w' : World) : Prop :=
  ∃ (b : Nat) (f : Nat → Nat) (v' iv' : Value) (t : Gr), e = .returned (.slice (some ⟨b, 0, none⟩) n n) ∧ Hid (GmT G M w v iv w' v' iv' t) ∧ Hid (Nv w w' (Bg G M v' iv') b n f) ∧ Hid (Mag s t m n f x)
set_option maxHeartbeats 1000000 in
/-- magnitude -/
theorem magnitude_any (hG : Gm w G M v iv s) (hs : s.n ≤ 86000) {a : Option Addr} {n c1 : Nat} (hn : 1 ≤ n ∧ n ≤ 16) {g : Nat → Nat} (ha : HasE w (Bg G M v iv) a n g) (hg : Vo s n g) :
    Calls Try.prog 52 #[.pointer (some ⟨G, 0, none⟩), .slice a n c1] w (MagR w G M v iv s (10 * n) n (fun I => (num I s g n).natAbs)) := by
  have HS := Lib.hid (sign_any (c := c1) ha hn)
  have HN := Lib.hid (show Calls Try.prog 53 #[.pointer (some ⟨G, 0, none⟩), .int .i64 (g (n - 1) : Nat), .slice a n c1] w (MagR w G M v iv s (10 * n) n (fun I => (num I s g n).natAbs)) from (negateIf_any hG hs hn ha hg (hg (n - 1) (by omega))).mono fun e w' ⟨b, f', v', iv', t', he, T', N', U'⟩ => ⟨b, f', v', iv', t', he, T', N', Lib.hid (Nu.mag (by omega) (U'.out.congr fun I => by rw [num_sign I s g (by omega)]) fun I => num_range (by omega) I)⟩)
  clear hG ha hg
  generalize g (n - 1) = sgn at *
  go_enter Try.func52, Try.ntmps52
  go_wp2_with (first
    | (go_at_call 46; refine HS.out.mono ?_; rintro e w1 ⟨rfl, rfl⟩)
    | (go_at_call 53; refine HN.out.mono ?_; rintro e w3 ⟨b3, f3, v3, iv3, t3, rfl, T3, N3, U3⟩))
  go_ret
  exact ⟨_, f3, v3, iv3, t3, rfl, T3, N3, U3⟩
theorem anyB_num (I : Nat → Bool) (s : Gr) (g : Nat → Nat) {n : Nat} (hn : 0 < n) : anyB (fun j => val I s (g j)) n = decide (num I s g n ≠ 0) := by
  rw [Bool.eq_iff_iff, anyB_iff, decide_eq_true_iff]
  unfold num
  rw [Ne, sg_zero_iff hn, un_eq_zero]
  constructor
  · rintro ⟨j, hj, h⟩ h2
    rw [h2 j hj] at h; cases h
  · intro h
    by_cases h2 : ∃ j, j < n ∧ val I s (g j) = true
    · exact h2
    · exact absurd (fun j hj => by
        cases e : val I s (g j)
        · rfl
        · exact absurd ⟨j, hj, e⟩ h2) h
set_option maxHeartbeats 1000000 in
/-- Some -/
theorem some_any (hG : Gm w G M v iv s) (hs : s.n ≤ 86000) {va : Value} {n : Nat} {g : Nat → Nat} (ha : Vc w (Bg G M v iv) va n g) (hg : Vo s n g) :
    Calls Try.prog 22 #[.pointer (some ⟨G, 0, none⟩), va] w (LayE w G M v iv s n (fun I => decide (num I s g n ≠ 0))) := by
  have hn := ha.len
  have HV := Lib.hid (vector_any ha (fun k e => hG.lt e))
  have HA := Lib.hid (show ∀ w1 a c, Below w.heap.size w w1 ∧ HasE w1 (Bg G M v iv) a n g → Calls Try.prog 44 #[.pointer (some ⟨G, 0, none⟩), .slice a n c] w1 (LayE w G M v iv s n (fun I => decide (num I s g n ≠ 0))) from fun w1 a c ⟨hb, h⟩ =>
    (any_any (hG.below hb) (by omega) h hg).mono fun e w' ⟨he, v', iv', H⟩ => ⟨_, v', iv', _, he, Lib.hid ((hG.refl.below hb).trans H.out), Lib.hid (by
      have := any_ed hG.ok hg
      exact ⟨this.lay, this.lt, fun I => by rw [this.val I, anyB_num I s g (by omega)]⟩)⟩)
  clear hG ha hg
  go_enter Try.func22, Try.ntmps22
  go_wp2_with (first
    | (go_at_call 45; refine HV.out.mono ?_; rintro e w1 ⟨a, c, rfl, H1⟩)
    | (go_at_call 44; refine (HA.out _ _ _ H1.out).mono ?_; rintro e w3 ⟨r, v3, iv3, t3, rfl, T3, E3⟩))
  go_ret
  exact ⟨_, v3, iv3, t3, rfl, T3, E3⟩
end
end Go.Proofs.Ytepafgmiloncgaa
