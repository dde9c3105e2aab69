/- Contracts: Or, Xor, Mux. -/
import Derived.Test.YtpniffcojmlboaaM
namespace Go.Proofs.Ytpniffcojmlboaa
open Go.RowKit Go.Lib Go.Maps
set_option maxRecDepth 100000

/-- What a call that lays nodes answers. -/
def Lays (w : World) (G M : Nat) (v iv : Value) (r : Nat × Gr) (e : Ending) (w' : World) : Prop :=
  e = .returned (.int .i64 (r.1 : Nat)) ∧ ∃ v' iv', Hid (GmT G M w v iv w' v' iv' r.2)
theorem Lays.mono {w w0 : World} {G M : Nat} {v iv v0 iv0 : Value} {s : Gr} {r : Nat × Gr} {e : Ending} {w' : World} (h : Lays w G M v iv r e w') (h0 : GmT G M w0 v0 iv0 w v iv s) : Lays w0 G M v0 iv0 r e w' := by
  obtain ⟨he, v', iv', H⟩ := h
  exact ⟨he, v', iv', Lib.hid (h0.trans H.out)⟩
/-- And of two edges of the graph. -/
theorem and_in {w : World} {G M : Nat} {v iv : Value} {s : Gr} (h : Gm w G M v iv s) (hn : s.n ≤ 100000) (x y : Nat) (hx : x < 2 * (s.n + 1)) (hy : y < 2 * (s.n + 1)) :
    Calls Try.prog 23 #[.pointer (some ⟨G, 0, none⟩), .int .i64 x, .int .i64 y] w (Lays w G M v iv (andN s x y)) := by
  have := and_any h hn x y (by omega) (by omega)
  rw [edg_of hx, edg_of hy] at this
  exact this
section
variable {w : World} {G M : Nat} {v iv : Value} {s : Gr}
set_option maxHeartbeats 1000000 in
/-- Or -/
theorem or_any (h : Gm w G M v iv s) (hn : s.n ≤ 100000) (x y : Int) (hx : x ≤ 1000000) (hy : y ≤ 1000000) :
    Calls Try.prog 29 #[.pointer (some ⟨G, 0, none⟩), .int .i64 x, .int .i64 y] w (Lays w G M v iv (orN s (edg s.n x) (edg s.n y))) := by
  have HE := Lib.hid (fun x hx => own_any h hn x hx)
  have HX := Lib.hid hx
  have HY := Lib.hid hy
  have hp := edg_lt s.n x
  have hq := edg_lt s.n y
  have HA := Lib.hid (and_in h hn (nt (edg s.n x)) (nt (edg s.n y)) (nt_lt hp) (nt_lt hq))
  have ha := andN_is (I := fun _ => false) h.ok (nt_lt hp) (nt_lt hq)
  have hr1 : (andN s (nt (edg s.n x)) (nt (edg s.n y))).1 ≤ 1000000 := by have := ha.lt; have := ha.n; omega
  unfold orN
  generalize andN s (nt (edg s.n x)) (nt (edg s.n y)) = r at *
  obtain ⟨r1, r2⟩ := r
  simp only at hr1 ⊢
  clear hx hy h ha
  go_enter Try.func29, Try.ntmps29
  go_wp2_with (first
    | (go_at_call 36; refine (HE.out _ (by first | exact HX.out | exact HY.out)).mono ?_; rintro e w' ⟨rfl, rfl⟩)
    | (go_at_call 22; refine (not_any _ (by omega) _).mono ?_; rintro e w' ⟨rfl, rfl⟩)
    | (go_at_call 23; refine HA.out.mono ?_; rintro e w1 ⟨rfl, v1, iv1, H1⟩))
  go_ret
  exact ⟨rfl, _, _, H1⟩
/-- Or of two edges of the graph. -/
theorem or_in (h : Gm w G M v iv s) (hn : s.n ≤ 100000) (x y : Nat) (hx : x < 2 * (s.n + 1)) (hy : y < 2 * (s.n + 1)) :
    Calls Try.prog 29 #[.pointer (some ⟨G, 0, none⟩), .int .i64 x, .int .i64 y] w (Lays w G M v iv (orN s x y)) := by
  have := or_any h hn x y (by omega) (by omega)
  rw [edg_of hx, edg_of hy] at this
  exact this
set_option maxHeartbeats 1000000 in
/-- Xor -/
theorem xor_any (h : Gm w G M v iv s) (hn : s.n ≤ 90000) (x y : Int) (hx : x ≤ 1000000) (hy : y ≤ 1000000) :
    Calls Try.prog 28 #[.pointer (some ⟨G, 0, none⟩), .int .i64 x, .int .i64 y] w (Lays w G M v iv (xorN s (edg s.n x) (edg s.n y))) := by
  have HE := Lib.hid (fun x hx => own_any h (by omega) x hx)
  have HX := Lib.hid hx
  have HY := Lib.hid hy
  have hp := edg_lt s.n x
  have hq := edg_lt s.n y
  have HA := Lib.hid (and_in h (by omega) (edg s.n x) (nt (edg s.n y)) hp (nt_lt hq))
  have ha := andN_is (I := fun _ => false) h.ok hp (nt_lt hq)
  unfold xorN
  generalize andN s (edg s.n x) (nt (edg s.n y)) = r at *
  obtain ⟨r1, r2⟩ := r
  have hn2 : s.n ≤ r2.n ∧ r2.n ≤ s.n + 1 ∧ r1 < 2 * (r2.n + 1) := ⟨ha.ext.n, ha.n, ha.lt⟩
  have hb := andN_is (I := fun _ => false) (s := r2) ha.ok (a := nt (edg s.n x)) (b := edg s.n y) (by have := nt_lt hp; omega) (by omega)
  have HB := Lib.hid (show ∀ w1 v1 iv1, Gm w1 G M v1 iv1 r2 → Calls Try.prog 23 #[.pointer (some ⟨G, 0, none⟩), .int .i64 (nt (edg s.n x) : Nat), .int .i64 (edg s.n y : Nat)] w1 (Lays w1 G M v1 iv1 (andN r2 (nt (edg s.n x)) (edg s.n y))) from fun w1 v1 iv1 g => and_in g (by omega) _ _ (by have := nt_lt hp; omega) (by omega))
  simp only
  generalize andN r2 (nt (edg s.n x)) (edg s.n y) = q at *
  obtain ⟨q1, q2⟩ := q
  have hn3 : r2.n ≤ q2.n ∧ q2.n ≤ r2.n + 1 ∧ q1 < 2 * (q2.n + 1) := ⟨hb.ext.n, hb.n, hb.lt⟩
  have HC := Lib.hid (show ∀ w1 v1 iv1, Gm w1 G M v1 iv1 q2 → Calls Try.prog 29 #[.pointer (some ⟨G, 0, none⟩), .int .i64 (r1 : Nat), .int .i64 (q1 : Nat)] w1 (Lays w1 G M v1 iv1 (orN q2 r1 q1)) from fun w1 v1 iv1 g => or_in g (by omega) _ _ (by omega) (by omega))
  simp only
  generalize orN q2 r1 q1 = o at *
  obtain ⟨o1, o2⟩ := o
  clear hx hy h ha hb hn2 hn3
  go_enter Try.func28, Try.ntmps28
  go_wp2_with (first
    | (go_at_call 36; refine (HE.out _ (by first | exact HX.out | exact HY.out)).mono ?_; rintro e w' ⟨rfl, rfl⟩)
    | (go_at_call 22; refine (not_any _ (by omega) _).mono ?_; rintro e w' ⟨rfl, rfl⟩)
    | (go_at_call 29; refine (HC.out _ _ _ H2.out.gm).mono ?_; rintro e w3 ⟨rfl, v3, iv3, H3⟩)
    | (go_at_call 23; refine (HB.out _ _ _ H1.out.gm).mono ?_; rintro e w2 ⟨rfl, v2, iv2, H2⟩)
    | (go_at_call 23; refine HA.out.mono ?_; rintro e w1 ⟨rfl, v1, iv1, H1⟩))
  go_ret
  exact ⟨rfl, _, _, Lib.hid ((H1.out.trans H2.out).trans H3.out)⟩
end
end Go.Proofs.Ytpniffcojmlboaa
