/- Contracts: operations of a graph by what they lay; half; vector, sign, Wide, level. -/
import Derived.Test.YtepafgmiloncgaaBA
import Derived.Test.YtepafgmiloncgaaMB
namespace Go.Proofs.Ytepafgmiloncgaa
open Go.RowKit Go.Lib Go.Maps
set_option maxRecDepth 100000

/-- An edge is laid. -/
def LayE (w : World) (G M : Nat) (v iv : Value) (s : Gr) (m : Nat) (B : (Nat → Bool) → Bool) (e : Ending) (w' : World) : Prop :=
  ∃ (r : Nat) (v' iv' : Value) (t : Gr), e = .returned (.int .i64 (r : Nat)) ∧ Hid (GmT G M w v iv w' v' iv' t) ∧ Hid (Ed s t m r B)
section
variable {w : World} {G M : Nat} {v iv : Value} {s : Gr}
theorem and_rel (h : Gm w G M v iv s) (hn : s.n ≤ 90000) {x y : Nat} (hx : x < 2 * (s.n + 1)) (hy : y < 2 * (s.n + 1)) :
    Calls Try.prog 40 #[.pointer (some ⟨G, 0, none⟩), .int .i64 (x : Nat), .int .i64 (y : Nat)] w (LayE w G M v iv s 1 (fun I => val I s x && val I s y)) :=
  (and_in h (by omega) x y hx hy).mono fun _ _ ⟨he, v', iv', H⟩ => ⟨_, v', iv', _, he, H, Lib.hid (and_ed h.ok hx hy)⟩
theorem or_rel (h : Gm w G M v iv s) (hn : s.n ≤ 90000) {x y : Nat} (hx : x < 2 * (s.n + 1)) (hy : y < 2 * (s.n + 1)) :
    Calls Try.prog 43 #[.pointer (some ⟨G, 0, none⟩), .int .i64 (x : Nat), .int .i64 (y : Nat)] w (LayE w G M v iv s 1 (fun I => val I s x || val I s y)) :=
  (or_in h (by omega) x y hx hy).mono fun _ _ ⟨he, v', iv', H⟩ => ⟨_, v', iv', _, he, H, Lib.hid (or_ed h.ok hx hy)⟩
theorem xor_rel (h : Gm w G M v iv s) (hn : s.n ≤ 90000) {x y : Nat} (hx : x < 2 * (s.n + 1)) (hy : y < 2 * (s.n + 1)) :
    Calls Try.prog 42 #[.pointer (some ⟨G, 0, none⟩), .int .i64 (x : Nat), .int .i64 (y : Nat)] w (LayE w G M v iv s 3 (fun I => val I s x != val I s y)) := by
  have := xor_any h hn (x : Int) (y : Int) (by omega) (by omega)
  rw [edg_of hx, edg_of hy] at this
  exact this.mono fun _ _ ⟨he, v', iv', H⟩ => ⟨_, v', iv', _, he, H, Lib.hid (xor_ed h.ok hx hy)⟩
theorem mux_rel (h : Gm w G M v iv s) (hn : s.n ≤ 90000) {c x y : Nat} (hc : c < 2 * (s.n + 1)) (hx : x < 2 * (s.n + 1)) (hy : y < 2 * (s.n + 1)) :
    Calls Try.prog 48 #[.pointer (some ⟨G, 0, none⟩), .int .i64 (c : Nat), .int .i64 (x : Nat), .int .i64 (y : Nat)] w (LayE w G M v iv s 3 (fun I => if val I s c then val I s x else val I s y)) := by
  have := mux_any h hn (c : Int) (x : Int) (y : Int) (by omega) (by omega) (by omega)
  rw [edg_of hx, edg_of hy, edg_of hc] at this
  exact this.mono fun _ _ ⟨he, v', iv', H⟩ => ⟨_, v', iv', _, he, H, Lib.hid (mux_ed h.ok hc hx hy)⟩
/-- half: the sum of two bits, and its carry. -/
def HalfR (w : World) (G M : Nat) (v iv : Value) (s : Gr) (x y : Nat) (e : Ending) (w' : World) : Prop :=
  ∃ (r1 r2 : Nat) (v' iv' : Value) (t : Gr), e = .returned (.tuple #[.int .i64 (r1 : Nat), .int .i64 (r2 : Nat)]) ∧ Hid (GmT G M w v iv w' v' iv' t) ∧ Hid (Ed s t 3 r1 (fun I => val I s x != val I s y)) ∧ Hid (Ed s t 3 r2 (fun I => val I s x && val I s y))
set_option maxHeartbeats 1000000 in
theorem half_any (h : Gm w G M v iv s) (hn : s.n ≤ 89000) {x y : Nat} (hx : x < 2 * (s.n + 1)) (hy : y < 2 * (s.n + 1)) :
    Calls Try.prog 55 #[.pointer (some ⟨G, 0, none⟩), .int .i64 (x : Nat), .int .i64 (y : Nat)] w (HalfR w G M v iv s x y) := by
  have HA := Lib.hid (and_rel h (by omega) hx hy)
  have HB := Lib.hid (show ∀ w1 v1 iv1 t r, GmT G M w v iv w1 v1 iv1 t → Ed s t 1 r (fun I => val I s x && val I s y) → Calls Try.prog 40 #[.pointer (some ⟨G, 0, none⟩), .int .i64 (nt x : Nat), .int .i64 (nt y : Nat)] w1 (LayE w1 G M v1 iv1 t 1 (fun I => !val I s x && !val I s y)) from fun w1 v1 iv1 t r T E => by
    have := and_rel T.gm (by have := E.lay.n; omega) (nt_lt (E.lay.lt hx)) (nt_lt (E.lay.lt hy))
    simp only [val_nt] at this
    refine this.mono fun e w' ⟨r, v', iv', u, he, T', E'⟩ => ⟨r, v', iv', u, he, T', Lib.hid ⟨E'.out.lay, E'.out.lt, fun I => ?_⟩⟩
    rw [E'.out.val I, E.lay.val hx, E.lay.val hy])
  have HC := Lib.hid (show ∀ w1 v1 iv1 t r w2 v2 iv2 t2 r2, GmT G M w v iv w1 v1 iv1 t → Ed s t 1 r (fun I => val I s x && val I s y) → GmT G M w1 v1 iv1 w2 v2 iv2 t2 → Ed t t2 1 r2 (fun I => !val I s x && !val I s y) → Calls Try.prog 40 #[.pointer (some ⟨G, 0, none⟩), .int .i64 (nt r : Nat), .int .i64 (nt r2 : Nat)] w2 (fun e w' => ∃ (r3 : Nat) (v' iv' : Value) (u : Gr), e = .returned (.int .i64 (r3 : Nat)) ∧ Hid (GmT G M w v iv w' v' iv' u) ∧ Hid (Ed s u 3 r3 (fun I => val I s x != val I s y)) ∧ Hid (Ed s u 3 r (fun I => val I s x && val I s y))) from fun w1 v1 iv1 t r w2 v2 iv2 t2 r2 T E T2 E2 => by
    have := and_rel T2.gm (by have := E.lay.n; have := E2.lay.n; omega) (nt_lt (E2.lay.lt E.lt)) (nt_lt E2.lt)
    refine this.mono fun e w' ⟨r3, v', iv', u, he, T', E'⟩ => ⟨r3, v', iv', u, he, Lib.hid ((T.trans T2).trans T'.out), Lib.hid ⟨((E.lay.trans E2.lay).trans E'.out.lay).le (by omega), E'.out.lt, fun I => ?_⟩, Lib.hid ⟨((E.lay.trans E2.lay).trans E'.out.lay).le (by omega), E'.out.lay.lt (E2.lay.lt E.lt), fun I => ?_⟩⟩
    · rw [E'.out.val I, val_nt, val_nt, E2.val I, E2.lay.val E.lt, E.val I]
      cases val I s x <;> cases val I s y <;> rfl
    · rw [E'.out.lay.val (E2.lay.lt E.lt), E2.lay.val E.lt, E.val I])
  have HX := Lib.hid hx
  have HY := Lib.hid hy
  have HN := Lib.hid hn
  have HE := Lib.hid (show ∀ t r, Ed s t 1 r (fun I => val I s x && val I s y) → r ≤ 1000000 from fun t r E => by have := E.lt; have := E.lay.n; omega)
  have HE2 := Lib.hid (show ∀ t r t2 r2, Ed s t 1 r (fun I => val I s x && val I s y) → Ed t t2 1 r2 (fun I => !val I s x && !val I s y) → r2 ≤ 1000000 from fun t r t2 r2 E E2 => by have := E2.lt; have := E2.lay.n; have := E.lay.n; omega)
  have hx1 : x ≤ 1000000 := by omega
  have hy1 : y ≤ 1000000 := by omega
  clear h hn hx hy
  go_enter Try.func55, Try.ntmps55
  go_wp2_with (first
    | (go_at_call 41; refine (not_any _ (by omega) _).mono ?_; rintro e w' ⟨rfl, rfl⟩)
    | (go_at_call 40; refine (HC.out _ _ _ _ _ _ _ _ _ _ T1.out E1.out T2.out E2.out).mono ?_; rintro e w3 ⟨r3, v3, iv3, t3, rfl, T3, E3, E4⟩)
    | (go_at_call 40; refine (HB.out _ _ _ _ _ T1.out E1.out).mono ?_; rintro e w2 ⟨r2, v2, iv2, t2, rfl, T2, E2⟩; have hr2 := HE2.out _ _ _ _ E1.out E2.out)
    | (go_at_call 40; refine HA.out.mono ?_; rintro e w1 ⟨r1, v1, iv1, t1, rfl, T1, E1⟩; have hr1 := HE.out _ _ E1.out))
  go_ret2
  exact ⟨_, _, _, _, _, rfl, T3, E3, E4⟩
end
end Go.Proofs.Ytepafgmiloncgaa
