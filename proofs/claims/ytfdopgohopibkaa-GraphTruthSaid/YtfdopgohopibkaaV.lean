/- The law GraphNot. -/
import Derived.Test.YtfdopgohopibkaaU
namespace Go.Proofs.Ytfdopgohopibkaa
open Go.RowKit Go.Lib Go.Maps
set_option maxRecDepth 100000

/-- What a law answers. -/
def Law (w : World) (e : Ending) (w' : World) : Prop := e = .returned (.bool true) ∧ Below w.heap.size w w'
theorem Frs.cells {e : TypeId} {W w : World} {a : Option Addr} {n c : Nat} {F : Nat → Value} (h : Frs e W w (.slice a n c) n F) (hn : 0 < n) : ∃ b, a = some ⟨b, 0, none⟩ ∧ ∀ j, j < n → w.cell? ⟨b, j, none⟩ = some (F j) := by
  obtain ⟨g, c', e, _, _, _⟩ := h.own.pos hn
  cases e
  exact ⟨g, rfl, fun j hj => h.own.cell (by omega)⟩
theorem hasE_new (w : World) (xs : Array Value) (n : Nat) (g : Nat → Nat) (hn : xs.size = n) (hx : ∀ j, j < n → xs[j]? = some (.int .i64 (g j : Nat))) : HasE (w.alloc (.cells xs 3)) (fun _ => False) (some ⟨w.heap.size, 0, none⟩) n g := by
  refine .inr ⟨w.heap.size, 0, rfl, by simp, id, fun j hj => ?_⟩
  rw [Nat.zero_add]
  exact (World.rowIs_alloc w xs 3 (fun j => .int .i64 (g j : Nat)) (fun i hi => hx i (by omega))).cell (by omega)
theorem hasE_own {w w' : World} {G M : Nat} {v iv : Value} {s : Gr} (xs : Array Value) (n : Nat) (g : Nat → Nat) (hn : xs.size = n) (hx : ∀ j, j < n → xs[j]? = some (.int .i64 (g j : Nat))) (h : Gm w G M v iv s) : HasE (w.alloc (.cells xs 3)) (Bg G M v iv) (some ⟨w.heap.size, 0, none⟩) n g := by
  rcases hasE_new w xs n g hn hx with e | ⟨b, off, e, hb, _, hc⟩
  · exact .inl e
  · cases e
    exact .inr ⟨_, _, rfl, hb, fun e => absurd (h.lt e) (by omega), hc⟩
def s1 : Gr := s0.add none
def s2 : Gr := s1.add none
/-- Input, at the first graphs. -/
theorem input_s0 {w : World} {G M : Nat} {v iv : Value} (h : Gm w G M v iv s0) : Calls Try.prog 12 #[.pointer (some ⟨G, 0, none⟩)] w fun e w' => e = .returned (.int .i64 (2 : Nat)) ∧ ∃ v' iv', Hid (GmT G M w v iv w' v' iv' s1) := input_any h (by show 0 ≤ _; omega)
theorem input_s1 {w : World} {G M : Nat} {v iv : Value} (h : Gm w G M v iv s1) : Calls Try.prog 12 #[.pointer (some ⟨G, 0, none⟩)] w fun e w' => e = .returned (.int .i64 (4 : Nat)) ∧ ∃ v' iv', Hid (GmT G M w v iv w' v' iv' s2) := input_any h (by show 1 ≤ _; omega)
def s3 : Gr := (andN s2 3 5).2
def s6 : Gr := (xorN s3 2 4).2
set_option maxHeartbeats 2000000 in
theorem notLaw_long (x : Int) (a : Option Addr) (m c : Nat) (w : World) (hm : 20 < m) (hm2 : m ≤ 9223372036854775807) :
    Calls Try.prog 6 #[.int .i64 x, .slice a m c] w (Law w) := by
  have HA := Lib.hid awake_any
  have hmI : (20 : Int) < (m : Int) := by omega
  have Hm := Lib.hid hm2
  clear hm2
  go_enter Try.func6, Try.ntmps6
  go_wp2_with (first
    | (go_at_call 9; have := HB1; refine (HA.out _).mono ?_; rintro e w2 ⟨rfl, hb2⟩; have HB2 := Lib.hid (HB1.out.trans (hb2.mono HB1.out.size)); clear hb2)
    | (go_at_call 9; refine (HA.out _).mono ?_; rintro e w1 ⟨rfl, hb1⟩; have HB1 := Lib.hid hb1; clear hb1))
  go_ret
  exact ⟨rfl, HB2.out⟩
/-- The value list's two pairs. -/
structure NotV (w w' : World) (b : Nat) (u z : Bool) : Prop where
  c0 : w'.cell? ⟨b, 0, none⟩ = some (.bool u)
  c1 : w'.cell? ⟨b, 1, none⟩ = some (.bool u)
  c2 : w'.cell? ⟨b, 2, none⟩ = some (.bool z)
  c3 : w'.cell? ⟨b, 3, none⟩ = some (.bool z)
  bel : Below w.heap.size w w'
theorem ref_not (e : Nat) (he : e ≤ 9223372036854775807) (w : World) : Calls Try.prog 28 #[.int .i64 e] w fun r w' => r = .returned (.int .i64 (nt e)) ∧ w' = w := (rnot_any e he w).mono fun _ _ ⟨h1, h2⟩ => ⟨h1, h2.symm⟩
theorem the_not (e : Nat) (he : e ≤ 9223372036854775807) (w : World) : Calls Try.prog 26 #[.int .i64 e] w fun r w' => r = .returned (.int .i64 (nt e)) ∧ w' = w := (not_any e he w).mono fun _ _ ⟨h1, h2⟩ => ⟨h1, h2.symm⟩
set_option maxHeartbeats 2000000 in
theorem notLaw_any (x : Int) (a : Option Addr) (m c : Nat) (gm : Nat → Bool) (w : World) (hm : m ≤ 20) (hx : x ≤ 9223372036854775807) (hB : HasB w a m gm) :
    Calls Try.prog 6 #[.int .i64 x, .slice a m c] w (Law w) := by
  have HA := Lib.hid awake_any
  have hmI : ¬ (20 : Int) < (m : Int) := by omega
  have hmD : decide ((20 : Int) < (m : Int)) = false := by simpa using hmI
  obtain ⟨E, hE⟩ : ∃ E : Nat, E = x.toNat := ⟨_, rfl⟩
  have hmax : (if x < 0 then (0 : Int) else x) = (E : Int) := by split <;> omega
  have HE0 := Lib.hid (show E ≤ 9223372036854775807 by omega)
  have HE1 := Lib.hid (show nt E ≤ 9223372036854775807 by unfold nt; split <;> omega)
  have bE : (((nt (nt E) : Nat) : Int) == (E : Int)) = true := by rw [nt_nt]; simp
  clear hE hx
  have HN := Lib.hid new_any
  -- the edges by names
  obtain ⟨ex, hex⟩ : ∃ ex : Nat, ex = 2 := ⟨_, rfl⟩
  obtain ⟨ey, hey⟩ : ∃ ey : Nat, ey = 4 := ⟨_, rfl⟩
  obtain ⟨A, hA⟩ : ∃ A : Nat, A = 6 := ⟨_, rfl⟩
  obtain ⟨X, hX⟩ : ∃ X : Nat, X = 13 := ⟨_, rfl⟩
  have HI0 := Lib.hid (show ∀ w1 G M v iv, Gm w1 G M v iv s0 → Calls Try.prog 12 #[.pointer (some ⟨G, 0, none⟩)] w1 fun e w' => e = .returned (.int .i64 ex) ∧ ∃ v' iv', Hid (GmT G M w1 v iv w' v' iv' s1) from fun w1 G M v iv g => hex ▸ input_s0 g)
  have HI1 := Lib.hid (show ∀ w1 G M v iv, Gm w1 G M v iv s1 → Calls Try.prog 12 #[.pointer (some ⟨G, 0, none⟩)] w1 fun e w' => e = .returned (.int .i64 ey) ∧ ∃ v' iv', Hid (GmT G M w1 v iv w' v' iv' s2) from fun w1 G M v iv g => hey ▸ input_s1 g)
  have HO := Lib.hid (show ∀ w1 G M v iv, Gm w1 G M v iv s2 → Calls Try.prog 22 #[.pointer (some ⟨G, 0, none⟩), .int .i64 ex, .int .i64 ey] w1 fun e w' => e = .returned (.int .i64 (nt A : Nat)) ∧ ∃ v' iv', Hid (GmT G M w1 v iv w' v' iv' s3) from fun w1 G M v iv g => by
    subst hex hey hA
    exact or_in g (by show 2 ≤ _; omega) 2 4 (by show 2 < 2 * 3; omega) (by show 4 < 2 * 3; omega))
  have HAnd := Lib.hid (show ∀ w1 G M v iv, Gm w1 G M v iv s3 → Calls Try.prog 14 #[.pointer (some ⟨G, 0, none⟩), .int .i64 (nt ex : Nat), .int .i64 (nt ey : Nat)] w1 fun e w' => e = .returned (.int .i64 A) ∧ ∃ v' iv', Hid (GmT G M w1 v iv w' v' iv' s3) from fun w1 G M v iv g => by
    subst hex hey hA
    exact and_in g (by show 3 ≤ _; omega) 3 5 (by show 3 < 2 * 4; omega) (by show 5 < 2 * 4; omega))
  have HX1 := Lib.hid (show ∀ w1 G M v iv, Gm w1 G M v iv s3 → Calls Try.prog 23 #[.pointer (some ⟨G, 0, none⟩), .int .i64 ex, .int .i64 ey] w1 fun e w' => e = .returned (.int .i64 X) ∧ ∃ v' iv', Hid (GmT G M w1 v iv w' v' iv' s6) from fun w1 G M v iv g => by
    subst hex hey hX
    exact xor_any g (by show 3 ≤ _; omega) 2 4 (by omega) (by omega))
  have HX2 := Lib.hid (show ∀ w1 G M v iv, Gm w1 G M v iv s6 → Calls Try.prog 23 #[.pointer (some ⟨G, 0, none⟩), .int .i64 (nt ex : Nat), .int .i64 (nt ey : Nat)] w1 fun e w' => e = .returned (.int .i64 X) ∧ ∃ v' iv', Hid (GmT G M w1 v iv w' v' iv' s6) from fun w1 G M v iv g => by
    subst hex hey hX
    exact xor_any g (by show 6 ≤ _; omega) 3 5 (by omega) (by omega))
  have HEv := Lib.hid (show ∀ w1 w2 G M v iv, Below w.heap.size w w1 → Gn w1 G M w2 v iv s6 → Calls Try.prog 17 #[.pointer (some ⟨G, 0, none⟩), .slice a m c, .slice (some ⟨w2.heap.size, 0, none⟩) 4 4] (w2.alloc (.cells #[.int .i64 (nt A : Nat), .int .i64 (nt A : Nat), .int .i64 X, .int .i64 X] 3)) fun e w' => ∃ b c u z, e = .returned (.slice (some ⟨b, 0, none⟩) 4 c) ∧ Hid (NotV w w' b u z) from fun w1 w2 G M v iv h1 g => by
    have hb2 : Below w.heap.size w w2 := h1.trans (g.bel.mono h1.size)
    have h := eval_any (g.gm.below ((Below.refl _ w2).alloc (Nat.le_refl _) (.cells #[.int .i64 (nt A : Nat), .int .i64 (nt A : Nat), .int .i64 X, .int .i64 X] 3))) (by show 6 ≤ _; omega) (c1 := c) (hB.below (hb2.alloc hb2.size _)) (by omega) (c2 := 4)
      (hasE_new w2 #[.int .i64 (nt A : Nat), .int .i64 (nt A : Nat), .int .i64 X, .int .i64 X] 4 (fun j => if j < 2 then nt A else X) rfl (fun j hj => by match j, hj with | 0, _ | 1, _ | 2, _ | 3, _ => rfl)) (fun j hj => by subst hA hX; show (if j < 2 then 7 else 13) < 2 * 7; split <;> omega) (by omega)
    refine h.mono fun e w' ⟨a', c', he, hF⟩ => ?_
    obtain ⟨b, rfl, hc⟩ := hF.out.cells (by omega)
    exact ⟨b, c', _, _, he, Lib.hid ⟨hc 0 (by omega), hc 1 (by omega), hc 2 (by omega), hc 3 (by omega), (hb2.alloc hb2.size _).trans (hF.out.bel.mono (by have := hb2.size; simp; omega))⟩⟩)
  have HNot := Lib.hid the_not
  have HRef := Lib.hid ref_not
  have hA1 : A ≤ 6 := by omega
  have hx1 : ex ≤ 4 := by omega
  have hy1 : ey ≤ 4 := by omega
  clear hex hey hA hX hB
  go_enter Try.func6, Try.ntmps6
  go_wp2_with (first
    | (go_at_call 9; refine (HA.out _).mono ?_; rintro e w1 ⟨rfl, hb1⟩; have HB1 := Lib.hid hb1; clear hb1)
    | (go_at_call 10; refine (HN.out _).mono ?_; rintro e w2 ⟨G, M, v, iv, rfl, H2⟩)
    | (go_at_call 12; refine (HI1.out _ _ _ _ _ H3.out.gm).mono ?_; rintro e w4 ⟨rfl, v4, iv4, T4⟩; have H4 := Lib.hid (H3.out.next T4.out); clear T4)
    | (go_at_call 12; refine (HI0.out _ _ _ _ _ H2.out.gm).mono ?_; rintro e w3 ⟨rfl, v3, iv3, T3⟩; have H3 := Lib.hid (H2.out.next T3.out); clear T3)
    | (go_at_call 22; refine (HO.out _ _ _ _ _ H4.out.gm).mono ?_; rintro e w5 ⟨rfl, v5, iv5, T5⟩; have H5 := Lib.hid (H4.out.next T5.out); clear T5)
    | (go_at_call 26; refine (not_any _ (by omega) _).mono ?_; rintro e w' ⟨rfl, rfl⟩)
    | (go_at_call 14; refine (HAnd.out _ _ _ _ _ H5.out.gm).mono ?_; rintro e w6 ⟨rfl, v6, iv6, T6⟩; have H6 := Lib.hid (H5.out.next T6.out); clear T6)
    | (go_at_call 23; refine (HX2.out _ _ _ _ _ H7.out.gm).mono ?_; rintro e w8 ⟨rfl, v8, iv8, T8⟩; have H8 := Lib.hid (H7.out.next T8.out); clear T8)
    | (go_at_call 23; refine (HX1.out _ _ _ _ _ H6.out.gm).mono ?_; rintro e w7 ⟨rfl, v7, iv7, T7⟩; have H7 := Lib.hid (H6.out.next T7.out); clear T7)
    | (go_at_call 17; refine (HEv.out _ _ _ _ _ _ HB1.out H8.out).mono ?_; rintro e w9 ⟨b9, c9, u9, z9, rfl, H9⟩; obtain ⟨x0, x1, x2, x3, _⟩ := H9.out))
  go_quiet (first
    | (go_at_call 26; exact Calls.quiet_of_same (HNot.out _ (by first | exact HE0.out | exact HE1.out | omega) _))
    | (go_at_call 28; exact Calls.quiet_of_same (HRef.out _ HE0.out _)))
  go_wp2
  go_ret
  exact ⟨rfl, bel_drewN H9.out.bel _⟩
end Go.Proofs.Ytfdopgohopibkaa
