/- The law GraphOnce. -/
import Derived.Test.YtfdopgohopibkaaW
namespace Go.Proofs.Ytfdopgohopibkaa
open Go.RowKit Go.Lib Go.Maps
set_option maxRecDepth 100000

/-- From 0 on. -/
def z0 (x : Int) : Nat := x.toNat
/-- The graph and the edges behind k acts. -/
def onc (A B : Nat → Int) : Nat → Gr × (Nat → Nat)
  | 0 => (s2, fun j => if j = 0 then 0 else if j = 1 then 2 else 4)
  | k + 1 =>
    let p := onc A B k
    let r := andN p.1 (pick p.2 (k + 3) (z0 (A k))) (pick p.2 (k + 3) (z0 (B k)))
    (r.2, fun j => if j < k + 3 then p.2 j else r.1)
theorem s2_ok : s2.Ok := (s0_ok.input).input
theorem pick_lt {g : Nat → Nat} {len m X : Nat} (hl : 0 < len) (h : ∀ j, j < len → g j < 2 * (m + 1)) : pick g len X < 2 * (m + 1) := by
  unfold pick
  have := h _ (Nat.mod_lt (X / 2) hl)
  split
  · exact nt_lt this
  · exact this
theorem pick_congr {g g' : Nat → Nat} {len X : Nat} (hl : 0 < len) (h : ∀ j, j < len → g j = g' j) : pick g len X = pick g' len X := by
  unfold pick
  rw [h _ (Nat.mod_lt (X / 2) hl)]
structure OncIs (A B : Nat → Int) (k : Nat) : Prop where
  ok : (onc A B k).1.Ok
  n : (onc A B k).1.n ≤ k + 2
  lt : ∀ j, j < k + 3 → (onc A B k).2 j < 2 * ((onc A B k).1.n + 1)
theorem onc_is (A B : Nat → Int) : ∀ k, OncIs A B k
  | 0 => ⟨s2_ok, Nat.le_refl _, fun j hj => by
    show (if j = 0 then 0 else if j = 1 then 2 else 4) < 2 * 3
    by_cases e : j = 0
    · rw [if_pos e]; omega
    · rw [if_neg e]; split <;> omega⟩
  | k + 1 => by
    have ih := onc_is A B k
    have h := andN_is (I := fun _ => false) ih.ok (pick_lt (X := z0 (A k)) (by omega) ih.lt) (pick_lt (X := z0 (B k)) (by omega) ih.lt)
    refine ⟨h.ok, Nat.le_trans h.n (by have := ih.n; omega), fun j hj => ?_⟩
    show (if j < k + 3 then (onc A B k).2 j else _) < 2 * ((andN _ _ _).2.n + 1)
    split
    · next e => have := ih.lt j e; have := h.ext.n; omega
    · exact h.lt
theorem onc_ext (A B : Nat → Int) {k N : Nat} (h : k ≤ N) : Ext (onc A B k).1 (onc A B N).1 := by
  induction h with
  | refl => exact Ext.refl _
  | @step N _ ih =>
    have hi := onc_is A B N
    exact ih.trans (andN_is (I := fun _ => false) hi.ok (pick_lt (X := z0 (A N)) (by omega) hi.lt) (pick_lt (X := z0 (B N)) (by omega) hi.lt)).ext
theorem onc_old (A B : Nat → Int) {k N : Nat} (h : k ≤ N) : ∀ j, j < k + 3 → (onc A B N).2 j = (onc A B k).2 j := by
  induction h with
  | refl => intro _ _; rfl
  | @step N hN ih =>
    have hN : k ≤ N := hN
    intro j hj
    rw [← ih j hj]
    show (if j < N + 3 then _ else _) = _
    rw [if_pos (by omega)]
/-- Laid again, in the other order. -/
theorem onc_again (A B : Nat → Int) {k N : Nat} (h : k < N) : andN (onc A B N).1 (pick (onc A B k).2 (k + 3) (z0 (B k))) (pick (onc A B k).2 (k + 3) (z0 (A k))) = ((onc A B (k + 1)).2 (k + 3), (onc A B N).1) := by
  have h1 := andN_again' (s := (onc A B k).1) (t := (onc A B N).1) (a := pick (onc A B k).2 (k + 3) (z0 (A k))) (b := pick (onc A B k).2 (k + 3) (z0 (B k))) (onc_ext A B (k := k + 1) h)
  rw [h1]
  have e : (onc A B (k + 1)).2 (k + 3) = (andN (onc A B k).1 (pick (onc A B k).2 (k + 3) (z0 (A k))) (pick (onc A B k).2 (k + 3) (z0 (B k)))).1 := by
    show (if k + 3 < k + 3 then _ else _) = _
    rw [if_neg (Nat.lt_irrefl _)]
  rw [e]
set_option maxHeartbeats 1000000 in
/-- Ints, of two lists that are the same -/
theorem ints_any {w : World} {B B' : Nat → Prop} {a a' : Option Addr} {n c c' : Nat} {g : Nat → Nat} (h : HasE w B a n g) (h' : HasE w B' a' n g) (hn : n ≤ 1000000) :
    Calls Try.prog 27 #[.slice a n c, .slice a' n c'] w fun e w' => e = .returned (.bool true) ∧ Below w.heap.size w w' := by
  have H := Lib.hid h
  have H' := Lib.hid h'
  clear h h'
  go_enter Try.func27, Try.ntmps27
  go_wp2
  go_loopw [5] (fun i wr => ∃ k : Nat, k ≤ n ∧ i = .int .i64 k ∧ Hid (Below w.heap.size w wr)) (fun i _ => n - (intOf i).toNat)
  case atStart => exact ⟨0, Nat.zero_le _, rfl, Lib.hid (Below.refl _ _)⟩
  case round =>
    obtain ⟨k, hk, rfl, HB⟩ := hrel
    by_cases hlt : k < n
    · have hltI : (k : Int) < (n : Int) := by omega
      rcases H.out.below HB.out with e | ⟨b, off, rfl, hb, _, hc⟩
      · omega
      rcases H'.out.below HB.out with e | ⟨b', off', rfl, hb', _, hc'⟩
      · omega
      have xa := hc k hlt
      have xb := hc' k hlt
      clear hc hc'
      generalize g k = gk at *
      go_wp2
      go_quiet (fail)
      go_wp2
      go_roundw
      case rel => exact ⟨k + 1, by omega, by go_num, Lib.hid (bel_drewN HB.out _)⟩
      case measure => simp [intOf]; omega
    · obtain rfl : k = n := by omega
      have hltI : ¬ (k : Int) < (k : Int) := by omega
      clear hlt
      go_wp2
      go_ret
      exact ⟨rfl, HB.out⟩
set_option maxHeartbeats 8000000 in
theorem once_walk (a : Option Addr) (n c : Nat) (K A B C : Nat → Int) (w : World) (hn : n ≤ 40) (hA : Acts w a n K A B C) :
    Calls Try.prog 5 #[.slice a n c] w (Law w) := by
  have HAw := Lib.hid awake_any
  have HN := Lib.hid new_any
  have HA := Lib.hid hA
  have hnI : ¬ (40 : Int) < (n : Int) := by omega
  have hnD : decide ((40 : Int) < (n : Int)) = false := by simpa using hnI
  obtain ⟨ex, hex⟩ : ∃ ex : Nat, ex = 2 := ⟨_, rfl⟩
  obtain ⟨ey, hey⟩ : ∃ ey : Nat, ey = 4 := ⟨_, rfl⟩
  have HI0 := Lib.hid (show ∀ w1 G M v iv, Gm w1 G M v iv s0 → Calls Try.prog 12 #[.pointer (some ⟨G, 0, none⟩)] w1 fun e w' => e = .returned (.int .i64 ex) ∧ ∃ v' iv', Hid (GmT G M w1 v iv w' v' iv' s1) from fun w1 G M v iv g => hex ▸ input_s0 g)
  have HI1 := Lib.hid (show ∀ w1 G M v iv, Gm w1 G M v iv s1 → Calls Try.prog 12 #[.pointer (some ⟨G, 0, none⟩)] w1 fun e w' => e = .returned (.int .i64 ey) ∧ ∃ v' iv', Hid (GmT G M w1 v iv w' v' iv' s2) from fun w1 G M v iv g => hey ▸ input_s1 g)
  have HM := Lib.hid (show ∀ w1 w2 G M v iv, Gn w1 G M w2 v iv s2 → Lw w1 (w2.alloc (.cells #[.int .i64 0, .int .i64 ex, .int .i64 ey] 3)) G M v iv (onc A B 0).1 (.slice (some ⟨w2.heap.size, 0, none⟩) 3 3) 3 (onc A B 0).2 from fun w1 w2 G M v iv g => by
    subst hex hey
    exact Lw.made g #[.int .i64 0, .int .i64 (2 : Nat), .int .i64 (4 : Nat)] _ (fun j hj => by
      have hj : j < 3 := hj
      match j, hj with
      | 0, _ | 1, _ | 2, _ => rfl) (by show 3 ≤ _; omega))
  clear hex hey hA
  go_enter Try.func5, Try.ntmps5
  go_wp2_with (first
    | (go_at_call 9; refine (HAw.out _).mono ?_; rintro e w1 ⟨rfl, hb1⟩; have HB1 := Lib.hid hb1; clear hb1)
    | (go_at_call 10; refine (HN.out _).mono ?_; rintro e w2 ⟨G, M, v, iv, rfl, H2⟩)
    | (go_at_call 12; refine (HI1.out _ _ _ _ _ H3.out.gm).mono ?_; rintro e w4 ⟨rfl, v4, iv4, T4⟩; have H4 := Lib.hid (H3.out.next T4.out); clear T4)
    | (go_at_call 12; refine (HI0.out _ _ _ _ _ H2.out.gm).mono ?_; rintro e w3 ⟨rfl, v3, iv3, T3⟩; have H3 := Lib.hid (H2.out.next T3.out); clear T3))
  have HL := Lib.hid (HM.out _ _ _ _ _ _ H4.out)
  clear HM HN HI0 HI1 H2 H3 H4 HAw
  go_wp2
  go_loopw [4, 5] (fun es i wr => ∃ (k : Nat) (a' : Option Addr) (c' : Nat) (v iv : Value), k ≤ n ∧ es = .slice a' (k + 3) c' ∧ i = .int .i64 k ∧ Hid (Lw w1 wr G M v iv (onc A B k).1 (.slice a' (k + 3) c') (k + 3) (onc A B k).2)) (fun _ i _ => n - (intOf i).toNat)
  case atStart => exact ⟨0, _, _, _, _, Nat.zero_le _, rfl, rfl, HL⟩
  case round =>
    obtain ⟨k, a', c', v, iv, hk, rfl, rfl, HR⟩ := hrel
    by_cases hlt : k < n
    · have hltI : (k : Int) < (n : Int) := by omega
      have hI0 : (0 : Int) ≤ (k : Int) := by omega
      have hk1 := onc_is A B k
      rcases HA.out.below (HB1.out.trans (HR.out.gn.bel.mono HB1.out.size)) with e | ⟨b, off, rfl, hb, hc⟩
      · omega
      obtain ⟨_, xA, xB, _, mA, mB, _⟩ := hc k hlt
      have hpa := pick_lt (X := z0 (A k)) (by omega) hk1.lt
      have hpb := pick_lt (X := z0 (B k)) (by omega) hk1.lt
      have hEa := edge_nat (w := wr.drew) (c := c') (HR.out.drew.has.weak fun _ _ e => e.elim) (show 0 < k + 3 by omega) (by omega) (fun j hj => by have := hk1.lt j hj; have := hk1.n; omega) (z0 (A k)) (by unfold z0; omega)
      have hEb := edge_nat (w := wr.drew) (c := c') (HR.out.drew.has.weak fun _ _ e => e.elim) (show 0 < k + 3 by omega) (by omega) (fun j hj => by have := hk1.lt j hj; have := hk1.n; omega) (z0 (B k)) (by unfold z0; omega)
      have hAnd := and_in HR.out.drew.gn.gm (by have := hk1.n; omega) _ _ hpa hpb
      have hmA : (if A k < 0 then (0 : Int) else A k) = ((z0 (A k) : Nat) : Int) := by unfold z0; split <;> omega
      have hmB : (if B k < 0 then (0 : Int) else B k) = ((z0 (B k) : Nat) : Int) := by unfold z0; split <;> omega
      have HS := Lib.hid (show onc A B (k + 1) = ((andN (onc A B k).1 (pick (onc A B k).2 (k + 3) (z0 (A k))) (pick (onc A B k).2 (k + 3) (z0 (B k)))).2, fun j => if j < k + 3 then (onc A B k).2 j else (andN (onc A B k).1 (pick (onc A B k).2 (k + 3) (z0 (A k))) (pick (onc A B k).2 (k + 3) (z0 (B k)))).1) from rfl)
      generalize andN (onc A B k).1 (pick (onc A B k).2 (k + 3) (z0 (A k))) (pick (onc A B k).2 (k + 3) (z0 (B k))) = r at *
      generalize pick (onc A B k).2 (k + 3) (z0 (A k)) = pa at *
      generalize pick (onc A B k).2 (k + 3) (z0 (B k)) = pb at *
      generalize z0 (A k) = XA at *
      generalize z0 (B k) = XB at *
      obtain ⟨r1, r2⟩ := r
      have HEa := Lib.hid hEa
      have HEb := Lib.hid hEb
      have HAnd := Lib.hid hAnd
      obtain ⟨i0, hi, hz0, hz1, hz2⟩ := info_parts info3
      have HCEL := Lib.hid (show ∀ w', Below w.heap.size w w' → w'.cell? ⟨b, off + k * 4 + 1, none⟩ = some (.int .i64 (A k)) ∧ w'.cell? ⟨b, off + k * 4 + 2, none⟩ = some (.int .i64 (B k)) from fun w' hb' => by
        rcases HA.out.below hb' with e | ⟨b2, off2, e2, _, hc2⟩
        · omega
        · cases e2
          obtain ⟨_, yA, yB, _⟩ := hc2 k hlt
          exact ⟨yA, yB⟩)
      have HAPP := Lib.hid (show ∀ w2 v2 iv2, GmT G M wr.drew v iv w2 v2 iv2 r2 → w2.cell? ⟨b, off + k * 4 + 1, none⟩ = some (.int .i64 (A k)) ∧ w2.cell? ⟨b, off + k * 4 + 2, none⟩ = some (.int .i64 (B k)) ∧ Hid (Lw w1 w2 G M v2 iv2 r2 (.slice a' (k + 3) c') (k + 3) (onc A B k).2) from fun w2 v2 iv2 T => by
        obtain ⟨L2, _⟩ := HR.out.drew.lay T
        rcases HA.out.below (HB1.out.trans (L2.gn.bel.mono HB1.out.size)) with e | ⟨b2, off2, e2, _, hc2⟩
        · omega
        · cases e2
          obtain ⟨_, yA, yB, _⟩ := hc2 k hlt
          exact ⟨yA, yB, Lib.hid L2⟩)
      have HOWN := Lib.hid (show ∀ w2 v2 iv2 (W0 : World), Lw w1 w2 G M v2 iv2 r2 (.slice a' (k + 3) c') (k + 3) (onc A B k).2 → W0.heap = (w2.alloc (.cells #[.int .i64 (r1 : Nat)] 3)).heap → W0.ownsRow 0 3 1 (.slice a' (k + 3) c') (k + 3) (lst (fun j => .int .i64 ((onc A B k).2 j : Nat)) ((k + 3) * 1)) from fun w2 v2 iv2 W0 L e => owns_heap (L.then ((Below.refl _ w2).alloc (Nat.le_refl _) _)).row.own.owns e)
      clear hEa hEb hAnd hc hpa hpb hk1
      have hk3 : k + 3 ≤ 100 := by omega
      go_wp2
      go_region_held3 (fun w' => w'.cell? ⟨b, off + k * 4 + 1, none⟩ = some (.int .i64 (A k)) ∧ w'.cell? ⟨b, off + k * 4 + 2, none⟩ = some (.int .i64 (B k)))
        (go_keep)
        (first
          | (go_at_call 11; (with_reducible refine HEa.out.mono ?_); rintro e w' ⟨rfl, rfl⟩)
          | (go_at_call 11; (with_reducible refine HEb.out.mono ?_); rintro e w' ⟨rfl, rfl⟩)
          | (go_at_call 14; refine HAnd.out.mono ?_; rintro e w5 ⟨rfl, v5, iv5, T5⟩; obtain ⟨yA, yB, HL5⟩ := HAPP.out _ _ _ T5.out)
          | (refine step_append_own rfl (.tmp 29) (.tmp 48) 31 rfl 0 3 i0 (.int .i64 0) 1 8 Try.underlying31 hi hz0 hz1 hz2 rfl (by decide) (.slice a' (k + 3) c') (k + 3) (lst (fun j => .int .i64 ((onc A B k).2 j : Nat)) ((k + 3) * 1)) (by rfl) (HOWN.out _ _ _ _ HL5.out rfl) ⟨_, 0, none⟩ 1 1 [.int .i64 (r1 : Nat)] (by rfl) rfl (one_at w5 _ rfl rfl) (by intro u hu; simp at hu; subst hu; rfl) (by unfold maxLen; omega) (by omega) (Nat.zero_le _) ?_; intro v6 w6 g1 g2 g3; obtain ⟨⟨av, cv, rfl⟩, L6, _⟩ := HL5.out.app g1 g2 g3 rfl rfl rfl rfl; obtain ⟨zA, zB⟩ := HCEL.out _ (HB1.out.trans (L6.gn.bel.mono HB1.out.size)); have HF := Lib.hid (show Lw w1 w6 G M v5 iv5 (onc A B (k + 1)).1 (.slice av (k + 3 + 1) cv) (k + 3 + 1) (onc A B (k + 1)).2 from by rw [HS.out]; exact L6); clear L6 g1 g2 g3))
      all_goals
        go_wp2
        go_roundw
        case rel => exact ⟨k + 1, av, cv, v5, iv5, by omega, rfl, by go_num, HF⟩
        case measure => simp [intOf]; omega
    · obtain rfl : k = n := by omega
      obtain ⟨n, rfl⟩ : ∃ n, n = k := ⟨k, rfl⟩
      have hltI : ¬ (n : Int) < (n : Int) := by omega
      have hkn := onc_is A B n
      have HND := Lib.hid (nodes_any HR.out.gn.gm (by have := hkn.n; omega))
      obtain ⟨t, ht⟩ : ∃ t, t = (onc A B n).1 := ⟨_, rfl⟩
      have htn : t.n ≤ 100 := by rw [ht]; have := hkn.n; omega
      have HOK := Lib.hid hkn
      have HTT := Lib.hid ht
      rw [← ht] at HR HND
      have HL2 := Lib.hid (show Lw w1 (wr.alloc (.cells #[.int .i64 0, .int .i64 2, .int .i64 4] 3)) G M v iv t (.slice (some ⟨wr.heap.size, 0, none⟩) 3 3) 3 (onc A B 0).2 from Lw.made HR.out.gn #[.int .i64 0, .int .i64 2, .int .i64 4] _ (fun j hj => by
        have hj : j < 3 := hj
        match j, hj with
        | 0, _ | 1, _ | 2, _ => rfl) (by show 3 ≤ _; omega))
      have HE2 := Lib.hid (show HasE (wr.alloc (.cells #[.int .i64 0, .int .i64 2, .int .i64 4] 3)) (Bl G M v iv (.slice (some ⟨wr.heap.size, 0, none⟩) 3 3)) a' (n + 3) (onc A B n).2 from HR.out.has.keep ⟨(Fr.refl _ _).alloc _, fun b e => e.imp id fun e => by cases e; exact Nat.le_refl _⟩)
      clear hlt hkn ht HL
      go_wp2_with (go_at_call 16; refine HND.out.mono ?_; rintro e w' ⟨rfl, rfl⟩)
      go_loopw [7, 8] (fun es i wr => ∃ (k : Nat) (a2 : Option Addr) (c2 : Nat) (v iv : Value), k ≤ n ∧ es = .slice a2 (k + 3) c2 ∧ i = .int .i64 k ∧ Hid (Lw w1 wr G M v iv t (.slice a2 (k + 3) c2) (k + 3) (onc A B k).2) ∧ Hid (HasE wr (Bl G M v iv (.slice a2 (k + 3) c2)) a' (n + 3) (onc A B n).2)) (fun _ i _ => n - (intOf i).toNat)
      case atStart => exact ⟨0, _, _, _, _, Nat.zero_le _, rfl, rfl, HL2, HE2⟩
      case round =>
        obtain ⟨k, a2, c2, v, iv, hk, rfl, rfl, HQ, HE⟩ := hrel
        by_cases hlt : k < n
        · have hltI : (k : Int) < (n : Int) := by omega
          have hI0 : (0 : Int) ≤ (k : Int) := by omega
          have hk1 := onc_is A B k
          have hext : (onc A B k).1.n ≤ t.n := by rw [HTT.out]; exact (onc_ext A B hk).n
          have hltt : ∀ j, j < k + 3 → (onc A B k).2 j < 2 * (t.n + 1) := fun j hj => by have := hk1.lt j hj; omega
          rcases HA.out.below (HB1.out.trans (HQ.out.gn.bel.mono HB1.out.size)) with e | ⟨b, off, rfl, hb, hc⟩
          · omega
          obtain ⟨_, xA, xB, _, mA, mB, _⟩ := hc k hlt
          have hpa := pick_lt (X := z0 (A k)) (by omega) hltt
          have hpb := pick_lt (X := z0 (B k)) (by omega) hltt
          have hEa := edge_nat (w := wr.drew) (c := c2) (HQ.out.drew.has.weak fun _ _ e => e.elim) (show 0 < k + 3 by omega) (by omega) (fun j hj => by have := hltt j hj; omega) (z0 (A k)) (by unfold z0; omega)
          have hEb := edge_nat (w := wr.drew) (c := c2) (HQ.out.drew.has.weak fun _ _ e => e.elim) (show 0 < k + 3 by omega) (by omega) (fun j hj => by have := hltt j hj; omega) (z0 (B k)) (by unfold z0; omega)
          have hAnd := and_in HQ.out.drew.gn.gm (by omega) _ _ hpb hpa
          have hag : andN t (pick (onc A B k).2 (k + 3) (z0 (B k))) (pick (onc A B k).2 (k + 3) (z0 (A k))) = ((onc A B (k + 1)).2 (k + 3), t) := by rw [HTT.out]; exact onc_again A B hlt
          rw [hag] at hAnd
          have HS := Lib.hid (show ∀ j, j < k + 3 → (onc A B (k + 1)).2 j = (onc A B k).2 j from onc_old A B (Nat.le_succ k))
          have hmA : (if A k < 0 then (0 : Int) else A k) = ((z0 (A k) : Nat) : Int) := by unfold z0; split <;> omega
          have hmB : (if B k < 0 then (0 : Int) else B k) = ((z0 (B k) : Nat) : Int) := by unfold z0; split <;> omega
          clear hag
          have HF0 := Lib.hid (show ∀ w6 v iv es (r1 : Nat), r1 = (onc A B (k + 1)).2 (k + 3) → Lw w1 w6 G M v iv t es (k + 3 + 1) (fun j => if j < k + 3 then (onc A B k).2 j else r1) → Lw w1 w6 G M v iv t es (k + 3 + 1) (onc A B (k + 1)).2 from fun w6 v iv es r1 e L => L.congr fun j hj => by
            by_cases e2 : j < k + 3
            · rw [if_pos e2, HS.out j e2]
            · rw [if_neg e2, e, show j = k + 3 by omega])
          obtain ⟨r1, hr1⟩ : ∃ r1, r1 = (onc A B (k + 1)).2 (k + 3) := ⟨_, rfl⟩
          rw [← hr1] at hAnd
          have HR1 := Lib.hid hr1
          generalize pick (onc A B k).2 (k + 3) (z0 (A k)) = pa at *
          generalize pick (onc A B k).2 (k + 3) (z0 (B k)) = pb at *
          generalize z0 (A k) = XA at *
          generalize z0 (B k) = XB at *
          have HEa := Lib.hid hEa
          have HEb := Lib.hid hEb
          have HAnd := Lib.hid hAnd
          obtain ⟨i0, hi, hz0, hz1, hz2⟩ := info_parts info3
          have HCEL := Lib.hid (show ∀ w', Below w.heap.size w w' → w'.cell? ⟨b, off + k * 4 + 1, none⟩ = some (.int .i64 (A k)) ∧ w'.cell? ⟨b, off + k * 4 + 2, none⟩ = some (.int .i64 (B k)) from fun w' hb' => by
            rcases HA.out.below hb' with e | ⟨b2, off2, e2, _, hc2⟩
            · omega
            · cases e2
              obtain ⟨_, yA, yB, _⟩ := hc2 k hlt
              exact ⟨yA, yB⟩)
          have HAPP := Lib.hid (show ∀ w2 v2 iv2, GmT G M wr.drew v iv w2 v2 iv2 t → w2.cell? ⟨b, off + k * 4 + 1, none⟩ = some (.int .i64 (A k)) ∧ w2.cell? ⟨b, off + k * 4 + 2, none⟩ = some (.int .i64 (B k)) ∧ Hid (Lw w1 w2 G M v2 iv2 t (.slice a2 (k + 3) c2) (k + 3) (onc A B k).2) ∧ Hid (Kp (Bl G M v iv (.slice a2 (k + 3) c2)) (Bl G M v2 iv2 (.slice a2 (k + 3) c2)) wr w2) from fun w2 v2 iv2 T => by
            obtain ⟨L2, K2⟩ := HQ.out.drew.lay T
            obtain ⟨yA, yB⟩ := HCEL.out _ (HB1.out.trans (L2.gn.bel.mono HB1.out.size))
            exact ⟨yA, yB, Lib.hid L2, Lib.hid (Kp.trans ⟨.of_below (Below.refl _ wr).drew, fun _ e => .inl e⟩ K2)⟩)
          have HOWN := Lib.hid (show ∀ w2 v2 iv2 (W0 : World), Lw w1 w2 G M v2 iv2 t (.slice a2 (k + 3) c2) (k + 3) (onc A B k).2 → W0.heap = (w2.alloc (.cells #[.int .i64 (r1 : Nat)] 3)).heap → W0.ownsRow 0 3 1 (.slice a2 (k + 3) c2) (k + 3) (lst (fun j => .int .i64 ((onc A B k).2 j : Nat)) ((k + 3) * 1)) from fun w2 v2 iv2 W0 L e => owns_heap (L.then ((Below.refl _ w2).alloc (Nat.le_refl _) _)).row.own.owns e)
          clear hEa hEb hAnd hc hpa hpb hk1 hltt hr1
          have hk3 : k + 3 ≤ 100 := by omega
          go_wp2
          go_region_held3 (fun w' => w'.cell? ⟨b, off + k * 4 + 1, none⟩ = some (.int .i64 (A k)) ∧ w'.cell? ⟨b, off + k * 4 + 2, none⟩ = some (.int .i64 (B k)))
            (go_keep)
            (first
              | (go_at_call 11; (with_reducible refine HEa.out.mono ?_); rintro e w' ⟨rfl, rfl⟩)
              | (go_at_call 11; (with_reducible refine HEb.out.mono ?_); rintro e w' ⟨rfl, rfl⟩)
              | (go_at_call 14; refine HAnd.out.mono ?_; rintro e w5 ⟨rfl, v5, iv5, T5⟩; obtain ⟨yA, yB, HL5, HK5⟩ := HAPP.out _ _ _ T5.out)
              | (refine step_append_own rfl (.tmp 59) (.tmp 78) 31 rfl 0 3 i0 (.int .i64 0) 1 8 Try.underlying31 hi hz0 hz1 hz2 rfl (by decide) (.slice a2 (k + 3) c2) (k + 3) (lst (fun j => .int .i64 ((onc A B k).2 j : Nat)) ((k + 3) * 1)) (by rfl) (HOWN.out _ _ _ _ HL5.out rfl) ⟨_, 0, none⟩ 1 1 [.int .i64 (r1 : Nat)] (by rfl) rfl (one_at w5 _ rfl rfl) (by intro u hu; simp at hu; subst hu; rfl) (by unfold maxLen; omega) (by omega) (Nat.zero_le _) ?_; intro v6 w6 g1 g2 g3; obtain ⟨⟨av, cv, rfl⟩, L6, K6⟩ := HL5.out.app g1 g2 g3 rfl rfl rfl rfl; obtain ⟨zA, zB⟩ := HCEL.out _ (HB1.out.trans (L6.gn.bel.mono HB1.out.size)); have HF := Lib.hid (HF0.out _ _ _ _ _ HR1.out L6); have HE6 := Lib.hid (HE.out.keep (HK5.out.trans K6)); clear L6 K6 g1 g2 g3))
          all_goals
            go_wp2
            go_roundw
            case rel => exact ⟨k + 1, av, cv, v5, iv5, by omega, rfl, by go_num, HF, HE6⟩
            case measure => simp [intOf]; omega
        · obtain rfl : k = n := by omega
          have hltI : ¬ (k : Int) < (k : Int) := by omega
          have HND := Lib.hid (nodes_any HQ.out.gn.gm (by omega))
          have HII := Lib.hid (ints_any (c := c') (c' := c2) HE.out (HQ.out.has) (by omega))
          have HBZ := Lib.hid (HB1.out.trans (HQ.out.gn.bel.mono HB1.out.size))
          clear hlt
          go_wp2_with (first
            | (go_at_call 16; refine HND.out.mono ?_; rintro e w' ⟨rfl, rfl⟩)
            | (go_at_call 27; refine HII.out.mono ?_; rintro e w7 ⟨rfl, hb7⟩))
          go_ret
          exact ⟨rfl, HBZ.out.trans (hb7.mono HBZ.out.size)⟩
set_option maxHeartbeats 1000000 in
theorem once_long (a : Option Addr) (n c : Nat) (w : World) (hn : 40 < n) (hn2 : n ≤ 9223372036854775807) :
    Calls Try.prog 5 #[.slice a n c] w (Law w) := by
  have HA := Lib.hid awake_any
  have hnI : (40 : Int) < (n : Int) := by omega
  have Hn := Lib.hid hn2
  clear hn2
  go_enter Try.func5, Try.ntmps5
  go_wp2_with (first
    | (go_at_call 9; have := HB1; refine (HA.out _).mono ?_; rintro e w2 ⟨rfl, hb2⟩; have HB2 := Lib.hid (HB1.out.trans (hb2.mono HB1.out.size)); clear hb2)
    | (go_at_call 9; refine (HA.out _).mono ?_; rintro e w1 ⟨rfl, hb1⟩; have HB1 := Lib.hid hb1; clear hb1))
  go_ret
  exact ⟨rfl, HB2.out⟩
theorem once_any (a : Option Addr) (n c : Nat) (f : (Nat → Int) × (Nat → Int) × (Nat → Int) × (Nat → Int)) (w : World) (hA : Acts w a n f.1 f.2.1 f.2.2.1 f.2.2.2) (hn : n ≤ 9223372036854775807) :
    Calls Try.prog 5 #[.slice a n c] w (Law w) := by
  by_cases h : n ≤ 40
  · exact once_walk a n c _ _ _ _ w h hA
  · exact once_long a n c w (by omega) hn
end Go.Proofs.Ytfdopgohopibkaa
