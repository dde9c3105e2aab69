/- The law GraphMany. -/
import Derived.Test.YtfdopgohopibkaaZL
namespace Go.Proofs.Ytfdopgohopibkaa
open Go.RowKit Go.Lib Go.Maps
set_option maxRecDepth 100000

/-- The edges that are picked from. -/
def es8 (j : Nat) : Nat := if j = 0 then 0 else if j = 1 then 1 else if j < 5 then 2 * (j - 1) else 2 * (j - 4) + 1
theorem es8_lt {j : Nat} (h : j < 8) : es8 j < 2 * (3 + 1) := by unfold es8; split; omega; split; omega; split <;> omega
structure MnyIs (I : Nat → Bool) (p q : Nat → Nat) (n : Nat) : Prop where
  r1 : LayIs I sA (allB (fun j => val I sA (p j)) n) n (allN sA (fun j => (p j : Int)) n)
  r2 : LayIs I (allN sA (fun j => (p j : Int)) n).2 (allB (fun j => val I sA (q j)) n) n (allN (allN sA (fun j => (p j : Int)) n).2 (fun j => (q j : Int)) n)
theorem all_at {I : Nat → Bool} {s : Gr} (hx : Ext sA s) (hs : s.Ok) {p : Nat → Nat} {n : Nat} (hp : ∀ j, j < n → p j < 2 * (3 + 1)) : LayIs I s (allB (fun j => val I sA (p j)) n) n (allN s (fun j => (p j : Int)) n) := by
  have hn : 3 ≤ s.n := hx.n
  have h := allN_is (I := I) hs (f := fun j => (p j : Int)) (g := p) (k := n) fun j hj => ⟨rfl, by have := hp j hj; omega⟩
  have e : allB (fun j => val I s (p j)) n = allB (fun j => val I sA (p j)) n := by
    rw [Bool.eq_iff_iff, allB_iff, allB_iff]
    constructor
    · intro k j hj; rw [← val_ext hx (hp j hj)]; exact k j hj
    · intro k j hj; rw [val_ext hx (hp j hj)]; exact k j hj
  rw [e] at h
  exact h
theorem any_at {I : Nat → Bool} {s : Gr} (hx : Ext sA s) (hs : s.Ok) {p : Nat → Nat} {n : Nat} (hp : ∀ j, j < n → p j < 2 * (3 + 1)) : LayIs I s (anyB (fun j => val I sA (p j)) n) n (anyN s (fun j => (p j : Int)) n) := by
  have hn : 3 ≤ s.n := hx.n
  have h := anyN_is (I := I) hs (f := fun j => (p j : Int)) (g := p) (k := n) fun j hj => ⟨rfl, by have := hp j hj; omega⟩
  have e : anyB (fun j => val I s (p j)) n = anyB (fun j => val I sA (p j)) n := by
    rw [Bool.eq_iff_iff, anyB_iff, anyB_iff]
    constructor
    · rintro ⟨j, hj, k⟩; exact ⟨j, hj, by rw [← val_ext hx (hp j hj)]; exact k⟩
    · rintro ⟨j, hj, k⟩; exact ⟨j, hj, by rw [val_ext hx (hp j hj)]; exact k⟩
  rw [e] at h
  exact h
theorem HasE.src {w : World} {B : Nat → Prop} {a : Option Addr} {n c : Nat} {g : Nat → Nat} (h : HasE w B a n g) (hnil : a = none → n = 0 ∧ c = 0) : Src w a n c (fun j => .int .i64 (g j : Nat)) := by
  cases ha : a with
  | none => exact .inl ⟨rfl, hnil ha⟩
  | some ad =>
    refine .inr ⟨ad, rfl, fun j hj => ⟨?_, rfl⟩⟩
    rcases h with h0 | ⟨b, off, e, _, _, hc⟩
    · omega
    · rw [ha] at e; cases e
      rw [adr]; exact hc j hj
/-- The values behind all of it. -/
structure ManyIs (I : Nat → Bool) (p q : Nat → Nat) (n : Nat) (a1 a2 y1 y2 : Nat × Gr) : Prop where
  e1 : a1 = allN sA (fun j => (p j : Int)) n
  e2 : a2 = allN a1.2 (fun j => (q j : Int)) n
  e3 : y1 = anyN a2.2 (fun j => (p j : Int)) n
  e4 : y2 = anyN y1.2 (fun j => (q j : Int)) n
  n1 : 3 ≤ a1.2.n ∧ a1.2.n ≤ 3 + n
  n2 : 3 ≤ a2.2.n ∧ a2.2.n ≤ 3 + 2 * n
  n3 : 3 ≤ y1.2.n ∧ y1.2.n ≤ 3 + 3 * n
  n4 : 3 ≤ y2.2.n ∧ y2.2.n ≤ 3 + 4 * n
  l1 : a1.1 < 2 * (y2.2.n + 1)
  l2 : a2.1 < 2 * (y2.2.n + 1)
  l3 : y1.1 < 2 * (y2.2.n + 1)
  l4 : y2.1 < 2 * (y2.2.n + 1)
  v1 : val I y2.2 a1.1 = allB (fun j => val I sA (p j)) n
  v2 : val I y2.2 a2.1 = allB (fun j => val I sA (q j)) n
  v3 : val I y2.2 y1.1 = anyB (fun j => val I sA (p j)) n
  v4 : val I y2.2 y2.1 = anyB (fun j => val I sA (q j)) n
theorem many_is {I : Nat → Bool} {p q : Nat → Nat} {n : Nat} (hp : ∀ j, j < n → p j < 2 * (3 + 1)) (hq : ∀ j, j < n → q j < 2 * (3 + 1)) : ∃ a1 a2 y1 y2, ManyIs I p q n a1 a2 y1 y2 := by
  have h1 := all_at (I := I) (Ext.refl sA) sA_ok hp
  have h2 := all_at (I := I) h1.ext h1.ok hq
  have h3 := any_at (I := I) (h1.ext.trans h2.ext) h2.ok hp
  have h4 := any_at (I := I) ((h1.ext.trans h2.ext).trans h3.ext) h3.ok hq
  have x1 := h1.ext.n
  have x2 := h2.ext.n
  have x3 := h3.ext.n
  have x4 := h4.ext.n
  have z : sA.n = 3 := rfl
  have m1 := h1.n
  have m2 := h2.n
  have m3 := h3.n
  have m4 := h4.n
  have k1 := h1.lt
  have k2 := h2.lt
  have k3 := h3.lt
  have k4 := h4.lt
  refine ⟨_, _, _, _, rfl, rfl, rfl, rfl, by omega, by omega, by omega, by omega, by omega, by omega, by omega, k4, ?_, ?_, ?_, h4.val⟩
  · rw [val_ext h4.ext (by omega), val_ext h3.ext (by omega), val_ext h2.ext k1, h1.val]
  · rw [val_ext h4.ext (by omega), val_ext h3.ext k2, h2.val]
  · rw [val_ext h4.ext k3, h3.val]
set_option maxHeartbeats 8000000 in
theorem many_walk (a0 a1 : Option Addr) (n c0 m c1 : Nat) (f : Nat → Nat) (gm : Nat → Bool) (w : World) (hn : n ≤ 20) (hm : m ≤ 20) (hU : HasU w a0 n f) (hB : HasB w a1 m gm) :
    Calls Try.prog 7 #[.slice a0 n c0, .slice a1 m c1] w (Law w) := by
  have HAw := Lib.hid awake_any
  have HN := Lib.hid new_any
  have HU := Lib.hid hU
  have HB := Lib.hid hB
  have hnI : ¬ (20 : Int) < (n : Int) := by omega
  have hmI : ¬ (20 : Int) < (m : Int) := by omega
  have hnD : decide ((20 : Int) < (n : Int)) = false := by simpa using hnI
  have hmD : decide ((20 : Int) < (m : Int)) = false := by simpa using hmI
  obtain ⟨x2, hx2⟩ : ∃ x : Nat, x = 2 := ⟨_, rfl⟩
  obtain ⟨x4, hx4⟩ : ∃ x : Nat, x = 4 := ⟨_, rfl⟩
  obtain ⟨x6, hx6⟩ : ∃ x : Nat, x = 6 := ⟨_, rfl⟩
  have HI0 := Lib.hid (show ∀ w1 G M v iv, Gm w1 G M v iv s0 → Calls Try.prog 12 #[.pointer (some ⟨G, 0, none⟩)] w1 fun e w' => e = .returned (.int .i64 x2) ∧ ∃ v' iv', Hid (GmT G M w1 v iv w' v' iv' s1) from fun w1 G M v iv g => hx2 ▸ input_s0 g)
  have HI1 := Lib.hid (show ∀ w1 G M v iv, Gm w1 G M v iv s1 → Calls Try.prog 12 #[.pointer (some ⟨G, 0, none⟩)] w1 fun e w' => e = .returned (.int .i64 x4) ∧ ∃ v' iv', Hid (GmT G M w1 v iv w' v' iv' s2) from fun w1 G M v iv g => hx4 ▸ input_s1 g)
  have HI2 := Lib.hid (show ∀ w1 G M v iv, Gm w1 G M v iv s2 → Calls Try.prog 12 #[.pointer (some ⟨G, 0, none⟩)] w1 fun e w' => e = .returned (.int .i64 x6) ∧ ∃ v' iv', Hid (GmT G M w1 v iv w' v' iv' sA) from fun w1 G M v iv g => hx6 ▸ input_s2 g)
  have HM := Lib.hid (show ∀ w1 w2 G M v iv, Gn w1 G M w2 v iv sA → Lw w1 (w2.alloc (.cells #[.int .i64 0, .int .i64 1, .int .i64 x2, .int .i64 x4, .int .i64 x6, .int .i64 3, .int .i64 5, .int .i64 7] 3)) G M v iv sA (.slice (some ⟨w2.heap.size, 0, none⟩) 8 8) 8 es8 from fun w1 w2 G M v iv g => by
    subst hx2 hx4 hx6
    exact Lw.made g #[.int .i64 0, .int .i64 1, .int .i64 (2 : Nat), .int .i64 (4 : Nat), .int .i64 (6 : Nat), .int .i64 3, .int .i64 5, .int .i64 7] _ (fun j hj => by
      have hj : j < 8 := hj
      match j, hj with
      | 0, _ | 1, _ | 2, _ | 3, _ | 4, _ | 5, _ | 6, _ | 7, _ => rfl) (by show 8 ≤ _; omega))
  clear hx2 hx4 hx6 hU hB
  go_enter Try.func7, Try.ntmps7
  go_wp2_with (first
    | (go_at_call 9; refine (HAw.out _).mono ?_; rintro e w1 ⟨rfl, hb1⟩; have HB1 := Lib.hid hb1; clear hb1)
    | (go_at_call 10; refine (HN.out _).mono ?_; rintro e w2 ⟨G, M, v, iv, rfl, H2⟩)
    | (go_at_call 12; refine (HI2.out _ _ _ _ _ H4.out.gm).mono ?_; rintro e w5 ⟨rfl, v5, iv5, T5⟩; have H5 := Lib.hid (H4.out.next T5.out); clear T5)
    | (go_at_call 12; refine (HI1.out _ _ _ _ _ H3.out.gm).mono ?_; rintro e w4 ⟨rfl, v4, iv4, T4⟩; have H4 := Lib.hid (H3.out.next T4.out); clear T4)
    | (go_at_call 12; refine (HI0.out _ _ _ _ _ H2.out.gm).mono ?_; rintro e w3 ⟨rfl, v3, iv3, T3⟩; have H3 := Lib.hid (H2.out.next T3.out); clear T3))
  have HL := Lib.hid (HM.out _ _ _ _ _ _ H5.out)
  obtain ⟨p, hp⟩ : ∃ p : Nat → Nat, p = fun j => es8 (f j % 8) := ⟨_, rfl⟩
  have HP := Lib.hid hp
  have HG0 := Lib.hid (Lw.nil HL.out.gn p)
  have HE0 := Lib.hid (show HasE (w5.alloc (.cells #[.int .i64 0, .int .i64 1, .int .i64 x2, .int .i64 x4, .int .i64 x6, .int .i64 3, .int .i64 5, .int .i64 7] 3)) (Bl G M v5 iv5 (.slice none 0 0)) (some ⟨w5.heap.size, 0, none⟩) 8 es8 from HL.out.has.weak fun b _ e => e.elim id fun e => by cases e)
  clear HM HN HI0 HI1 HI2 H2 H3 H4 H5 HAw HL hp
  go_wp2
  go_loopw [7, 8, 9] (fun xl xm i wr => ∃ (k : Nat) (al : Option Addr) (cl : Nat) (am : Option Addr) (cm : Nat), k ≤ n ∧ xl = .slice al k cl ∧ xm = .slice am k cm ∧ i = .int .i64 k ∧ Hid (Lw w1 wr G M v5 iv5 sA (.slice al k cl) k p) ∧ Hid (HasE wr (Bl G M v5 iv5 (.slice al k cl)) am k (fun j => p (k - 1 - j))) ∧ Hid (am = none → k = 0 ∧ cm = 0) ∧ Hid (HasE wr (Bl G M v5 iv5 (.slice al k cl)) (some ⟨w5.heap.size, 0, none⟩) 8 es8)) (fun _ _ i _ => n - (intOf i).toNat)
  case atStart => exact ⟨0, _, _, _, _, Nat.zero_le _, rfl, rfl, rfl, HG0, Lib.hid (.inl rfl), Lib.hid fun _ => ⟨rfl, rfl⟩, HE0⟩
  case round =>
    obtain ⟨k, al, cl, am, cm, hk, rfl, rfl, rfl, HR, HQ, HNL, HE⟩ := hrel
    by_cases hlt : k < n
    · have hltI : (k : Int) < (n : Int) := by omega
      have HCU := Lib.hid (show ∀ w', Below w.heap.size w w' → ∃ b off, a0 = some ⟨b, off, none⟩ ∧ w'.cell? ⟨b, off + k, none⟩ = some (.int .u8 (f k : Nat)) ∧ f k < 256 from fun w' hb' => by
        rcases HU.out.below hb' with e | ⟨b2, off2, e2, _, hc2⟩
        · omega
        · exact ⟨b2, off2, e2, (hc2 k hlt).1, (hc2 k hlt).2⟩)
      obtain ⟨b, off, rfl, xk, bk⟩ := HCU.out wr (HB1.out.trans (HR.out.gn.bel.mono HB1.out.size))
      have HCU2 := Lib.hid (show ∀ w', Below w.heap.size w w' → w'.cell? ⟨b, off + k, none⟩ = some (.int .u8 (f k : Nat)) from fun w' hb' => by
        obtain ⟨b2, off2, e2, x, _⟩ := HCU.out w' hb'
        cases e2; exact x)
      have HCE := Lib.hid (show ∀ w' B, HasE w' B (some ⟨w5.heap.size, 0, none⟩) 8 es8 → ∀ j, j < 8 → w'.cell? ⟨w5.heap.size, j, none⟩ = some (.int .i64 (es8 j : Nat)) from fun w' B hE j hj => by
        rcases hE with e | ⟨b2, off2, e2, _, _, hc2⟩
        · omega
        · cases e2
          have := hc2 j hj
          rwa [Nat.zero_add] at this)
      have j1 : f k % 8 < 8 := Nat.mod_lt _ (by omega)
      have e1 := HCE.out _ _ HE.out _ j1
      have o1 : ((f k : Nat) : Int) % 8 = ((f k % 8 : Nat) : Int) := by omega
      have bkI : ((f k : Nat) : Int) < 256 := by omega
      have hpk : p k = es8 (f k % 8) := by rw [HP.out]
      have HPK := Lib.hid hpk
      have J1 := Lib.hid j1
      generalize f k % 8 = K1 at *
      rw [← hpk] at e1
      clear hpk
      have hk2 : k ≤ 20 := by omega
      -- behind the first append
      have H1 := Lib.hid (show ∀ a' c' w3, Lw w1 w3 G M v5 iv5 sA (.slice a' (k + 1) c') (k + 1) (fun j => if j < k then p j else p k) → Kp (Bl G M v5 iv5 (.slice al k cl)) (Bl G M v5 iv5 (.slice a' (k + 1) c')) wr w3 →
          w3.cell? ⟨b, off + k, none⟩ = some (.int .u8 (f k : Nat)) ∧ w3.cell? ⟨w5.heap.size, K1, none⟩ = some (.int .i64 (p k : Nat)) ∧ Hid (Lw w1 w3 G M v5 iv5 sA (.slice a' (k + 1) c') (k + 1) p) ∧ Hid (HasE w3 (Bl G M v5 iv5 (.slice a' (k + 1) c')) am k (fun j => p (k - 1 - j))) ∧ Hid (HasE w3 (Bl G M v5 iv5 (.slice a' (k + 1) c')) (some ⟨w5.heap.size, 0, none⟩) 8 es8) from fun a' c' w3 L K => by
        refine ⟨HCU2.out _ (HB1.out.trans (L.gn.bel.mono HB1.out.size)), ?_, Lib.hid (L.congr fun j hj => ?_), Lib.hid (HQ.out.keep K), Lib.hid (HE.out.keep K)⟩
        · rw [HPK.out]; exact HCE.out _ _ (HE.out.keep K) _ J1.out
        · by_cases e : j < k
          · rw [if_pos e]
          · rw [if_neg e, show j = k by omega])
      go_wp2_with (first
        | (at_builtin; refine Frs.appF elemInt HF4 (Below.refl _ _) HS4.out (by unfold maxLen; omega) (by omega) rfl _ _ rfl rfl rfl ?_; intro a4 c4 w4 HA4)
        | (at_builtin; refine Lw.wapp HR (by omega) (p k) rfl _ _ rfl rfl rfl ?_; intro a3 c3 w3 HL3 HK3; obtain ⟨z1, z2, HL4, HQ4, HE4⟩ := H1.out _ _ _ HL3.out HK3.out; have HF4 := Lib.hid (show Frs 3 w3 (w3.alloc (.cells #[.int .i64 (p k : Nat)] 3)) (.slice (some ⟨w3.heap.size, 0, none⟩) 1 1) 1 (fun _ => .int .i64 (p k : Nat)) from Frs.made (Below.refl _ w3) #[.int .i64 (p k : Nat)] (fun _ => .int .i64 (p k : Nat)) (fun j hj => by match j, hj with | 0, _ => rfl) (by unfold maxLen; simp)); have HS4 := Lib.hid ((HQ4.out.below ((Below.refl _ w3).alloc (Nat.le_refl _) (.cells #[.int .i64 (p k : Nat)] 3))).src (c := cm) HNL.out)))
      have HFIN := Lib.hid (show Lw w1 w4 G M v5 iv5 sA (.slice a3 (k + 1) c3) (k + 1) p ∧ HasE w4 (Bl G M v5 iv5 (.slice a3 (k + 1) c3)) a4 (k + 1) (fun j => p (k + 1 - 1 - j)) ∧ (a4 = none → k + 1 = 0 ∧ c4 = 0) ∧ HasE w4 (Bl G M v5 iv5 (.slice a3 (k + 1) c3)) (some ⟨w5.heap.size, 0, none⟩) 8 es8 from by
        obtain ⟨hF, _⟩ := HA4.out
        have hb := hF.bel
        obtain ⟨bb, hbb, hcc⟩ := hF.cells (by omega)
        refine ⟨HL4.out.then hb, .inr ⟨bb, 0, hbb, hF.own.lt (by rw [hbb]; rfl), fun e => absurd (HL4.out.lt e) (by have := hF.new bb (by rw [hbb]; rfl); omega), fun j hj => ?_⟩, (fun e => by rw [hbb] at e; cases e), HE4.out.below hb⟩
        rw [Nat.zero_add, hcc j (by omega)]
        unfold catV
        by_cases e : j < 1
        · rw [if_pos e]
          show some (Value.int .i64 (p k : Nat)) = some (.int .i64 (p (k + 1 - 1 - j) : Nat))
          rw [show k + 1 - 1 - j = k by omega]
        · rw [if_neg e]
          show some (Value.int .i64 (p (k - 1 - (j - 1)) : Nat)) = some (.int .i64 (p (k + 1 - 1 - j) : Nat))
          rw [show k - 1 - (j - 1) = k + 1 - 1 - j by omega])
      go_roundw
      case rel => exact ⟨k + 1, a3, c3, a4, c4, by omega, rfl, by rw [Nat.add_comm 1 k], by go_num, Lib.hid HFIN.out.1, Lib.hid HFIN.out.2.1, Lib.hid HFIN.out.2.2.1, Lib.hid HFIN.out.2.2.2⟩
      case measure => simp [intOf]; omega
    · obtain rfl : k = n := by omega
      obtain ⟨n, rfl⟩ : ∃ n, n = k := ⟨k, rfl⟩
      have hltI : ¬ (n : Int) < (n : Int) := by omega
      obtain ⟨q, hq⟩ : ∃ q : Nat → Nat, q = fun j => p (n - 1 - j) := ⟨_, rfl⟩
      rw [← hq] at HQ
      have hp8 : ∀ j, p j < 2 * (3 + 1) := fun j => by rw [HP.out]; exact es8_lt (Nat.mod_lt _ (by omega))
      obtain ⟨A1, A2, Y1, Y2, hMI⟩ := many_is (I := mdl gm m) (p := p) (q := q) (n := n) (fun j _ => hp8 j) (fun j _ => by rw [hq]; exact hp8 _)
      obtain ⟨V, hV⟩ : ∃ V : Nat → Bool, V = fun j => val (mdl gm m) sA (p j) := ⟨_, rfl⟩
      have hV1 : allB (fun j => val (mdl gm m) sA (q j)) n = allB V n := by rw [hV, hq]; exact allB_rev (fun j => val (mdl gm m) sA (p j)) n
      have hV3 : anyB (fun j => val (mdl gm m) sA (q j)) n = anyB V n := by rw [hV, hq]; exact anyB_rev (fun j => val (mdl gm m) sA (p j)) n
      have v1 := hMI.v1
      have v2 := hMI.v2
      have v3 := hMI.v3
      have v4 := hMI.v4
      rw [hV1] at v2
      rw [hV3] at v4
      have hbw := HB1.out.trans (HR.out.gn.bel.mono HB1.out.size)
      have HEV := Lib.hid (show Calls Try.prog 17 #[.pointer (some ⟨G, 0, none⟩), .slice a1 m c1, .slice al n cl] wr fun e w' => ∃ a c, e = .returned (.slice a n c) ∧ Hid (Frs 4 wr w' (.slice a n c) n (fun j => .bool (V j))) from by
        rw [hV]
        exact eval_any HR.out.gn.gm (by show 3 ≤ _; omega) (HB.out.below hbw) (by omega) (HR.out.has.weak fun _ _ e => e.elim) (fun j _ => hp8 j) (by omega))
      have HA1 := Lib.hid (show ∀ w6, Below wr.heap.size wr w6 → Calls Try.prog 21 #[.pointer (some ⟨G, 0, none⟩), .slice al n cl] w6 (Lays w6 G M v5 iv5 A1) from fun w6 hb => by
        rw [hMI.e1]
        exact all_any (HR.out.gn.gm.below hb) (by show 3 + n ≤ _; omega) (HR.out.has.below hb) (fun j _ => hp8 j))
      have HA2 := Lib.hid (show ∀ w6 v iv, Gm w6 G M v iv A1.2 → HasE w6 (Bg G M v iv) am n q → Calls Try.prog 21 #[.pointer (some ⟨G, 0, none⟩), .slice am n cm] w6 (Lays w6 G M v iv A2) from fun w6 v iv g he => by
        rw [hMI.e2]
        exact all_any g (by have := hMI.n1; omega) he (fun j _ => by have := hMI.n1; have := hp8 (n - 1 - j); rw [hq]; show p (n - 1 - j) < _; omega))
      have HY1 := Lib.hid (show ∀ w6 v iv, Gm w6 G M v iv A2.2 → HasE w6 (Bg G M v iv) al n p → Calls Try.prog 25 #[.pointer (some ⟨G, 0, none⟩), .slice al n cl] w6 (Lays w6 G M v iv Y1) from fun w6 v iv g he => by
        rw [hMI.e3]
        exact any_any g (by have := hMI.n2; omega) he (fun j _ => by have := hMI.n2; have := hp8 j; omega))
      have HY2 := Lib.hid (show ∀ w6 v iv, Gm w6 G M v iv Y1.2 → HasE w6 (Bg G M v iv) am n q → Calls Try.prog 25 #[.pointer (some ⟨G, 0, none⟩), .slice am n cm] w6 (Lays w6 G M v iv Y2) from fun w6 v iv g he => by
        rw [hMI.e4]
        exact any_any g (by have := hMI.n3; omega) he (fun j _ => by have := hMI.n3; have := hp8 (n - 1 - j); rw [hq]; show p (n - 1 - j) < _; omega))
      have HL8 := Lib.hid HR.out.has
      have HQ8 := Lib.hid (show HasE wr (Bg G M v5 iv5) am n q from HQ.out.weak fun _ _ e => .inl e)
      have HE2 := Lib.hid (show ∀ w9 v iv, Gm w9 G M v iv Y2.2 → Below w.heap.size w w9 → Calls Try.prog 17 #[.pointer (some ⟨G, 0, none⟩), .slice a1 m c1, .slice (some ⟨w9.heap.size, 0, none⟩) 4 4] (w9.alloc (.cells #[.int .i64 (A1.1 : Nat), .int .i64 (A2.1 : Nat), .int .i64 (Y1.1 : Nat), .int .i64 (Y2.1 : Nat)] 3)) fun e w' => ∃ b c, e = .returned (.slice (some ⟨b, 0, none⟩) 4 c) ∧ Hid (w'.cell? ⟨b, 0, none⟩ = some (.bool (allB V n)) ∧ w'.cell? ⟨b, 1, none⟩ = some (.bool (allB V n)) ∧ w'.cell? ⟨b, 2, none⟩ = some (.bool (anyB V n)) ∧ w'.cell? ⟨b, 3, none⟩ = some (.bool (anyB V n)) ∧ Below w.heap.size w w') from fun w9 v iv g hb => by
        have hb0 : Below w9.heap.size w9 (w9.alloc (.cells #[.int .i64 (A1.1 : Nat), .int .i64 (A2.1 : Nat), .int .i64 (Y1.1 : Nat), .int .i64 (Y2.1 : Nat)] 3)) := (Below.refl _ w9).alloc (Nat.le_refl _) _
        have hb2 := hb.trans (hb0.mono hb.size)
        refine (eval_any (g.below hb0) (by have := hMI.n4; omega) (c1 := c1) (HB.out.below hb2) (by omega) (c2 := 4) (hasE_new w9 #[.int .i64 (A1.1 : Nat), .int .i64 (A2.1 : Nat), .int .i64 (Y1.1 : Nat), .int .i64 (Y2.1 : Nat)] 4 (fun j => if j = 0 then A1.1 else if j = 1 then A2.1 else if j = 2 then Y1.1 else Y2.1) rfl (fun j hj => by match j, hj with | 0, _ | 1, _ | 2, _ | 3, _ => rfl)) (fun j hj => by
          match j, hj with
          | 0, _ => exact hMI.l1
          | 1, _ => exact hMI.l2
          | 2, _ => exact hMI.l3
          | 3, _ => exact hMI.l4) (by omega)).mono fun e w' ⟨a2, c2, h1, hF2⟩ => ?_
        obtain ⟨b, rfl, hc⟩ := hF2.out.cells (by omega)
        refine ⟨b, c2, h1, Lib.hid ⟨(hc 0 (by omega)).trans (congrArg (fun b => some (Value.bool b)) (v1.trans (by rw [hV]))), (hc 1 (by omega)).trans (congrArg (fun b => some (Value.bool b)) v2), (hc 2 (by omega)).trans (congrArg (fun b => some (Value.bool b)) (v3.trans (by rw [hV]))), (hc 3 (by omega)).trans (congrArg (fun b => some (Value.bool b)) v4), hb2.trans (hF2.out.bel.mono hb2.size)⟩⟩)
      have HBW := Lib.hid hbw
      clear hlt hq hp8 hMI hV hV1 hV3 v1 v2 v3 v4 hbw
      go_wp2_with (go_at_call 17; refine HEV.out.mono ?_; rintro e w6 ⟨av, cv, rfl, HV⟩)
      go_loop [11, 12, 13] (fun xa xs i => ∃ k : Nat, k ≤ n ∧ xa = .bool (allB V k) ∧ xs = .bool (anyB V k) ∧ i = .int .i64 k) (fun _ _ i => n - (intOf i).toNat)
      case atStart => exact ⟨0, Nat.zero_le _, rfl, rfl, rfl⟩
      case round =>
        obtain ⟨k, hk, rfl, rfl, rfl⟩ := hrel
        by_cases hlt : k < n
        · have hltI : (k : Int) < (n : Int) := by omega
          obtain ⟨b6, rfl, hc6⟩ := HV.out.cells (by omega)
          have xv := hc6 k hlt
          have HX1 := Lib.hid (show allB V (k + 1) = (allB V k && V k) from rfl)
          have HX2 := Lib.hid (show anyB V (k + 1) = (anyB V k || V k) from rfl)
          clear hc6
          generalize V k = vk at *
          generalize hxa : allB V k = xa at *
          generalize hxs : anyB V k = xs at *
          clear hxa hxs
          cases xa <;> cases xs
          all_goals
            go_wp2
            go_round
            case rel => exact ⟨k + 1, by omega, by rw [HX1.out]; rfl, by rw [HX2.out]; rfl, by go_num⟩
            case measure => simp [intOf]; omega
        · obtain rfl : k = n := by omega
          have hltI : ¬ (k : Int) < (k : Int) := by omega
          clear hlt
          have HB6 := Lib.hid HV.out.bel
          have H6 := Lib.hid (HR.out.gn.below HB6.out)
          have HL6 := Lib.hid (HL8.out.below HB6.out)
          have HQ6 := Lib.hid (HQ8.out.below HB6.out)
          generalize allB V k = XA at *
          generalize anyB V k = XS at *
          go_wp2_with (first
            | (go_at_call 17; refine (HE2.out _ _ _ H10.out.gm (HB1.out.trans (H10.out.bel.mono HB1.out.size))).mono ?_; rintro e w11 ⟨b11, c11, rfl, H11⟩; obtain ⟨y0, y1, y2, y3, hbel⟩ := H11.out; have HBZ := Lib.hid hbel; clear hbel)
            | (go_at_call 25; refine (HY2.out _ _ _ H9.out.gm HQ9.out).mono ?_; rintro e w10 ⟨rfl, v10, iv10, T10⟩; have H10 := Lib.hid (H9.out.next T10.out))
            | (go_at_call 25; refine (HY1.out _ _ _ H8.out.gm HL9.out).mono ?_; rintro e w9 ⟨rfl, v9, iv9, T9⟩; have H9 := Lib.hid (H8.out.next T9.out); have HQ9 := Lib.hid (HQ10.out.next T9.out))
            | (go_at_call 21; refine (HA2.out _ _ _ H7.out.gm HQ7.out).mono ?_; rintro e w8 ⟨rfl, v8, iv8, T8⟩; have H8 := Lib.hid (H7.out.next T8.out); have HL9 := Lib.hid (HL7.out.next T8.out); have HQ10 := Lib.hid (HQ7.out.next T8.out))
            | (go_at_call 21; refine (HA1.out _ HB6.out).mono ?_; rintro e w7 ⟨rfl, v7, iv7, T7⟩; have H7 := Lib.hid (H6.out.next T7.out); have HL7 := Lib.hid (HL6.out.next T7.out); have HQ7 := Lib.hid (HQ6.out.next T7.out)))
          go_ret
          exact ⟨rfl, HBZ.out⟩
set_option maxHeartbeats 1000000 in
theorem many_long (a0 a1 : Option Addr) (n c0 m c1 : Nat) (w : World) (h : 20 < n ∨ 20 < m) (hn2 : n ≤ 9223372036854775807) (hm2 : m ≤ 9223372036854775807) :
    Calls Try.prog 7 #[.slice a0 n c0, .slice a1 m c1] w (Law w) := by
  have HA := Lib.hid awake_any
  have Hn := Lib.hid hn2
  have Hm := Lib.hid hm2
  clear hn2 hm2
  by_cases hn : 20 < n
  · have hnI : (20 : Int) < (n : Int) := by omega
    clear h
    go_enter Try.func7, Try.ntmps7
    go_wp2_with (first
      | (go_at_call 9; have := HB1; refine (HA.out _).mono ?_; rintro e w2 ⟨rfl, hb2⟩; have HB2 := Lib.hid (HB1.out.trans (hb2.mono HB1.out.size)); clear hb2)
      | (go_at_call 9; refine (HA.out _).mono ?_; rintro e w1 ⟨rfl, hb1⟩; have HB1 := Lib.hid hb1; clear hb1))
    go_ret
    exact ⟨rfl, HB2.out⟩
  · have hm : 20 < m := by omega
    have hnI : ¬ (20 : Int) < (n : Int) := by omega
    have hnD : decide ((20 : Int) < (n : Int)) = false := by simpa using hnI
    have hmI : (20 : Int) < (m : Int) := by omega
    clear h
    go_enter Try.func7, Try.ntmps7
    go_wp2_with (first
      | (go_at_call 9; have := HB1; refine (HA.out _).mono ?_; rintro e w2 ⟨rfl, hb2⟩; have HB2 := Lib.hid (HB1.out.trans (hb2.mono HB1.out.size)); clear hb2)
      | (go_at_call 9; refine (HA.out _).mono ?_; rintro e w1 ⟨rfl, hb1⟩; have HB1 := Lib.hid hb1; clear hb1))
    go_ret
    exact ⟨rfl, HB2.out⟩
theorem many_any (a0 a1 : Option Addr) (n c0 m c1 : Nat) (f : Nat → Nat) (gm : Nat → Bool) (w : World) (hU : HasU w a0 n f) (hn : n ≤ 9223372036854775807) (hB : HasB w a1 m gm) (hm : m ≤ 9223372036854775807) :
    Calls Try.prog 7 #[.slice a0 n c0, .slice a1 m c1] w (Law w) := by
  by_cases h : n ≤ 20 ∧ m ≤ 20
  · exact many_walk a0 a1 n c0 m c1 f gm w h.1 h.2 hU hB
  · exact many_long a0 a1 n c0 m c1 w (by omega) hn hm
end Go.Proofs.Ytfdopgohopibkaa
