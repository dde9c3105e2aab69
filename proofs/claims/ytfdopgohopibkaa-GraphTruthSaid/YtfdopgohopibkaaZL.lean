/- The law GraphLoop. -/
import Derived.Test.YtfdopgohopibkaaW
namespace Go.Proofs.Ytfdopgohopibkaa
open Go.RowKit Go.Lib Go.Maps
set_option maxRecDepth 100000

theorem Frs.hasE {W w : World} {a : Option Addr} {n c : Nat} {F : Nat → Value} {g : Nat → Nat} (h : Frs 3 W w (.slice a n c) n F) (hF : ∀ j, j < n → F j = .int .i64 (g j : Nat)) : HasE w (fun _ => False) a n g := by
  by_cases h0 : n = 0
  · exact .inl h0
  · obtain ⟨b, rfl, hc⟩ := h.cells (by omega)
    exact .inr ⟨b, 0, rfl, h.own.lt rfl, id, fun j hj => by rw [Nat.zero_add, hc j hj, hF j hj]⟩
/-- The graph of three inputs. -/
def sA : Gr := s2.add none
theorem sA_ok : sA.Ok := (((s0_ok.input).input).input)
theorem input_s2 {w : World} {G M : Nat} {v iv : Value} (h : Gm w G M v iv s2) : Calls Try.prog 12 #[.pointer (some ⟨G, 0, none⟩)] w fun e w' => e = .returned (.int .i64 (6 : Nat)) ∧ ∃ v' iv', Hid (GmT G M w v iv w' v' iv' sA) := input_any h (by show 2 ≤ _; omega)
/-- The edges that are picked from. -/
def es4 (j : Nat) : Nat := if j = 0 then 1 else 2 * j
theorem es4_lt {j : Nat} (h : j < 4) : es4 j < 2 * (3 + 1) := by unfold es4; split <;> omega
/-- The two exclusive ors behind k rounds. -/
def lpN (g h : Nat → Nat) : Nat → Gr × Nat × Nat
  | 0 => (sA, 0, 0)
  | k + 1 =>
    let p := lpN g h k
    let r := xorN p.1 p.2.1 (g k)
    let q := xorN r.2 (h k) p.2.2
    (q.2, r.1, q.1)
structure LpIs (I : Nat → Bool) (g h : Nat → Nat) (k : Nat) : Prop where
  ok : (lpN g h k).1.Ok
  ext : Ext sA (lpN g h k).1
  n : (lpN g h k).1.n ≤ 3 + 6 * k
  la : (lpN g h k).2.1 < 2 * ((lpN g h k).1.n + 1)
  lb : (lpN g h k).2.2 < 2 * ((lpN g h k).1.n + 1)
  va : val I (lpN g h k).1 (lpN g h k).2.1 = xorB (fun j => val I sA (g j)) k
  vb : val I (lpN g h k).1 (lpN g h k).2.2 = xorB (fun j => val I sA (h j)) k
theorem lp_is {I : Nat → Bool} {g h : Nat → Nat} : ∀ {k : Nat}, (∀ j, j < k → g j < 2 * (3 + 1) ∧ h j < 2 * (3 + 1)) → LpIs I g h k
  | 0, _ => ⟨sA_ok, Ext.refl _, Nat.le_refl _, by show 0 < _; omega, by show 0 < _; omega, val_zero I sA, val_zero I sA⟩
  | k + 1, hg => by
    have ih := lp_is (I := I) (g := g) (h := h) (k := k) fun j hj => hg j (by omega)
    obtain ⟨h1, h2⟩ := hg k (by omega)
    have hn : 3 ≤ (lpN g h k).1.n := ih.ext.n
    have r := xorN_is (I := I) ih.ok (a := (lpN g h k).2.1) (b := g k) ih.la (by omega)
    have rn := r.ext.n
    have hlb := ih.lb
    have q := xorN_is (I := I) r.ok (a := h k) (b := (lpN g h k).2.2) (by omega) (by omega)
    refine ⟨q.ok, (ih.ext.trans r.ext).trans q.ext, ?_, ?_, q.lt, ?_, ?_⟩
    · have := q.n; have := r.n; have := ih.n
      show (xorN (xorN _ _ _).2 _ _).2.n ≤ _
      omega
    · have := r.lt; have := q.ext.n
      show (xorN _ _ _).1 < 2 * ((xorN (xorN _ _ _).2 _ _).2.n + 1)
      omega
    · show val I (xorN (xorN _ _ _).2 _ _).2 (xorN _ _ _).1 = _
      rw [val_ext q.ext r.lt, r.val, ih.va, val_ext ih.ext h1]
      rfl
    · show val I (xorN (xorN _ _ _).2 _ _).2 (xorN (xorN _ _ _).2 _ _).1 = _
      rw [q.val, val_ext r.ext ih.lb, ih.vb, val_ext r.ext (by omega), val_ext ih.ext h2]
      show _ = (xorB _ k != val I sA (h k))
      cases val I sA (h k) <;> cases xorB (fun j => val I sA (h j)) k <;> rfl
set_option maxHeartbeats 8000000 in
theorem loop_walk (a0 a1 : Option Addr) (n c0 m c1 : Nat) (f : Nat → Nat) (gm : Nat → Bool) (w : World) (hn : n ≤ 20) (hm : m ≤ 20) (hU : HasU w a0 n f) (hB : HasB w a1 m gm) :
    Calls Try.prog 8 #[.slice a0 n c0, .slice a1 m c1] w (Law w) := by
  have HAw := Lib.hid awake_any
  have HN := Lib.hid new_any
  have HU := Lib.hid hU
  have HB := Lib.hid hB
  have hnI : ¬ (20 : Int) < (n : Int) := by omega
  have hmI : ¬ (20 : Int) < (m : Int) := by omega
  have hnD : decide ((20 : Int) < (n : Int)) = false := by simpa using hnI
  have hmD : decide ((20 : Int) < (m : Int)) = false := by simpa using hmI
  obtain ⟨x2, hx2⟩ : ∃ x : Nat, x = 2 := ⟨_, rfl⟩
  obtain ⟨x4, hx4⟩ : ∃ x : Nat, x = 4 := ⟨_, rfl⟩
  obtain ⟨x6, hx6⟩ : ∃ x : Nat, x = 6 := ⟨_, rfl⟩
  have HI0 := Lib.hid (show ∀ w1 G M v iv, Gm w1 G M v iv s0 → Calls Try.prog 12 #[.pointer (some ⟨G, 0, none⟩)] w1 fun e w' => e = .returned (.int .i64 x2) ∧ ∃ v' iv', Hid (GmT G M w1 v iv w' v' iv' s1) from fun w1 G M v iv g => hx2 ▸ input_s0 g)
  have HI1 := Lib.hid (show ∀ w1 G M v iv, Gm w1 G M v iv s1 → Calls Try.prog 12 #[.pointer (some ⟨G, 0, none⟩)] w1 fun e w' => e = .returned (.int .i64 x4) ∧ ∃ v' iv', Hid (GmT G M w1 v iv w' v' iv' s2) from fun w1 G M v iv g => hx4 ▸ input_s1 g)
  have HI2 := Lib.hid (show ∀ w1 G M v iv, Gm w1 G M v iv s2 → Calls Try.prog 12 #[.pointer (some ⟨G, 0, none⟩)] w1 fun e w' => e = .returned (.int .i64 x6) ∧ ∃ v' iv', Hid (GmT G M w1 v iv w' v' iv' sA) from fun w1 G M v iv g => hx6 ▸ input_s2 g)
  have HM := Lib.hid (show ∀ w1 w2 G M v iv, Gn w1 G M w2 v iv sA → Lw w1 (w2.alloc (.cells #[.int .i64 1, .int .i64 x2, .int .i64 x4, .int .i64 x6] 3)) G M v iv sA (.slice (some ⟨w2.heap.size, 0, none⟩) 4 4) 4 es4 from fun w1 w2 G M v iv g => by
    subst hx2 hx4 hx6
    exact Lw.made g #[.int .i64 1, .int .i64 (2 : Nat), .int .i64 (4 : Nat), .int .i64 (6 : Nat)] _ (fun j hj => by
      have hj : j < 4 := hj
      match j, hj with
      | 0, _ | 1, _ | 2, _ | 3, _ => rfl) (by show 4 ≤ _; omega))
  clear hx2 hx4 hx6 hU hB
  go_enter Try.func8, Try.ntmps8
  go_wp2_with (first
    | (go_at_call 9; refine (HAw.out _).mono ?_; rintro e w1 ⟨rfl, hb1⟩; have HB1 := Lib.hid hb1; clear hb1)
    | (go_at_call 10; refine (HN.out _).mono ?_; rintro e w2 ⟨G, M, v, iv, rfl, H2⟩)
    | (go_at_call 12; refine (HI2.out _ _ _ _ _ H4.out.gm).mono ?_; rintro e w5 ⟨rfl, v5, iv5, T5⟩; have H5 := Lib.hid (H4.out.next T5.out); clear T5)
    | (go_at_call 12; refine (HI1.out _ _ _ _ _ H3.out.gm).mono ?_; rintro e w4 ⟨rfl, v4, iv4, T4⟩; have H4 := Lib.hid (H3.out.next T4.out); clear T4)
    | (go_at_call 12; refine (HI0.out _ _ _ _ _ H2.out.gm).mono ?_; rintro e w3 ⟨rfl, v3, iv3, T3⟩; have H3 := Lib.hid (H2.out.next T3.out); clear T3))
  have HL := Lib.hid (HM.out _ _ _ _ _ _ H5.out)
  have HE0 := Lib.hid HL.out.has
  have HG0 := Lib.hid HL.out.gn
  clear HM HN HI0 HI1 HI2 H2 H3 H4 H5 HAw HL
  obtain ⟨g, hg⟩ : ∃ g : Nat → Nat, g = fun j => es4 (f j % 4) := ⟨_, rfl⟩
  obtain ⟨h, hh⟩ : ∃ h : Nat → Nat, h = fun j => es4 (f (n - 1 - j) % 4) := ⟨_, rfl⟩
  have HIS := Lib.hid (fun k => lp_is (I := mdl gm m) (g := g) (h := h) (k := k) fun j _ => ⟨by rw [hg]; exact es4_lt (Nat.mod_lt _ (by omega)), by rw [hh]; exact es4_lt (Nat.mod_lt _ (by omega))⟩)
  have HGg := Lib.hid hg
  have HHh := Lib.hid hh
  clear hg hh
  go_wp2
  go_loopw [7, 8, 9] (fun xa xb i wr => ∃ (k : Nat) (v iv : Value), k ≤ n ∧ xa = .int .i64 ((lpN g h k).2.1 : Nat) ∧ xb = .int .i64 ((lpN g h k).2.2 : Nat) ∧ i = .int .i64 k ∧ Hid (Gn w1 G M wr v iv (lpN g h k).1) ∧ Hid (HasE wr (Bg G M v iv) (some ⟨w5.heap.size, 0, none⟩) 4 es4)) (fun _ _ i _ => n - (intOf i).toNat)
  case atStart => exact ⟨0, _, _, Nat.zero_le _, rfl, rfl, rfl, HG0, HE0⟩
  case round =>
    obtain ⟨k, v, iv, hk, rfl, rfl, rfl, HR, HE⟩ := hrel
    by_cases hlt : k < n
    · have hltI : (k : Int) < (n : Int) := by omega
      obtain ⟨R, hR⟩ : ∃ R, R = n - 1 - k := ⟨_, rfl⟩
      have hRI : (n : Int) - 1 - (k : Int) = (R : Int) := by omega
      have hRl : R < n := by omega
      have hRlI : (R : Int) < (n : Int) := by omega
      have his := HIS.out k
      have hgk : g k = es4 (f k % 4) := by rw [HGg.out]
      have hhk : h k = es4 (f R % 4) := by rw [HHh.out, hR]
      have l1 : es4 (f k % 4) < 2 * (3 + 1) := es4_lt (Nat.mod_lt _ (by omega))
      have l2 : es4 (f R % 4) < 2 * (3 + 1) := es4_lt (Nat.mod_lt _ (by omega))
      have hn3 : 3 ≤ (lpN g h k).1.n := his.ext.n
      have hX := xor_any HR.out.gm (by have := his.n; omega) ((lpN g h k).2.1 : Nat) (es4 (f k % 4) : Nat) (by have := his.la; have := his.n; omega) (by omega)
      rw [edg_of his.la, edg_of (by omega)] at hX
      have r := xorN_is (I := mdl gm m) his.ok (a := (lpN g h k).2.1) (b := es4 (f k % 4)) his.la (by omega)
      have HS := Lib.hid (show lpN g h (k + 1) = ((xorN (xorN (lpN g h k).1 (lpN g h k).2.1 (es4 (f k % 4))).2 (es4 (f R % 4)) (lpN g h k).2.2).2, (xorN (lpN g h k).1 (lpN g h k).2.1 (es4 (f k % 4))).1, (xorN (xorN (lpN g h k).1 (lpN g h k).2.1 (es4 (f k % 4))).2 (es4 (f R % 4)) (lpN g h k).2.2).1) from by
        show (_, _, _) = _
        rw [hgk, hhk])
      have hlb := his.lb
      have hnn := his.n
      generalize (lpN g h k).2.1 = pa at *
      generalize (lpN g h k).2.2 = pb at *
      generalize (lpN g h k).1 = ps at *
      generalize xorN ps pa (es4 (f k % 4)) = r0 at *
      obtain ⟨r1, r2⟩ := r0
      have hrn := r.ext.n
      have hrn2 := r.n
      simp only at HS hX hrn hrn2
      have HX2 := Lib.hid (show ∀ w1 v1 iv1, Gm w1 G M v1 iv1 r2 → Calls Try.prog 23 #[.pointer (some ⟨G, 0, none⟩), .int .i64 (es4 (f R % 4) : Nat), .int .i64 (pb : Nat)] w1 (Lays w1 G M v1 iv1 (xorN r2 (es4 (f R % 4)) pb)) from fun w1 v1 iv1 gg => by
        have := xor_any gg (by omega) (es4 (f R % 4) : Nat) (pb : Nat) (by omega) (by omega)
        rwa [edg_of (by omega), edg_of (by omega)] at this)
      have HX1 := Lib.hid hX
      generalize xorN r2 (es4 (f R % 4)) pb = q0 at *
      obtain ⟨q1, q2⟩ := q0
      have HCU := Lib.hid (show ∀ w', Below w.heap.size w w' → ∃ b off, a0 = some ⟨b, off, none⟩ ∧ w'.cell? ⟨b, off + k, none⟩ = some (.int .u8 (f k : Nat)) ∧ w'.cell? ⟨b, off + R, none⟩ = some (.int .u8 (f R : Nat)) ∧ f k < 256 ∧ f R < 256 from fun w' hb' => by
        rcases HU.out.below hb' with e | ⟨b2, off2, e2, _, hc2⟩
        · omega
        · exact ⟨b2, off2, e2, (hc2 k hlt).1, (hc2 R hRl).1, (hc2 k hlt).2, (hc2 R hRl).2⟩)
      obtain ⟨b, off, rfl, xk, _, bk, bR⟩ := HCU.out wr (HB1.out.trans (HR.out.bel.mono HB1.out.size))
      have HCU2 := Lib.hid (show ∀ w', Below w.heap.size w w' → w'.cell? ⟨b, off + R, none⟩ = some (.int .u8 (f R : Nat)) from fun w' hb' => by
        obtain ⟨b2, off2, e2, _, x, _⟩ := HCU.out w' hb'
        cases e2; exact x)
      have HCE := Lib.hid (show ∀ w' v iv, HasE w' (Bg G M v iv) (some ⟨w5.heap.size, 0, none⟩) 4 es4 → ∀ j, j < 4 → w'.cell? ⟨w5.heap.size, j, none⟩ = some (.int .i64 (es4 j : Nat)) from fun w' v iv hE j hj => by
        rcases hE with e | ⟨b2, off2, e2, _, _, hc2⟩
        · omega
        · cases e2
          have := hc2 j hj
          rwa [Nat.zero_add] at this)
      have j1 : f k % 4 < 4 := Nat.mod_lt _ (by omega)
      have j2 : f R % 4 < 4 := Nat.mod_lt _ (by omega)
      have e1 := HCE.out _ _ _ HE.out _ j1
      have o1 : ((f k : Nat) : Int) % 4 = ((f k % 4 : Nat) : Int) := by omega
      have o2 : ((f R : Nat) : Int) % 4 = ((f R % 4 : Nat) : Int) := by omega
      have J2 := Lib.hid j2
      have bkI : ((f k : Nat) : Int) < 256 := by omega
      have bRI : ((f R : Nat) : Int) < 256 := by omega
      generalize f k % 4 = K1 at *
      generalize f R % 4 = K2 at *
      clear hX r hgk hhk l1 l2 hn3 his hR hrn hrn2 hlb hnn
      go_wp2_with (first
        | (go_at_call 23; refine (HX2.out _ _ _ T6.out.gm).mono ?_; rintro e w7 ⟨rfl, v7, iv7, T7⟩)
        | (go_at_call 23; refine HX1.out.mono ?_; rintro e w6 ⟨rfl, v6, iv6, T6⟩; have yr := HCU2.out _ (HB1.out.trans ((HR.out.next T6.out).bel.mono HB1.out.size)); have e2 := HCE.out _ _ _ (HE.out.next T6.out) _ J2.out))
      go_roundw
      case rel => exact ⟨k + 1, v7, iv7, by omega, by rw [HS.out], by rw [HS.out], by go_num, Lib.hid (by rw [HS.out]; exact (HR.out.next T6.out).next T7.out), Lib.hid ((HE.out.next T6.out).next T7.out)⟩
      case measure => simp [intOf]; omega
    · obtain rfl : k = n := by omega
      obtain ⟨n, rfl⟩ : ∃ n, n = k := ⟨k, rfl⟩
      have hltI : ¬ (n : Int) < (n : Int) := by omega
      have his := HIS.out n
      have hXb : xorB (fun j => val (mdl gm m) sA (h j)) n = xorB (fun j => val (mdl gm m) sA (g j)) n := by
        rw [HHh.out, HGg.out]
        exact xorB_rev (fun j => val (mdl gm m) sA (es4 (f j % 4))) n
      have hXg : ∀ k, xorB (fun j => val (mdl gm m) sA (g j)) k = xorB (fun j => val (mdl gm m) sA (es4 (f j % 4))) k := fun k => by rw [HGg.out]
      have va := his.va
      have vb := his.vb
      rw [hXg] at va
      rw [hXb, hXg] at vb
      have la := his.la
      have lb := his.lb
      have hext := his.ext
      have hnn := his.n
      clear his hXb hXg
      generalize (lpN g h n).2.1 = pa at *
      generalize (lpN g h n).2.2 = pb at *
      generalize (lpN g h n).1 = ps at *
      have hn3 : 3 ≤ ps.n := hext.n
      obtain ⟨X, hX⟩ : ∃ X : Nat → Bool, X = fun k => xorB (fun j => val (mdl gm m) sA (es4 (f j % 4))) k := ⟨_, rfl⟩
      obtain ⟨U, hU⟩ : ∃ U : Nat → Bool, U = fun j => val (mdl gm m) sA (es4 j) := ⟨_, rfl⟩
      have HXS := Lib.hid (show X 0 = false ∧ ∀ k, X (k + 1) = (X k != U (f k % 4)) from ⟨by rw [hX]; rfl, fun k => by rw [hX, hU]; rfl⟩)
      have HF2 := Lib.hid (show Frs 3 w1 (wr.alloc (.cells #[.int .i64 (pa : Nat), .int .i64 (pb : Nat)] 3)) (.slice (some ⟨wr.heap.size, 0, none⟩) 2 2) 2 (fun j => .int .i64 ((if j = 0 then pa else pb : Nat) : Int)) from Frs.made HR.out.bel #[.int .i64 (pa : Nat), .int .i64 (pb : Nat)] (fun j => .int .i64 ((if j = 0 then pa else pb : Nat) : Int)) (fun j hj => by
        have hj : j < 2 := hj
        match j, hj with
        | 0, _ | 1, _ => rfl) (by unfold maxLen; simp))
      have HSRC := Lib.hid (show Src (wr.alloc (.cells #[.int .i64 (pa : Nat), .int .i64 (pb : Nat)] 3)) (some ⟨w5.heap.size, 0, none⟩) 4 4 (fun j => .int .i64 (es4 j : Nat)) from by
        rcases HE.out.below ((Below.refl _ wr).alloc (Nat.le_refl _) (.cells #[.int .i64 (pa : Nat), .int .i64 (pb : Nat)] 3)) with e | ⟨b2, off2, e2, _, _, hc2⟩
        · omega
        · cases e2
          exact .inr ⟨_, rfl, fun j hj => ⟨by rw [adr]; exact hc2 j hj, rfl⟩⟩)
      have HEV := Lib.hid (show ∀ a' c' w', Frs 3 w1 w' (.slice a' (2 + 4) c') (2 + 4) (catV (fun j => .int .i64 ((if j = 0 then pa else pb : Nat) : Int)) 2 (fun j => .int .i64 (es4 j : Nat))) ∧ Fr (fun b => (Value.slice (some ⟨wr.heap.size, 0, none⟩) 2 2).ownBlock = some b) (wr.alloc (.cells #[.int .i64 (pa : Nat), .int .i64 (pb : Nat)] 3)) w' → Calls Try.prog 17 #[.pointer (some ⟨G, 0, none⟩), .slice a1 m c1, .slice a' (2 + 4) c'] w' fun e w'' => ∃ b c, e = .returned (.slice (some ⟨b, 0, none⟩) 6 c) ∧ Hid (w''.cell? ⟨b, 0, none⟩ = some (.bool (X n)) ∧ w''.cell? ⟨b, 1, none⟩ = some (.bool (X n)) ∧ (∀ j, j < 4 → w''.cell? ⟨b, 2 + j, none⟩ = some (.bool (U j))) ∧ Below w.heap.size w w'') from fun a' c' w' ⟨hF, hfr⟩ => by
        have hb0 : Below wr.heap.size wr w' := ((Below.refl _ wr).alloc (Nat.le_refl _) _).trans (hfr.below (by simp) fun b e => by cases e; exact Nat.le_refl _)
        have hbw := HB1.out.trans (HR.out.bel.mono HB1.out.size)
        have hbw2 := hbw.trans (hb0.mono hbw.size)
        have he := eval_any (HR.out.gm.below hb0) (by omega) (c1 := c1) (HB.out.below hbw2) (by omega) (c2 := c') (g := fun j => if j = 0 then pa else if j = 1 then pb else es4 (j - 2)) (hF.hasE fun j hj => by
          unfold catV
          by_cases e : j < 2
          · rw [if_pos e]
            by_cases e0 : j = 0
            · simp [e0]
            · simp [show j = 1 by omega]
          · rw [if_neg e, if_neg (by omega), if_neg (by omega)]) (fun j hj => by
          show (if j = 0 then pa else if j = 1 then pb else es4 (j - 2)) < 2 * (ps.n + 1)
          by_cases e0 : j = 0
          · rw [if_pos e0]; exact la
          · rw [if_neg e0]
            by_cases e1 : j = 1
            · rw [if_pos e1]; exact lb
            · rw [if_neg e1]; have := es4_lt (j := j - 2) (by omega); omega) (by omega)
        refine he.mono fun e w'' ⟨a2, c2, h1, hF2⟩ => ?_
        obtain ⟨b, rfl, hc⟩ := hF2.out.cells (by omega)
        refine ⟨b, c2, h1, Lib.hid ⟨(hc 0 (by omega)).trans ?_, (hc 1 (by omega)).trans ?_, fun j hj => (hc (2 + j) (by omega)).trans ?_, hbw2.trans (hF2.out.bel.mono hbw2.size)⟩⟩
        · rw [hX]; exact congrArg (fun b => some (Value.bool b)) va
        · rw [hX]; exact congrArg (fun b => some (Value.bool b)) vb
        · rw [hU]
          have h2 := es4_lt hj
          show some (Value.bool (val (mdl gm m) ps (if 2 + j = 0 then pa else if 2 + j = 1 then pb else es4 (2 + j - 2)))) = _
          rw [if_neg (by omega), if_neg (by omega), show 2 + j - 2 = j by omega, val_ext hext h2])
      clear hlt va vb la lb hext hnn hn3 hX hU
      go_wp2_with (first
        | (go_at_call 17; refine (HEV.out _ _ _ ⟨HA.out.1, HA.out.2.1⟩).mono ?_; rintro e w8 ⟨b8, c8, rfl, H8⟩)
        | (at_builtin; refine Frs.appF elemInt HF2 (Below.refl _ _) HSRC.out (by unfold maxLen; omega) (by omega) rfl _ _ rfl rfl rfl ?_; intro a7 c7 w7 HA))
      obtain ⟨y0, y1, hy, hbel⟩ := H8.out
      have HY := Lib.hid hy
      have HBB := Lib.hid hbel
      have HX0 := Lib.hid HXS.out.1
      clear hy hbel
      go_loop [11, 12] (fun xw i => ∃ k : Nat, k ≤ n ∧ xw = .bool (X k) ∧ i = .int .i64 k) (fun _ i => n - (intOf i).toNat)
      case atStart => exact ⟨0, Nat.zero_le _, by rw [HX0.out], rfl⟩
      case round =>
        obtain ⟨k, hk, rfl, rfl⟩ := hrel
        by_cases hlt : k < n
        · have hltI : (k : Int) < (n : Int) := by omega
          rcases HU.out.below HBB.out with e | ⟨b2, off2, rfl, _, hc2⟩
          · omega
          obtain ⟨xk, bk⟩ := hc2 k hlt
          have HXk := Lib.hid (HXS.out.2 k)
          have j1 : f k % 4 < 4 := Nat.mod_lt _ (by omega)
          have e1 := HY.out _ j1
          have bkI : ((f k : Nat) : Int) < 256 := by omega
          have o1 : ((f k : Nat) : Int) % 4 = ((f k % 4 : Nat) : Int) := by omega
          generalize f k % 4 = K1 at *
          clear hc2
          go_wp2
          go_round
          case rel => exact ⟨k + 1, by omega, by rw [HXk.out]; cases X k <;> cases U K1 <;> rfl, by go_num⟩
          case measure => simp [intOf]; omega
        · obtain rfl : k = n := by omega
          have hltI : ¬ (k : Int) < (k : Int) := by omega
          clear hlt
          go_wp2
          go_ret
          exact ⟨rfl, HBB.out⟩
set_option maxHeartbeats 1000000 in
theorem loop_long (a0 a1 : Option Addr) (n c0 m c1 : Nat) (w : World) (h : 20 < n ∨ 20 < m) (hn2 : n ≤ 9223372036854775807) (hm2 : m ≤ 9223372036854775807) :
    Calls Try.prog 8 #[.slice a0 n c0, .slice a1 m c1] w (Law w) := by
  have HA := Lib.hid awake_any
  have Hn := Lib.hid hn2
  have Hm := Lib.hid hm2
  clear hn2 hm2
  by_cases hn : 20 < n
  · have hnI : (20 : Int) < (n : Int) := by omega
    clear h
    go_enter Try.func8, Try.ntmps8
    go_wp2_with (first
      | (go_at_call 9; have := HB1; refine (HA.out _).mono ?_; rintro e w2 ⟨rfl, hb2⟩; have HB2 := Lib.hid (HB1.out.trans (hb2.mono HB1.out.size)); clear hb2)
      | (go_at_call 9; refine (HA.out _).mono ?_; rintro e w1 ⟨rfl, hb1⟩; have HB1 := Lib.hid hb1; clear hb1))
    go_ret
    exact ⟨rfl, HB2.out⟩
  · have hm : 20 < m := by omega
    have hnI : ¬ (20 : Int) < (n : Int) := by omega
    have hnD : decide ((20 : Int) < (n : Int)) = false := by simpa using hnI
    have hmI : (20 : Int) < (m : Int) := by omega
    clear h
    go_enter Try.func8, Try.ntmps8
    go_wp2_with (first
      | (go_at_call 9; have := HB1; refine (HA.out _).mono ?_; rintro e w2 ⟨rfl, hb2⟩; have HB2 := Lib.hid (HB1.out.trans (hb2.mono HB1.out.size)); clear hb2)
      | (go_at_call 9; refine (HA.out _).mono ?_; rintro e w1 ⟨rfl, hb1⟩; have HB1 := Lib.hid hb1; clear hb1))
    go_ret
    exact ⟨rfl, HB2.out⟩
theorem loop_any (a0 a1 : Option Addr) (n c0 m c1 : Nat) (f : Nat → Nat) (gm : Nat → Bool) (w : World) (hU : HasU w a0 n f) (hn : n ≤ 9223372036854775807) (hB : HasB w a1 m gm) (hm : m ≤ 9223372036854775807) :
    Calls Try.prog 8 #[.slice a0 n c0, .slice a1 m c1] w (Law w) := by
  by_cases h : n ≤ 20 ∧ m ≤ 20
  · exact loop_walk a0 a1 n c0 m c1 f gm w h.1 h.2 hU hB
  · exact loop_long a0 a1 n c0 m c1 w (by omega) hn hm
end Go.Proofs.Ytfdopgohopibkaa
