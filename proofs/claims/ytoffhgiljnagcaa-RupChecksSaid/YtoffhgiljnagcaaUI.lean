/- Contracts: Check. -/
import Derived.Test.YtoffhgiljnagcaaZb
import Derived.Test.YtoffhgiljnagcaaQF
namespace Go.Proofs.Ytoffhgiljnagcaa
open Go.RowKit Go.Lib Go.Maps
set_option maxRecDepth 100000

/-- How often each form is among the first k rows. -/
def cntR (R : Nat → Row) : Nat → List Int → Nat
  | 0 => fun _ => 0
  | k + 1 => inc (cntR R k) (nfv (lof (R k).f (R k).n))
/-- Check's answer. -/
def ChkIs (R : Nat → Row) (n : Nat) (X : Nat → Lin) (m : Nat) (f : Nat → Int) (l : Nat) (r : Int) : Prop :=
  (¬ (litR R n = true ∧ litF f l = true) ∧ r = -1) ∨ (litR R n = true ∧ litF f l = true ∧
    ((∃ i : Nat, r = i + 1 ∧ i < m ∧ okTo (cntR R n) X i ∧ ¬ okL (runL (cntR R n) X i) (X i).d (X i).f (X i).n) ∨
     (okTo (cntR R n) X m ∧ ((r = 0 ∧ Conf (PCl (runL (cntR R n) X m)) (Den f l)) ∨ (r = m + 1 ∧ ¬ Conf (PCl (runL (cntR R n) X m)) (Den f l))))))
def ChkOk (R : Nat → Row) (n : Nat) (X : Nat → Lin) (m : Nat) (f : Nat → Int) (l : Nat) (w : World) (e : Ending) (w' : World) : Prop :=
  ∃ r : Int, e = .returned (.int .i64 r) ∧ Hid (ChkIs R n X m f l r) ∧ Hid (Below w.heap.size w w')
/-- While the clauses are added. -/
def AddW (w : World) (R : Nat → Row) (P Q K M g k : Nat) (wr : World) : Prop := ∃ L s pl, PG w P Q K M g k wr L s (cntR R k) pl
theorem AddW.start {w w1 : World} {R : Nat → Row} {P Q K M : Nat} {L : Tag → Value} (h : PMem w1 P Q K M 0 L St0 (fun _ => 0) (fun _ => 0)) (hb : Below w.heap.size w w1) (hn : ∀ b, Bl K M L b → w.heap.size ≤ b) (hP : w.heap.size ≤ P) (hQ : w.heap.size ≤ Q) :
    AddW w R P Q K M w1.heap.size 0 (w1.alloc (.cells #[.pointer (some ⟨P, 0, none⟩)] 53)) := by
  refine ⟨L, St0, fun _ => 0, ⟨h.alloc _, PI.start, Nat.zero_le _, Nat.le_refl _, fun F => Nat.le_refl _, hb.alloc hb.size _, hn, hP, hQ⟩, ?_, fun e => ?_, fun e => ?_⟩
  · exact World.rowIs_alloc w1 #[.pointer (some ⟨P, 0, none⟩)] 53 _ (fun i hi => by
      have hi' : i < 1 := hi
      obtain rfl : i = 0 := by omega
      rfl)
  · have := h.mem.lt e; omega
  · obtain ⟨D, hD, _⟩ := h.mp
    have := hD.lt; omega
theorem AddW.step {w : World} {R : Nat → Row} {P Q K M g k : Nat} {wr : World} (h : AddW w R P Q K M g k wr) (hl : litF (R k).f (R k).n = true) (hn : (R k).n ≤ 1000) (hk : k ≤ 1000) (hf : Has w (R k).a (R k).n (R k).f) :
    Calls Try.prog 30 #[.pointer (some ⟨P, 0, none⟩), .slice (R k).a (R k).n (R k).c] wr fun e w' => e = .returned (.tuple #[]) ∧ Hid (AddW w R P Q K M g (k + 1) w') := by
  obtain ⟨L, s, pl, hG⟩ := h
  refine (pr_add hG.pr hk hn (hf.below hG.pr.bel) hl _).mono ?_
  rintro e w' ⟨rfl, L', s', pl', HH⟩
  exact ⟨rfl, Lib.hid ⟨L', s', pl', hG.step HH.out.1 HH.out.2⟩⟩

set_option maxHeartbeats 4000000 in
theorem check_any (a : Option Addr) (n c : Nat) (R : Nat → Row) (a1 : Option Addr) (m c1 : Nat) (X : Nat → Lin) (a2 : Option Addr) (l c2 : Nat) (f : Nat → Int) (w : World) (hn : n ≤ 100) (hR : ∀ j, j < n → (R j).n ≤ 1000) (hm : m ≤ 100) (hXn : ∀ j, j < m → (X j).n ≤ 1000) (hl : l ≤ 1000) (h : Rws w a n R) (hX : Lns w a1 m X) (hf : Has w a2 l f) :
    Calls Try.prog 14 #[.slice a n c, .slice a1 m c1, .slice a2 l c2] w (ChkOk R n X m f l w) := by
  have hv := validAll_any a n c R w (by omega) (fun j hj => by have := hR j hj; omega) h
  unfold ValPost at hv
  have hv2 := fun t q => validAll_any (some ⟨w.heap.size, 0, none⟩) 1 1 (fun _ => ⟨a2, l, c2, f⟩) _ (by omega) (fun j hj => by show l ≤ _; omega) (one_rws (c := c2) hf t q)
  unfold ValPost at hv2
  rw [one_litR] at hv2
  have HB := Lib.hid (show ∀ t q q', Below w.heap.size w ((((w.drewN q).alloc (.cells #[.slice a2 l c2] t))).drewN q') from fun t q q' => below_drewN ((below_drewN (Below.refl _ w) q).alloc (by simp [World.drewN]) _) q')
  have HB1 := Lib.hid (show ∀ q, Below w.heap.size w (w.drewN q) from fun q => below_drewN (Below.refl _ w) q)
  by_cases hlr : litR R n = true
  · rw [hlr] at hv
    have HV := Lib.hid hv
    by_cases hlf : litF f l = true
    · rw [hlf] at hv2
      have HV2 := Lib.hid hv2
      have HR := Lib.hid (And.intro hR (And.intro h (And.intro hf (And.intro hX hXn))))
      have HL := Lib.hid (And.intro hlr hlf)
      clear hv hv2 hlr hlf h hf hR hX hXn
      go_enter Try.func14, Try.ntmps14
      go_wp2_with (first
        | (go_at_call 20; refine HV.out.mono ?_; rintro e w' ⟨rfl, q, rfl⟩)
        | (go_at_call 20; refine (HV2.out _ _).mono ?_; rintro e w' ⟨rfl, q2, rfl⟩)
        | (go_at_call 29; refine (newPresent_any _).mono ?_; rintro e w1 ⟨P, Q, K, M, L, rfl, hk1, hk2, hk3, hk4, hk5⟩; have H0 := Lib.hid (AddW.start (R := R) hk1 ((HB.out _ _ _).trans (hk2.mono (HB.out _ _ _).size)) (fun b hb => Nat.le_trans (HB.out _ _ _).size (hk3 b hb)) (Nat.le_trans (HB.out _ _ _).size hk4) (Nat.le_trans (HB.out _ _ _).size hk5)); clear hk1 hk2 hk3 hk4 hk5))
      clear HV HV2
      generalize w1.heap.size = g at *
      generalize w1.alloc (.cells #[.pointer (some ⟨P, 0, none⟩)] 53) = wb at *
      go_loopw [24, 9] (fun v _ wr => ∃ (k : Nat), k ≤ n ∧ v = .int .i64 k ∧ Hid (AddW w R P Q K M g k wr)) (fun v _ _ => n - (intOf v).toNat)
      case atStart => exact ⟨0, Nat.zero_le _, rfl, H0⟩
      case round =>
        obtain ⟨k, hk, rfl, HI⟩ := hrel
        clear H0
        by_cases hlt : k < n
        · have kg : wr.cell? ⟨g, 0, none⟩ = some (.pointer (some ⟨P, 0, none⟩)) := by
            obtain ⟨L, s, pl, hG⟩ := HI.out
            exact hG.gr.cell (by omega)
          have hltI : (k : Int) < (n : Int) := by omega
          rcases HR.out.2.1 with h0 | ⟨b, off, rfl, hbl, hc⟩
          · omega
          obtain ⟨hcell, hHas⟩ := hc k hlt
          have hbe : Below w.heap.size w wr := by
            obtain ⟨L, s, pl, hG⟩ := HI.out
            exact hG.pr.bel
          have xc : wr.cell? ⟨b, off + k, none⟩ = some (.slice (R k).a (R k).n (R k).c) := (hbe.cell (p := ⟨b, off + k, none⟩) hbl).trans hcell
          have HA := Lib.hid (HI.out.step (litR_iff.1 HL.out.1 k hlt) (HR.out.1 k hlt) (by omega) hHas)
          clear hc hcell hHas hbl hbe
          go_wp2_with (go_at_call 30; refine HA.out.mono ?_; rintro e w3 ⟨rfl, HI3⟩)
          go_roundw
          case rel => exact ⟨k + 1, by omega, by go_num, HI3⟩
          case measure => simp [intOf]; omega
        · have hq : ¬ (k : Int) < (n : Int) := by omega
          obtain rfl : k = n := by omega
          obtain ⟨L, s, pl, hG⟩ := HI.out
          have HX := Lib.hid (indexL_any hG (c := c1) (by omega) HR.out.2.2.2.1 HR.out.2.2.2.2)
          clear hG
          go_wp2_with (go_at_call 33; refine HX.out.mono ?_)
          rintro e w4 ⟨r, rfl, HO⟩
          rcases HO.out with ⟨rfl, ho, k4, L4, s4, pl4, hk4, hG4⟩ | ⟨i, rfl, hi, ho, hno, hb4⟩
          · have kg : w4.cell? ⟨g, 0, none⟩ = some (.pointer (some ⟨P, 0, none⟩)) := hG4.gr.cell (by omega)
            have hb4 := hG4.pr.bel
            have HM := Lib.hid (show Calls Try.prog 34 #[.pointer (some ⟨P, 0, none⟩), .slice a2 l c2] w4 fun e w' => ∃ b : Bool, e = .returned (.bool b) ∧ Hid (b = true ↔ Conf (PCl (runL (cntR R k) X m)) (Den f l)) ∧ Hid (Below w.heap.size w w') from
              (pr_imp hG4.pr (by omega) hl HR.out.2.2.1 HL.out.2 c2).mono fun e w' ⟨b, L', s', he, HH⟩ => ⟨b, he, Lib.hid HH.out.1, Lib.hid HH.out.2.2.bel⟩)
            have HK := Lib.hid ho
            clear ho hG4 hb4 HO
            go_wp2_with (go_at_call 34; refine HM.out.mono ?_; rintro e w5 ⟨b, rfl, hb1, hb2⟩)
            · have hb : b = false := by simp_all
              have HE := Lib.hid (show ChkOk R k X m f l w (.returned (.int .i64 (m + 1))) w5 from ⟨_, rfl, Lib.hid (.inr ⟨HL.out.1, HL.out.2, .inr ⟨HK.out, .inr ⟨rfl, fun hc => by rw [hb1.out.2 hc] at hb; cases hb⟩⟩⟩), hb2⟩)
              clear hb
              go_ret
              exact HE.out
            · have hb : b = true := by simp_all
              have HE := Lib.hid (show ChkOk R k X m f l w (.returned (.int .i64 0)) w5 from ⟨_, rfl, Lib.hid (.inr ⟨HL.out.1, HL.out.2, .inr ⟨HK.out, .inl ⟨rfl, hb1.out.1 hb⟩⟩⟩), hb2⟩)
              clear hb
              go_ret
              exact HE.out
          · have HE := Lib.hid (show ChkOk R k X m f l w (.returned (.int .i64 (i + 1))) w4 from ⟨_, rfl, Lib.hid (.inr ⟨HL.out.1, HL.out.2, .inl ⟨i, rfl, hi, ho, hno⟩⟩), Lib.hid hb4⟩)
            clear ho hno hb4 HO
            go_wp2
            go_ret
            exact HE.out
    · have hlf' : litF f l = false := by simpa using hlf
      rw [hlf'] at hv2
      have HV2 := Lib.hid hv2
      have HE := Lib.hid (show ∀ t q q', ChkOk R n X m f l w (.returned (.int .i64 (-1))) ((((w.drewN q).alloc (.cells #[.slice a2 l c2] t))).drewN q') from fun t q q' => ⟨_, rfl, Lib.hid (.inl ⟨fun e => hlf e.2, rfl⟩), Lib.hid (HB.out t q q')⟩)
      clear hv hv2 hlr hlf hlf' h hf hR hX hXn
      go_enter Try.func14, Try.ntmps14
      go_wp2_with (first
        | (go_at_call 20; refine HV.out.mono ?_; rintro e w' ⟨rfl, q, rfl⟩)
        | (go_at_call 20; refine (HV2.out _ _).mono ?_; rintro e w' ⟨rfl, q2, rfl⟩))
      go_ret
      exact HE.out _ _ _
  · have hlr' : litR R n = false := by simpa using hlr
    rw [hlr'] at hv
    have HV := Lib.hid hv
    have HE := Lib.hid (show ∀ q, ChkOk R n X m f l w (.returned (.int .i64 (-1))) (w.drewN q) from fun q => ⟨_, rfl, Lib.hid (.inl ⟨fun e => hlr e.1, rfl⟩), Lib.hid (HB1.out q)⟩)
    clear hv hv2 hlr hlr' h hf hR hX hXn
    go_enter Try.func14, Try.ntmps14
    go_wp2_with (go_at_call 20; refine HV.out.mono ?_; rintro e w' ⟨rfl, q, rfl⟩)
    go_ret
    exact HE.out _
end Go.Proofs.Ytoffhgiljnagcaa
