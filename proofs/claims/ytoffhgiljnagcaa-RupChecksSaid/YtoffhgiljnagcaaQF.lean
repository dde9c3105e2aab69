/- Contracts: Check of no lines. -/
import Derived.Test.YtoffhgiljnagcaaQE
import Derived.Test.YtoffhgiljnagcaaQB
namespace Go.Proofs.Ytoffhgiljnagcaa
open Go.RowKit Go.Lib Go.Maps
set_option maxRecDepth 100000

theorem index_nil (fv : Value) (w : World) : Calls Try.prog 33 #[.slice none 0 0, fv] w fun e w' => e = .returned (.int .i64 (-1)) ∧ w = w' := by
  go_enter Try.func33, Try.ntmps33
  go_wp2
  go_loop [8] (fun i => i = .int .i64 0) (fun _ => 0)
  case atStart => rfl
  case round =>
    subst hrel
    go_wp2
    go_ret
    exact ⟨rfl, rfl⟩

/-- While the clauses are added to what is present. -/
structure CW (w : World) (R : Nat → Row) (P Q K M g k : Nat) (wr : World) (L : Tag → Value) (s : St) (cnt pl : List Int → Nat) : Prop where
  pm : PMem wr P Q K M k L s cnt pl
  base : St.Base s St.All
  set : s.settled = false
  gone : s.NoGone
  nv : s.nv ≤ k * 1000
  nc : s.nc ≤ k + 1
  cl : ∀ c, s.Cl c ↔ RowN R k c
  cn : ∀ F, cnt F ≠ 0 → ∃ j, j < k ∧ nfv (lof (R j).f (R j).n) = F
  ck : ∀ F, cnt F ≤ k
  bel : Below w.heap.size w wr
  new : ∀ b, Bl K M L b → w.heap.size ≤ b
  pn : w.heap.size ≤ P
  qn : w.heap.size ≤ Q
  gr : wr.rowIs g 53 1 fun _ => .pointer (some ⟨P, 0, none⟩)
  gb : ¬ Bl K M L g
  gq : g ≠ Q
  gn : w.heap.size ≤ g
theorem CW.start {w w1 : World} {R : Nat → Row} {P Q K M : Nat} {L : Tag → Value} (h : PMem w1 P Q K M 0 L St0 (fun _ => 0) (fun _ => 0)) (hb : Below w.heap.size w w1) (hn : ∀ b, Bl K M L b → w.heap.size ≤ b) (hP : w.heap.size ≤ P) (hQ : w.heap.size ≤ Q) :
    CW w R P Q K M w1.heap.size 0 (w1.alloc (.cells #[.pointer (some ⟨P, 0, none⟩)] 53)) L St0 (fun _ => 0) (fun _ => 0) := by
  have h1 := h.alloc (.cells #[.pointer (some ⟨P, 0, none⟩)] 53)
  refine ⟨h1, base0, rfl, fun _ _ => rfl, Nat.zero_le _, Nat.le_refl _, fun c => ⟨fun h => absurd h (cl0 c), fun h => absurd h (rowN_zero R c)⟩, fun F h => absurd rfl h, fun F => Nat.le_refl _, hb.alloc hb.size _, hn, hP, hQ, ?_, fun e => ?_, fun e => ?_, hb.size⟩
  · exact World.rowIs_alloc w1 #[.pointer (some ⟨P, 0, none⟩)] 53 _ (fun i hi => by
      have hi' : i < 1 := hi
      obtain rfl : i = 0 := by omega
      rfl)
  · have := h.mem.lt e; omega
  · obtain ⟨D, hD, _⟩ := h.mp
    have := hD.lt; omega
theorem taut_nfv {l k : List Int} (h : nfv l = nfv k) : tautv l = tautv k := by unfold tautv; rw [h]
theorem rowN_again {R : Nat → Row} {k : Nat} (hl : ∀ j, j ≤ k → ∀ x ∈ lof (R j).f (R j).n, lit x = true) (h : ∃ j, j < k ∧ nfv (lof (R j).f (R j).n) = nfv (lof (R k).f (R k).n)) (c : List Int) : RowN R (k + 1) c ↔ RowN R k c := by
  cases ht : tautv (lof (R k).f (R k).n)
  · rw [rowN_next ht]
    refine ⟨?_, .inl⟩
    rintro (h1 | h1)
    · exact h1
    · obtain ⟨j, hj, e⟩ := h
      refine ⟨j, hj, by rw [taut_nfv e]; exact ht, h1.trans fun x => ?_⟩
      rw [← nfv_mem (hl k (Nat.le_refl _)), ← nfv_mem (hl j (by omega)), e]
  · exact rowN_skip ht c
theorem CW.step {w : World} {R : Nat → Row} {P Q K M g k : Nat} {wr : World} {L : Tag → Value} {s : St} {cnt pl : List Int → Nat} (h : CW w R P Q K M g k wr L s cnt pl) (hl : ∀ j, j ≤ k → ∀ x ∈ lof (R j).f (R j).n, lit x = true) (hn : (R k).n ≤ 1000) (hk : k ≤ 1000) (hf : Has wr (R k).a (R k).n (R k).f) :
    Calls Try.prog 30 #[.pointer (some ⟨P, 0, none⟩), .slice (R k).a (R k).n (R k).c] wr fun e w' => e = .returned (.tuple #[]) ∧ ∃ L' s' cnt' pl', Hid (CW w R P Q K M g (k + 1) w' L' s' cnt' pl') := by
  have hlk : litF (R k).f (R k).n = true := by
    have := hl k (Nat.le_refl _)
    rw [← List.all_eq_true, litF_all] at this; exact this
  have hsz := h.bel.size
  have hcn : ∀ (F : List Int) (x : Nat), (if F = nfv (lof (R k).f (R k).n) then x else cnt F) ≠ 0 → ∃ j, j < k + 1 ∧ nfv (lof (R j).f (R j).n) = F := fun F x hc => by
    by_cases e : F = nfv (lof (R k).f (R k).n)
    · exact ⟨k, by omega, e.symm⟩
    · rw [if_neg e] at hc
      obtain ⟨j, hj, e2⟩ := h.cn F hc
      exact ⟨j, by omega, e2⟩
  have hck : ∀ (F : List Int), (if F = nfv (lof (R k).f (R k).n) then cnt (nfv (lof (R k).f (R k).n)) + 1 else cnt F) ≤ k + 1 := fun F => by
    have := h.ck F
    split
    · next e => subst e; omega
    · omega
  have hold : ∀ w' (pl' : List Int → Nat), Fr (fun b => Bl K M L b ∨ b = Q) wr w' → PMem w' P Q K M (k + 1) L s (fun G => if G = nfv (lof (R k).f (R k).n) then cnt (nfv (lof (R k).f (R k).n)) + 1 else cnt G) pl' → (∀ c, RowN R (k + 1) c ↔ RowN R k c) → Hid (CW w R P Q K M g (k + 1) w' L s (fun G => if G = nfv (lof (R k).f (R k).n) then cnt (nfv (lof (R k).f (R k).n)) + 1 else cnt G) pl') := fun w' pl' hF hP hr =>
    Lib.hid ⟨hP, h.base, h.set, h.gone, by have := h.nv; omega, by have := h.nc; omega, fun c => by rw [hr]; exact h.cl c, fun F hc => hcn F _ hc, hck, h.bel.trans (hF.below hsz fun b hb => hb.elim (h.new b) fun e => e ▸ h.qn), h.new, h.pn, h.qn, hF.rowIs h.gr fun e => e.elim h.gb h.gq, h.gb, h.gq, h.gn⟩
  by_cases hc : cnt (nfv (lof (R k).f (R k).n)) = 0
  · cases ht : tautv (lof (R k).f (R k).n)
    · have hask : AddAsk wr K M L s (nfv (lof (R k).f (R k).n)) (fun L' s' => St.Base s' St.All ∧ s'.settled = false ∧ s'.NoGone ∧ s'.nv ≤ (k + 1) * 1000 ∧ s'.nc ≤ k + 2 ∧ ∀ c, s'.Cl c ↔ RowN R (k + 1) c) := by
        intro w1 a' c' hb hA hm
        have hle := nfv_le (lof (R k).f (R k).n)
        rw [lof_length] at hle
        have h1 := h.nv
        have h2 := h.nc
        have hlk' := hl k (Nat.le_refl _)
        refine (add_any hm ⟨h.base, fun e => by rw [h.set] at e; cases e⟩ hA (fun j hj => hlk' _ ((nfv_mem hlk' _).1 (mem_gd.2 ⟨j, hj, rfl⟩))) (fun i j hi hj e => nfv_inj hlk' hi hj e) (fun i j hi hj => nfv_no hlk' ht hi hj) (by omega) (by omega) (by omega)).mono ?_
        rintro e w' ⟨rfl, L', s', ho⟩
        refine ⟨L', s', rfl, ho.tn, ho.base, ho.settled.trans h.set, fun a ha => ho.gone h.gone a ha, by have := ho.nv; omega, by have := ho.nc; omega, fun c => ?_⟩
        rw [ho.cl, rowN_next ht, h.cl]
        refine or_congr Iff.rfl (forall_congr' fun x => iff_congr Iff.rfl ?_)
        rw [← mem_gd, nfv_mem hlk']
      refine (padd_new h.pm hn hf hlk (by omega) hc ht hask).mono ?_
      rintro e w' ⟨rfl, L', s', ⟨x1, x2, x3, x4, x5, x6⟩, hgr, HF⟩
      obtain ⟨hF, hP⟩ := HF.out
      refine ⟨rfl, L', s', _, _, Lib.hid ⟨hP, x1, x2, x3, x4, x5, x6, fun F hc => hcn F _ hc, hck, h.bel.trans (hF.below hsz fun b hb => hb.elim (h.new b) fun e => e ▸ h.qn), fun b hb => (hgr b hb).elim (h.new b) fun e => by omega, h.pn, h.qn, hF.rowIs h.gr fun e => e.elim h.gb h.gq, fun e => ?_, h.gq, h.gn⟩⟩
      rcases hgr _ e with e | e
      · exact h.gb e
      · have := h.gr.lt; omega
    · refine (padd_taut h.pm hn hf hlk (by omega) hc ht).mono ?_
      rintro e w' ⟨rfl, HF⟩
      exact ⟨rfl, L, s, _, _, hold w' _ HF.out.1 HF.out.2 (rowN_skip ht)⟩
  · refine (padd_old h.pm hn hf hlk (by omega) hc (by have := h.ck (nfv (lof (R k).f (R k).n)); omega)).mono ?_
    rintro e w' ⟨rfl, HF⟩
    exact ⟨rfl, L, s, _, _, hold w' _ HF.out.1 HF.out.2 (rowN_again hl (h.cn _ hc))⟩

/-- Whether a clause follows, behind the clauses. -/
theorem CW.ends {w : World} {R : Nat → Row} {P Q K M g n : Nat} {wr : World} {L : Tag → Value} {s : St} {cnt pl : List Int → Nat} (h : CW w R P Q K M g n wr L s cnt pl) (hl : litR R n = true) (hn : n ≤ 1000) {a : Option Addr} {m : Nat} {f : Nat → Int} (hf : Has w a m f) (hm : m ≤ 1000) (hlf : litF f m = true) (c : Nat) :
    Calls Try.prog 34 #[.pointer (some ⟨P, 0, none⟩), .slice a m c] wr fun e w' => ∃ b : Bool, e = .returned (.bool b) ∧ (b = true ↔ Conf (RowC R n) (Den f m)) ∧ Below w.heap.size w w' := by
  have h1 := h.nv
  have h2 := h.nc
  have hF : FoW w R K M n wr L s := ⟨h.pm.mem, h.base, h.set, h.gone, h.nv, h.nc, h.cl, h.bel, h.new⟩
  have HI := Lib.hid (hF.ends hl hn hf hm hlf c)
  have k0 : wr.cell? ⟨P, 0, none⟩ = some (.pointer (some ⟨K, 0, none⟩)) := h.pm.pr.cell (by omega)
  clear h h1 h2 hF hl hf hlf
  go_enter Try.func34, Try.ntmps34
  go_wp2_with (go_at_call 24; refine HI.out.mono ?_; rintro e w' ⟨b, rfl, hb1, hb2⟩)
  go_ret
  exact ⟨b, rfl, hb1, hb2⟩

/-- What Check of no lines hands back. -/
def ChkPost (R : Nat → Row) (n : Nat) (f : Nat → Int) (m : Nat) (w : World) (e : Ending) (w' : World) : Prop :=
  ∃ r : Int, e = .returned (.int .i64 r) ∧ (litR R n = true → litF f m = true → (r = 0 ∧ Conf (RowC R n) (Den f m)) ∨ (r = 1 ∧ ¬ Conf (RowC R n) (Den f m))) ∧ Below w.heap.size w w'

set_option maxHeartbeats 4000000 in
theorem checkNil_any (a : Option Addr) (n c : Nat) (R : Nat → Row) (a2 : Option Addr) (m c2 : Nat) (f : Nat → Int) (w : World) (hn : n ≤ 1000) (hR : ∀ j, j < n → (R j).n ≤ 1000) (hm : m ≤ 1000) (h : Rws w a n R) (hf : Has w a2 m f) (hl : litR R n = true) (hlf : litF f m = true) :
    Calls Try.prog 14 #[.slice a n c, .slice none 0 0, .slice a2 m c2] w (ChkPost R n f m w) := by
  have hv := validAll_any a n c R w (by omega) (fun j hj => by have := hR j hj; omega) h
  unfold ValPost at hv
  rw [hl] at hv
  have hv2 := fun t q => validAll_any (some ⟨w.heap.size, 0, none⟩) 1 1 (fun _ => ⟨a2, m, c2, f⟩) _ (by omega) (fun j hj => by show m ≤ _; omega) (one_rws (c := c2) hf t q)
  unfold ValPost at hv2
  rw [one_litR, hlf] at hv2
  have HB := Lib.hid (show ∀ t q q', Below w.heap.size w ((((w.drewN q).alloc (.cells #[.slice a2 m c2] t))).drewN q') from fun t q q' => below_drewN ((below_drewN (Below.refl _ w) q).alloc (by simp [World.drewN]) _) q')
  have HV := Lib.hid hv
  have HV2 := Lib.hid hv2
  have HR := Lib.hid (And.intro hR (And.intro h hf))
  have HL := Lib.hid (And.intro hl hlf)
  have HO := Lib.hid (show ∀ w' (b : Bool), Below w.heap.size w w' → (b = true ↔ Conf (RowC R n) (Den f m)) → (b = true → ChkPost R n f m w (.returned (.int .i64 0)) w') ∧ (b = false → ChkPost R n f m w (.returned (.int .i64 1)) w') from fun w' b hb h => ⟨fun e => ⟨0, rfl, fun _ _ => .inl ⟨rfl, h.1 e⟩, hb⟩, fun e => ⟨1, rfl, fun _ _ => .inr ⟨rfl, fun hc => by rw [h.2 hc] at e; cases e⟩, hb⟩⟩)
  clear hv hv2 hl hlf h hf hR
  go_enter Try.func14, Try.ntmps14
  go_wp2_with (first
    | (go_at_call 20; refine HV.out.mono ?_; rintro e w' ⟨rfl, q, rfl⟩)
    | (go_at_call 20; refine (HV2.out _ _).mono ?_; rintro e w' ⟨rfl, q2, rfl⟩)
    | (go_at_call 29; refine (newPresent_any _).mono ?_; rintro e w1 ⟨P, Q, K, M, L, rfl, hk1, hk2, hk3, hk4, hk5⟩; have H0 := Lib.hid (CW.start (R := R) hk1 ((HB.out _ _ _).trans (hk2.mono (HB.out _ _ _).size)) (fun b hb => Nat.le_trans (HB.out _ _ _).size (hk3 b hb)) (Nat.le_trans (HB.out _ _ _).size hk4) (Nat.le_trans (HB.out _ _ _).size hk5)); clear hk1 hk2 hk3 hk4 hk5))
  clear HV HV2
  generalize w1.heap.size = g at *
  generalize w1.alloc (.cells #[.pointer (some ⟨P, 0, none⟩)] 53) = wb at *
  go_loopw [24, 9] (fun v _ wr => ∃ (k : Nat) (L1 : Tag → Value) (s1 : St) (cnt pl : List Int → Nat), k ≤ n ∧ v = .int .i64 k ∧ Hid (CW w R P Q K M g k wr L1 s1 cnt pl)) (fun v _ _ => n - (intOf v).toNat)
  case atStart => exact ⟨0, L, _, _, _, Nat.zero_le _, rfl, H0⟩
  case round =>
    obtain ⟨k, L1, s1, cnt, pl, hk, rfl, HI⟩ := hrel
    clear H0
    have kg : wr.cell? ⟨g, 0, none⟩ = some (.pointer (some ⟨P, 0, none⟩)) := HI.out.gr.cell (by omega)
    by_cases hlt : k < n
    · have hltI : (k : Int) < (n : Int) := by omega
      rcases HR.out.2.1 with h0 | ⟨b, off, rfl, hbl, hc⟩
      · omega
      obtain ⟨hcell, hHas⟩ := hc k hlt
      have xc : wr.cell? ⟨b, off + k, none⟩ = some (.slice (R k).a (R k).n (R k).c) := (HI.out.bel.cell (p := ⟨b, off + k, none⟩) hbl).trans hcell
      have HA := Lib.hid (HI.out.step (fun j hj => litF_mem (litR_iff.1 HL.out.1 j (by omega))) (HR.out.1 k hlt) (by omega) (hHas.below HI.out.bel))
      clear hc hcell hHas hbl
      go_wp2_with (go_at_call 30; refine HA.out.mono ?_; rintro e w3 ⟨rfl, L3, s3, cnt3, pl3, HI3⟩)
      go_roundw
      case rel => exact ⟨k + 1, L3, s3, cnt3, pl3, by omega, by go_num, HI3⟩
      case measure => simp [intOf]; omega
    · have hq : ¬ (k : Int) < (n : Int) := by omega
      obtain rfl : k = n := by omega
      have HE := Lib.hid (HI.out.ends HL.out.1 hn HR.out.2.2 hm HL.out.2 c2)
      go_wp2_with (first
        | (go_at_call 33; refine (index_nil _ _).mono ?_; rintro e w' ⟨rfl, rfl⟩)
        | (go_at_call 34; refine HE.out.mono ?_; rintro e w' ⟨b, rfl, hb1, hb2⟩; obtain ⟨o1, o2⟩ := HO.out _ b hb2 hb1; have HO1 := Lib.hid o1; have HO2 := Lib.hid o2; clear o1 o2 hb1 hb2; cases b))
      all_goals
        go_ret
        first | exact HO1.out trivial | exact HO2.out trivial
end Go.Proofs.Ytoffhgiljnagcaa
