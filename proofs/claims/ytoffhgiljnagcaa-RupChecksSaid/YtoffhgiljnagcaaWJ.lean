/- Contracts: deny. -/
import Derived.Test.YtoffhgiljnagcaaWC
import Derived.Test.YtoffhgiljnagcaaWE
import Derived.Test.YtoffhgiljnagcaaWI
namespace Go.Proofs.Ytoffhgiljnagcaa
open Go.RowKit Go.Lib Go.Maps

/-- What is so, when the clause f of n literals is denied. -/
def SO (f : Nat → Int) (n : Nat) (s : St) (p : Nat) : Prop := ∃ j, j < n ∧ s.ext p = -f j
theorem rsn_so {s s' : St} (h : St.Ext s s') {so so' : Nat → Prop} (hT : St.Tra s) (hR : s.Rsn so) (hs : ∀ p, p < 2 * s.nv → so p → so' p) : s.Rsn so' := fun i hi =>
  (hR i hi).imp (fun h => ⟨h.1, hs _ (hT.t_lt i hi) h.2⟩) id
theorem SO.ext {f : Nat → Int} {n : Nat} {s s' : St} (h : St.Ext s s') {p : Nat} (hp : p < 2 * s.nv) (hs : SO f n s p) : SO f n s' p := by
  obtain ⟨j, hj, e⟩ := hs
  exact ⟨j, hj, (h.ext_eq hp).trans e⟩
/-- While a clause is denied. -/
structure DW (K M : Nat) (w : World) (L : Tag → Value) (s : St) (f : Nat → Int) (n m : Nat) (w' : World) (L' : Tag → Value) (s' : St) : Prop where
  tn : Tn K M w L w' L' s'
  base : St.Base s' St.All
  ext : St.Ext s s'
  fb : s'.Fol s.nt s.nt
  rs : s'.Rsn (SO f n s')
  nv : s'.nv ≤ s.nv + m
  done : s'.done = s.done
def Neg (f : Nat → Int) (k : Nat) (s' : St) : Prop := ∀ j, j < k → ∃ i, i < s'.nt ∧ s'.ext (s'.tr i) = -f j
/-- What deny hands back. -/
def DenyOut (K M : Nat) (w : World) (L : Tag → Value) (s : St) (f : Nat → Int) (n : Nat) (e : Ending) (w' : World) : Prop :=
  ∃ (b : Bool) (L' : Tag → Value) (s' : St), e = .returned (.bool b) ∧ DW K M w L s f n n w' L' s' ∧ ((b = false ∧ Neg f n s') ∨ (b = true ∧ ∃ j, j < n ∧ ∃ i, i < s'.nt ∧ s'.ext (s'.tr i) = f j))
theorem DW.start {K M : Nat} {w : World} {L : Tag → Value} {s : St} (h : Mem w K M L s) (hb : St.Base s St.All) (hF : s.Fol s.nt s.nt) (hR : s.Rsn fun _ => False) (f : Nat → Int) (n : Nat) : DW K M w L s f n 0 w L s :=
  ⟨h.refl, hb, .refl s, hF, fun i hi => (hR i hi).imp (fun h => ⟨h.1, h.2.elim⟩) id, Nat.le_refl _, rfl⟩
/-- A literal is numbered, its negation is true. -/
theorem DW.step {K M : Nat} {w w1 w2 : World} {L L1 L2 : Tag → Value} {s s1 s2 : St} {f : Nat → Int} {n k p : Nat} (h : DW K M w L s f n k w1 L1 s1) (hneg0 : Neg f k s1) (hk : k < n) (hl : lit (f k) = true) (ho : NumOut K M w1 L1 s1 (f k) w2 p L2 s2) :
    St.Base s2 St.All ∧ p < 2 * s2.nv ∧ s2.nv ≤ s.nv + (k + 1) ∧
    (∀ w3 L3, Tn K M w2 L2 w3 L3 s2 → DW K M w L s f n (k + 1) w3 L3 s2) ∧
    (s2.val p = 1 → ∃ i, i < s2.nt ∧ s2.ext (s2.tr i) = f k) ∧
    (s2.val p = -1 → Neg f (k + 1) s2) ∧
    (s2.val p = 0 → (∀ w3 L3, Tn K M w2 L2 w3 L3 (s2.put (neg p) 0) → DW K M w L s f n (k + 1) w3 L3 (s2.put (neg p) 0)) ∧ Neg f (k + 1) (s2.put (neg p) 0)) := by
  have hN := ho.keeps h.tn.mem h.base hl
  have hT := hN.base.tra
  have hnv := hN.nvle
  have hnv1 := h.nv
  have hnt : s.nt ≤ s1.nt := h.ext.nt
  have hneg : Neg f k s2 := fun j hj => by
    obtain ⟨i, hi, e⟩ := hneg0 j hj
    exact ⟨i, by rw [hN.ntq]; exact hi, by rw [hN.ext_.tr i hi, hN.ext_.ext_eq (h.base.tra.t_lt i hi)]; exact e⟩
  have hR : s2.Rsn (SO f n s2) := by
    have h1 := hN.rsn _ h.rs
    intro i hi
    have hi1 : i < s1.nt := by rw [← hN.ntq]; exact hi
    have e := hN.ext_.tr i hi1
    refine (h1 i hi).imp (fun h2 => ⟨h2.1, ?_⟩) id
    have h3 := h2.2
    rw [e] at h3 ⊢
    exact SO.ext hN.ext_ (h.base.tra.t_lt i hi1) h3
  have hFb := hN.fol _ _ h.fb
  have hE := h.ext.trans hN.ext_
  have hb : s2.nv ≤ s.nv + (k + 1) := by omega
  have hnt2 : s.nt ≤ s2.nt := hE.nt
  refine ⟨hN.base, hN.lt, hb, fun w3 L3 T => ⟨h.tn.trans (ho.tn.trans T), hN.base, hE, hFb, hR, hb, hN.done.trans h.done⟩, fun hv => ?_, fun hv => ?_, fun hv => ⟨fun w3 L3 T => ?_, ?_⟩⟩
  · obtain ⟨i, hi, e⟩ := (hT.v_tr p hN.lt).1 hv
    exact ⟨i, hi, by rw [e]; exact hN.is⟩
  · intro j hj
    by_cases e : j = k
    · subst e
      obtain ⟨i, hi, e⟩ := (hT.false_iff hN.lt).1 hv
      exact ⟨i, hi, by rw [e, St.ext_neg, hN.is]⟩
    · exact hneg j (by omega)
  · have hnp := neg_lt hN.lt
    have h0 : s2.val (neg p) = 0 := by rw [hT.v_neg p hN.lt, hv]; rfl
    have hE2 := hE.trans (St.Ext.put hT hnp h0 (r := 0))
    refine ⟨h.tn.trans (ho.tn.trans T), hN.base.put hnp h0, hE2, hFb.put hnt2 hnt2 _ _, ?_, hb, hN.done.trans h.done⟩
    refine (hR.put hT hnp h0 (.inl ⟨rfl, ⟨k, hk, ?_⟩⟩))
    rw [St.ext_neg, hN.is]
  · have hnp := neg_lt hN.lt
    intro j hj
    by_cases e : j = k
    · subst e
      exact ⟨s2.nt, Nat.lt_succ_self _, by
        show s2.ext (if s2.nt = s2.nt then neg p else s2.tr s2.nt) = _
        rw [if_pos rfl, St.ext_neg, hN.is]⟩
    · obtain ⟨i, hi, e⟩ := hneg j (by omega)
      exact ⟨i, Nat.lt_succ_of_lt hi, by
        show s2.ext (if i = s2.nt then neg p else s2.tr i) = _
        rw [if_neg (by omega)]; exact e⟩

theorem int_eq {k : IntKind} {a b : Int} (h : a = b) : Value.int k a = .int k b := by rw [h]
/-- A slice of numbers that lies apart. -/
def Apart (w : World) (K M : Nat) (L : Tag → Value) (a : Option Addr) (n : Nat) (f : Nat → Int) : Prop :=
  n = 0 ∨ ∃ b off, a = some ⟨b, off, none⟩ ∧ b < w.heap.size ∧ ¬ Bl K M L b ∧ ∀ j, j < n → w.cell? ⟨b, off + j, none⟩ = some (.int .i64 (f j))
theorem Apart.keep {w w' : World} {K M : Nat} {L L' : Tag → Value} {s' : St} {a : Option Addr} {n : Nat} {f : Nat → Int} (h : Apart w K M L a n f) (T : Tn K M w L w' L' s') : Apart w' K M L' a n f := by
  rcases h with h | ⟨b, off, e, h1, h2, h3⟩
  · exact .inl h
  · obtain ⟨k1, k2, k3, k4⟩ := T.side h1 h2
    exact .inr ⟨b, off, e, k3, k4, fun j hj => (k1 _).trans (h3 j hj)⟩

set_option maxHeartbeats 4000000 in
set_option maxRecDepth 100000 in
theorem deny_any {K M : Nat} {w : World} {L : Tag → Value} {s : St} (h : Mem w K M L s) (hb : St.Base s St.All) (hF : s.Fol s.nt s.nt) (hR : s.Rsn fun _ => False) {a : Option Addr} {n c : Nat} {f : Nat → Int} (hA : Apart w K M L a n f) (hl : ∀ j, j < n → lit (f j) = true) (hn : n ≤ 100000) (hnv : s.nv + n ≤ 100000000) :
    Calls Try.prog 55 #[.pointer (some ⟨K, 0, none⟩), .slice a n c] w (DenyOut K M w L s f n) := by
  have H0 := Lib.hid (And.intro (DW.start h hb hF hR f n) (show Neg f 0 s from fun j hj => absurd hj (Nat.not_lt_zero _)))
  have HA := Lib.hid hA
  have HLT := Lib.hid hl
  clear hF hR hb h hA hl
  go_enter Try.func55, Try.ntmps55
  go_wp2
  go_loopw [10] (fun v wr => ∃ (k : Nat) (L1 : Tag → Value) (s1 : St), k ≤ n ∧ v = .int .i64 k ∧ Hid (DW K M w L s f n k wr L1 s1 ∧ Neg f k s1)) (fun v _ => n - (intOf v).toNat)
  case atStart => exact ⟨0, L, s, Nat.zero_le _, rfl, H0⟩
  case round =>
    obtain ⟨k, L1, s1, hk, rfl, HI⟩ := hrel
    clear H0
    by_cases hlt : k < n
    · have hltI : (k : Int) < (n : Int) := by omega
      have hD := HI.out.1
      rcases HA.out.keep hD.tn with h0 | ⟨b, off, rfl, hbl, hnb, hc⟩
      · omega
      have xc := hc k hlt
      have hnv1 := hD.nv
      have hnum := number_any hD.tn.mem (HLT.out k hlt) (by omega) hD.base.lens
      have hset := fun (w2 : World) (L2 : Tag → Value) (s2 : St) (p : Nat) (ho : NumOut K M wr L1 s1 (f k) w2 p L2 s2) => DW.step hD HI.out.2 hlt (HLT.out k hlt) ho
      have HNU := Lib.hid hnum
      have HST := Lib.hid hset
      have haft : ∀ (w2 : World) (L2 : Tag → Value) (s2 : St) (p : Nat), NumOut K M wr L1 s1 (f k) w2 p L2 s2 → p < 2 * s2.nv ∧ s2.nv ≤ 100000000 ∧ (∃ gv cv, w2.cell? ⟨K, 4, none⟩ = some (.slice (some ⟨gv, 0, none⟩) s2.ev cv) ∧ w2.cell? ⟨gv, p, none⟩ = some (.int .i8 (s2.val p))) ∧ p < s2.ev ∧ (s2.val p = -1 ∨ s2.val p = 0 ∨ s2.val p = 1) ∧
          (s2.val p = 0 → Calls Try.prog 72 #[.pointer (some ⟨K, 0, none⟩), .int .i32 (neg p), .int .i32 (0 : Nat)] w2 fun e w3 => e = .returned (.tuple #[]) ∧ ∃ L3, Hid (DW K M w L s f n (k + 1) w3 L3 (s2.put (neg p) 0) ∧ Neg f (k + 1) (s2.put (neg p) 0))) := by
        intro w2 L2 s2 p ho
        obtain ⟨h1, h2, h3, h4, h5, h6, h7⟩ := hset w2 L2 s2 p ho
        have hev := h1.lens.2.1
        have hm := ho.tn.mem
        obtain ⟨gv, cv, hL4, _⟩ := (hm.row .vals).pos (show 0 < s2.ev by omega)
        replace hL4 : L2 .vals = .slice (some ⟨gv, 0, none⟩) s2.ev cv := hL4
        refine ⟨h2, by omega, ⟨gv, cv, (hm.c 4 (by omega)).trans (congrArg some hL4), hm.rc hL4 (show p < s2.ev * 1 by omega)⟩, by omega, h1.tra.v_rng p h2, fun hv => ?_⟩
        refine (set_any (r := 0) hm ⟨hev, h1.lens.2.2⟩ (by omega) h1.tra.nt_le (neg_lt h2)).mono ?_
        rintro e w3 ⟨rfl, v, T⟩
        exact ⟨rfl, _, Lib.hid ⟨(h7 hv).1 w3 _ T, (h7 hv).2⟩⟩
      have HAF := Lib.hid haft
      clear hD hnum hset haft hc hbl hnb hnv1
      go_wp2_with (first
        | (go_at_call 49; refine HNU.out.mono ?_; rintro e w2 ⟨p, L2, s2, rfl, ho⟩; obtain ⟨a1, a2, ⟨gv, cv, a3, a4⟩, a5, a6, a7⟩ := HAF.out w2 L2 s2 p ho; have HO := Lib.hid ho; have HS := Lib.hid a7; have a5i : (p : Int) < (s2.ev : Int) := (by omega); have HV := Lib.hid a6; clear ho a6 a7)
        | (go_at_call 71; refine (negation_any p (by omega) _).mono ?_; rintro e w' ⟨rfl, rfl⟩)
        | (go_at_call 72; refine (HS.out (by simp_all)).mono ?_; rintro e w3 ⟨rfl, L3, HD3⟩))
      · have hv : s2.val p = 1 := by simp_all
        go_ret
        obtain ⟨_, _, _, h4, h5, _⟩ := HST.out w2 L2 s2 p HO.out
        have hD := h4 w2 L2 HO.out.tn.mem.refl
        exact ⟨true, L2, s2, rfl, ⟨hD.tn, hD.base, hD.ext, hD.fb, hD.rs, by have := hD.nv; omega, hD.done⟩, .inr ⟨rfl, k, hlt, h5 hv⟩⟩
      · exact ⟨⟨k + 1, L3, _, by omega, int_eq (by omega), HD3⟩, by simp [intOf]; omega⟩
      · have hv : s2.val p = -1 := by rcases HV.out with h | h | h <;> simp_all
        obtain ⟨_, _, _, h4, _, h6, _⟩ := HST.out w2 L2 s2 p HO.out
        exact ⟨⟨k + 1, L2, s2, by omega, int_eq (by omega), Lib.hid ⟨h4 w2 L2 HO.out.tn.mem.refl, h6 hv⟩⟩, by simp [intOf]; omega⟩
    · have hq : ¬ (k : Int) < (n : Int) := by omega
      obtain rfl : k = n := by omega
      go_wp2
      go_ret
      exact ⟨false, L1, s1, rfl, HI.out.1, .inl ⟨rfl, HI.out.2⟩⟩
end Go.Proofs.Ytoffhgiljnagcaa
