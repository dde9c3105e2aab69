/- Contracts: Follows. -/
import Derived.Test.YtoffhgiljnagcaaZc
import Derived.Test.YtoffhgiljnagcaaWO
import Derived.Test.YtoffhgiljnagcaaWP
import Derived.Test.YtoffhgiljnagcaaWL
import Derived.Test.YtoffhgiljnagcaaI
namespace Go.Proofs.Ytoffhgiljnagcaa
open Go.RowKit Go.Lib Go.Maps
set_option maxRecDepth 100000

theorem lof_mem {f : Nat → Int} {n : Nat} {x : Int} : x ∈ lof f n ↔ ∃ j, j < n ∧ f j = x := by simp [lof]
/-- The clauses of a list. -/
def RowC (R : Nat → Row) (n : Nat) (c : List Int) : Prop := ∃ j, j < n ∧ c = lof (R j).f (R j).n
/-- The clauses of a list's first k rows that are no tautologies. -/
def RowN (R : Nat → Row) (k : Nat) (c : List Int) : Prop := ∃ j, j < k ∧ tautv (lof (R j).f (R j).n) = false ∧ Alike c (lof (R j).f (R j).n)
theorem rowN_zero (R : Nat → Row) (c : List Int) : ¬ RowN R 0 c := fun ⟨_, h, _⟩ => absurd h (Nat.not_lt_zero _)
theorem rowN_skip {R : Nat → Row} {k : Nat} (h : tautv (lof (R k).f (R k).n) = true) (c : List Int) : RowN R (k + 1) c ↔ RowN R k c := by
  constructor
  · rintro ⟨j, h1, h2, h3⟩
    by_cases e : j = k
    · subst e; rw [h] at h2; cases h2
    · exact ⟨j, by omega, h2, h3⟩
  · rintro ⟨j, h1, h2⟩; exact ⟨j, by omega, h2⟩
theorem rowN_next {R : Nat → Row} {k : Nat} (h : tautv (lof (R k).f (R k).n) = false) (c : List Int) : RowN R (k + 1) c ↔ RowN R k c ∨ Alike c (lof (R k).f (R k).n) := by
  constructor
  · rintro ⟨j, h1, h2, h3⟩
    by_cases e : j = k
    · subst e; exact .inr h3
    · exact .inl ⟨j, by omega, h2, h3⟩
  · rintro (⟨j, h1, h2⟩ | h2)
    · exact ⟨j, by omega, h2⟩
    · exact ⟨k, by omega, h, h2⟩
theorem conf_rows {R : Nat → Row} {n : Nat} (hl : litR R n = true) {C : List Int → Prop} (hC : ∀ c, C c ↔ RowN R n c) (so : Int → Prop) : Conf C so ↔ Conf (RowC R n) so := by
  constructor
  · intro h
    refine h.sub (fun c hc => .inl ?_) _ fun _ h => h
    obtain ⟨j, h1, h2, h3⟩ := (hC c).1 hc
    exact ⟨_, ⟨j, h1, rfl⟩, h3.symm⟩
  · intro h
    refine h.sub (fun c hc => ?_) _ fun _ h => h
    obtain ⟨j, h1, rfl⟩ := hc
    have hlj := litF_mem (litR_iff.1 hl j h1)
    cases ht : tautv (lof (R j).f (R j).n)
    · exact .inl ⟨_, (hC _).2 ⟨j, h1, ht, .refl _⟩, .refl _⟩
    · exact .inr ⟨(tautv_iff hlj).1 ht, fun h0 => by have := (lit_iff.1 (hlj 0 h0)).1; omega⟩

/-- While the clauses are added. -/
structure FoW (w : World) (R : Nat → Row) (K M k : Nat) (wr : World) (L : Tag → Value) (s : St) : Prop where
  mem : Mem wr K M L s
  base : St.Base s St.All
  set : s.settled = false
  gone : s.NoGone
  nv : s.nv ≤ k * 1000
  nc : s.nc ≤ k + 1
  cl : ∀ c, s.Cl c ↔ RowN R k c
  bel : Below w.heap.size w wr
  new : ∀ b, Bl K M L b → w.heap.size ≤ b
theorem base0 : St.Base St0 St.All := by
  refine ⟨⟨?_, ?_⟩, ⟨?_, ?_, ?_, ?_, ?_, ?_⟩, ⟨?_, ?_, ?_, ?_, ?_, ?_, ?_, ?_⟩, ⟨?_, ?_, ?_⟩, rfl, rfl, rfl⟩
  all_goals first
    | (intros; exact absurd ‹_ < St0.nv› (Nat.not_lt_zero _))
    | (intros; exact absurd ‹_ < St0.nt› (Nat.not_lt_zero _))
    | (intros; exact absurd ‹_ < 2 * St0.nv› (Nat.not_lt_zero _))
    | (intros; exact absurd ‹_ < St0.ln _› (Nat.not_lt_zero _))
    | (intros; exact absurd ‹_ < St0.ns› (Nat.not_lt_zero _))
    | exact Nat.le_refl _
    | skip
  · intro a _ h; cases h
  · rintro a ⟨h1, h2, _⟩; exact absurd (show a < 1 from h2) (by omega)
  · exact Nat.zero_le _
theorem cl0 (c : List Int) : ¬ St0.Cl c := fun ⟨a, ⟨h1, h2, _⟩, _⟩ => absurd (show a < 1 from h2) (by omega)
theorem FoW.start {w w1 : World} {R : Nat → Row} {K M : Nat} {L : Tag → Value} (h : Mem w1 K M L St0) (hb : Below w.heap.size w w1) (hn : ∀ b, Bl K M L b → w.heap.size ≤ b) : FoW w R K M 0 w1 L St0 :=
  ⟨h, base0, rfl, fun _ _ => rfl, Nat.zero_le _, Nat.le_refl _, fun c => ⟨fun h => absurd h (cl0 c), fun h => absurd h (rowN_zero R c)⟩, hb, hn⟩

theorem FoW.apart {w : World} {R : Nat → Row} {K M k : Nat} {wr : World} {L : Tag → Value} {s : St} (h : FoW w R K M k wr L s) {a : Option Addr} {n : Nat} {f : Nat → Int} (hf : Has w a n f) : Apart wr K M L a n f := by
  rcases hf with h0 | ⟨b, off, e, hlt, hc⟩
  · exact .inl h0
  · exact .inr ⟨b, off, e, Nat.lt_of_lt_of_le hlt h.bel.size, fun hb => by have := h.new b hb; omega, fun j hj => (h.bel.cell (p := ⟨b, off + j, none⟩) hlt).trans (hc j hj)⟩
theorem FoW.keep {w : World} {R : Nat → Row} {K M k : Nat} {wr w1 : World} {L : Tag → Value} {s : St} (h : FoW w R K M k wr L s) (hb : Below wr.heap.size wr w1) : FoW w R K M k w1 L s :=
  ⟨h.mem.keep (B := fun _ => False) (.of_below hb) fun _ _ h => h, h.base, h.set, h.gone, h.nv, h.nc, h.cl, h.bel.trans (hb.mono h.bel.size), h.new⟩
theorem FoW.form {w : World} {R : Nat → Row} {K M k : Nat} {wr w1 : World} {L : Tag → Value} {s : St} (h : FoW w R K M k wr L s) (hb : Below wr.heap.size wr w1) {a : Option Addr} {l : List Int} (hf : Has w1 a (nfv l).length (gd (nfv l))) (hn : NewB wr.heap.size a (nfv l).length) : Apart w1 K M L a (nfv l).length (gd (nfv l)) := by
  rcases hf with h0 | ⟨b, off, e, hlt, hc⟩
  · exact .inl h0
  · rcases hn with h0 | ⟨b', off', e', hge⟩
    · exact .inl h0
    · rw [e] at e'; cases e'
      exact .inr ⟨b, off, e, hlt, fun hb => by have := h.mem.lt hb; omega, hc⟩
theorem FoW.skip {w : World} {R : Nat → Row} {K M k : Nat} {wr w1 : World} {L : Tag → Value} {s : St} (h : FoW w R K M k wr L s) (hb : Below wr.heap.size wr w1) (ht : tautv (lof (R k).f (R k).n) = true) : FoW w R K M (k + 1) w1 L s := by
  have h1 := h.keep hb
  exact ⟨h1.mem, h1.base, h1.set, h1.gone, by have := h1.nv; omega, by have := h1.nc; omega, fun c => by rw [rowN_skip ht]; exact h1.cl c, h1.bel, h1.new⟩
theorem FoW.add {w : World} {R : Nat → Row} {K M k : Nat} {w1 w2 : World} {L L' : Tag → Value} {s s' : St} (h : FoW w R K M k w1 L s) (hl : ∀ x ∈ lof (R k).f (R k).n, lit x = true) (hn : (R k).n ≤ 1000) (ht : tautv (lof (R k).f (R k).n) = false)
    (ho : AddOut K M w1 L s (gd (nfv (lof (R k).f (R k).n))) (nfv (lof (R k).f (R k).n)).length w2 L' s') : FoW w R K M (k + 1) w2 L' s' := by
  have hle := nfv_le (lof (R k).f (R k).n)
  rw [lof_length] at hle
  have hsz : w.heap.size ≤ w1.heap.size := h.bel.size
  refine ⟨ho.tn.mem, ho.base, ho.settled.trans h.set, fun a ha => ho.gone h.gone a ha, by have := ho.nv; have := h.nv; omega, by have := ho.nc; have := h.nc; omega, fun c => ?_, h.bel.trans (ho.tn.fr.below hsz fun b hb => h.new b hb), fun b hb => ?_⟩
  · rw [ho.cl, rowN_next ht, h.cl]
    refine or_congr Iff.rfl (forall_congr' fun x => iff_congr Iff.rfl ?_)
    rw [← mem_gd, nfv_mem hl]
  · rcases ho.tn.gr b hb with h1 | h1
    · exact h.new b h1
    · omega
theorem FoW.adds {w : World} {R : Nat → Row} {K M k : Nat} {w1 : World} {L : Tag → Value} {s : St} (h : FoW w R K M k w1 L s) (hl : ∀ x ∈ lof (R k).f (R k).n, lit x = true) (hn : (R k).n ≤ 1000) (hk : k ≤ 1000) (ht : tautv (lof (R k).f (R k).n) = false)
    {a : Option Addr} (hA : Apart w1 K M L a (nfv (lof (R k).f (R k).n)).length (gd (nfv (lof (R k).f (R k).n)))) (c : Nat) :
    Calls Try.prog 23 #[.pointer (some ⟨K, 0, none⟩), .slice a (nfv (lof (R k).f (R k).n)).length c] w1 fun e w' => ∃ L' s', e = .returned (.int .i32 (s.nc : Nat)) ∧ FoW w R K M (k + 1) w' L' s' := by
  have hle := nfv_le (lof (R k).f (R k).n)
  rw [lof_length] at hle
  have h1 := h.nv
  have h2 := h.nc
  refine (add_any h.mem ⟨h.base, fun e => by rw [h.set] at e; cases e⟩ hA (fun j hj => hl _ ((nfv_mem hl _).1 (mem_gd.2 ⟨j, hj, rfl⟩))) (fun i j hi hj e => nfv_inj hl hi hj e) (fun i j hi hj => nfv_no hl ht hi hj) (by omega) (by omega) (by omega)).mono ?_
  rintro e w' ⟨rfl, L', s', ho⟩
  exact ⟨L', s', rfl, h.add hl hn ht ho⟩
theorem FoW.ends {w : World} {R : Nat → Row} {K M n : Nat} {wr : World} {L : Tag → Value} {s : St} (h : FoW w R K M n wr L s) (hl : litR R n = true) (hn : n ≤ 1000) {a : Option Addr} {m : Nat} {f : Nat → Int} (hf : Has w a m f) (hm : m ≤ 1000) (hlf : litF f m = true) (c : Nat) :
    Calls Try.prog 24 #[.pointer (some ⟨K, 0, none⟩), .slice a m c] wr fun e w' => ∃ b : Bool, e = .returned (.bool b) ∧ (b = true ↔ Conf (RowC R n) (Den f m)) ∧ Below w.heap.size w w' := by
  have h1 := h.nv
  have h2 := h.nc
  refine (implies_any h.mem ⟨h.base, fun e => by rw [h.set] at e; cases e⟩ (h.apart hf) (fun j hj => litF_mem hlf _ (lof_mem.2 ⟨j, hj, rfl⟩)) (by omega) (by omega) (by omega)).mono ?_
  rintro e w' ⟨b, L', s', rfl, ho⟩
  exact ⟨b, rfl, ho.ok.trans (conf_rows hl h.cl _), h.bel.trans (ho.tn.fr.below h.bel.size fun b hb => h.new b hb)⟩
/-- What Follows hands back. -/
def FolPost (R : Nat → Row) (n : Nat) (f : Nat → Int) (m : Nat) (w : World) (e : Ending) (w' : World) : Prop :=
  ∃ b : Bool, e = .returned (.bool b) ∧ (b = true ↔ litR R n = true ∧ litF f m = true ∧ Conf (RowC R n) (Den f m)) ∧ Below w.heap.size w w'

set_option maxHeartbeats 2000000 in
theorem follows_any (a : Option Addr) (n c : Nat) (R : Nat → Row) (a2 : Option Addr) (m c2 : Nat) (f : Nat → Int) (w : World) (hn : n ≤ 1000) (hR : ∀ j, j < n → (R j).n ≤ 1000) (hm : m ≤ 1000) (h : Rws w a n R) (hf : Has w a2 m f) :
    Calls Try.prog 10 #[.slice a n c, .slice a2 m c2] w (FolPost R n f m w) := by
  have hv := validAll_any a n c R w (by omega) (fun j hj => by have := hR j hj; omega) h
  unfold ValPost at hv
  cases hl : litR R n
  · rw [hl] at hv
    have HO := Lib.hid (show ∀ q, FolPost R n f m w (.returned (.bool false)) (w.drewN q) from fun q => ⟨false, rfl, ⟨fun h => (by cases h), fun ⟨h, _⟩ => (by rw [hl] at h; cases h)⟩, below_drewN (.refl _ w) q⟩)
    have HV := Lib.hid hv
    clear hv hl h hf hR
    go_enter Try.func10, Try.ntmps10
    go_wp2_with (go_at_call 20; refine HV.out.mono ?_; rintro e w' ⟨rfl, q, rfl⟩)
    go_ret
    exact HO.out q
  · rw [hl] at hv
    have hv2 := fun t q => validAll_any (some ⟨w.heap.size, 0, none⟩) 1 1 (fun _ => ⟨a2, m, c2, f⟩) _ (by omega) (fun j hj => by show m ≤ _; omega) (one_rws (c := c2) hf t q)
    unfold ValPost at hv2
    rw [one_litR] at hv2
    have hbel : ∀ t q q', Below w.heap.size w ((((w.drewN q).alloc (.cells #[.slice a2 m c2] t))).drewN q') := fun t q q' => below_drewN ((below_drewN (Below.refl _ w) q).alloc (by simp [World.drewN]) _) q'
    cases hlf : litF f m
    · rw [hlf] at hv2
      have HO := Lib.hid (show ∀ w', Below w.heap.size w w' → FolPost R n f m w (.returned (.bool false)) w' from fun w' hb => ⟨false, rfl, ⟨fun h => (by cases h), fun ⟨_, h, _⟩ => (by rw [hlf] at h; cases h)⟩, hb⟩)
      have HV := Lib.hid hv
      have HV2 := Lib.hid hv2
      have HB := Lib.hid hbel
      clear hv hv2 hl hlf h hf hR hbel
      go_enter Try.func10, Try.ntmps10
      go_wp2_with (first | (go_at_call 20; refine HV.out.mono ?_; rintro e w' ⟨rfl, q, rfl⟩) | (go_at_call 20; refine (HV2.out _ _).mono ?_; rintro e w' ⟨rfl, q2, rfl⟩))
      go_ret
      exact HO.out _ (HB.out _ _ _)
    · rw [hlf] at hv2
      have HB := Lib.hid hbel
      have HV := Lib.hid hv
      have HV2 := Lib.hid hv2
      have HR := Lib.hid (And.intro hR (And.intro h hf))
      have HL := Lib.hid (And.intro hl hlf)
      have HO := Lib.hid (show ∀ w' (b : Bool), Below w.heap.size w w' → (b = true ↔ Conf (RowC R n) (Den f m)) → FolPost R n f m w (.returned (.bool b)) w' from fun w' b hb h => ⟨b, rfl, h.trans ⟨fun h => ⟨hl, hlf, h⟩, fun h => h.2.2⟩, hb⟩)
      clear hv hv2 hl hlf h hf hR hbel
      go_enter Try.func10, Try.ntmps10
      go_wp2_with (first
        | (go_at_call 20; refine HV.out.mono ?_; rintro e w' ⟨rfl, q, rfl⟩)
        | (go_at_call 20; refine (HV2.out _ _).mono ?_; rintro e w' ⟨rfl, q2, rfl⟩)
        | (go_at_call 21; refine (newKnown_any _).mono ?_; rintro e w1 ⟨K, M, L, rfl, hk1, hk2, hk3⟩; have H0 := Lib.hid (FoW.start (R := R) hk1 ((HB.out _ _ _).trans (hk2.mono (HB.out _ _ _).size)) (fun b hb => Nat.le_trans (HB.out _ _ _).size (hk3 b hb))); clear hk1 hk2 hk3))
      clear HV HV2
      go_loopw [22, 7, 8, 9] (fun v _ _ _ wr => ∃ (k : Nat) (L1 : Tag → Value) (s1 : St), k ≤ n ∧ v = .int .i64 k ∧ Hid (FoW w R K M k wr L1 s1)) (fun v _ _ _ _ => n - (intOf v).toNat)
      case atStart => exact ⟨0, L, _, Nat.zero_le _, rfl, H0⟩
      case round =>
        obtain ⟨k, L1, s1, hk, rfl, HI⟩ := hrel
        clear H0
        by_cases hlt : k < n
        · have hltI : (k : Int) < (n : Int) := by omega
          rcases HR.out.2.1 with h0 | ⟨b, off, rfl, hbl, hc⟩
          · omega
          obtain ⟨hcell, hHas⟩ := hc k hlt
          have xc : wr.cell? ⟨b, off + k, none⟩ = some (.slice (R k).a (R k).n (R k).c) := (HI.out.bel.cell (p := ⟨b, off + k, none⟩) hbl).trans hcell
          have hRk := HR.out.1 k hlt
          have hlk := litF_mem (litR_iff.1 HL.out.1 k hlt)
          have hno := norm_any (R k).a (R k).n (R k).c (R k).f wr (by omega) (hHas.below HI.out.bel)
          unfold NormPost at hno
          cases ht : tautv (lof (R k).f (R k).n)
          · rw [ht] at hno
            have HA := Lib.hid (show ∀ w1 a' c', Below wr.heap.size wr w1 → Has w1 a' (nfv (lof (R k).f (R k).n)).length (gd (nfv (lof (R k).f (R k).n))) → NewB wr.heap.size a' (nfv (lof (R k).f (R k).n)).length → Calls Try.prog 23 #[.pointer (some ⟨K, 0, none⟩), .slice a' (nfv (lof (R k).f (R k).n)).length c'] w1 fun e w' => ∃ L' s', e = .returned (.int .i32 (s1.nc : Nat)) ∧ FoW w R K M (k + 1) w' L' s' from fun w1 a' c' hb h1 h2 => (HI.out.keep hb).adds hlk hRk (by omega) ht (HI.out.form hb h1 h2) c')
            have HN := Lib.hid hno
            clear hno ht hlk hRk hc hcell hHas hbl
            go_wp2_with (first
              | (go_at_call 22; refine HN.out.mono ?_; rintro e w2 ⟨a', c', rfl, n1, -, n3, n4⟩; have HC := Lib.hid (HA.out w2 a' c' n3 n1 n4); clear n1 n3 n4)
              | (go_at_call 23; refine HC.out.mono ?_; rintro e w3 ⟨L3, s3, rfl, h3⟩; have HI3 := Lib.hid h3; clear h3))
            go_roundw
            case rel => exact ⟨k + 1, L3, s3, by omega, by go_num, HI3⟩
            case measure => simp [intOf]; omega
          · rw [ht] at hno
            have HA := Lib.hid (show ∀ w1, Below wr.heap.size wr w1 → FoW w R K M (k + 1) w1 L1 s1 from fun w1 hb => HI.out.skip hb ht)
            have HN := Lib.hid hno
            clear hno ht hlk hRk hc hcell hHas hbl
            go_wp2_with (first
              | (go_at_call 22; refine HN.out.mono ?_; rintro e w2 ⟨a', c', rfl, -, -, n3, -⟩; have HC := Lib.hid (HA.out w2 n3); clear n3))
            go_roundw
            case rel => exact ⟨k + 1, L1, s1, by omega, by go_num, HC⟩
            case measure => simp [intOf]; omega
        · have hq : ¬ (k : Int) < (n : Int) := by omega
          obtain rfl : k = n := by omega
          have HE := Lib.hid (HI.out.ends HL.out.1 hn HR.out.2.2 hm HL.out.2 c2)
          go_wp2_with (go_at_call 24; refine HE.out.mono ?_; rintro e w' ⟨b, rfl, hb1, hb2⟩)
          go_ret
          exact HO.out _ b hb2 hb1
end Go.Proofs.Ytoffhgiljnagcaa
