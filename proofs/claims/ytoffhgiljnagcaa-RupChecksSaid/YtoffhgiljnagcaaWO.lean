/- Contracts: add. -/
import Derived.Test.YtoffhgiljnagcaaWN
import Derived.Test.YtoffhgiljnagcaaWJ
import Derived.Test.YtoffhgiljnagcaaUB
import Derived.Deep.DeepCutAuto
namespace Go.Proofs.Ytoffhgiljnagcaa
open Go.RowKit Go.Lib Go.Maps

theorem NumExt.set {s s' : St} {l : Int} {p : Nat} (h : NumExt s l p s') (hB : St.Base s St.All) (hs : St.Settled s) : St.Settled s' := by
  refine ⟨h.rsn _ hs.rs, fun hb => ?_, fun hb => ?_⟩
  · rw [h.ext_.broken] at hb ⊢
    obtain ⟨x1, x2⟩ := hs.br hb
    refine ⟨(h.ext_.core.is_iff _).2 x1, fun q hq => ?_⟩
    have hq' := (h.ext_.lit _ q).1 hq
    exact h.ext_.val_neg hB.tra h.base.tra (hB.cls.lit_lt x1.2.1 hq') (x2 q hq')
  · rw [h.ext_.broken] at hb
    obtain ⟨x1, x2, x3⟩ := hs.ok hb
    exact ⟨by rw [h.done, h.ntq]; exact x1, by rw [h.ntq]; exact h.fol _ _ x2, h.ext_.short hB h.base.tra x3⟩
/-- While a clause's literals are numbered. -/
structure AW (K M : Nat) (w : World) (L : Tag → Value) (s : St) (f : Nat → Int) (g n k : Nat) (w' : World) (L' : Tag → Value) (s' : St) (F : Nat → Nat) : Prop where
  tn : Tn K M w L w' L' s'
  base : St.Base s' St.All
  ext : St.Ext s s'
  nv : s'.nv ≤ s.nv + k
  row : w'.rowIs g 71 n fun j => .int .i32 (F j)
  hg : ¬ Bl K M L' g
  code : ∀ j, j < k → F j < 2 * s'.nv ∧ s'.ext (F j) = f j
  set : St.Settled s → St.Settled s'
theorem AW.step {K M : Nat} {w w1 w2 : World} {L L1 L2 : Tag → Value} {s s1 s2 : St} {f : Nat → Int} {g n k p : Nat} {F : Nat → Nat} (h : AW K M w L s f g n k w1 L1 s1 F) (hk : k < n) (hl : lit (f k) = true) (ho : NumOut K M w1 L1 s1 (f k) w2 p L2 s2) (h0 : w.heap.size ≤ g) :
    w2.rowIs g 71 n (fun j => .int .i32 (F j)) ∧ AW K M w L s f g n (k + 1) (w2.setCell ⟨g, k, none⟩ (.int .i32 p)) L2 s2 (fun j => if j = k then p else F j) := by
  have hN := ho.keeps h.tn.mem h.base hl
  have hrow : w2.rowIs g 71 n (fun j => .int .i32 (F j)) := ho.tn.fr.rowIs h.row h.hg
  obtain ⟨_, _, _, hg2⟩ := ho.tn.side h.row.lt h.hg
  refine ⟨hrow, ho.tn.mem.tnNew hg2 trivial _ w L (h.tn.trans ho.tn) h0, hN.base, h.ext.trans hN.ext_, by have := hN.nvle; have := h.nv; omega, (hrow.set k _).congr fun j _ => ?_, hg2, fun j hj => ?_, fun hs => hN.set h.base (h.set hs)⟩
  · show (if j = k then Value.int .i32 p else .int .i32 (F j)) = .int .i32 ((if j = k then p else F j : Nat))
    split <;> rfl
  · show (if j = k then p else F j) < 2 * s2.nv ∧ s2.ext (if j = k then p else F j) = f j
    by_cases e : j = k
    · subst e; rw [if_pos rfl]; exact ⟨hN.lt, hN.is⟩
    · rw [if_neg e]
      obtain ⟨b1, b2⟩ := h.code j (by omega)
      exact ⟨by have := hN.ext_.nv; omega, by rw [hN.ext_.ext_eq b1]; exact b2⟩
/-- The clause whose literals have these numbers. -/
theorem AW.form {K M : Nat} {w w1 : World} {L L1 : Tag → Value} {s s1 : St} {f : Nat → Int} {g n : Nat} {F F' : Nat → Nat} (h : AW K M w L s f g n n w1 L1 s1 F) (hp : Perm F F' n) (hne : ∀ i j, i < n → j < n → f i = f j → i = j) (hno : ∀ i j, i < n → j < n → f i ≠ -f j) :
    St.Form s1 n F' ∧ ∀ x, (∃ i, i < n ∧ s1.ext (F' i) = x) ↔ ∃ i, i < n ∧ f i = x := by
  have hF : ∀ i, i < n → ∃ j, j < n ∧ F j = F' i := fun i hi => (hp.mem (F' i)).1 ⟨i, hi, rfl⟩
  have hinj : ∀ i j, i < n → j < n → F i = F j → i = j := fun i j hi hj e => hne i j hi hj (by rw [← (h.code i hi).2, ← (h.code j hj).2, e])
  refine ⟨⟨fun i hi => ?_, hp.inj hinj, fun i j hi hj e => ?_⟩, fun x => ⟨?_, ?_⟩⟩
  · obtain ⟨j, hj, e⟩ := hF i hi
    rw [← e]; exact (h.code j hj).1
  · obtain ⟨i', hi', e1⟩ := hF i hi
    obtain ⟨j', hj', e2⟩ := hF j hj
    rw [← e1, ← e2] at e
    exact hno i' j' hi' hj' (by rw [← (h.code i' hi').2, ← (h.code j' hj').2, e, St.ext_neg])
  · rintro ⟨i, hi, e⟩
    obtain ⟨j, hj, e1⟩ := hF i hi
    exact ⟨j, hj, by rw [← (h.code j hj).2, e1]; exact e⟩
  · rintro ⟨i, hi, e⟩
    obtain ⟨j, hj, e1⟩ := (hp.mem (F i)).2 ⟨i, hi, rfl⟩
    exact ⟨j, hj, by rw [e1, (h.code i hi).2]; exact e⟩

/-- What add hands back. -/
structure AddOut (K M : Nat) (w : World) (L : Tag → Value) (s : St) (f : Nat → Int) (n : Nat) (w' : World) (L' : Tag → Value) (s' : St) : Prop where
  tn : Tn K M w L w' L' s'
  base : St.Base s' St.All
  nv : s'.nv ≤ s.nv + n
  nc : s'.nc = s.nc + 1
  settled : s'.settled = s.settled
  inv : s'.settled = true → St.Settled s'
  old : ∀ a c, a ≠ s.nc → (s'.At a c ↔ s.At a c)
  new : ∀ c, s'.At s.nc c ↔ ∀ x, x ∈ c ↔ ∃ i, i < n ∧ f i = x
  gone : (∀ a, a < s.nc → s.gone a = false) → ∀ a, a < s'.nc → s'.gone a = false
theorem AddOut.cl {K M : Nat} {w w' : World} {L L' : Tag → Value} {s s' : St} {f : Nat → Int} {n : Nat} (h : AddOut K M w L s f n w' L' s') (c : List Int) : s'.Cl c ↔ s.Cl c ∨ ∀ x, x ∈ c ↔ ∃ i, i < n ∧ f i = x := by
  constructor
  · rintro ⟨a, ha⟩
    by_cases e : a = s.nc
    · subst e; exact .inr ((h.new c).1 ha)
    · exact .inl ⟨a, (h.old a c e).1 ha⟩
  · rintro (⟨a, ha⟩ | hc)
    · exact ⟨a, (h.old a c (by have := ha.1.2.1; omega)).2 ha⟩
    · exact ⟨s.nc, (h.new c).2 hc⟩
namespace St
theorem NewC.at_old {s t : St} {n : Nat} {F : Nat → Nat} (h : NewC s t n F) {a : Nat} (ha : a ≠ s.nc) (c : List Int) : t.At a c ↔ s.At a c := by
  unfold At
  rw [h.is_old ha]
  refine and_congr_right fun _ => forall_congr' fun x => iff_congr Iff.rfl (exists_congr fun p => ?_)
  rw [h.lit_old ha]
  refine and_congr_right fun _ => ?_
  unfold ext; rw [h.vr]
theorem NewC.at_new {s t : St} {n : Nat} {F : Nat → Nat} (h : NewC s t n F) (h1 : 1 ≤ s.nc) (c : List Int) : t.At s.nc c ↔ ∀ x, x ∈ c ↔ ∃ i, i < n ∧ s.ext (F i) = x := by
  unfold At
  refine (and_iff_right (h.is_new h1)).trans (forall_congr' fun x => iff_congr Iff.rfl ?_)
  have hx : ∀ p, t.ext p = s.ext p := fun p => by unfold ext; rw [h.vr]
  constructor
  · rintro ⟨p, ⟨i, hi, e⟩, e2⟩
    rw [h.ln_new] at hi
    rw [h.lt_new] at e
    exact ⟨i, hi, by rw [e, ← hx]; exact e2⟩
  · rintro ⟨i, hi, e⟩
    exact ⟨F i, ⟨i, by rw [h.ln_new]; exact hi, h.lt_new i⟩, by rw [hx]; exact e⟩
theorem newC_short {s : St} {n : Nat} {F : Nat → Nat} (hB : Base ((s.newc n F).shr s.nc) All) (hn : n < 2) : NewC s ((s.newc n F).shr s.nc) n F :=
  ⟨hB, rfl, rfl, rfl, rfl, rfl, rfl, rfl, rfl, rfl, rfl, rfl, rfl, rfl, .inl ⟨hn, rfl, rfl⟩⟩
theorem newC_long {s : St} {n : Nat} {F : Nat → Nat} (hB : Base (((s.newc n F).ent (F 0) s.nc (F 1)).ent (F 1) s.nc (F 0)) All) (hn : 2 ≤ n) : NewC s (((s.newc n F).ent (F 0) s.nc (F 1)).ent (F 1) s.nc (F 0)) n F :=
  ⟨hB, rfl, rfl, rfl, rfl, rfl, rfl, rfl, rfl, rfl, rfl, rfl, rfl, rfl, .inr ⟨hn, rfl, rfl⟩⟩
end St
/-- apply and finish, behind a new clause. -/
theorem add_tail {K M : Nat} {w0 w : World} {L0 L : Tag → Value} {s t : St} {n : Nat} {f F : Nat → Nat} (T : Tn K M w0 L0 w L t) (hN : St.NewC s t n F) (hB : St.Base s St.All) (hs : St.Settled s) (hb : s.broken = 0) (hL : Lead s f F n) (hn : n ≤ 100000) (hnv : s.nv ≤ 100000000) (hnc : s.nc + 1 ≤ 100000000) :
    Calls Try.prog 52 #[.pointer (some ⟨K, 0, none⟩), .int .i32 (s.nc : Nat)] w fun e w8 => e = .returned (.tuple #[]) ∧ Hid (Calls Try.prog 53 #[.pointer (some ⟨K, 0, none⟩)] w8 fun e w9 => e = .returned (.tuple #[]) ∧ ∃ L' s', Tn K M w0 L0 w9 L' s' ∧ St.Base s' St.All ∧ St.Core t s' ∧ s'.nv = t.nv ∧ s'.settled = t.settled ∧ St.Settled s') := by
  have hFP := hN.app hB hs hb hL
  have hnv' : t.nv ≤ 100000000 := by rw [hN.nv]; exact hnv
  have hx : (t.app s.nc).nv = t.nv ∧ (t.app s.nc).nc = t.nc ∧ (t.app s.nc).settled = t.settled := by
    unfold St.app; split
    · exact ⟨rfl, rfl, rfl⟩
    · split
      · exact ⟨rfl, rfl, rfl⟩
      · split
        · exact ⟨rfl, rfl, rfl⟩
        · split <;> exact ⟨rfl, rfl, rfl⟩
  have hcore : St.Core t (t.app s.nc) := by
    unfold St.app; split
    · exact ⟨Nat.le_refl _, fun _ _ => rfl, rfl, rfl, rfl, fun _ _ => Iff.rfl⟩
    · split
      · exact .refl _
      · split
        · exact ⟨Nat.le_refl _, fun _ _ => rfl, rfl, rfl, rfl, fun _ _ => Iff.rfl⟩
        · split
          · exact ⟨Nat.le_refl _, fun _ _ => rfl, rfl, rfl, rfl, fun _ _ => Iff.rfl⟩
          · exact .refl _
  refine (apply_any T.mem (hN.base.fit hnv') (show s.nc < t.nc by rw [hN.nc]; omega) (by rw [hN.nc]; exact hnc) (by rw [hN.ln_new]; omega) (fun i hi => hN.base.cls.c_lt _ i (by rw [hN.nc]; omega) hi) hN.base.tra.v_rng).mono ?_
  rintro e w8 ⟨rfl, L8, _, T8⟩
  refine ⟨rfl, Lib.hid ?_⟩
  refine (finish_any T8.mem hFP (by rw [hx.1]; exact hnv') (by rw [hx.2.1, hN.nc]; exact hnc)).mono ?_
  rintro e w9 ⟨rfl, L9, s9, hO⟩
  exact ⟨rfl, L9, s9, (T.trans T8).trans hO.tn, hO.base, hcore.trans hO.core, hO.nvq.trans hx.1, hO.settled.trans hx.2.2, hO.ok⟩

set_option maxHeartbeats 8000000 in
set_option maxRecDepth 100000 in
theorem add_u {K M : Nat} {w : World} {L : Tag → Value} {s : St} (h : Mem w K M L s) (hb : St.Base s St.All) (hst : s.settled = false) {a : Option Addr} {n c : Nat} {f : Nat → Int} (hA : Apart w K M L a n f) (hl : ∀ j, j < n → lit (f j) = true) (hne : ∀ i j, i < n → j < n → f i = f j → i = j) (hno : ∀ i j, i < n → j < n → f i ≠ -f j)
    (hn : n ≤ 100000) (hnv : s.nv + n ≤ 100000000) (hnc : s.nc + 1 ≤ 100000000) :
    Calls Try.prog 23 #[.pointer (some ⟨K, 0, none⟩), .slice a n c] w fun e w' => e = .returned (.int .i32 (s.nc : Nat)) ∧ ∃ L' s', AddOut K M w L s f n w' L' s' := by
  have hmk := fun w => run_make_row' (P := Try.prog) 65 71 (.int .i32 0) 4 Try.underlying65 info71 rfl .i64 .i64 n (by omega) (by omega) w
  have hd : decide ((n : Int) < 0) = false := by simp
  have hg0 : ¬ Bl K M L w.heap.size := fun e => by have := h.lt e; omega
  have T0 := h.tnAlloc (.cells (madeCells #[.int .i32 0] n) 71)
  have H0 := Lib.hid (show AW K M w L s f w.heap.size n 0 (w.alloc (.cells (madeCells #[.int .i32 0] n) 71)) L s (fun _ => 0) from ⟨T0, hb, .refl s, Nat.le_refl _, World.rowIs_made _ _ _ _, hg0, fun j hj => absurd hj (Nat.not_lt_zero _), fun h => h⟩)
  have HA := Lib.hid hA
  have HX := Lib.hid (And.intro hl (And.intro hne (And.intro hno (And.intro hb hst))))
  clear T0 hg0 hA hl hne hno hb h hst
  go_enter Try.func23, Try.ntmps23
  go_wp2
  clear hmk
  go_loopw [14] (fun v wr => ∃ (k : Nat) (L1 : Tag → Value) (s1 : St) (F : Nat → Nat), k ≤ n ∧ v = .int .i64 k ∧ Hid (AW K M w L s f w.heap.size n k wr L1 s1 F)) (fun v _ => n - (intOf v).toNat)
  case atStart => exact ⟨0, L, s, _, Nat.zero_le _, rfl, H0⟩
  case round =>
    obtain ⟨k, L1, s1, F, hk, rfl, HI⟩ := hrel
    clear H0
    by_cases hlt : k < n
    · have hltI : (k : Int) < (n : Int) := by omega
      rcases HA.out.keep HI.out.tn with h0 | ⟨b, off, rfl, hbl, hnb, hc⟩
      · omega
      have xc := hc k hlt
      have hnv1 := HI.out.nv
      have HNU := Lib.hid (number_any HI.out.tn.mem (HX.out.1 k hlt) (by omega) HI.out.base.lens)
      have HAF := Lib.hid (show ∀ (w2 : World) (L2 : Tag → Value) (s2 : St) (p : Nat), NumOut K M wr L1 s1 (f k) w2 p L2 s2 → w2.frozen? ⟨w.heap.size, k, none⟩ = false ∧ w2.cell? ⟨w.heap.size, k, none⟩ = some (.int .i32 (F k)) ∧ Hid (AW K M w L s f w.heap.size n (k + 1) (w2.setCell ⟨w.heap.size, k, none⟩ (.int .i32 p)) L2 s2 (fun j => if j = k then p else F j)) from fun w2 L2 s2 p ho => by
        obtain ⟨h1, h2⟩ := HI.out.step hlt (HX.out.1 k hlt) ho (Nat.le_refl _)
        exact ⟨h1.frozen k, h1.cell hlt, Lib.hid h2⟩)
      clear hc hbl hnb hnv1
      go_wp2_with (go_at_call 49; refine HNU.out.mono ?_; rintro e w2 ⟨p, L2, s2, rfl, ho⟩; obtain ⟨a1, a2, a3⟩ := HAF.out w2 L2 s2 p ho; clear ho)
      go_roundw
      case rel => exact ⟨k + 1, L2, s2, _, by omega, by go_num, a3⟩
      case measure => simp [intOf]; omega
    · have hq : ¬ (k : Int) < (n : Int) := by omega
      obtain rfl : k = n := by omega
      have hlead := lead_any HI.out.tn.mem (c := k) HI.out.row HI.out.hg (fun i hi => by have := (HI.out.code i hi).1; have := HI.out.base.lens.2.1; omega) hn
      have HLD := Lib.hid hlead
      clear hlead
      have hncq : s1.nc = s.nc := HI.out.ext.nc
      have hse : s1.settled = false := HI.out.ext.settled.trans HX.out.2.2.2.2
      obtain ⟨ac, qc, hLc, _⟩ := (HI.out.tn.mem.row .cls).shape
      replace hLc : L1 .cls = .slice ac s1.nc qc := hLc
      obtain ⟨ash, qs, hLs, _⟩ := (HI.out.tn.mem.row .sho).shape
      replace hLs : L1 .sho = .slice ash s1.ns qs := hLs
      have hns := HI.out.base.cls.s_le
      obtain ⟨i75, hi75, hz75, hs75, hb75⟩ := info_parts info75
      obtain ⟨i48, hi48, hz48, hs48, hb48⟩ := info_parts info48
      -- behind lead
      have hB1 : ∀ (w3 : World) (F' : Nat → Nat), w3.rowIs w.heap.size 71 k (fun j => .int .i32 (F' j : Nat)) → Fr (fun b => b = w.heap.size) wr w3 → w3.cell? ⟨K, 1, none⟩ = some (.slice ac s1.nc qc) ∧ Hid (Tn K M w L w3 (up L1 (.cl s1.nc) (.slice (some ⟨w.heap.size, 0, none⟩) k k)) (s1.adp k F')) := fun w3 F' r1 r2 => by
        have T3 := HI.out.tn.foreign r2 HI.out.hg (Nat.le_refl _)
        exact ⟨(T3.mem.c 1 (by omega)).trans (congrArg some hLc), Lib.hid (T3.adopt r1 hn HI.out.hg (Nat.le_refl _))⟩
      have hB2 : ∀ (w3 : World) (F' : Nat → Nat) (T : Tn K M w L w3 (up L1 (.cl s1.nc) (.slice (some ⟨w.heap.size, 0, none⟩) k k)) (s1.adp k F')), _ := fun w3 F' T => app_cls T hLc (.cells #[.slice (some ⟨w.heap.size, 0, none⟩) k k, .bool false] 75)
      have hB3 : ∀ (w5 : World) (F' : Nat → Nat) (v : Value) (T : Tn K M w L w5 (up (up L1 (.cl s1.nc) (.slice (some ⟨w.heap.size, 0, none⟩) k k)) .cls v) (s1.newc k F')), _ := fun w5 F' v T => app_sho (x := s1.nc) (a := ash) (q := qs) T ((up_other _ (by intro e; cases e)).trans ((up_other _ (by intro e; cases e)).trans hLs)) (.cells #[.int .i32 s1.nc] 48)
      have HB3 := Lib.hid hB3
      have HFM := Lib.hid (show ∀ F', Lead s1 F F' k → St.Form s1 k F' ∧ ∀ x, (∃ i, i < k ∧ s1.ext (F' i) = x) ↔ ∃ i, i < k ∧ f i = x from fun F' h => HI.out.form h.perm HX.out.2.1 HX.out.2.2.1)
      have hnv1' := HI.out.nv
      have HOUT := Lib.hid (show ∀ (F' : Nat → Nat) (t s' : St) (w' : World) (L' : Tag → Value), Lead s1 F F' k → St.NewC s1 t k F' → Tn K M w L w' L' s' → St.Base s' St.All → St.Core t s' → s'.nv = t.nv → s'.settled = t.settled → (s'.settled = true → St.Settled s') → AddOut K M w L s f k w' L' s' from
        fun F' t s' w' L' hLd hN T hB hC e1 e2 e3 => by
          obtain ⟨hf, hx⟩ := HI.out.form hLd.perm HX.out.2.1 HX.out.2.2.1
          refine ⟨T, hB, by rw [e1, hN.nv]; exact HI.out.nv, by rw [hC.nc, hN.nc, hncq], by rw [e2, hN.settled]; exact HI.out.ext.settled, e3, fun a c ha => ?_, fun c => ?_, fun hg a ha => ?_⟩
          · rw [hC.at_iff hN.base.cls, hN.at_old (by rw [hncq]; exact ha), HI.out.ext.core.at_iff HX.out.2.2.2.1.cls]
          · rw [← hncq, hC.at_iff hN.base.cls, hN.at_new HI.out.base.cls.c1]
            exact forall_congr' fun x => iff_congr Iff.rfl (hx x)
          · rw [hC.gone, hN.gone]
            show (if a = s1.nc then false else s1.gone a) = false
            rw [hC.nc, hN.nc] at ha
            split
            · rfl
            · next hne => rw [HI.out.ext.gone]; exact hg a (by omega))
      have hB4 : ¬ k < 2 → ∀ (w4 : World) (F' : Nat → Nat) (v4 : Value), Lead s1 F F' k → Tn K M w L (w4.setCell ⟨K, 1, none⟩ v4) (up (up L1 (.cl s1.nc) (.slice (some ⟨w.heap.size, 0, none⟩) k k)) .cls v4) (s1.newc k F') →
          w4.cell? ⟨w.heap.size, 0, none⟩ = some (.int .i32 (F' 0 : Nat)) ∧ w4.cell? ⟨w.heap.size, 1, none⟩ = some (.int .i32 (F' 1 : Nat)) ∧ ¬ K = w.heap.size ∧
          ∀ q, Calls Try.prog 51 #[.pointer (some ⟨K, 0, none⟩), .int .i32 (F' 0 : Nat), .agg #[.int .i32 (s1.nc : Nat), .int .i32 (F' 1 : Nat)]] ((w4.setCell ⟨K, 1, none⟩ v4).drewN q) fun e w6 => e = .returned (.tuple #[]) ∧ w6.cell? ⟨w.heap.size, 0, none⟩ = some (.int .i32 (F' 0 : Nat)) ∧ w6.cell? ⟨w.heap.size, 1, none⟩ = some (.int .i32 (F' 1 : Nat)) ∧
            Hid (∀ q, Calls Try.prog 51 #[.pointer (some ⟨K, 0, none⟩), .int .i32 (F' 1 : Nat), .agg #[.int .i32 (s1.nc : Nat), .int .i32 (F' 0 : Nat)]] (w6.drewN q) fun e w7 => e = .returned (.tuple #[]) ∧ w7.cell? ⟨K, 8, none⟩ = some (.bool false) ∧ Hid (∃ L' s', AddOut K M w L s f k w7 L' s')) := by
        intro h2 w4 F' v4 hLd T
        have hf := (HI.out.form hLd.perm HX.out.2.1 HX.out.2.2.1).1
        have hm := T.mem
        have hLn : (up (up L1 (.cl s1.nc) (.slice (some ⟨w.heap.size, 0, none⟩) k k)) .cls v4) (.cl s1.nc) = .slice (some ⟨w.heap.size, 0, none⟩) k k := (up_other _ (by intro e; cases e)).trans (up_same _ _ _)
        have hln : (s1.newc k F').ln s1.nc = k := if_pos rfl
        have hlt0 : ∀ i, (s1.newc k F').lt s1.nc i = F' i := fun i => if_pos rfl
        have hne : ¬ K = w.heap.size := hm.ne hLn
        have hew := HI.out.base.lens.1
        have hnv1 := HI.out.nv
        have hwn := fun p hp => HI.out.base.wn_le' (p := p) hp
        have rc : ∀ i, i < 2 → (w4.setCell ⟨K, 1, none⟩ v4).cell? ⟨w.heap.size, i, none⟩ = some (.int .i32 (F' i : Nat)) := fun i hi => by
          have := hm.rc hLn (j := i) (show i < (s1.newc k F').ln s1.nc * 1 by rw [hln]; omega)
          rw [this]
          show some (Value.int .i32 ((s1.newc k F').lt s1.nc i)) = _
          rw [hlt0]
        have rc4 : ∀ i, i < 2 → w4.cell? ⟨w.heap.size, i, none⟩ = some (.int .i32 (F' i : Nat)) := fun i hi => by
          rw [← rc i hi]
          refine (World.cell?_setCell_other _ _ _ _ fun e => ?_).symm
          injection e with e1; exact hne e1
        refine ⟨rc4 0 (by omega), rc4 1 (by omega), hne, fun q0 => ?_⟩
        refine (watch_any (a := s1.nc) (o := F' 1) (hm.drewN q0) (p := F' 0) (show F' 0 < s1.ew by have := hf.lt 0 (by omega); omega) (show s1.ew ≤ _ by omega) (show s1.wn _ ≤ _ by have := hwn (F' 0) (hf.lt 0 (by omega)); omega)).mono ?_
        rintro e w6 ⟨rfl, v6, T6⟩
        have hL6 : up (up (up L1 (.cl s1.nc) (.slice (some ⟨w.heap.size, 0, none⟩) k k)) .cls v4) (.wl (F' 0)) v6 (.cl s1.nc) = .slice (some ⟨w.heap.size, 0, none⟩) k k := (up_other _ (by intro e; cases e)).trans hLn
        have rc6 : ∀ i, i < 2 → w6.cell? ⟨w.heap.size, i, none⟩ = some (.int .i32 (F' i : Nat)) := fun i hi => by
          have := T6.mem.rc hL6 (j := i) (show i < (s1.newc k F').ln s1.nc * 1 by rw [hln]; omega)
          rw [this]
          show some (Value.int .i32 ((s1.newc k F').lt s1.nc i)) = _
          rw [hlt0]
        refine ⟨rfl, rc6 0 (by omega), rc6 1 (by omega), Lib.hid fun q => ?_⟩
        have h01 : F' 1 ≠ F' 0 := fun e => by have := hf.ne 1 0 (by omega) (by omega) e; omega
        refine (watch_any (a := s1.nc) (o := F' 0) (T6.mem.drewN q) (p := F' 1) (show F' 1 < s1.ew by have := hf.lt 1 (by omega); omega) (show s1.ew ≤ _ by omega) (show (if F' 1 = F' 0 then s1.wn (F' 0) + 1 else s1.wn (F' 1)) ≤ _ by rw [if_neg h01]; have := hwn (F' 1) (hf.lt 1 (by omega)); omega)).mono ?_
        rintro e w7 ⟨rfl, v7, T7⟩
        have hNC := St.newC_long (HI.out.base.long hf (by omega)) (by omega)
        have hT7 := (((T.drewN q0).trans T6).drewN q).trans T7
        refine ⟨rfl, (T7.mem.c 8 (by omega)).trans (congrArg some (congrArg Value.bool hse)), Lib.hid ⟨_, _, HOUT.out F' _ _ w7 _ hLd hNC hT7 hNC.base (.refl _) rfl rfl (fun e => by rw [hNC.settled, hse] at e; cases e)⟩⟩
      have HB1 := Lib.hid hB1
      have HB2 := Lib.hid hB2
      have HLS := Lib.hid (And.intro hLs (And.intro hse hLc))
      have HNC := Lib.hid hncq
      have hnc1 : s1.nc + 1 ≤ 100000000 := by omega
      have HB4 := Lib.hid hB4
      clear hB1 hB2 hB3 hB4 hLc hLs hncq hnc hse hnv1'
      by_cases h2 : k < 2
      · have h2I : (k : Int) < 2 := by omega
        go_wp2_with (first
          | (go_at_call 50; refine HLD.out.mono ?_; rintro e w3 ⟨rfl, F', r1, r2, r3⟩; obtain ⟨b1, T3⟩ := HB1.out w3 F' r1 r2; have HLE := Lib.hid r3; clear r1 r2 r3)
          | (at_builtin; refine wpList_append_own_at _ rfl _ _ 61 rfl 0 75 i75 (.agg #[.slice none 0 0, .bool false]) 2 32 Try.underlying61 hi75 hz75 hs75 hb75 rfl (by decide) (.slice ac s1.nc qc) s1.nc (lst (fOf (up L1 (.cl s1.nc) (.slice (some ⟨w.heap.size, 0, none⟩) k k)) (s1.adp k F') .cls) (s1.nc * 2)) rfl ((HB2.out w3 F' T3.out).1 _ rfl) ⟨_, 0, none⟩ 1 1 [.slice (some ⟨w.heap.size, 0, none⟩) k k, .bool false] rfl rfl (two_at w3 _ rfl rfl) (by intro u hu; simp at hu; rcases hu with rfl | rfl <;> rfl) (by unfold maxLen; omega) (by omega) (Nat.zero_le _) ?_; intro v4 w4 g1 g2 _ g3; obtain ⟨⟨av4, cv4, rfl⟩, d4, T4'⟩ := (HB2.out w3 F' T3.out).2 _ _ _ g1 g2 g3 rfl rfl rfl rfl; have f4 := d4.frozen; have k41 := d4.cell (i := 1) (by omega); have k42 : w4.cell? ⟨K, 2, none⟩ = some (.slice ash s1.ns qs) := (d4.cell (i := 2) (by omega)).trans (congrArg some HLS.out.1); have k48 : w4.cell? ⟨K, 8, none⟩ = some (.bool false) := (d4.cell (i := 8) (by omega)).trans (congrArg some (congrArg Value.bool HLS.out.2.1)); have T4 := Lib.hid T4'; clear d4 g1 g2 g3 T4')
          | (at_builtin; refine wpList_append_own_at _ rfl _ _ 62 rfl 0 48 i48 (.int .i32 0) 1 4 Try.underlying62 hi48 hz48 hs48 hb48 rfl (by decide) (.slice ash s1.ns qs) s1.ns (lst (fOf (up (up L1 (.cl s1.nc) (.slice (some ⟨w.heap.size, 0, none⟩) k k)) .cls (.slice av4 (s1.nc + 1) cv4)) (s1.newc k F') .sho) (s1.ns * 1)) rfl ((HB3.out _ F' _ T4.out).1 _ rfl) ⟨_, 0, none⟩ 1 1 [.int .i32 s1.nc] rfl rfl (one_at (w4.setCell ⟨K, 1, none⟩ (.slice av4 (s1.nc + 1) cv4)) _ rfl (by simp)) (by intro u hu; simp at hu; subst hu; rfl) (by unfold maxLen; omega) (by omega) (Nat.zero_le _) ?_; intro v5 w5 g1 g2 _ g3; obtain ⟨⟨av5, cv5, rfl⟩, d5, T5'⟩ := (HB3.out _ F' _ T4.out).2 _ _ _ g1 g2 g3 rfl rfl rfl rfl; have f5 := d5.frozen; have k52 := d5.cell (i := 2) (by omega); have k58 : w5.cell? ⟨K, 8, none⟩ = some (.bool false) := (d5.cell (i := 8) (by omega)).trans (congrArg some (congrArg Value.bool HLS.out.2.1)); have T5 := Lib.hid T5'; clear d5 g1 g2 g3 T5'))
        have hNC := St.newC_short (HI.out.base.short (HFM.out F' HLE.out).1 h2) h2
        go_ret
        refine ⟨ret_int (by rw [HNC.out]), _, _, HOUT.out F' _ _ _ _ HLE.out hNC T5.out hNC.base (.refl _) rfl rfl (fun e => by rw [hNC.settled, HLS.out.2.1] at e; cases e)⟩
      · have h2I : ¬ (k : Int) < 2 := by omega
        have k0 : (0 : Int) < (k : Int) := by omega
        have k1 : (1 : Int) < (k : Int) := by omega
        go_wp2_with (first
          | (go_at_call 50; refine HLD.out.mono ?_; rintro e w3 ⟨rfl, F', r1, r2, r3⟩; obtain ⟨b1, T3⟩ := HB1.out w3 F' r1 r2; have HLE := Lib.hid r3; clear r1 r2 r3)
          | (at_builtin; refine wpList_append_own_at _ rfl _ _ 61 rfl 0 75 i75 (.agg #[.slice none 0 0, .bool false]) 2 32 Try.underlying61 hi75 hz75 hs75 hb75 rfl (by decide) (.slice ac s1.nc qc) s1.nc (lst (fOf (up L1 (.cl s1.nc) (.slice (some ⟨w.heap.size, 0, none⟩) k k)) (s1.adp k F') .cls) (s1.nc * 2)) rfl ((HB2.out w3 F' T3.out).1 _ rfl) ⟨_, 0, none⟩ 1 1 [.slice (some ⟨w.heap.size, 0, none⟩) k k, .bool false] rfl rfl (two_at w3 _ rfl rfl) (by intro u hu; simp at hu; rcases hu with rfl | rfl <;> rfl) (by unfold maxLen; omega) (by omega) (Nat.zero_le _) ?_; intro v4 w4 g1 g2 _ g3; obtain ⟨⟨av4, cv4, rfl⟩, d4, T4'⟩ := (HB2.out w3 F' T3.out).2 _ _ _ g1 g2 g3 rfl rfl rfl rfl; have f4 := d4.frozen; have k41 := d4.cell (i := 1) (by omega); have k42 : w4.cell? ⟨K, 2, none⟩ = some (.slice ash s1.ns qs) := (d4.cell (i := 2) (by omega)).trans (congrArg some HLS.out.1); have k48 : w4.cell? ⟨K, 8, none⟩ = some (.bool false) := (d4.cell (i := 8) (by omega)).trans (congrArg some (congrArg Value.bool HLS.out.2.1)); have T4 := Lib.hid T4'; obtain ⟨y0, y1, hneK, h51⟩ := HB4.out h2 _ F' _ HLE.out T4'; have H51 := Lib.hid h51; clear d4 g1 g2 g3 T4' h51))
        go_region_with (go_at_call 51; refine (H51.out _).mono ?_; rintro e w6 ⟨rfl, z0, z1, H52⟩)
        all_goals
          go_wp2
          go_region_with (go_at_call 51; refine (H52.out _).mono ?_; rintro e w7 ⟨rfl, x8, HO7⟩)
        all_goals
          go_wp2
          go_ret
          exact ⟨ret_int (by rw [HNC.out]), HO7.out⟩
set_option maxHeartbeats 8000000 in
set_option maxRecDepth 100000 in
theorem add_b {K M : Nat} {w : World} {L : Tag → Value} {s : St} (h : Mem w K M L s) (hb : St.Base s St.All) (hss : St.Settled s) (hst : s.settled = true) (hbk : s.broken ≠ 0) {a : Option Addr} {n c : Nat} {f : Nat → Int} (hA : Apart w K M L a n f) (hl : ∀ j, j < n → lit (f j) = true) (hne : ∀ i j, i < n → j < n → f i = f j → i = j) (hno : ∀ i j, i < n → j < n → f i ≠ -f j)
    (hn : n ≤ 100000) (hnv : s.nv + n ≤ 100000000) (hnc : s.nc + 1 ≤ 100000000) :
    Calls Try.prog 23 #[.pointer (some ⟨K, 0, none⟩), .slice a n c] w fun e w' => e = .returned (.int .i32 (s.nc : Nat)) ∧ ∃ L' s', AddOut K M w L s f n w' L' s' := by
  have hmk := fun w => run_make_row' (P := Try.prog) 65 71 (.int .i32 0) 4 Try.underlying65 info71 rfl .i64 .i64 n (by omega) (by omega) w
  have hd : decide ((n : Int) < 0) = false := by simp
  have hg0 : ¬ Bl K M L w.heap.size := fun e => by have := h.lt e; omega
  have T0 := h.tnAlloc (.cells (madeCells #[.int .i32 0] n) 71)
  have H0 := Lib.hid (show AW K M w L s f w.heap.size n 0 (w.alloc (.cells (madeCells #[.int .i32 0] n) 71)) L s (fun _ => 0) from ⟨T0, hb, .refl s, Nat.le_refl _, World.rowIs_made _ _ _ _, hg0, fun j hj => absurd hj (Nat.not_lt_zero _), fun h => h⟩)
  have HA := Lib.hid hA
  have HX := Lib.hid (And.intro hl (And.intro hne (And.intro hno (And.intro hb hst))))
  have HSS := Lib.hid (And.intro hss hbk)
  clear T0 hg0 hA hl hne hno hb h hst hss hbk
  go_enter Try.func23, Try.ntmps23
  go_wp2
  clear hmk
  go_loopw [14] (fun v wr => ∃ (k : Nat) (L1 : Tag → Value) (s1 : St) (F : Nat → Nat), k ≤ n ∧ v = .int .i64 k ∧ Hid (AW K M w L s f w.heap.size n k wr L1 s1 F)) (fun v _ => n - (intOf v).toNat)
  case atStart => exact ⟨0, L, s, _, Nat.zero_le _, rfl, H0⟩
  case round =>
    obtain ⟨k, L1, s1, F, hk, rfl, HI⟩ := hrel
    clear H0
    by_cases hlt : k < n
    · have hltI : (k : Int) < (n : Int) := by omega
      rcases HA.out.keep HI.out.tn with h0 | ⟨b, off, rfl, hbl, hnb, hc⟩
      · omega
      have xc := hc k hlt
      have hnv1 := HI.out.nv
      have HNU := Lib.hid (number_any HI.out.tn.mem (HX.out.1 k hlt) (by omega) HI.out.base.lens)
      have HAF := Lib.hid (show ∀ (w2 : World) (L2 : Tag → Value) (s2 : St) (p : Nat), NumOut K M wr L1 s1 (f k) w2 p L2 s2 → w2.frozen? ⟨w.heap.size, k, none⟩ = false ∧ w2.cell? ⟨w.heap.size, k, none⟩ = some (.int .i32 (F k)) ∧ Hid (AW K M w L s f w.heap.size n (k + 1) (w2.setCell ⟨w.heap.size, k, none⟩ (.int .i32 p)) L2 s2 (fun j => if j = k then p else F j)) from fun w2 L2 s2 p ho => by
        obtain ⟨h1, h2⟩ := HI.out.step hlt (HX.out.1 k hlt) ho (Nat.le_refl _)
        exact ⟨h1.frozen k, h1.cell hlt, Lib.hid h2⟩)
      clear hc hbl hnb hnv1
      go_wp2_with (go_at_call 49; refine HNU.out.mono ?_; rintro e w2 ⟨p, L2, s2, rfl, ho⟩; obtain ⟨a1, a2, a3⟩ := HAF.out w2 L2 s2 p ho; clear ho)
      go_roundw
      case rel => exact ⟨k + 1, L2, s2, _, by omega, by go_num, a3⟩
      case measure => simp [intOf]; omega
    · have hq : ¬ (k : Int) < (n : Int) := by omega
      obtain rfl : k = n := by omega
      have hlead := lead_any HI.out.tn.mem (c := k) HI.out.row HI.out.hg (fun i hi => by have := (HI.out.code i hi).1; have := HI.out.base.lens.2.1; omega) hn
      have HLD := Lib.hid hlead
      clear hlead
      have hncq : s1.nc = s.nc := HI.out.ext.nc
      have hse : s1.settled = true := HI.out.ext.settled.trans HX.out.2.2.2.2
      obtain ⟨ac, qc, hLc, _⟩ := (HI.out.tn.mem.row .cls).shape
      replace hLc : L1 .cls = .slice ac s1.nc qc := hLc
      obtain ⟨ash, qs, hLs, _⟩ := (HI.out.tn.mem.row .sho).shape
      replace hLs : L1 .sho = .slice ash s1.ns qs := hLs
      have hns := HI.out.base.cls.s_le
      obtain ⟨i75, hi75, hz75, hs75, hb75⟩ := info_parts info75
      obtain ⟨i48, hi48, hz48, hs48, hb48⟩ := info_parts info48
      -- behind lead
      have hB1 : ∀ (w3 : World) (F' : Nat → Nat), w3.rowIs w.heap.size 71 k (fun j => .int .i32 (F' j : Nat)) → Fr (fun b => b = w.heap.size) wr w3 → w3.cell? ⟨K, 1, none⟩ = some (.slice ac s1.nc qc) ∧ Hid (Tn K M w L w3 (up L1 (.cl s1.nc) (.slice (some ⟨w.heap.size, 0, none⟩) k k)) (s1.adp k F')) := fun w3 F' r1 r2 => by
        have T3 := HI.out.tn.foreign r2 HI.out.hg (Nat.le_refl _)
        exact ⟨(T3.mem.c 1 (by omega)).trans (congrArg some hLc), Lib.hid (T3.adopt r1 hn HI.out.hg (Nat.le_refl _))⟩
      have hB2 : ∀ (w3 : World) (F' : Nat → Nat) (T : Tn K M w L w3 (up L1 (.cl s1.nc) (.slice (some ⟨w.heap.size, 0, none⟩) k k)) (s1.adp k F')), _ := fun w3 F' T => app_cls T hLc (.cells #[.slice (some ⟨w.heap.size, 0, none⟩) k k, .bool false] 75)
      have hB3 : ∀ (w5 : World) (F' : Nat → Nat) (v : Value) (T : Tn K M w L w5 (up (up L1 (.cl s1.nc) (.slice (some ⟨w.heap.size, 0, none⟩) k k)) .cls v) (s1.newc k F')), _ := fun w5 F' v T => app_sho (x := s1.nc) (a := ash) (q := qs) T ((up_other _ (by intro e; cases e)).trans ((up_other _ (by intro e; cases e)).trans hLs)) (.cells #[.int .i32 s1.nc] 48)
      have HB3 := Lib.hid hB3
      have HFM := Lib.hid (show ∀ F', Lead s1 F F' k → St.Form s1 k F' ∧ ∀ x, (∃ i, i < k ∧ s1.ext (F' i) = x) ↔ ∃ i, i < k ∧ f i = x from fun F' h => HI.out.form h.perm HX.out.2.1 HX.out.2.2.1)
      have hnv1' := HI.out.nv
      have HOUT := Lib.hid (show ∀ (F' : Nat → Nat) (t s' : St) (w' : World) (L' : Tag → Value), Lead s1 F F' k → St.NewC s1 t k F' → Tn K M w L w' L' s' → St.Base s' St.All → St.Core t s' → s'.nv = t.nv → s'.settled = t.settled → (s'.settled = true → St.Settled s') → AddOut K M w L s f k w' L' s' from
        fun F' t s' w' L' hLd hN T hB hC e1 e2 e3 => by
          obtain ⟨hf, hx⟩ := HI.out.form hLd.perm HX.out.2.1 HX.out.2.2.1
          refine ⟨T, hB, by rw [e1, hN.nv]; exact HI.out.nv, by rw [hC.nc, hN.nc, hncq], by rw [e2, hN.settled]; exact HI.out.ext.settled, e3, fun a c ha => ?_, fun c => ?_, fun hg a ha => ?_⟩
          · rw [hC.at_iff hN.base.cls, hN.at_old (by rw [hncq]; exact ha), HI.out.ext.core.at_iff HX.out.2.2.2.1.cls]
          · rw [← hncq, hC.at_iff hN.base.cls, hN.at_new HI.out.base.cls.c1]
            exact forall_congr' fun x => iff_congr Iff.rfl (hx x)
          · rw [hC.gone, hN.gone]
            show (if a = s1.nc then false else s1.gone a) = false
            rw [hC.nc, hN.nc] at ha
            split
            · rfl
            · next hne => rw [HI.out.ext.gone]; exact hg a (by omega))
      have hs1 := HI.out.set HSS.out.1
      have hbk1 : s1.broken ≠ 0 := by rw [HI.out.ext.broken]; exact HSS.out.2
      have hbz : ((s1.broken : Int) == 0) = false := by simpa using hbk1
      have hB4 : ¬ k < 2 → ∀ (w4 : World) (F' : Nat → Nat) (v4 : Value), Lead s1 F F' k → Tn K M w L (w4.setCell ⟨K, 1, none⟩ v4) (up (up L1 (.cl s1.nc) (.slice (some ⟨w.heap.size, 0, none⟩) k k)) .cls v4) (s1.newc k F') →
          w4.cell? ⟨w.heap.size, 0, none⟩ = some (.int .i32 (F' 0 : Nat)) ∧ w4.cell? ⟨w.heap.size, 1, none⟩ = some (.int .i32 (F' 1 : Nat)) ∧ ¬ K = w.heap.size ∧
          ∀ q, Calls Try.prog 51 #[.pointer (some ⟨K, 0, none⟩), .int .i32 (F' 0 : Nat), .agg #[.int .i32 (s1.nc : Nat), .int .i32 (F' 1 : Nat)]] ((w4.setCell ⟨K, 1, none⟩ v4).drewN q) fun e w6 => e = .returned (.tuple #[]) ∧ w6.cell? ⟨w.heap.size, 0, none⟩ = some (.int .i32 (F' 0 : Nat)) ∧ w6.cell? ⟨w.heap.size, 1, none⟩ = some (.int .i32 (F' 1 : Nat)) ∧
            Hid (∀ q, Calls Try.prog 51 #[.pointer (some ⟨K, 0, none⟩), .int .i32 (F' 1 : Nat), .agg #[.int .i32 (s1.nc : Nat), .int .i32 (F' 0 : Nat)]] (w6.drewN q) fun e w7 => e = .returned (.tuple #[]) ∧ w7.cell? ⟨K, 8, none⟩ = some (.bool true) ∧ w7.cell? ⟨K, 9, none⟩ = some (.int .i32 (s1.broken : Nat)) ∧ Hid (∃ L' s', AddOut K M w L s f k w7 L' s')) := by
        intro h2 w4 F' v4 hLd T
        have hf := (HI.out.form hLd.perm HX.out.2.1 HX.out.2.2.1).1
        have hm := T.mem
        have hLn : (up (up L1 (.cl s1.nc) (.slice (some ⟨w.heap.size, 0, none⟩) k k)) .cls v4) (.cl s1.nc) = .slice (some ⟨w.heap.size, 0, none⟩) k k := (up_other _ (by intro e; cases e)).trans (up_same _ _ _)
        have hln : (s1.newc k F').ln s1.nc = k := if_pos rfl
        have hlt0 : ∀ i, (s1.newc k F').lt s1.nc i = F' i := fun i => if_pos rfl
        have hne : ¬ K = w.heap.size := hm.ne hLn
        have hew := HI.out.base.lens.1
        have hnv1 := HI.out.nv
        have hwn := fun p hp => HI.out.base.wn_le' (p := p) hp
        have rc : ∀ i, i < 2 → (w4.setCell ⟨K, 1, none⟩ v4).cell? ⟨w.heap.size, i, none⟩ = some (.int .i32 (F' i : Nat)) := fun i hi => by
          have := hm.rc hLn (j := i) (show i < (s1.newc k F').ln s1.nc * 1 by rw [hln]; omega)
          rw [this]
          show some (Value.int .i32 ((s1.newc k F').lt s1.nc i)) = _
          rw [hlt0]
        have rc4 : ∀ i, i < 2 → w4.cell? ⟨w.heap.size, i, none⟩ = some (.int .i32 (F' i : Nat)) := fun i hi => by
          rw [← rc i hi]
          refine (World.cell?_setCell_other _ _ _ _ fun e => ?_).symm
          injection e with e1; exact hne e1
        refine ⟨rc4 0 (by omega), rc4 1 (by omega), hne, fun q0 => ?_⟩
        refine (watch_any (a := s1.nc) (o := F' 1) (hm.drewN q0) (p := F' 0) (show F' 0 < s1.ew by have := hf.lt 0 (by omega); omega) (show s1.ew ≤ _ by omega) (show s1.wn _ ≤ _ by have := hwn (F' 0) (hf.lt 0 (by omega)); omega)).mono ?_
        rintro e w6 ⟨rfl, v6, T6⟩
        have hL6 : up (up (up L1 (.cl s1.nc) (.slice (some ⟨w.heap.size, 0, none⟩) k k)) .cls v4) (.wl (F' 0)) v6 (.cl s1.nc) = .slice (some ⟨w.heap.size, 0, none⟩) k k := (up_other _ (by intro e; cases e)).trans hLn
        have rc6 : ∀ i, i < 2 → w6.cell? ⟨w.heap.size, i, none⟩ = some (.int .i32 (F' i : Nat)) := fun i hi => by
          have := T6.mem.rc hL6 (j := i) (show i < (s1.newc k F').ln s1.nc * 1 by rw [hln]; omega)
          rw [this]
          show some (Value.int .i32 ((s1.newc k F').lt s1.nc i)) = _
          rw [hlt0]
        refine ⟨rfl, rc6 0 (by omega), rc6 1 (by omega), Lib.hid fun q => ?_⟩
        have h01 : F' 1 ≠ F' 0 := fun e => by have := hf.ne 1 0 (by omega) (by omega) e; omega
        refine (watch_any (a := s1.nc) (o := F' 0) (T6.mem.drewN q) (p := F' 1) (show F' 1 < s1.ew by have := hf.lt 1 (by omega); omega) (show s1.ew ≤ _ by omega) (show (if F' 1 = F' 0 then s1.wn (F' 0) + 1 else s1.wn (F' 1)) ≤ _ by rw [if_neg h01]; have := hwn (F' 1) (hf.lt 1 (by omega)); omega)).mono ?_
        rintro e w7 ⟨rfl, v7, T7⟩
        have hNC := St.newC_long (HI.out.base.long hf (by omega)) (by omega)
        have hT7 := (((T.drewN q0).trans T6).drewN q).trans T7
        refine ⟨rfl, (T7.mem.c 8 (by omega)).trans (congrArg some (congrArg Value.bool hse)), (T7.mem.c 9 (by omega)).trans (congrArg some rfl), Lib.hid ⟨_, _, HOUT.out F' _ _ w7 _ hLd hNC hT7 hNC.base (.refl _) rfl rfl (fun _ => hNC.conf hs1 hbk1)⟩⟩
      have HB1 := Lib.hid hB1
      have HB2 := Lib.hid hB2
      have HLS := Lib.hid (And.intro hLs (And.intro hse hLc))
      have HNC := Lib.hid hncq
      have hnc1 : s1.nc + 1 ≤ 100000000 := by omega
      have HB4 := Lib.hid hB4
      clear hB1 hB2 hB3 hB4 hLc hLs hncq hnc hse hnv1'
      have HBK := Lib.hid hbk1
      have HS1 := Lib.hid hs1
      clear hbk1 hs1
      by_cases h2 : k < 2
      · have h2I : (k : Int) < 2 := by omega
        go_wp2_with (first
          | (go_at_call 50; refine HLD.out.mono ?_; rintro e w3 ⟨rfl, F', r1, r2, r3⟩; obtain ⟨b1, T3⟩ := HB1.out w3 F' r1 r2; have HLE := Lib.hid r3; clear r1 r2 r3)
          | (at_builtin; refine wpList_append_own_at _ rfl _ _ 61 rfl 0 75 i75 (.agg #[.slice none 0 0, .bool false]) 2 32 Try.underlying61 hi75 hz75 hs75 hb75 rfl (by decide) (.slice ac s1.nc qc) s1.nc (lst (fOf (up L1 (.cl s1.nc) (.slice (some ⟨w.heap.size, 0, none⟩) k k)) (s1.adp k F') .cls) (s1.nc * 2)) rfl ((HB2.out w3 F' T3.out).1 _ rfl) ⟨_, 0, none⟩ 1 1 [.slice (some ⟨w.heap.size, 0, none⟩) k k, .bool false] rfl rfl (two_at w3 _ rfl rfl) (by intro u hu; simp at hu; rcases hu with rfl | rfl <;> rfl) (by unfold maxLen; omega) (by omega) (Nat.zero_le _) ?_; intro v4 w4 g1 g2 _ g3; obtain ⟨⟨av4, cv4, rfl⟩, d4, T4'⟩ := (HB2.out w3 F' T3.out).2 _ _ _ g1 g2 g3 rfl rfl rfl rfl; have f4 := d4.frozen; have k41 := d4.cell (i := 1) (by omega); have k42 : w4.cell? ⟨K, 2, none⟩ = some (.slice ash s1.ns qs) := (d4.cell (i := 2) (by omega)).trans (congrArg some HLS.out.1); have k48 : w4.cell? ⟨K, 8, none⟩ = some (.bool true) := (d4.cell (i := 8) (by omega)).trans (congrArg some (congrArg Value.bool HLS.out.2.1)); have k49 : w4.cell? ⟨K, 9, none⟩ = some (.int .i32 (s1.broken : Nat)) := (d4.cell (i := 9) (by omega)); have T4 := Lib.hid T4'; clear d4 g1 g2 g3 T4')
          | (at_builtin; refine wpList_append_own_at _ rfl _ _ 62 rfl 0 48 i48 (.int .i32 0) 1 4 Try.underlying62 hi48 hz48 hs48 hb48 rfl (by decide) (.slice ash s1.ns qs) s1.ns (lst (fOf (up (up L1 (.cl s1.nc) (.slice (some ⟨w.heap.size, 0, none⟩) k k)) .cls (.slice av4 (s1.nc + 1) cv4)) (s1.newc k F') .sho) (s1.ns * 1)) rfl ((HB3.out _ F' _ T4.out).1 _ rfl) ⟨_, 0, none⟩ 1 1 [.int .i32 s1.nc] rfl rfl (one_at (w4.setCell ⟨K, 1, none⟩ (.slice av4 (s1.nc + 1) cv4)) _ rfl (by simp)) (by intro u hu; simp at hu; subst hu; rfl) (by unfold maxLen; omega) (by omega) (Nat.zero_le _) ?_; intro v5 w5 g1 g2 _ g3; obtain ⟨⟨av5, cv5, rfl⟩, d5, T5'⟩ := (HB3.out _ F' _ T4.out).2 _ _ _ g1 g2 g3 rfl rfl rfl rfl; have f5 := d5.frozen; have k52 := d5.cell (i := 2) (by omega); have k58 : w5.cell? ⟨K, 8, none⟩ = some (.bool true) := (d5.cell (i := 8) (by omega)).trans (congrArg some (congrArg Value.bool HLS.out.2.1)); have k59 : w5.cell? ⟨K, 9, none⟩ = some (.int .i32 (s1.broken : Nat)) := (d5.cell (i := 9) (by omega)); have T5 := Lib.hid T5'; clear d5 g1 g2 g3 T5'))
        have hNC := St.newC_short (HI.out.base.short (HFM.out F' HLE.out).1 h2) h2
        go_ret
        refine ⟨ret_int (by rw [HNC.out]), _, _, HOUT.out F' _ _ _ _ HLE.out hNC T5.out hNC.base (.refl _) rfl rfl (fun _ => hNC.conf HS1.out HBK.out)⟩
      · have h2I : ¬ (k : Int) < 2 := by omega
        have k0 : (0 : Int) < (k : Int) := by omega
        have k1 : (1 : Int) < (k : Int) := by omega
        go_wp2_with (first
          | (go_at_call 50; refine HLD.out.mono ?_; rintro e w3 ⟨rfl, F', r1, r2, r3⟩; obtain ⟨b1, T3⟩ := HB1.out w3 F' r1 r2; have HLE := Lib.hid r3; clear r1 r2 r3)
          | (at_builtin; refine wpList_append_own_at _ rfl _ _ 61 rfl 0 75 i75 (.agg #[.slice none 0 0, .bool false]) 2 32 Try.underlying61 hi75 hz75 hs75 hb75 rfl (by decide) (.slice ac s1.nc qc) s1.nc (lst (fOf (up L1 (.cl s1.nc) (.slice (some ⟨w.heap.size, 0, none⟩) k k)) (s1.adp k F') .cls) (s1.nc * 2)) rfl ((HB2.out w3 F' T3.out).1 _ rfl) ⟨_, 0, none⟩ 1 1 [.slice (some ⟨w.heap.size, 0, none⟩) k k, .bool false] rfl rfl (two_at w3 _ rfl rfl) (by intro u hu; simp at hu; rcases hu with rfl | rfl <;> rfl) (by unfold maxLen; omega) (by omega) (Nat.zero_le _) ?_; intro v4 w4 g1 g2 _ g3; obtain ⟨⟨av4, cv4, rfl⟩, d4, T4'⟩ := (HB2.out w3 F' T3.out).2 _ _ _ g1 g2 g3 rfl rfl rfl rfl; have f4 := d4.frozen; have k41 := d4.cell (i := 1) (by omega); have k42 : w4.cell? ⟨K, 2, none⟩ = some (.slice ash s1.ns qs) := (d4.cell (i := 2) (by omega)).trans (congrArg some HLS.out.1); have k48 : w4.cell? ⟨K, 8, none⟩ = some (.bool true) := (d4.cell (i := 8) (by omega)).trans (congrArg some (congrArg Value.bool HLS.out.2.1)); have k49 : w4.cell? ⟨K, 9, none⟩ = some (.int .i32 (s1.broken : Nat)) := (d4.cell (i := 9) (by omega)); have T4 := Lib.hid T4'; obtain ⟨y0, y1, hneK, h51⟩ := HB4.out h2 _ F' _ HLE.out T4'; have H51 := Lib.hid h51; clear d4 g1 g2 g3 T4' h51))
        go_region_with (go_at_call 51; refine (H51.out _).mono ?_; rintro e w6 ⟨rfl, z0, z1, H52⟩)
        all_goals
          go_wp2
          go_region_with (go_at_call 51; refine (H52.out _).mono ?_; rintro e w7 ⟨rfl, x8, x9, HO7⟩)
        all_goals
          go_wp2
          go_ret
          exact ⟨ret_int (by rw [HNC.out]), HO7.out⟩
set_option maxHeartbeats 8000000 in
set_option maxRecDepth 100000 in
theorem add_c {K M : Nat} {w : World} {L : Tag → Value} {s : St} (h : Mem w K M L s) (hb : St.Base s St.All) (hss : St.Settled s) (hst : s.settled = true) (hbk : s.broken = 0) {a : Option Addr} {n c : Nat} {f : Nat → Int} (hA : Apart w K M L a n f) (hl : ∀ j, j < n → lit (f j) = true) (hne : ∀ i j, i < n → j < n → f i = f j → i = j) (hno : ∀ i j, i < n → j < n → f i ≠ -f j)
    (hn : n ≤ 100000) (hnv : s.nv + n ≤ 100000000) (hnc : s.nc + 1 ≤ 100000000) :
    Calls Try.prog 23 #[.pointer (some ⟨K, 0, none⟩), .slice a n c] w fun e w' => e = .returned (.int .i32 (s.nc : Nat)) ∧ ∃ L' s', AddOut K M w L s f n w' L' s' := by
  have hmk := fun w => run_make_row' (P := Try.prog) 65 71 (.int .i32 0) 4 Try.underlying65 info71 rfl .i64 .i64 n (by omega) (by omega) w
  have hd : decide ((n : Int) < 0) = false := by simp
  have hg0 : ¬ Bl K M L w.heap.size := fun e => by have := h.lt e; omega
  have T0 := h.tnAlloc (.cells (madeCells #[.int .i32 0] n) 71)
  have H0 := Lib.hid (show AW K M w L s f w.heap.size n 0 (w.alloc (.cells (madeCells #[.int .i32 0] n) 71)) L s (fun _ => 0) from ⟨T0, hb, .refl s, Nat.le_refl _, World.rowIs_made _ _ _ _, hg0, fun j hj => absurd hj (Nat.not_lt_zero _), fun h => h⟩)
  have HA := Lib.hid hA
  have HX := Lib.hid (And.intro hl (And.intro hne (And.intro hno (And.intro hb hst))))
  have HSS := Lib.hid (And.intro hss hbk)
  clear T0 hg0 hA hl hne hno hb h hst hss hbk
  go_enter Try.func23, Try.ntmps23
  go_wp2
  clear hmk
  go_loopw [14] (fun v wr => ∃ (k : Nat) (L1 : Tag → Value) (s1 : St) (F : Nat → Nat), k ≤ n ∧ v = .int .i64 k ∧ Hid (AW K M w L s f w.heap.size n k wr L1 s1 F)) (fun v _ => n - (intOf v).toNat)
  case atStart => exact ⟨0, L, s, _, Nat.zero_le _, rfl, H0⟩
  case round =>
    obtain ⟨k, L1, s1, F, hk, rfl, HI⟩ := hrel
    clear H0
    by_cases hlt : k < n
    · have hltI : (k : Int) < (n : Int) := by omega
      rcases HA.out.keep HI.out.tn with h0 | ⟨b, off, rfl, hbl, hnb, hc⟩
      · omega
      have xc := hc k hlt
      have hnv1 := HI.out.nv
      have HNU := Lib.hid (number_any HI.out.tn.mem (HX.out.1 k hlt) (by omega) HI.out.base.lens)
      have HAF := Lib.hid (show ∀ (w2 : World) (L2 : Tag → Value) (s2 : St) (p : Nat), NumOut K M wr L1 s1 (f k) w2 p L2 s2 → w2.frozen? ⟨w.heap.size, k, none⟩ = false ∧ w2.cell? ⟨w.heap.size, k, none⟩ = some (.int .i32 (F k)) ∧ Hid (AW K M w L s f w.heap.size n (k + 1) (w2.setCell ⟨w.heap.size, k, none⟩ (.int .i32 p)) L2 s2 (fun j => if j = k then p else F j)) from fun w2 L2 s2 p ho => by
        obtain ⟨h1, h2⟩ := HI.out.step hlt (HX.out.1 k hlt) ho (Nat.le_refl _)
        exact ⟨h1.frozen k, h1.cell hlt, Lib.hid h2⟩)
      clear hc hbl hnb hnv1
      go_wp2_with (go_at_call 49; refine HNU.out.mono ?_; rintro e w2 ⟨p, L2, s2, rfl, ho⟩; obtain ⟨a1, a2, a3⟩ := HAF.out w2 L2 s2 p ho; clear ho)
      go_roundw
      case rel => exact ⟨k + 1, L2, s2, _, by omega, by go_num, a3⟩
      case measure => simp [intOf]; omega
    · have hq : ¬ (k : Int) < (n : Int) := by omega
      obtain rfl : k = n := by omega
      have hlead := lead_any HI.out.tn.mem (c := k) HI.out.row HI.out.hg (fun i hi => by have := (HI.out.code i hi).1; have := HI.out.base.lens.2.1; omega) hn
      have HLD := Lib.hid hlead
      clear hlead
      have hncq : s1.nc = s.nc := HI.out.ext.nc
      have hse : s1.settled = true := HI.out.ext.settled.trans HX.out.2.2.2.2
      obtain ⟨ac, qc, hLc, _⟩ := (HI.out.tn.mem.row .cls).shape
      replace hLc : L1 .cls = .slice ac s1.nc qc := hLc
      obtain ⟨ash, qs, hLs, _⟩ := (HI.out.tn.mem.row .sho).shape
      replace hLs : L1 .sho = .slice ash s1.ns qs := hLs
      have hns := HI.out.base.cls.s_le
      obtain ⟨i75, hi75, hz75, hs75, hb75⟩ := info_parts info75
      obtain ⟨i48, hi48, hz48, hs48, hb48⟩ := info_parts info48
      -- behind lead
      have hB1 : ∀ (w3 : World) (F' : Nat → Nat), w3.rowIs w.heap.size 71 k (fun j => .int .i32 (F' j : Nat)) → Fr (fun b => b = w.heap.size) wr w3 → w3.cell? ⟨K, 1, none⟩ = some (.slice ac s1.nc qc) ∧ Hid (Tn K M w L w3 (up L1 (.cl s1.nc) (.slice (some ⟨w.heap.size, 0, none⟩) k k)) (s1.adp k F')) := fun w3 F' r1 r2 => by
        have T3 := HI.out.tn.foreign r2 HI.out.hg (Nat.le_refl _)
        exact ⟨(T3.mem.c 1 (by omega)).trans (congrArg some hLc), Lib.hid (T3.adopt r1 hn HI.out.hg (Nat.le_refl _))⟩
      have hB2 : ∀ (w3 : World) (F' : Nat → Nat) (T : Tn K M w L w3 (up L1 (.cl s1.nc) (.slice (some ⟨w.heap.size, 0, none⟩) k k)) (s1.adp k F')), _ := fun w3 F' T => app_cls T hLc (.cells #[.slice (some ⟨w.heap.size, 0, none⟩) k k, .bool false] 75)
      have hB3 : ∀ (w5 : World) (F' : Nat → Nat) (v : Value) (T : Tn K M w L w5 (up (up L1 (.cl s1.nc) (.slice (some ⟨w.heap.size, 0, none⟩) k k)) .cls v) (s1.newc k F')), _ := fun w5 F' v T => app_sho (x := s1.nc) (a := ash) (q := qs) T ((up_other _ (by intro e; cases e)).trans ((up_other _ (by intro e; cases e)).trans hLs)) (.cells #[.int .i32 s1.nc] 48)
      have HB3 := Lib.hid hB3
      have HFM := Lib.hid (show ∀ F', Lead s1 F F' k → St.Form s1 k F' ∧ ∀ x, (∃ i, i < k ∧ s1.ext (F' i) = x) ↔ ∃ i, i < k ∧ f i = x from fun F' h => HI.out.form h.perm HX.out.2.1 HX.out.2.2.1)
      have hnv1' := HI.out.nv
      have HOUT := Lib.hid (show ∀ (F' : Nat → Nat) (t s' : St) (w' : World) (L' : Tag → Value), Lead s1 F F' k → St.NewC s1 t k F' → Tn K M w L w' L' s' → St.Base s' St.All → St.Core t s' → s'.nv = t.nv → s'.settled = t.settled → (s'.settled = true → St.Settled s') → AddOut K M w L s f k w' L' s' from
        fun F' t s' w' L' hLd hN T hB hC e1 e2 e3 => by
          obtain ⟨hf, hx⟩ := HI.out.form hLd.perm HX.out.2.1 HX.out.2.2.1
          refine ⟨T, hB, by rw [e1, hN.nv]; exact HI.out.nv, by rw [hC.nc, hN.nc, hncq], by rw [e2, hN.settled]; exact HI.out.ext.settled, e3, fun a c ha => ?_, fun c => ?_, fun hg a ha => ?_⟩
          · rw [hC.at_iff hN.base.cls, hN.at_old (by rw [hncq]; exact ha), HI.out.ext.core.at_iff HX.out.2.2.2.1.cls]
          · rw [← hncq, hC.at_iff hN.base.cls, hN.at_new HI.out.base.cls.c1]
            exact forall_congr' fun x => iff_congr Iff.rfl (hx x)
          · rw [hC.gone, hN.gone]
            show (if a = s1.nc then false else s1.gone a) = false
            rw [hC.nc, hN.nc] at ha
            split
            · rfl
            · next hne => rw [HI.out.ext.gone]; exact hg a (by omega))
      have hs1 := HI.out.set HSS.out.1
      have hbk1 : s1.broken = 0 := by rw [HI.out.ext.broken]; exact HSS.out.2
      have HTL := Lib.hid (show ∀ (F' : Nat → Nat) (t : St) (w' : World) (L' : Tag → Value), Lead s1 F F' k → St.NewC s1 t k F' → Tn K M w L w' L' t → Calls Try.prog 52 #[.pointer (some ⟨K, 0, none⟩), .int .i32 (s1.nc : Nat)] w' fun e w8 => e = .returned (.tuple #[]) ∧ Hid (Calls Try.prog 53 #[.pointer (some ⟨K, 0, none⟩)] w8 fun e w9 => e = .returned (.tuple #[]) ∧ Hid (∃ L' s', AddOut K M w L s f k w9 L' s')) from
        fun F' t w' L' hLd hN T => (add_tail T hN HI.out.base hs1 hbk1 hLd hn (by omega) (by rw [hncq]; exact hnc)).mono fun e w8 ⟨x1, x2⟩ => ⟨x1, Lib.hid (x2.out.mono fun e w9 ⟨y1, L9, s9, y2, y3, y4, y5, y6, y7⟩ => ⟨y1, Lib.hid ⟨L9, s9, HOUT.out F' t s9 w9 L9 hLd hN y2 y3 y4 y5 y6 fun _ => y7⟩⟩)⟩)
      have hB4 : ¬ k < 2 → ∀ (w4 : World) (F' : Nat → Nat) (v4 : Value), Lead s1 F F' k → Tn K M w L (w4.setCell ⟨K, 1, none⟩ v4) (up (up L1 (.cl s1.nc) (.slice (some ⟨w.heap.size, 0, none⟩) k k)) .cls v4) (s1.newc k F') →
          w4.cell? ⟨w.heap.size, 0, none⟩ = some (.int .i32 (F' 0 : Nat)) ∧ w4.cell? ⟨w.heap.size, 1, none⟩ = some (.int .i32 (F' 1 : Nat)) ∧ ¬ K = w.heap.size ∧
          ∀ q, Calls Try.prog 51 #[.pointer (some ⟨K, 0, none⟩), .int .i32 (F' 0 : Nat), .agg #[.int .i32 (s1.nc : Nat), .int .i32 (F' 1 : Nat)]] ((w4.setCell ⟨K, 1, none⟩ v4).drewN q) fun e w6 => e = .returned (.tuple #[]) ∧ w6.cell? ⟨w.heap.size, 0, none⟩ = some (.int .i32 (F' 0 : Nat)) ∧ w6.cell? ⟨w.heap.size, 1, none⟩ = some (.int .i32 (F' 1 : Nat)) ∧
            Hid (∀ q, Calls Try.prog 51 #[.pointer (some ⟨K, 0, none⟩), .int .i32 (F' 1 : Nat), .agg #[.int .i32 (s1.nc : Nat), .int .i32 (F' 0 : Nat)]] (w6.drewN q) fun e w7 => e = .returned (.tuple #[]) ∧ w7.cell? ⟨K, 8, none⟩ = some (.bool true) ∧ w7.cell? ⟨K, 9, none⟩ = some (.int .i32 0) ∧ Hid (Calls Try.prog 52 #[.pointer (some ⟨K, 0, none⟩), .int .i32 (s1.nc : Nat)] w7 fun e w8 => e = .returned (.tuple #[]) ∧ Hid (Calls Try.prog 53 #[.pointer (some ⟨K, 0, none⟩)] w8 fun e w9 => e = .returned (.tuple #[]) ∧ Hid (∃ L' s', AddOut K M w L s f k w9 L' s')))) := by
        intro h2 w4 F' v4 hLd T
        have hf := (HI.out.form hLd.perm HX.out.2.1 HX.out.2.2.1).1
        have hm := T.mem
        have hLn : (up (up L1 (.cl s1.nc) (.slice (some ⟨w.heap.size, 0, none⟩) k k)) .cls v4) (.cl s1.nc) = .slice (some ⟨w.heap.size, 0, none⟩) k k := (up_other _ (by intro e; cases e)).trans (up_same _ _ _)
        have hln : (s1.newc k F').ln s1.nc = k := if_pos rfl
        have hlt0 : ∀ i, (s1.newc k F').lt s1.nc i = F' i := fun i => if_pos rfl
        have hne : ¬ K = w.heap.size := hm.ne hLn
        have hew := HI.out.base.lens.1
        have hnv1 := HI.out.nv
        have hwn := fun p hp => HI.out.base.wn_le' (p := p) hp
        have rc : ∀ i, i < 2 → (w4.setCell ⟨K, 1, none⟩ v4).cell? ⟨w.heap.size, i, none⟩ = some (.int .i32 (F' i : Nat)) := fun i hi => by
          have := hm.rc hLn (j := i) (show i < (s1.newc k F').ln s1.nc * 1 by rw [hln]; omega)
          rw [this]
          show some (Value.int .i32 ((s1.newc k F').lt s1.nc i)) = _
          rw [hlt0]
        have rc4 : ∀ i, i < 2 → w4.cell? ⟨w.heap.size, i, none⟩ = some (.int .i32 (F' i : Nat)) := fun i hi => by
          rw [← rc i hi]
          refine (World.cell?_setCell_other _ _ _ _ fun e => ?_).symm
          injection e with e1; exact hne e1
        refine ⟨rc4 0 (by omega), rc4 1 (by omega), hne, fun q0 => ?_⟩
        refine (watch_any (a := s1.nc) (o := F' 1) (hm.drewN q0) (p := F' 0) (show F' 0 < s1.ew by have := hf.lt 0 (by omega); omega) (show s1.ew ≤ _ by omega) (show s1.wn _ ≤ _ by have := hwn (F' 0) (hf.lt 0 (by omega)); omega)).mono ?_
        rintro e w6 ⟨rfl, v6, T6⟩
        have hL6 : up (up (up L1 (.cl s1.nc) (.slice (some ⟨w.heap.size, 0, none⟩) k k)) .cls v4) (.wl (F' 0)) v6 (.cl s1.nc) = .slice (some ⟨w.heap.size, 0, none⟩) k k := (up_other _ (by intro e; cases e)).trans hLn
        have rc6 : ∀ i, i < 2 → w6.cell? ⟨w.heap.size, i, none⟩ = some (.int .i32 (F' i : Nat)) := fun i hi => by
          have := T6.mem.rc hL6 (j := i) (show i < (s1.newc k F').ln s1.nc * 1 by rw [hln]; omega)
          rw [this]
          show some (Value.int .i32 ((s1.newc k F').lt s1.nc i)) = _
          rw [hlt0]
        refine ⟨rfl, rc6 0 (by omega), rc6 1 (by omega), Lib.hid fun q => ?_⟩
        have h01 : F' 1 ≠ F' 0 := fun e => by have := hf.ne 1 0 (by omega) (by omega) e; omega
        refine (watch_any (a := s1.nc) (o := F' 0) (T6.mem.drewN q) (p := F' 1) (show F' 1 < s1.ew by have := hf.lt 1 (by omega); omega) (show s1.ew ≤ _ by omega) (show (if F' 1 = F' 0 then s1.wn (F' 0) + 1 else s1.wn (F' 1)) ≤ _ by rw [if_neg h01]; have := hwn (F' 1) (hf.lt 1 (by omega)); omega)).mono ?_
        rintro e w7 ⟨rfl, v7, T7⟩
        have hNC := St.newC_long (HI.out.base.long hf (by omega)) (by omega)
        have hT7 := (((T.drewN q0).trans T6).drewN q).trans T7
        refine ⟨rfl, (T7.mem.c 8 (by omega)).trans (congrArg some (congrArg Value.bool hse)), (T7.mem.c 9 (by omega)).trans (congrArg some (congrArg (fun z : Nat => Value.int .i32 (z : Int)) hbk1)), Lib.hid (HTL.out F' _ w7 _ hLd hNC hT7)⟩
      have HB1 := Lib.hid hB1
      have HB2 := Lib.hid hB2
      have HLS := Lib.hid (And.intro hLs (And.intro hse hLc))
      have HNC := Lib.hid hncq
      have hnc1 : s1.nc + 1 ≤ 100000000 := by omega
      have HB4 := Lib.hid hB4
      clear hB1 hB2 hB3 hB4 hLc hLs hncq hnc hse hnv1'
      have HBK := Lib.hid hbk1
      have HS1 := Lib.hid hs1
      clear hbk1 hs1
      by_cases h2 : k < 2
      · have h2I : (k : Int) < 2 := by omega
        go_wp2_with (first
          | (go_at_call 50; refine HLD.out.mono ?_; rintro e w3 ⟨rfl, F', r1, r2, r3⟩; obtain ⟨b1, T3⟩ := HB1.out w3 F' r1 r2; have HLE := Lib.hid r3; clear r1 r2 r3)
          | (at_builtin; refine wpList_append_own_at _ rfl _ _ 61 rfl 0 75 i75 (.agg #[.slice none 0 0, .bool false]) 2 32 Try.underlying61 hi75 hz75 hs75 hb75 rfl (by decide) (.slice ac s1.nc qc) s1.nc (lst (fOf (up L1 (.cl s1.nc) (.slice (some ⟨w.heap.size, 0, none⟩) k k)) (s1.adp k F') .cls) (s1.nc * 2)) rfl ((HB2.out w3 F' T3.out).1 _ rfl) ⟨_, 0, none⟩ 1 1 [.slice (some ⟨w.heap.size, 0, none⟩) k k, .bool false] rfl rfl (two_at w3 _ rfl rfl) (by intro u hu; simp at hu; rcases hu with rfl | rfl <;> rfl) (by unfold maxLen; omega) (by omega) (Nat.zero_le _) ?_; intro v4 w4 g1 g2 _ g3; obtain ⟨⟨av4, cv4, rfl⟩, d4, T4'⟩ := (HB2.out w3 F' T3.out).2 _ _ _ g1 g2 g3 rfl rfl rfl rfl; have f4 := d4.frozen; have k41 := d4.cell (i := 1) (by omega); have k42 : w4.cell? ⟨K, 2, none⟩ = some (.slice ash s1.ns qs) := (d4.cell (i := 2) (by omega)).trans (congrArg some HLS.out.1); have k48 : w4.cell? ⟨K, 8, none⟩ = some (.bool true) := (d4.cell (i := 8) (by omega)).trans (congrArg some (congrArg Value.bool HLS.out.2.1)); have k49 : w4.cell? ⟨K, 9, none⟩ = some (.int .i32 0) := (d4.cell (i := 9) (by omega)).trans (congrArg some (congrArg (fun z : Nat => Value.int .i32 (z : Int)) HBK.out)); have T4 := Lib.hid T4'; clear d4 g1 g2 g3 T4')
          | (at_builtin; refine wpList_append_own_at _ rfl _ _ 62 rfl 0 48 i48 (.int .i32 0) 1 4 Try.underlying62 hi48 hz48 hs48 hb48 rfl (by decide) (.slice ash s1.ns qs) s1.ns (lst (fOf (up (up L1 (.cl s1.nc) (.slice (some ⟨w.heap.size, 0, none⟩) k k)) .cls (.slice av4 (s1.nc + 1) cv4)) (s1.newc k F') .sho) (s1.ns * 1)) rfl ((HB3.out _ F' _ T4.out).1 _ rfl) ⟨_, 0, none⟩ 1 1 [.int .i32 s1.nc] rfl rfl (one_at (w4.setCell ⟨K, 1, none⟩ (.slice av4 (s1.nc + 1) cv4)) _ rfl (by simp)) (by intro u hu; simp at hu; subst hu; rfl) (by unfold maxLen; omega) (by omega) (Nat.zero_le _) ?_; intro v5 w5 g1 g2 _ g3; obtain ⟨⟨av5, cv5, rfl⟩, d5, T5'⟩ := (HB3.out _ F' _ T4.out).2 _ _ _ g1 g2 g3 rfl rfl rfl rfl; have f5 := d5.frozen; have k52 := d5.cell (i := 2) (by omega); have k58 : w5.cell? ⟨K, 8, none⟩ = some (.bool true) := (d5.cell (i := 8) (by omega)).trans (congrArg some (congrArg Value.bool HLS.out.2.1)); have k59 : w5.cell? ⟨K, 9, none⟩ = some (.int .i32 0) := (d5.cell (i := 9) (by omega)).trans (congrArg some (congrArg (fun z : Nat => Value.int .i32 (z : Int)) HBK.out)); have T5 := Lib.hid T5'; clear d5 g1 g2 g3 T5')
          | (go_at_call 52; refine (HTL.out F' _ _ _ HLE.out (St.newC_short (HI.out.base.short (HFM.out F' HLE.out).1 h2) h2) T5.out).mono ?_; rintro e w8 ⟨rfl, H8⟩)
          | (go_at_call 53; refine H8.out.mono ?_; rintro e w9 ⟨rfl, H9⟩))
        go_ret
        exact ⟨ret_int (by rw [HNC.out]), H9.out⟩
      · have h2I : ¬ (k : Int) < 2 := by omega
        have k0 : (0 : Int) < (k : Int) := by omega
        have k1 : (1 : Int) < (k : Int) := by omega
        go_wp2_with (first
          | (go_at_call 50; refine HLD.out.mono ?_; rintro e w3 ⟨rfl, F', r1, r2, r3⟩; obtain ⟨b1, T3⟩ := HB1.out w3 F' r1 r2; have HLE := Lib.hid r3; clear r1 r2 r3)
          | (at_builtin; refine wpList_append_own_at _ rfl _ _ 61 rfl 0 75 i75 (.agg #[.slice none 0 0, .bool false]) 2 32 Try.underlying61 hi75 hz75 hs75 hb75 rfl (by decide) (.slice ac s1.nc qc) s1.nc (lst (fOf (up L1 (.cl s1.nc) (.slice (some ⟨w.heap.size, 0, none⟩) k k)) (s1.adp k F') .cls) (s1.nc * 2)) rfl ((HB2.out w3 F' T3.out).1 _ rfl) ⟨_, 0, none⟩ 1 1 [.slice (some ⟨w.heap.size, 0, none⟩) k k, .bool false] rfl rfl (two_at w3 _ rfl rfl) (by intro u hu; simp at hu; rcases hu with rfl | rfl <;> rfl) (by unfold maxLen; omega) (by omega) (Nat.zero_le _) ?_; intro v4 w4 g1 g2 _ g3; obtain ⟨⟨av4, cv4, rfl⟩, d4, T4'⟩ := (HB2.out w3 F' T3.out).2 _ _ _ g1 g2 g3 rfl rfl rfl rfl; have f4 := d4.frozen; have k41 := d4.cell (i := 1) (by omega); have k42 : w4.cell? ⟨K, 2, none⟩ = some (.slice ash s1.ns qs) := (d4.cell (i := 2) (by omega)).trans (congrArg some HLS.out.1); have k48 : w4.cell? ⟨K, 8, none⟩ = some (.bool true) := (d4.cell (i := 8) (by omega)).trans (congrArg some (congrArg Value.bool HLS.out.2.1)); have k49 : w4.cell? ⟨K, 9, none⟩ = some (.int .i32 0) := (d4.cell (i := 9) (by omega)).trans (congrArg some (congrArg (fun z : Nat => Value.int .i32 (z : Int)) HBK.out)); have T4 := Lib.hid T4'; obtain ⟨y0, y1, hneK, h51⟩ := HB4.out h2 _ F' _ HLE.out T4'; have H51 := Lib.hid h51; clear d4 g1 g2 g3 T4' h51))
        go_region_with (go_at_call 51; refine (H51.out _).mono ?_; rintro e w6 ⟨rfl, z0, z1, H52⟩)
        all_goals
          go_wp2
          go_region_with (go_at_call 51; refine (H52.out _).mono ?_; rintro e w7 ⟨rfl, x8, x9, HO7⟩)
        all_goals
          go_wp2_with (first
            | (go_at_call 52; refine HO7.out.mono ?_; rintro e w8 ⟨rfl, H8⟩)
            | (go_at_call 53; refine H8.out.mono ?_; rintro e w9 ⟨rfl, H9⟩))
          go_ret
          exact ⟨ret_int (by rw [HNC.out]), H9.out⟩
theorem add_any {K M : Nat} {w : World} {L : Tag → Value} {s : St} (h : Mem w K M L s) (hI : St.Inv s) {a : Option Addr} {n c : Nat} {f : Nat → Int} (hA : Apart w K M L a n f) (hl : ∀ j, j < n → lit (f j) = true) (hne : ∀ i j, i < n → j < n → f i = f j → i = j) (hno : ∀ i j, i < n → j < n → f i ≠ -f j)
    (hn : n ≤ 100000) (hnv : s.nv + n ≤ 100000000) (hnc : s.nc + 1 ≤ 100000000) :
    Calls Try.prog 23 #[.pointer (some ⟨K, 0, none⟩), .slice a n c] w fun e w' => e = .returned (.int .i32 (s.nc : Nat)) ∧ ∃ L' s', AddOut K M w L s f n w' L' s' := by
  cases hst : s.settled
  · exact add_u h hI.base hst hA hl hne hno hn hnv hnc
  · by_cases hb : s.broken = 0
    · exact add_c h hI.base (hI.set hst) hst hb hA hl hne hno hn hnv hnc
    · exact add_b h hI.base (hI.set hst) hst hb hA hl hne hno hn hnv hnc
end Go.Proofs.Ytoffhgiljnagcaa
