/- The maker in memory; Vars, needed, literal. -/
import Derived.Test.YtpniffcojmlboaaCA
import Derived.Test.YtpniffcojmlboaaMA
namespace Go.Proofs.Ytpniffcojmlboaa
open Go.RowKit Go.Lib Go.Maps
set_option maxRecDepth 100000

/-- What the map tells. -/
structure NV (V : List Nat) (D : DataW Unit) : Prop where
  size : Maps.size D = V.length
  has : ∀ k : Nat, Maps.has D (.int .i64 k) = decide (k ∈ V)
  get : ∀ k : Nat, D.atKey (.int .i64 k) (.lit (.int .i64 0)) = .lit (.int .i64 (vr V k : Nat))
def VMap (w : World) (M : Nat) (V : List Nat) : Prop := ∃ D, w.ownsMap (H := Unit) Try.prog 3 (plainElem Try.prog 3) M V.length D ∧ NV V D
variable {w w' : World} {K G Mv : Nat} {fv : Value} {hs : Nat → Value} {V : List Nat} {ls : List (List Int)}
theorem VMap.of_block {M : Nat} (h : VMap w M V) (hb : w'.heap[M]? = w.heap[M]?) : VMap w' M V := by
  obtain ⟨D, ⟨es, clock, h1, h2⟩, h3⟩ := h
  exact ⟨D, ⟨es, clock, hb.trans h1, h2⟩, h3⟩
theorem VMap.lt {M : Nat} (h : VMap w M V) : M < w.heap.size := by
  obtain ⟨D, h1, _⟩ := h
  exact h1.lt
theorem VMap.look {M : Nat} (h : VMap w M V) {k : Nat} (hk : k ≤ 1000000) : ∀ W : World, W.heap = w.heap → (Instr.lookup 63 (.map (some M)) (.int .i64 (k : Nat)) false).run Try.prog W = .ok (.int .i64 (vr V k : Nat)) W := fun W e => by
  obtain ⟨D, h1, h2⟩ := h
  have h1' : W.ownsMap (H := Unit) Try.prog 3 (plainElem Try.prog 3) M V.length D := by
    obtain ⟨es, clock, hb, r⟩ := h1
    exact ⟨es, clock, (by rw [e]; exact hb), r⟩
  obtain ⟨c, hrun, hat, _⟩ := h1'.lookup_int (int_keyed Try.underlying3) Try.underlying63 Try.underlying3 (zero3 W) (keyOf_int_mk Try.underlying3 (wf_nat hk))
  rw [h2.get k] at hat
  obtain rfl : ((vr V k : Nat) : Int) = c := by injection hat with e2; injection e2
  exact hrun
theorem VMap.store {M : Nat} (h : VMap w M V) (hl : V.length ≤ 900000) {k : Nat} (hk : k ≤ 1000000) (hn : k ∉ V) :
    ∃ w', (Instr.mapUpdate 63 (.map (some M)) (.int .i64 (k : Nat)) (.int .i64 ((V.length : Nat) + 1 : Int))).run Try.prog w = .ok () w' ∧ VMap w' M (V ++ [k]) ∧ w.grownBy w' (some M) := by
  obtain ⟨D, h1, h2⟩ := h
  have hw : (Lit.int .i64 ((V.length : Nat) + 1 : Int)).wf = true := wf_nat (a := V.length + 1) (by omega)
  have hkl : WideAt.IsKeyLit (.int .i64 (k : Nat)) := by trivial
  have hT := h1.tidy (int_keyed Try.underlying3)
  obtain ⟨w', hrun, g1, g2⟩ := h1.update (int_keyed Try.underlying3) Try.underlying63 (by unfold maxLen; omega) (keyOf_int_mk Try.underlying3 (wf_nat hk)) (plainElem_int Try.underlying3 hw)
  refine ⟨w', hrun, ⟨_, by simpa using g1, ⟨?_, fun j => ?_, fun j => ?_⟩⟩, g2⟩
  · rw [size_put hT, h2.has, h2.size]; simp [hn]
  · by_cases e : j = k
    · subst e; rw [has_put_same hT.isMap hkl]; simp
    · rw [has_put_other (fun k' => e (Int.ofNat_inj.1 (Lit.int.inj k').2)), h2.has]
      simp [e]
  · by_cases e : j = k
    · subst e; rw [atKey_put_same hT.isMap hkl, vr_new hn]; rfl
    · rw [atKey_put_other (fun k' => e (Int.ofNat_inj.1 (Lit.int.inj k').2)), h2.get, vr_other e]
/-- A row of numbers. -/
def Row (w : World) (v : Value) (l : List Int) : Prop := ∃ b, v = .slice (some ⟨b, 0, none⟩) l.length l.length ∧ b < w.heap.size ∧ ∀ i (h : i < l.length), w.cell? ⟨b, i, none⟩ = some (.int .i64 l[i])
theorem Row.of_block {v : Value} {l : List Int} (h : Row w v l) (hz : w.heap.size ≤ w'.heap.size) (hb : ∀ b, v.ownBlock = some b → w'.heap[b]? = w.heap[b]?) : Row w' v l := by
  obtain ⟨b, rfl, h1, h2⟩ := h
  exact ⟨b, rfl, Nat.lt_of_lt_of_le h1 hz, fun i hi => by rw [← h2 i hi]; exact World.cell?_of_block (hb b rfl)⟩
theorem Row.lt {v : Value} {l : List Int} (h : Row w v l) {b : Nat} (hb : v.ownBlock = some b) : b < w.heap.size := by
  obtain ⟨g, rfl, h1, _⟩ := h
  cases hb; exact h1
def hdC (G Mv : Nat) (fv : Value) (j : Nat) : Value := if j = 0 then .pointer (some ⟨G, 0, none⟩) else if j = 1 then .map (some Mv) else fv
/-- The maker's own blocks. -/
def Bc (K Mv : Nat) (fv : Value) (b : Nat) : Prop := b = K ∨ b = Mv ∨ fv.ownBlock = some b
/-- .. with the rows that weren't taken. -/
def Oc (K Mv : Nat) (fv : Value) (n : Nat) (hs : Nat → Value) (b : Nat) : Prop := Bc K Mv fv b ∨ ∃ j, j < n ∧ (hs j).ownBlock = some b
structure Cm (w : World) (K G Mv : Nat) (fv : Value) (hs : Nat → Value) (V : List Nat) (ls : List (List Int)) : Prop where
  hd : w.rowIs K 65 3 (hdC G Mv fv)
  mp : VMap w Mv V
  sl : Sl w 26 1 fv ls.length hs
  row : ∀ j (h : j < ls.length), Row w (hs j) ls[j]
  out : ∀ j, j < ls.length → ∀ b, (hs j).ownBlock = some b → ¬ Bc K Mv fv b
  n1 : fv.ownBlock ≠ some K
  n2 : Mv ≠ K
  n3 : fv.ownBlock ≠ some Mv
theorem Cm.lt (h : Cm w K G Mv fv hs V ls) {b : Nat} (hb : Oc K Mv fv ls.length hs b) : b < w.heap.size := by
  rcases hb with (rfl | rfl | hb) | ⟨j, hj, hb⟩
  · exact h.hd.lt
  · exact h.mp.lt
  · exact h.sl.lt hb
  · exact (h.row j hj).lt hb
theorem Cm.of_block (h : Cm w K G Mv fv hs V ls) (hz : w.heap.size ≤ w'.heap.size) (hb : ∀ b, Oc K Mv fv ls.length hs b → w'.heap[b]? = w.heap[b]?) : Cm w' K G Mv fv hs V ls :=
  ⟨h.hd.of_block (hb K (.inl (.inl rfl))), h.mp.of_block (hb Mv (.inl (.inr (.inl rfl)))), h.sl.of_block fun b e => hb b (.inl (.inr (.inr e))), fun j hj => (h.row j hj).of_block hz fun b e => hb b (.inr ⟨j, hj, e⟩), h.out, h.n1, h.n2, h.n3⟩
theorem Cm.below (h : Cm w K G Mv fv hs V ls) (hb : Below w.heap.size w w') : Cm w' K G Mv fv hs V ls := h.of_block hb.size fun b e => hb.block b (h.lt e)
theorem Cm.c0 (h : Cm w K G Mv fv hs V ls) : w.cell? ⟨K, 0, none⟩ = some (.pointer (some ⟨G, 0, none⟩)) := h.hd.cell (i := 0) (by omega)
theorem Cm.c1 (h : Cm w K G Mv fv hs V ls) : w.cell? ⟨K, 1, none⟩ = some (.map (some Mv)) := h.hd.cell (i := 1) (by omega)
theorem Cm.c2 (h : Cm w K G Mv fv hs V ls) : w.cell? ⟨K, 2, none⟩ = some fv := h.hd.cell (i := 2) (by omega)
/-- From one to the next. -/
structure CmT (K G Mv : Nat) (w : World) (fv : Value) (hs : Nat → Value) (n : Nat) (w' : World) (fv' : Value) (hs' : Nat → Value) (V : List Nat) (ls : List (List Int)) : Prop where
  cm : Cm w' K G Mv fv' hs' V ls
  fr : Fr (Oc K Mv fv n hs) w w'
  own : ∀ b, Oc K Mv fv' ls.length hs' b → Oc K Mv fv n hs b ∨ w.heap.size ≤ b
theorem Cm.refl (h : Cm w K G Mv fv hs V ls) : CmT K G Mv w fv hs ls.length w fv hs V ls := ⟨h, Fr.refl _ _, fun _ e => .inl e⟩
theorem CmT.trans {w1 w2 : World} {fv1 fv2 : Value} {hs1 hs2 : Nat → Value} {V1 V2 : List Nat} {n : Nat} {ls1 ls2 : List (List Int)} (h : CmT K G Mv w fv hs n w1 fv1 hs1 V1 ls1) (k : CmT K G Mv w1 fv1 hs1 ls1.length w2 fv2 hs2 V2 ls2) : CmT K G Mv w fv hs n w2 fv2 hs2 V2 ls2 :=
  ⟨k.cm, h.fr.then k.fr fun b e => h.own b e, fun b e => (k.own b e).elim (h.own b) fun e => .inr (Nat.le_trans h.fr.size e)⟩
theorem CmT.below {w1 w2 : World} {fv1 : Value} {hs1 : Nat → Value} {V1 : List Nat} {n : Nat} {ls1 : List (List Int)} (h : CmT K G Mv w fv hs n w1 fv1 hs1 V1 ls1) (k : Below w1.heap.size w1 w2) : CmT K G Mv w fv hs n w2 fv1 hs1 V1 ls1 :=
  h.trans ⟨h.cm.below k, .of_below k, fun _ e => .inl e⟩
/-- Vars -/
theorem vars_any (h : Cm w K G Mv fv hs V ls) : Calls Try.prog 13 #[.pointer (some ⟨K, 0, none⟩)] w fun e w' => e = .returned (.int .i64 (V.length : Nat)) ∧ w = w' := by
  have c1 := h.c1
  obtain ⟨D, hD, hN⟩ := h.mp
  have HD := Lib.hid hD
  have hsz := hN.size
  clear h hD hN
  go_enter Try.func13, Try.ntmps13
  go_wp2_with (at_len; refine wpList_len_own _ rfl _ 63 rfl 3 3 Try.underlying63 _ Mv V.length D rfl HD.out ?_; rw [hsz])
  go_ret
  exact ⟨rfl, rfl⟩
/-- needed -/
theorem needed_any (h : Cm w K G Mv fv hs V ls) (n : Nat) (hn : n ≤ 1000000) : Calls Try.prog 40 #[.pointer (some ⟨K, 0, none⟩), .int .i64 n] w fun e w' => e = .returned (.bool (decide (n ∈ V))) ∧ w = w' := by
  have c1 := h.c1
  have hrun := h.mp.look hn w rfl
  have hp : decide (0 < vr V n) = decide (n ∈ V) := by
    rw [decide_eq_decide, ← vr_pos]
  clear h
  go_enter Try.func40, Try.ntmps40
  go_wp2
  go_ret
  exact ⟨rfl, rfl⟩
/-- literal -/
theorem literal_any (h : Cm w K G Mv fv hs V ls) (hV : V.length ≤ 1000000) (e : Nat) (he : e ≤ 1000000) : Calls Try.prog 32 #[.pointer (some ⟨K, 0, none⟩), .int .i64 e] w fun r w' => r = .returned (.int .i64 (lit V e)) ∧ w = w' := by
  have c1 := h.c1
  have hrun := h.mp.look (k := e / 2) (by omega) w rfl
  have hd : ((e : Int)).tdiv 2 = ((e / 2 : Nat) : Int) := by rw [Int.tdiv_eq_ediv_of_nonneg (by omega)]; omega
  have hd2 : ((e : Int)) / 2 = ((e / 2 : Nat) : Int) := by omega
  have hv := vr_le V (e / 2)
  have hl : lit V e = if e % 2 = 1 then -((vr V (e / 2) : Nat) : Int) else ((vr V (e / 2) : Nat) : Int) := rfl
  rw [hl]
  clear h hl
  generalize hq : vr V (e / 2) = q at *
  generalize hu : e / 2 = u at *
  by_cases h1 : e % 2 = 1
  · have hm : ((e : Int)).tmod 2 = 1 := by rw [Int.tmod_eq_emod_of_nonneg (by omega)]; omega
    have hm2 : ((e : Int)) % 2 = 1 := by omega
    rw [if_pos h1]
    have hng : IntKind.i64.wrap (-(q : Int)) = -(q : Int) := IntWalk.i64_in _ (by omega)
    go_enter Try.func32, Try.ntmps32
    go_wp2
    go_ret
    exact ⟨rfl, rfl⟩
  · have hm : ¬ ((e : Int)).tmod 2 = 1 := by rw [Int.tmod_eq_emod_of_nonneg (by omega)]; omega
    have hm2 : ¬ ((e : Int)) % 2 = 1 := by omega
    rw [if_neg h1]
    go_enter Try.func32, Try.ntmps32
    go_wp2
    go_ret
    exact ⟨rfl, rfl⟩
end Go.Proofs.Ytpniffcojmlboaa
