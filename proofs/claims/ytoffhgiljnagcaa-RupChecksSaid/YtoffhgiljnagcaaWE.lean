/- Contracts: follow. -/
import Derived.Test.YtoffhgiljnagcaaWD
import Derived.Test.YtoffhgiljnagcaaZa
import Derived.Laws.IdiomCopy
namespace Go.Proofs.Ytoffhgiljnagcaa
open Go.RowKit Go.Lib Go.Maps

/-- A bound on the lists. -/
theorem St.Base.wn_le {s : St} {l k n : Nat} (h : St.Base s (St.lvF l k n)) {p : Nat} (hp : p < 2 * s.nv) (hpl : p ≠ l) : s.wn p ≤ s.nc :=
  pigeon _ _ (s.wa p) (fun i hi => (h.wat.w_ok p i hp hi (.inl hpl)).2.1) fun i j hi hj e => h.wat.w_uni p i j hp hi hj (.inl hpl) (.inl hpl) e
theorem St.Base.wn_le' {s : St} (h : St.Base s St.All) {p : Nat} (hp : p < 2 * s.nv) : s.wn p ≤ s.nc :=
  pigeon _ _ (s.wa p) (fun i hi => (h.wat.w_ok p i hp hi trivial).2.1) fun i j hi hj e => h.wat.w_uni p i j hp hi hj trivial trivial e
theorem St.Base.fit {s : St} {lv : Nat → Nat → Prop} (h : St.Base s lv) (hnv : s.nv ≤ 100000000) : Fit' s := ⟨hnv, h.lens.2.1, h.lens.2.2, h.tra.nt_le⟩
theorem St.Cls.ln_le {s : St} (h : St.Cls s) {a : Nat} (ha : a < s.nc) : s.ln a ≤ 2 * s.nv := pigeon _ _ (s.lt a) (fun i hi => h.c_lt a i ha hi) fun i j hi hj e => h.c_ne a i j ha hi hj e

/-- A clause has each variable once. -/
theorem St.Cls.ln_le' {s : St} (h : St.Cls s) {a : Nat} (ha : a < s.nc) : s.ln a ≤ s.nv := by
  refine pigeon _ _ (fun i => s.lt a i / 2) (fun i hi => by have := h.c_lt a i ha hi; omega) fun i j hi hj e => ?_
  have e' : s.lt a i / 2 = s.lt a j / 2 := e
  have h1 := h.c_nt a i j ha hi hj
  refine h.c_ne a i j ha hi hj ?_
  by_cases h2 : s.lt a i = s.lt a j
  · exact h2
  · exact absurd (by unfold neg; split <;> omega) h1

/-- An entry of a list is written. -/
theorem Mem.stEnt {K M : Nat} {w : World} {L : Tag → Value} {s : St} (h : Mem w K M L s) {l g n c : Nat} (hL : L (.wl l) = .slice (some ⟨g, 0, none⟩) n c) (k a o : Nat) :
    Tn K M w L ((w.setCell ⟨g, k * 2, none⟩ (.int .i32 a)).setCell ⟨g, k * 2 + 1, none⟩ (.int .i32 o)) L (s.kee l k a o) := by
  have T1 : Tn K M w L (w.setCell ⟨g, k * 2, none⟩ (.int .i32 a)) L { s with wa := fun l' j => if l' = l ∧ j = k then a else s.wa l' j } := by
    refine h.cell hL (k * 2) _ _ rfl ⟨rfl, rfl, rfl⟩ ⟨rfl, fun j _ => ?_⟩ fun t ht => ⟨by cases t <;> rfl, fun j hj => ?_⟩
    · show (if j = k * 2 then Value.int .i32 a else if j % 2 = 0 then .int .i32 (s.wa l (j / 2)) else .int .i32 (s.wo l (j / 2))) = if j % 2 = 0 then .int .i32 ((if l = l ∧ j / 2 = k then a else s.wa l (j / 2) : Nat)) else .int .i32 (s.wo l (j / 2))
      by_cases e : j = k * 2
      · rw [if_pos e, if_pos (by omega), if_pos ⟨rfl, by omega⟩]
      · rw [if_neg e]
        by_cases e2 : j % 2 = 0
        · have hne : ¬ (l = l ∧ j / 2 = k) := by omega
          rw [if_pos e2, if_pos e2, if_neg hne]
        · rw [if_neg e2, if_neg e2]
    · clear hj
      cases t
      case wl l' =>
        have hne : ¬ (l' = l ∧ j / 2 = k) := fun e => ht (by rw [e.1])
        show (if j % 2 = 0 then Value.int .i32 (s.wa l' (j / 2)) else .int .i32 (s.wo l' (j / 2))) = if j % 2 = 0 then .int .i32 ((if l' = l ∧ j / 2 = k then a else s.wa l' (j / 2) : Nat)) else .int .i32 (s.wo l' (j / 2))
        rw [if_neg hne]
      all_goals rfl
  refine T1.trans (T1.mem.cell hL (k * 2 + 1) _ _ rfl ⟨rfl, rfl, rfl⟩ ⟨rfl, fun j _ => ?_⟩ fun t ht => ⟨by cases t <;> rfl, fun j hj => ?_⟩)
  · show (if j = k * 2 + 1 then Value.int .i32 o else if j % 2 = 0 then .int .i32 ((if l = l ∧ j / 2 = k then a else s.wa l (j / 2) : Nat)) else .int .i32 (s.wo l (j / 2))) = if j % 2 = 0 then .int .i32 ((if l = l ∧ j / 2 = k then a else s.wa l (j / 2) : Nat)) else .int .i32 ((if l = l ∧ j / 2 = k then o else s.wo l (j / 2) : Nat))
    by_cases e : j = k * 2 + 1
    · rw [if_pos e, if_neg (by omega), if_pos ⟨rfl, by omega⟩]
    · rw [if_neg e]
      by_cases e2 : j % 2 = 0
      · rw [if_pos e2, if_pos e2]
      · have hne : ¬ (l = l ∧ j / 2 = k) := by omega
        rw [if_neg e2, if_neg e2, if_neg hne]
  · clear hj
    cases t
    case wl l' =>
      have hne : ¬ (l' = l ∧ j / 2 = k) := fun e => ht (by rw [e.1])
      show (if j % 2 = 0 then Value.int .i32 ((if l' = l ∧ j / 2 = k then a else s.wa l' (j / 2) : Nat)) else .int .i32 (s.wo l' (j / 2))) = if j % 2 = 0 then .int .i32 ((if l' = l ∧ j / 2 = k then a else s.wa l' (j / 2) : Nat)) else .int .i32 ((if l' = l ∧ j / 2 = k then o else s.wo l' (j / 2) : Nat))
      rw [if_neg hne, if_neg hne]
    all_goals rfl
/-- A block that is none of it stays. -/
theorem Tn.side {K M : Nat} {w w' : World} {L L' : Tag → Value} {s' : St} (h : Tn K M w L w' L' s') {b : Nat} (hb : b < w.heap.size) (hn : ¬ Bl K M L b) :
    (∀ i, w'.cell? ⟨b, i, none⟩ = w.cell? ⟨b, i, none⟩) ∧ (∀ i, w'.frozen? ⟨b, i, none⟩ = w.frozen? ⟨b, i, none⟩) ∧ b < w'.heap.size ∧ ¬ Bl K M L' b := by
  have e := h.fr.block b hb hn
  refine ⟨fun i => World.cell?_of_block (a := ⟨b, i, none⟩) e, fun i => World.frozen?_of_block (a := ⟨b, i, none⟩) e, Nat.lt_of_lt_of_le hb h.fr.size, fun e2 => ?_⟩
  rcases h.gr b e2 with e3 | e3
  · exact hn e3
  · omega
/-- A new block, and a store in it, leave it as it was. -/
theorem Mem.tnNew {K M : Nat} {w : World} {L : Tag → Value} {s : St} (h : Mem w K M L s) {b i : Nat} (hb : ¬ Bl K M L b) (hlt : True) (u : Value) (w0 : World) (L0 : Tag → Value) (h0 : Tn K M w0 L0 w L s) (hn : w0.heap.size ≤ b) : Tn K M w0 L0 (w.setCell ⟨b, i, none⟩ u) L s :=
  ⟨h.aside (p := ⟨b, i, none⟩) hb u, h0.fr.setNew (p := ⟨b, i, none⟩) hn u, h0.gr⟩
theorem RelPre.of {s0 s : St} {so : Nat → Prop} {fr l d k n : Nat} (h : St.FI s0 so fr l d s k n) (hn : n < s.wn l) (hnv : s.nv ≤ 100000000) (hnc : s.nc ≤ 100000000) (hg : s.gone (s.wa l n) = false) : RelPre s (s.wa l n) l := by
  obtain ⟨w1, w2, w3, w4⟩ := h.base.wat.w_ok l n h.hl hn (.inr (.inr (Nat.le_refl _)))
  obtain ⟨w5, w6, w7⟩ := w4 hg
  exact ⟨h.base.fit hnv, h.base.lens.1, w2, hnc, hg, w5, Nat.le_trans (St.Cls.ln_le' h.base.cls w2) hnv, fun i hi => h.base.cls.c_lt _ i w2 hi, w6, fun p hp hpl => Nat.le_trans (h.base.wn_le hp hpl) hnc, fun i j hi hj e => h.base.cls.c_ne _ i j w2 hi hj e⟩
/-- release let go. -/
theorem rel_true {s s1 s2 : St} {so : Nat → Prop} {fr l d k n : Nat} (h : St.FI s so fr l d s1 k n) (hn : n < s1.wn l) (hg : s1.gone (s1.wa l n) = false) (hp : RelPost s1 (s1.wa l n) l true s2) : St.FI s so fr l d s2 k (n + 1) ∧ s2.wn l = s1.wn l := by
  obtain ⟨w1, w2, w3, w4⟩ := h.base.wat.w_ok l n h.hl hn (.inr (.inr (Nat.le_refl _)))
  have hl2 := (w4 hg).1
  rcases hp with ⟨e, _, _⟩ | ⟨_, s3, ho, h1, ⟨e, _⟩ | ⟨_, i, hi2, hi, hv, rfl⟩⟩
  · rw [hg] at e; cases e
  · cases e
  · have h3 : St.FI s so fr l d s3 k n := by
      rcases ho with rfl | rfl
      · exact h
      · exact h.swp hl2
    have ew : s3.wa l n = s1.wa l n := by rcases ho with rfl | rfl <;> rfl
    have en : s3.wn l = s1.wn l := by rcases ho with rfl | rfl <;> rfl
    have eg : s3.gone = s1.gone := by rcases ho with rfl | rfl <;> rfl
    have el : s3.ln = s1.ln := by rcases ho with rfl | rfl <;> rfl
    have ev : s3.val = s1.val := by rcases ho with rfl | rfl <;> rfl
    rw [← ew] at hi hv h1 ⊢
    have := h3.move (i := i) (by rw [en]; exact hn) (by rw [eg, ew]; exact hg) h1 (by rw [el]; exact hi) hi2 (by rw [ev]; exact hv)
    refine ⟨this, ?_⟩
    have hml : l ≠ s3.lt (s3.wa l n) i := fun e => by
      have := h3.base.cls.c_ne (s3.wa l n) 1 i (by rw [ew, h3.ext.nc, ← h.ext.nc]; exact w2) (by rw [el, ew]; omega) (by rw [el]; exact hi) (h1.trans e)
      omega
    show (if l = s3.lt (s3.wa l n) i then _ else s3.wn l) = _
    rw [if_neg hml, en]
/-- release kept. -/
theorem rel_false {s s1 s2 : St} {so : Nat → Prop} {fr l d k n : Nat} (h : St.FI s so fr l d s1 k n) (hn : n < s1.wn l) (hg : s1.gone (s1.wa l n) = false) (hp : RelPost s1 (s1.wa l n) l false s2) :
    St.FI s so fr l d s2 k n ∧ s2.wn = s1.wn ∧ s2.wa = s1.wa ∧ s2.gone = s1.gone ∧ s2.ln = s1.ln ∧ s2.lt (s1.wa l n) 1 = l ∧ (s2.val (s2.lt (s1.wa l n) 0) = 1 ∨ ∀ i, 2 ≤ i → i < s2.ln (s1.wa l n) → s2.val (s2.lt (s1.wa l n) i) = -1) := by
  obtain ⟨w1, w2, w3, w4⟩ := h.base.wat.w_ok l n h.hl hn (.inr (.inr (Nat.le_refl _)))
  have hl2 := (w4 hg).1
  rcases hp with ⟨_, e, _⟩ | ⟨_, s3, ho, h1, ⟨_, rfl, hv⟩ | ⟨e, _⟩⟩
  · cases e
  · rcases ho with rfl | rfl
    · exact ⟨h, rfl, rfl, rfl, rfl, h1, hv⟩
    · exact ⟨h.swp hl2, rfl, rfl, rfl, rfl, h1, hv⟩
  · cases e
/-- What demand does then. -/
theorem rel_keep {s s2 : St} {so : Nat → Prop} {fr l d k n a : Nat} (h : St.FI s so fr l d s2 k n) (hn : n < s2.wn l) (ha : s2.wa l n = a) (hg : s2.gone a = false) (h1 : s2.lt a 1 = l)
    (hv : s2.val (s2.lt a 0) = 1 ∨ ∀ i, 2 ≤ i → i < s2.ln a → s2.val (s2.lt a i) = -1) :
    s2.lt a 0 < 2 * s2.nv ∧ 1 ≤ a ∧ a < s2.nc ∧ 2 ≤ s2.ln a ∧ (s2.val (s2.lt a 0) = 1 → St.FI s so fr l d (s2.kee l k a (s2.lt a 0)) (k + 1) (n + 1)) ∧ (s2.val (s2.lt a 0) = 0 → St.FI s so fr l d ((s2.put (s2.lt a 0) a).kee l k a (s2.lt a 0)) (k + 1) (n + 1)) ∧
    (s2.val (s2.lt a 0) = -1 → St.FIw s so fr l (s2.kee l k a (s2.lt a 0)) (k + 1) (n + 1) ∧ St.Dead (s2.kee l k a (s2.lt a 0)) a) := by
  subst ha
  obtain ⟨w1, w2, w3, w4⟩ := h.base.wat.w_ok l n h.hl hn (.inr (.inr (Nat.le_refl _)))
  obtain ⟨w5, w6, w7⟩ := w4 hg
  have hp : s2.lt (s2.wa l n) 0 < 2 * s2.nv := h.base.cls.c_lt _ 0 w2 (by omega)
  have hL : s2.Lit (s2.wa l n) (s2.lt (s2.wa l n) 0) := ⟨0, by omega, rfl⟩
  have hoth : s2.val (s2.lt (s2.wa l n) 0) ≠ 1 → ∀ q, s2.Lit (s2.wa l n) q → q ≠ s2.lt (s2.wa l n) 0 → q < 2 * s2.nv ∧ s2.val q = -1 := by
    rintro hne q ⟨i, hi, rfl⟩ hq
    refine ⟨h.base.cls.c_lt _ i w2 hi, ?_⟩
    have hv2 := hv.resolve_left hne
    rcases Nat.lt_or_ge i 2 with h3 | h3
    · have : i ≠ 0 := fun e => hq (by rw [e])
      obtain rfl : i = 1 := by omega
      rw [h1]; exact h.vl
    · exact hv2 i h3 hi
  refine ⟨hp, w1, w2, w5, fun e => ?_, fun e => ?_, fun e => ⟨?_, ⟨⟨w1, w2, hg⟩, ?_⟩⟩⟩
  · exact h.keep hn hp (fun _ => hL) (fun _ => h.base.tra.sat hp hL e)
  · have h2 := h.put hp e (r := s2.wa l n) ⟨⟨w1, w2, hg⟩, hL, hoth (by omega)⟩
    exact h2.keep hn hp (fun _ => hL) (fun _ => ⟨s2.nt, Nat.lt_succ_self _, by
      show s2.Lit (s2.wa l n) (if s2.nt = s2.nt then s2.lt (s2.wa l n) 0 else s2.tr s2.nt)
      rw [if_pos rfl]; exact hL⟩)
  · exact h.toFIw.keep hn hp (fun _ => hL)
  · intro q hq
    by_cases e2 : q = s2.lt (s2.wa l n) 0
    · rw [e2]; exact e
    · exact (hoth (by omega) q hq e2).2
theorem Fr.setCells {B : Nat → Prop} {b : Nat} (hb : B b) : ∀ (vs : List Value) (o : Nat) {a w : World}, Fr B a w → Fr B a (w.setCells b o vs)
  | [], _, _, _, h => h
  | v :: vs, o, _, _, h => Fr.setCells hb vs (o + 1) (h.set (p := ⟨b, o, none⟩) hb v)
theorem rowIs_setCells {b : Nat} {t : TypeId} {N : Nat} : ∀ (vs : List Value) (o : Nat) (w : World) (F : Nat → Value), w.rowIs b t N F → (w.setCells b o vs).rowIs b t N (fun j => if o ≤ j ∧ j < o + vs.length then (vs[j - o]?).getD (F j) else F j)
  | [], o, w, F, h => h.congr fun j _ => by rw [if_neg (by simp)]
  | v :: vs, o, w, F, h => by
    have h1 := rowIs_setCells vs (o + 1) _ _ (h.set o v)
    refine h1.congr fun j _ => ?_
    by_cases h2 : j = o
    · subst h2
      rw [if_neg (by omega), if_pos rfl, if_pos (by simp)]; simp
    · by_cases h3 : o + 1 ≤ j ∧ j < o + 1 + vs.length
      · have h5 : o ≤ j ∧ j < o + (v :: vs).length := by rw [List.length_cons]; omega
        rw [if_pos h3, if_neg h2, if_pos h5, show j - o = (j - (o + 1)) + 1 by omega, List.getElem?_cons_succ]
      · have h5 : ¬ (o ≤ j ∧ j < o + (v :: vs).length) := by rw [List.length_cons]; omega
        rw [if_neg h3, if_neg h2, if_neg h5]
/-- What is left of a list of watches. -/
def lefts (L : Tag → Value) (s : St) (l n : Nat) : List Value := (List.range ((s.wn l - n) * 2)).map fun j => fOf L s (.wl l) (n * 2 + j)
theorem lefts_len (L : Tag → Value) (s : St) (l n : Nat) : (lefts L s l n).length = (s.wn l - n) * 2 := by simp [lefts]
/-- A list of watches closes up. -/
theorem Mem.compact {K M : Nat} {w : World} {L : Tag → Value} {s : St} (h : Mem w K M L s) {l g c gw n' cw k n : Nat} (hL : L (.wl l) = .slice (some ⟨g, 0, none⟩) (s.wn l) c) (hW : L .wts = .slice (some ⟨gw, 0, none⟩) n' cw) (hkn : k ≤ n) (hn : n ≤ s.wn l) (hl : l < s.ew) :
    Tn K M w L ((w.setCells g (0 + k * 2) (lefts L s l n)).setCell ⟨gw, l, none⟩ (.slice (some ⟨g, 0, none⟩) (k + (s.wn l - n)) c)) (up L (.wl l) (.slice (some ⟨g, 0, none⟩) (k + (s.wn l - n)) c)) (s.cpt l k n) := by
  have hgw : (L .wts).ownBlock = some gw := by rw [hW]; rfl
  have hgg : (L (.wl l)).ownBlock = some g := by rw [hL]; rfl
  have hgne : g ≠ gw := h.ne2 hL hW (fun e => by cases e)
  have hf1 : Fr (fun b => b = g) w (w.setCells g (0 + k * 2) (lefts L s l n)) := Fr.setCells (B := fun b => b = g) rfl _ _ (.refl _ _)
  have hf : Fr (fun b => b = gw ∨ b = g) w ((w.setCells g (0 + k * 2) (lefts L s l n)).setCell ⟨gw, l, none⟩ (.slice (some ⟨g, 0, none⟩) (k + (s.wn l - n)) c)) := (hf1.weak fun k _ e => .inr e).set (p := ⟨gw, l, none⟩) (.inl rfl) _
  refine h.turn (.wl l) _ _ hf ?_ ?_ ?_ ?_ ?_ ?_ ?_ ?_
  · intro t ht b hb e
    rcases e with e | e
    · have htw := h.dj t .wts b hb (e ▸ hgw)
      subst htw
      have h1 : Sl (w.setCells g (0 + k * 2) (lefts L s l n)) 97 1 (L .wts) s.ew (fOf L s .wts) := (h.row .wts).of_block fun b hb => hf1.block b ((h.row .wts).lt hb) (fun e => by subst e; exact absurd (h.dj _ _ _ hgg hb) (fun e => by cases e))
      rw [hW] at h1
      show Sl _ 97 1 (L .wts) s.ew _
      rw [hW]
      refine (h1.set l _).congr fun j hj => ?_
      show (if j = l then _ else L (.wl j)) = (if Tag.wl j = Tag.wl l then _ else L (.wl j))
      by_cases e : j = l
      · rw [if_pos e, if_pos (by rw [e])]
      · rw [if_neg e, if_neg (fun e2 => e (by cases e2; rfl))]
    · exact absurd (h.dj t _ b hb (e ▸ hgg)) ht
  · refine (hf.rowIs h.hd ?_).congr ?_
    · rintro (e | e)
      · exact h.kb .wts (e ▸ hgw)
      · exact h.kb (.wl l) (e ▸ hgg)
    · intro j hj
      match j, hj with
      | 0, _ | 1, _ | 2, _ | 3, _ | 4, _ | 5, _ | 6, _ | 7, _ | 8, _ | 9, _ => rfl
  · obtain ⟨D, hD, hN⟩ := h.mp
    exact ⟨D, ownsMap_of_block hD (hf.block _ hD.lt (fun e => e.elim (fun e => h.mb .wts (e ▸ hgw)) (fun e => h.mb (.wl l) (e ▸ hgg)))), hN⟩
  · have hrow := h.row (.wl l)
    rw [hL] at hrow
    rcases hrow with ⟨e, _⟩ | ⟨g', c', F, e, h2, h3, h4, h5⟩
    · cases e
    · cases e
      have h2' : s.wn l ≤ c := h2
      have h5' : ∀ j, j < s.wn l * 2 → F j = fOf L s (.wl l) j := h5
      have h4' : w.rowIs g 78 (c * 2) F := h4
      have hnn : nOf (s.cpt l k n) (.wl l) = k + (s.wn l - n) := if_pos rfl
      rw [hnn]
      refine .inr ⟨g, c, _, rfl, by omega, h3, (rowIs_setCells _ _ _ _ h4').of_block (Below.heap_setCell _ _ _ _ hgne), fun j hj => ?_⟩
      have hj' : j < (k + (s.wn l - n)) * 2 := hj
      rw [Nat.add_mul] at hj'
      show (if 0 + k * 2 ≤ j ∧ j < 0 + k * 2 + (lefts L s l n).length then ((lefts L s l n)[j - (0 + k * 2)]?).getD (F j) else F j) = if j % 2 = 0 then .int .i32 ((if l = l ∧ k ≤ j / 2 then s.wa l (j / 2 - k + n) else s.wa l (j / 2) : Nat)) else .int .i32 ((if l = l ∧ k ≤ j / 2 then s.wo l (j / 2 - k + n) else s.wo l (j / 2) : Nat))
      rw [lefts_len]
      by_cases h6 : k * 2 ≤ j
      · have hk : l = l ∧ k ≤ j / 2 := by omega
        rw [if_pos (by omega), if_pos hk, if_pos hk]
        have h7 : (lefts L s l n)[j - (0 + k * 2)]? = some (fOf L s (.wl l) (n * 2 + (j - (0 + k * 2)))) := by
          unfold lefts
          rw [List.getElem?_map, List.getElem?_range (by omega)]; rfl
        rw [h7]
        show (if (n * 2 + (j - (0 + k * 2))) % 2 = 0 then Value.int .i32 (s.wa l ((n * 2 + (j - (0 + k * 2))) / 2)) else .int .i32 (s.wo l ((n * 2 + (j - (0 + k * 2))) / 2))) = _
        rw [show (n * 2 + (j - (0 + k * 2))) / 2 = j / 2 - k + n by omega, show (n * 2 + (j - (0 + k * 2))) % 2 = j % 2 by omega]
      · have hk : ¬ (l = l ∧ k ≤ j / 2) := by omega
        rw [if_neg (by omega), if_neg hk, if_neg hk, h5' j (by omega)]
        rfl
  · intro t ht hB
    by_cases etw : t = .wts
    · exact absurd (.inl rfl) (hB gw (etw ▸ hgw))
    clear hB
    refine ⟨?_, fun j hj => ?_⟩
    · cases t
      case wl l' => exact if_neg (fun e => ht (by rw [e]))
      all_goals rfl
    · clear hj
      cases t
      case wl l' =>
        have hl : l' ≠ l := fun e => ht (by rw [e])
        have hne : ¬ (l' = l ∧ k ≤ j / 2) := fun e => hl e.1
        show (if j % 2 = 0 then Value.int .i32 (s.wa l' (j / 2)) else .int .i32 (s.wo l' (j / 2))) = (if j % 2 = 0 then Value.int .i32 ((if l' = l ∧ k ≤ j / 2 then s.wa l (j / 2 - k + n) else s.wa l' (j / 2) : Nat)) else .int .i32 ((if l' = l ∧ k ≤ j / 2 then s.wo l (j / 2 - k + n) else s.wo l' (j / 2) : Nat)))
        rw [if_neg hne, if_neg hne]
      case wts => exact absurd rfl etw
      all_goals rfl
  · intro b hb; cases hb; exact .inl hgg
  · intro l' hl'
    have hl'' : s.ew ≤ l' := hl'
    rw [up_other _ (fun e => by cases e; omega)]
    exact h.farw l' hl''
  · rintro b (e | e) _
    · exact .inr (.inr ⟨.wts, e ▸ hgw⟩)
    · exact .inr (.inr ⟨.wl l, e ▸ hgg⟩)
theorem St.cpt_zero (s : St) (l : Nat) : s.cpt l 0 0 = s := by
  have e1 : (fun l' => if l' = l then 0 + (s.wn l - 0) else s.wn l') = s.wn := by
    funext l'; split
    · next e => subst e; omega
    · rfl
  have e2 : (fun l' j => if l' = l ∧ 0 ≤ j then s.wa l (j - 0 + 0) else s.wa l' j) = s.wa := by
    funext l' j; split
    · next e => obtain ⟨rfl, _⟩ := e; rfl
    · rfl
  have e3 : (fun l' j => if l' = l ∧ 0 ≤ j then s.wo l (j - 0 + 0) else s.wo l' j) = s.wo := by
    funext l' j; split
    · next e => obtain ⟨rfl, _⟩ := e; rfl
    · rfl
  show s.lists _ _ _ = s
  rw [e1, e2, e3]; rfl
theorem drew_setCells (b : Nat) : ∀ (vs : List Value) (o : Nat) (w : World), w.drew.setCells b o vs = (w.setCells b o vs).drew
  | [], _, _ => rfl
  | v :: vs, o, w => drew_setCells b vs (o + 1) (w.setCell ⟨b, o, none⟩ v)
theorem step_append_room_w {P : Program} {ops : Array Oper} {o : Oper} {a : Act} {w : World} {K : Act → World → Prop} {Q : Exit → Act → World → Prop} {E : Prop}
    (hg : o.guard = none) (s x : Operand) (t : TypeId) (hop : o.op = Op.call { callee := Callee.builtin Builtin.append, args := #[s, x], argTypes := #[t, t] })
    (e : TypeId) (i : TypeInfo) (size : Nat) (h1 : P.underlying t = some (.slice e)) (h2 : P.info? e = some i) (h4 : i.size = size)
    (b off n cap : Nat) (hs : a.eval s = .slice (some ⟨b, off, none⟩) n cap)
    (ad : Addr) (m c : Nat) (news : List Value) (hx : a.eval x = .slice (some ad) m c) (hn : news.length = m * size) (hc : ∀ j u, news[j]? = some u → w.cell? (ad.add j) = some u) (h1c : ∀ u ∈ news, u.oneCell' = true)
    (hroom : n + m ≤ cap) (hspare : ∀ j, j < news.length → (w.cell? ⟨b, off + n * size + j, none⟩).isSome = true ∧ w.frozen? ⟨b, off + n * size + j, none⟩ = false)
    (hK : ∀ W, W = w.setCells b (off + n * size) news → K (a.put o.dst (.slice (some ⟨b, off, none⟩) (n + m) cap)) W) :
    if Region.wanted o (yielded ops a.tmps) = true then Oper.wp P o a w K Q else E :=
  step_append_room hg s x t hop e i size h1 h2 h4 b off n cap hs ad m c news hx hn hc h1c hroom hspare (hK _ rfl)
end Go.Proofs.Ytoffhgiljnagcaa
