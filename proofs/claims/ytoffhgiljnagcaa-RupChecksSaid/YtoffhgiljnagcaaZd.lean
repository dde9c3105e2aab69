/- Joined: UC, UD, UE. -/
import Derived.Test.YtoffhgiljnagcaaWO
import Derived.BigQuiet
import Derived.Test.YtoffhgiljnagcaaQE
import Derived.Maps.OwnSet
/- Contracts: remove. -/
namespace Go.Proofs.Ytoffhgiljnagcaa
open Go.RowKit Go.Lib Go.Maps
namespace St
/-- Clause a goes. -/
def rem (s : St) (a : Nat) : St := { s with gone := fun b => if b = a then true else s.gone b, ln := fun b => if b = a then 0 else s.ln b }
variable {s : St} {a : Nat}
theorem rem_is (b : Nat) : (s.rem a).Is b ↔ b ≠ a ∧ s.Is b := by
  unfold Is
  show (1 ≤ b ∧ b < s.nc ∧ (if b = a then true else s.gone b) = false) ↔ _
  by_cases e : b = a
  · simp [e]
  · rw [if_neg e]; simp [e]
theorem rem_ln {b : Nat} (h : b ≠ a) : (s.rem a).ln b = s.ln b := if_neg h
theorem rem_lit {b : Nat} (h : b ≠ a) (p : Nat) : (s.rem a).Lit b p ↔ s.Lit b p := by
  unfold Lit; rw [rem_ln h]; exact Iff.rfl
theorem rem_at (b : Nat) (c : List Int) : (s.rem a).At b c ↔ b ≠ a ∧ s.At b c := by
  unfold At
  rw [rem_is]
  by_cases e : b = a
  · simp [e]
  · have : ∀ x, (∃ p, (s.rem a).Lit b p ∧ (s.rem a).ext p = x) ↔ ∃ p, s.Lit b p ∧ s.ext p = x := fun x => exists_congr fun p => and_congr (rem_lit e p) Iff.rfl
    simp only [this, and_assoc]
theorem Base.rem (h : Base s All) : Base (s.rem a) All := by
  have hlt : ∀ b i, i < (s.rem a).ln b → b ≠ a ∧ i < s.ln b := fun b i hi => by
    have hi' : i < (if b = a then 0 else s.ln b) := hi
    by_cases e : b = a
    · rw [if_pos e] at hi'; omega
    · rw [if_neg e] at hi'; exact ⟨e, hi'⟩
  refine ⟨⟨h.vars.pos, h.vars.inj⟩, ⟨h.tra.t_lt, h.tra.t_inj, h.tra.v_tr, h.tra.v_neg, h.tra.v_rng, h.tra.d_le⟩, ⟨h.cls.c1, fun b i hb hi => h.cls.c_lt b i hb (hlt b i hi).2, fun b i j hb hi hj => h.cls.c_ne b i j hb (hlt b i hi).2 (hlt b j hj).2, fun b i j hb hi hj => h.cls.c_nt b i j hb (hlt b i hi).2 (hlt b j hj).2, fun b hb hg => ?_, fun j hj => ?_, fun b hb h1 => ?_, h.cls.s_le⟩, ⟨fun l j hl hj hv => ?_, fun b i hb h2 hi => ?_, h.wat.w_uni⟩, h.lens⟩
  · show (if b = a then 0 else s.ln b) = 0
    by_cases e : b = a
    · exact if_pos e
    · rw [if_neg e]
      have hg' : (if b = a then true else s.gone b) = true := hg
      rw [if_neg e] at hg'
      exact h.cls.c_gone b hb hg'
  · obtain ⟨x1, x2, x3⟩ := h.cls.s_ok j hj
    refine ⟨x1, x2, ?_⟩
    show (if s.sh j = a then 0 else s.ln (s.sh j)) ≤ 1
    split <;> omega
  · obtain ⟨e, hb'⟩ := (rem_is b).1 hb
    rw [rem_ln e] at h1
    exact h.cls.s_all b hb' h1
  · obtain ⟨x1, x2, x3, x4⟩ := h.wat.w_ok l j hl hj hv
    refine ⟨x1, x2, x3, fun hg => ?_⟩
    have hg' : (if s.wa l j = a then true else s.gone (s.wa l j)) = false := hg
    by_cases e : s.wa l j = a
    · rw [if_pos e] at hg'; cases hg'
    · rw [if_neg e] at hg'
      obtain ⟨y1, y2, y3⟩ := x4 hg'
      exact ⟨by show 2 ≤ (s.rem a).ln (s.wa l j); rw [rem_ln e]; exact y1, y2, (rem_lit e _).2 y3⟩
  · obtain ⟨e, hb'⟩ := (rem_is b).1 hb
    rw [rem_ln e] at h2
    exact h.wat.w_has b i hb' h2 hi
theorem Settled.rem (hs : Settled s) (hb : s.broken ≠ a) (hr : ∀ p, s.Lit a p → s.rsn p ≠ a) : Settled (s.rem a) := by
  have hra : ∀ i, i < s.nt → s.rsn (s.tr i) ≠ a ∨ s.rsn (s.tr i) = 0 := fun i hi => by
    rcases hs.rs i hi with ⟨h1, _⟩ | ⟨h1, h2, _⟩
    · exact .inr h1
    · refine .inl fun e => ?_
      rw [e] at h2
      exact hr _ h2 e
  refine ⟨fun i hi => ?_, fun h => ?_, fun h => ?_⟩
  · rcases hs.rs i hi with h1 | ⟨h1, h2, h3⟩
    · exact .inl h1
    · have hne : s.rsn (s.tr i) ≠ a := by
        rcases hra i hi with e | e
        · exact e
        · have := h1.1; omega
      exact .inr ⟨(rem_is _).2 ⟨hne, h1⟩, (rem_lit hne _).2 h2, fun p hp hn => h3 p ((rem_lit hne p).1 hp) hn⟩
  · obtain ⟨x1, x2⟩ := hs.br h
    exact ⟨(rem_is _).2 ⟨hb, x1⟩, fun p hp => x2 p ((rem_lit hb p).1 hp)⟩
  · obtain ⟨x1, x2, x3⟩ := hs.ok h
    refine ⟨x1, fun b i hi h2 h3 h4 => ?_, fun j hj hg => ?_⟩
    · obtain ⟨e, hi'⟩ := (rem_is b).1 hi
      rw [rem_ln e] at h2
      obtain ⟨k, hk, hl⟩ := x2 b i hi' h2 h3 h4
      exact ⟨k, hk, (rem_lit e _).2 hl⟩
    · have hg' : (if s.sh j = a then true else s.gone (s.sh j)) = false := hg
      by_cases e : s.sh j = a
      · rw [if_pos e] at hg'; cases hg'
      · rw [if_neg e] at hg'
        obtain ⟨y1, y2⟩ := x3 j hj hg'
        exact ⟨by show (s.rem a).ln (s.sh j) = 1; rw [rem_ln e]; exact y1, y2⟩
end St
/-- In memory. -/
theorem Mem.rem {K M : Nat} {w W : World} {L : Tag → Value} {s : St} (h : Mem w K M L s) {gc cc a : Nat} (hL : L .cls = .slice (some ⟨gc, 0, none⟩) s.nc cc) (ha : a < s.nc) (hW : W = (w.setCell ⟨gc, a * 2, none⟩ (.slice none 0 0)).setCell ⟨gc, a * 2 + 1, none⟩ (.bool true)) :
    Tn K M w L W (up L (.cl a) (.slice none 0 0)) (s.rem a) := by
  subst hW
  have hg : (L .cls).ownBlock = some gc := by rw [hL]; rfl
  have hf : Fr (fun b => b = gc) w ((w.setCell ⟨gc, a * 2, none⟩ (.slice none 0 0)).setCell ⟨gc, a * 2 + 1, none⟩ (.bool true)) := (Fr.set (B := fun b => b = gc) (p := ⟨gc, a * 2, none⟩) (Fr.refl _ w) rfl _).set (p := ⟨gc, a * 2 + 1, none⟩) rfl _
  refine h.turn (.cl a) (.slice none 0 0) _ hf (fun t ht b hb e => ?_) ?_ ?_ ?_ (fun t ht hn => ?_) (fun b hb => by cases hb) (fun l hl => ?_) (fun b e _ => .inr (.inr ⟨.cls, e ▸ hg⟩))
  · have htc := h.dj t .cls b hb (e ▸ hg)
    subst htc
    have h1 := h.row .cls
    rw [hL] at h1
    show Sl _ 75 2 (L .cls) s.nc _
    rw [hL]
    refine ((h1.set (a * 2) (.slice none 0 0)).set (a * 2 + 1) (.bool true)).congr fun j _ => ?_
    show (if j = a * 2 + 1 then Value.bool true else if j = a * 2 then .slice none 0 0 else if j % 2 = 0 then L (.cl (j / 2)) else .bool (s.gone (j / 2))) = (if j % 2 = 0 then (if Tag.cl (j / 2) = Tag.cl a then .slice none 0 0 else L (.cl (j / 2))) else .bool (if j / 2 = a then true else s.gone (j / 2)))
    by_cases e1 : j = a * 2 + 1
    · rw [if_pos e1, if_neg (by omega), if_pos (by omega)]
    · rw [if_neg e1]
      by_cases e2 : j = a * 2
      · rw [if_pos e2, if_pos (by omega), if_pos (by rw [show j / 2 = a by omega])]
      · rw [if_neg e2]
        by_cases e3 : j % 2 = 0
        · rw [if_pos e3, if_pos e3, if_neg (fun e => by injection e with e; omega)]
        · rw [if_neg e3, if_neg e3, if_neg (by omega)]
  · refine (hf.rowIs h.hd fun e => h.kb .cls (e ▸ hg)).congr ?_
    intro j hj
    match j, hj with
    | 0, _ | 1, _ | 2, _ | 3, _ | 4, _ | 5, _ | 6, _ | 7, _ | 8, _ | 9, _ => rfl
  · obtain ⟨D, hD, hN⟩ := h.mp
    exact ⟨D, ownsMap_of_block hD (hf.block _ hD.lt (fun e => h.mb .cls (e ▸ hg))), hN⟩
  · have hn : nOf (s.rem a) (.cl a) = 0 := if_pos rfl
    rw [hn]; exact Sl.nil
  · cases t
    case cls => exact absurd rfl (hn gc hg)
    case cl b =>
      have hb : b ≠ a := fun e => ht (by rw [e])
      exact ⟨if_neg hb, fun j _ => rfl⟩
    case wts => exact ⟨rfl, fun j _ => (up_other _ (by intro e; cases e)).symm⟩
    all_goals exact ⟨rfl, fun j _ => rfl⟩
  · rw [up_other _ (by intro e; cases e)]; exact h.farw l hl

set_option maxHeartbeats 1000000 in
set_option maxRecDepth 100000 in
theorem rem1_any {K M : Nat} {w : World} {L : Tag → Value} {s : St} (h : Mem w K M L s) {bk ba a p : Nat} (hbk : w.cell? ⟨bk, 0, none⟩ = some (.pointer (some ⟨K, 0, none⟩))) (hba : w.cell? ⟨ba, 0, none⟩ = some (.int .i32 a)) (hp : p < s.er) (her : s.er ≤ 1000000000) :
    Calls Try.prog 93 #[.int .i32 p, .pointer (some ⟨bk, 0, none⟩), .pointer (some ⟨ba, 0, none⟩)] w fun e w' => e = .returned (.bool (decide (s.rsn p = a))) ∧ ∃ q, w' = w.drewN q := by
  obtain ⟨gr, cr, hL5, _⟩ := (h.row .rsns).pos (show 0 < s.er by omega)
  replace hL5 : L .rsns = .slice (some ⟨gr, 0, none⟩) s.er cr := hL5
  have c5 : w.cell? ⟨K, 5, none⟩ = some (.slice (some ⟨gr, 0, none⟩) s.er cr) := (h.c 5 (by omega)).trans (congrArg some hL5)
  have x5 : w.cell? ⟨gr, p, none⟩ = some (.int .i32 (s.rsn p)) := h.rc (t := .rsns) hL5 (show p < s.er * 1 by omega)
  have q8 : (p : Int) < (s.er : Int) := by omega
  have hde : decide (s.rsn p = a) = ((s.rsn p : Int) == (a : Int)) := by
    rw [Bool.eq_iff_iff, decide_eq_true_iff, beq_iff_eq]
    constructor <;> intro e <;> omega
  rw [hde]
  clear h hL5 hde
  go_enter Try.func93, Try.ntmps93
  go_wp2
  go_quiet (fail)
  go_wp2
  go_ret
  exact ⟨rfl, _, rfl⟩

/-- Is it a reason of one of a clause's literals? -/
def needP (s : St) (a : Nat) (j : Nat) : Bool := decide (s.rsn (s.lt a j) = a)
set_option maxHeartbeats 1000000 in
set_option maxRecDepth 100000 in
theorem need_index {K M : Nat} {w : World} {L : Tag → Value} {s : St} (h : Mem w K M L s) {bk ba a : Nat} (hbk : w.cell? ⟨bk, 0, none⟩ = some (.pointer (some ⟨K, 0, none⟩))) (hba : w.cell? ⟨ba, 0, none⟩ = some (.int .i32 a)) (her : s.er ≤ 1000000000) (hp : ∀ j, j < s.ln a → s.lt a j < s.er) (hln : s.ln a ≤ 1000000000) {al : Option Addr} {c : Nat} (hL : L (.cl a) = .slice al (s.ln a) c) :
    Calls Try.prog 100 #[.slice al (s.ln a) c, .func (.func 93) #[] #[.pointer (some ⟨bk, 0, none⟩), .pointer (some ⟨ba, 0, none⟩)]] w fun e w' => ∃ r : Int, e = .returned (.int .i64 r) ∧ (∃ q, w' = w.drewN q) ∧ Hid ((r = -1 ∧ ∀ j, j < s.ln a → needP s a j = false) ∨ ∃ i : Nat, r = i ∧ i < s.ln a ∧ needP s a i = true) := by
  have H1 := Lib.hid (show ∀ q j, j < s.ln a → Calls Try.prog 93 #[.int .i32 (s.lt a j), .pointer (some ⟨bk, 0, none⟩), .pointer (some ⟨ba, 0, none⟩)] (w.drewN q) fun e w' => e = .returned (.bool (needP s a j)) ∧ ∃ q', w' = (w.drewN q).drewN q' from fun q j hj =>
    rem1_any (h.drewN q) hbk hba (hp j hj) her)
  have HC := Lib.hid (show ∀ j, j < s.ln a → ∃ g, al = some ⟨g, 0, none⟩ ∧ w.cell? ⟨g, j, none⟩ = some (.int .i32 (s.lt a j)) from fun j hj => by
    obtain ⟨g, c', e, _⟩ := (h.row (.cl a)).pos (show 0 < s.ln a by omega)
    have e2 := e
    rw [hL] at e
    injection e with e3
    exact ⟨g, e3, h.rc (t := .cl a) e2 (show j < s.ln a * 1 by omega)⟩)
  clear h hbk hba hL hp
  generalize s.ln a = n at *
  go_enter Try.func100, Try.ntmps100
  go_wp2_with fail
  go_loopw [8, 5] (fun i _ wr => ∃ t q : Nat, t ≤ n ∧ wr = w.drewN q ∧ i = .int .i64 t ∧ Hid (∀ j, j < t → needP s a j = false)) (fun i _ _ => n - (intOf i).toNat)
  case atStart => exact ⟨0, 0, Nat.zero_le _, rfl, rfl, Lib.hid fun u hu => absurd hu (Nat.not_lt_zero _)⟩
  case round =>
    obtain ⟨t, q, ht, rfl, rfl, HT⟩ := hrel
    by_cases hlt : t < n
    · obtain ⟨g, rfl, xc⟩ := HC.out t hlt
      have hcl := H1.out q t hlt
      have hltI : (t : Int) < (n : Int) := by omega
      cases hg : needP s a t
      · rw [hg] at hcl
        have HCL := Lib.hid hcl
        have HT' := Lib.hid (show ∀ j, j < t + 1 → needP s a j = false from fun u hu => by
          by_cases e : u = t
          · subst e; exact hg
          · exact HT.out u (by omega))
        clear hcl hg
        go_wp2_with (go_at_call 93; refine HCL.out.mono ?_; rintro e w1 ⟨rfl, q', rfl⟩)
        go_roundw
        case rel => exact ⟨t + 1, q + q', by omega, rfl, by go_num, HT'⟩
        case measure => simp [intOf]; omega
      · rw [hg] at hcl
        have HCL := Lib.hid hcl
        have HG := Lib.hid hg
        clear hcl hg
        go_wp2_with (go_at_call 93; refine HCL.out.mono ?_; rintro e w1 ⟨rfl, q', rfl⟩)
        go_ret
        exact ⟨t, rfl, ⟨q + q', rfl⟩, Lib.hid (.inr ⟨t, rfl, hlt, HG.out⟩)⟩
    · have hq : ¬ (t : Int) < (n : Int) := by omega
      obtain rfl : t = n := by omega
      go_wp2
      go_ret
      exact ⟨-1, rfl, ⟨q, rfl⟩, Lib.hid (.inl ⟨rfl, HT.out⟩)⟩
/-- Whether the trail needs the clause. -/
def Need (s : St) (a : Nat) : Prop := ∃ p, s.Lit a p ∧ s.rsn p = a
theorem need_any {K M : Nat} {w : World} {L : Tag → Value} {s : St} (h : Mem w K M L s) {bk ba a : Nat} (hbk : w.cell? ⟨bk, 0, none⟩ = some (.pointer (some ⟨K, 0, none⟩))) (hba : w.cell? ⟨ba, 0, none⟩ = some (.int .i32 a)) (her : s.er ≤ 1000000000) (hp : ∀ j, j < s.ln a → s.lt a j < s.er) (hln : s.ln a ≤ 1000000000) {al : Option Addr} {c : Nat} (hL : L (.cl a) = .slice al (s.ln a) c) :
    Calls Try.prog 94 #[.slice al (s.ln a) c, .func (.func 93) #[] #[.pointer (some ⟨bk, 0, none⟩), .pointer (some ⟨ba, 0, none⟩)]] w fun e w' => ∃ b : Bool, e = .returned (.bool b) ∧ (∃ q, w' = w.drewN q) ∧ Hid (b = true ↔ Need s a) := by
  have HI := Lib.hid (need_index h hbk hba her hp hln hL)
  clear h hbk hba hL hp
  go_enter Try.func94, Try.ntmps94
  go_wp2_with (go_at_call 100; refine HI.out.mono ?_; rintro e w1 ⟨r, rfl, ⟨q, rfl⟩, HR⟩)
  go_ret
  refine ⟨_, rfl, ⟨q, rfl⟩, Lib.hid ?_⟩
  rcases HR.out with ⟨rfl, hno⟩ | ⟨i, rfl, hi, hg⟩
  · refine ⟨fun e => by simp at e, fun ⟨p, ⟨j, hj, e⟩, e2⟩ => ?_⟩
    have := hno j hj
    unfold needP at this
    rw [e] at this
    exact absurd e2 (of_decide_eq_false this)
  · refine ⟨fun _ => ⟨_, ⟨i, hi, rfl⟩, of_decide_eq_true hg⟩, fun _ => by simp⟩
end Go.Proofs.Ytoffhgiljnagcaa
/- Contracts: remove: the call. -/
namespace Go.Proofs.Ytoffhgiljnagcaa
open Go.RowKit Go.Lib Go.Maps

/-- What remove hands back. -/
structure RemOut (K M : Nat) (w : World) (L : Tag → Value) (s : St) (a : Nat) (w' : World) (L' : Tag → Value) (s' : St) : Prop where
  tn : Tn K M w L w' L' s'
  base : St.Base s' St.All
  nv : s'.nv = s.nv
  nc : s'.nc = s.nc
  inv : s'.settled = true → St.Settled s'
  at_ : ∀ b c, s'.At b c ↔ b ≠ a ∧ s.At b c
theorem RemOut.same {K M : Nat} {w : World} {L : Tag → Value} {s : St} {a : Nat} {w' W : World} {L' : Tag → Value} {s' : St} (h : RemOut K M w L s a w' L' s') (e1 : W.heap = w'.heap) (e2 : W.os = w'.os) (e3 : W.tape = w'.tape) (e4 : W.output = w'.output) : RemOut K M w L s a W L' s' :=
  ⟨h.tn.same e1 e2 e3 e4, h.base, h.nv, h.nc, h.inv, h.at_⟩
theorem two_boxes (w : World) (u v : Value) (t1 t2 : TypeId) : ((w.alloc (.cells #[u] t1)).alloc (.cells #[v] t2)).cell? ⟨w.heap.size, 0, none⟩ = some u ∧ ((w.alloc (.cells #[u] t1)).alloc (.cells #[v] t2)).cell? ⟨w.heap.size + 1, 0, none⟩ = some v := by
  constructor
  · have e1 : (w.alloc (.cells #[u] t1)).cell? ⟨w.heap.size, 0, none⟩ = some u := one_at w _ rfl rfl 0 _ rfl
    exact (((Below.refl (w.heap.size + 1) (w.alloc (.cells #[u] t1))).alloc (by simp) (.cells #[v] t2)).cell (p := ⟨w.heap.size, 0, none⟩) (Nat.lt_succ_self _)).trans e1
  · exact one_at (w.alloc (.cells #[u] t1)) _ rfl (by simp) 0 _ rfl

set_option maxHeartbeats 4000000 in
set_option maxRecDepth 100000 in
theorem remove_any {K M : Nat} {w : World} {L : Tag → Value} {s : St} (h : Mem w K M L s) (hI : St.Inv s) {a : Nat} (ha : s.Is a) (hnv : s.nv ≤ 100000000) (hnc : s.nc ≤ 100000000) :
    Calls Try.prog 77 #[.pointer (some ⟨K, 0, none⟩), .int .i32 a] w fun e w' => e = .returned (.tuple #[]) ∧ ∃ L' s', RemOut K M w L s a w' L' s' := by
  obtain ⟨gc, cc, hL1, _⟩ := (h.row .cls).pos (show 0 < s.nc by have := ha.2.1; omega)
  replace hL1 : L .cls = .slice (some ⟨gc, 0, none⟩) s.nc cc := hL1
  obtain ⟨al, cl, hLl, _⟩ := (h.row (.cl a)).shape
  replace hLl : L (.cl a) = .slice al (s.ln a) cl := hLl
  have hB := hI.base
  have hlen := hB.lens
  have hlt := ha.2.1
  have hln : s.ln a ≤ 2 * s.nv := pigeon _ _ (s.lt a) (fun i hi => hB.cls.c_lt a i hlt hi) (fun i j hi hj e => hB.cls.c_ne a i j hlt hi hj e)
  -- the boxes
  generalize hw1 : (w.alloc (.cells #[.pointer (some ⟨K, 0, none⟩)] 44)).alloc (.cells #[.int .i32 a] 48) = w1
  have T1 : Tn K M w L w1 L s := by
    rw [← hw1]
    exact (h.tnAlloc _).trans ((h.tnAlloc _).mem.tnAlloc _)
  obtain ⟨b1, b2⟩ := two_boxes w (.pointer (some ⟨K, 0, none⟩)) (.int .i32 a) 44 48
  rw [hw1] at b1 b2
  have hm := T1.mem
  have c1 : w1.cell? ⟨K, 1, none⟩ = some (.slice (some ⟨gc, 0, none⟩) s.nc cc) := (hm.c 1 (by omega)).trans (congrArg some hL1)
  have c9 : w1.cell? ⟨K, 9, none⟩ = some (.int .i32 s.broken) := hm.c 9 (by omega)
  have x0 : w1.cell? ⟨gc, a * 2, none⟩ = some (.slice al (s.ln a) cl) := (hm.rc (t := .cls) hL1 (show a * 2 < s.nc * 2 by omega)).trans (by
    show some (if a * 2 % 2 = 0 then L (.cl (a * 2 / 2)) else _) = _
    rw [if_pos (by omega), show a * 2 / 2 = a by omega, hLl])
  have x1 : w1.cell? ⟨gc, a * 2 + 1, none⟩ = some (.bool (s.gone a)) := (hm.rc (t := .cls) hL1 (show a * 2 + 1 < s.nc * 2 by omega)).trans (by
    show some (if (a * 2 + 1) % 2 = 0 then _ else Value.bool (s.gone ((a * 2 + 1) / 2))) = _
    rw [if_neg (by omega), show (a * 2 + 1) / 2 = a by omega])
  have fK := hm.fk
  have c8 : w1.cell? ⟨K, 8, none⟩ = some (.bool s.settled) := hm.c 8 (by omega)
  have fg := hm.fz (t := .cls) hL1
  have ha1 : (a : Int) < (s.nc : Int) := by omega
  have hKg : ¬ K = gc := hm.ne hL1
  have HND := Lib.hid (show ∀ q, Calls Try.prog 94 #[.slice al (s.ln a) cl, .func (.func 93) #[] #[.pointer (some ⟨w.heap.size, 0, none⟩), .pointer (some ⟨w.heap.size + 1, 0, none⟩)]] (w1.drewN q) fun e w' => ∃ b : Bool, e = .returned (.bool b) ∧ (∃ q', w' = (w1.drewN q).drewN q') ∧ Hid (b = true ↔ Need s a) from fun q =>
    need_any (hm.drewN q) b1 b2 (by omega) (fun j hj => by have := hB.cls.c_lt a j hlt hj; omega) (by omega) hLl)
  -- the ends
  have HE1 := Lib.hid (show s.broken ≠ a → ¬ Need s a → ∀ q, ∃ L' s', RemOut K M w L s a (((w1.drewN q).setCell ⟨gc, a * 2, none⟩ (.slice none 0 0)).setCell ⟨gc, a * 2 + 1, none⟩ (.bool true)) L' s' from fun hb hn q =>
    ⟨_, _, (T1.drewN q).trans ((hm.drewN q).rem hL1 hlt rfl), hB.rem, rfl, rfl, fun e => (hI.set e).rem hb fun p hp e => hn ⟨p, hp, e⟩, fun b c => St.rem_at b c⟩)
  have HE2 := Lib.hid (show ∀ q, ∃ L' s', RemOut K M w L s a ((((w1.drewN q).setCell ⟨K, 8, none⟩ (.bool false)).setCell ⟨gc, a * 2, none⟩ (.slice none 0 0)).setCell ⟨gc, a * 2 + 1, none⟩ (.bool true)) L' s' from fun q => by
    have T2 := (T1.drewN q).trans ((hm.drewN q).stSettled false)
    have hB2 : St.Base { s with settled := false } St.All := hB.keeps false s.broken
    exact ⟨_, _, T2.trans (T2.mem.rem hL1 hlt rfl), hB2.rem, rfl, rfl, (fun e => by cases e), fun b c => St.rem_at (s := { s with settled := false }) b c⟩)
  clear T1 hm h hI hB hL1 hLl hlen ha hln
  by_cases hb : s.broken = a
  · have hbb : ((s.broken : Int) == (a : Int)) = true := by rw [beq_iff_eq]; omega
    go_enter Try.func77, Try.ntmps77
    go_wp2
    go_quiet (fail)
    go_wp2
    go_region
    all_goals
      go_end0
      obtain ⟨L', s', hO⟩ := HE2.out _
      exact ⟨rfl, L', s', hO.same rfl rfl rfl rfl⟩
  · have hbb : ((s.broken : Int) == (a : Int)) = false := by rw [beq_eq_false_iff_ne]; omega
    by_cases hn : Need s a
    · have HN1 := Lib.hid (show ∀ q, Calls Try.prog 94 #[.slice al (s.ln a) cl, .func (.func 93) #[] #[.pointer (some ⟨w.heap.size, 0, none⟩), .pointer (some ⟨w.heap.size + 1, 0, none⟩)]] (w1.drewN q) fun e w' => e = .returned (.bool true) ∧ ∃ m, w' = (w1.drewN q).drewN m from fun q => (HND.out q).mono fun e w' ⟨b, x1, x2, x3⟩ => (⟨by rw [x1, x3.out.2 hn], x2⟩))
      clear HND HE1 hn
      go_enter Try.func77, Try.ntmps77
      go_wp2
      go_quiet (first | (go_at_call 94; exact Calls.quiet_of (HN1.out _)))
      go_wp2
      go_region
      all_goals
        go_end0
        obtain ⟨L', s', hO⟩ := HE2.out _
        exact ⟨rfl, L', s', hO.same rfl rfl rfl rfl⟩
    · have HN1 := Lib.hid (show ∀ q, Calls Try.prog 94 #[.slice al (s.ln a) cl, .func (.func 93) #[] #[.pointer (some ⟨w.heap.size, 0, none⟩), .pointer (some ⟨w.heap.size + 1, 0, none⟩)]] (w1.drewN q) fun e w' => e = .returned (.bool false) ∧ ∃ m, w' = (w1.drewN q).drewN m from fun q => (HND.out q).mono fun e w' ⟨b, x1, x2, x3⟩ => (⟨by
        have hb : b = false := by
          cases b
          · rfl
          · exact absurd (x3.out.1 rfl) hn
        rw [x1, hb], x2⟩))
      have HE3 := Lib.hid (HE1.out hb hn)
      clear HND HE1 HE2 hn
      go_enter Try.func77, Try.ntmps77
      go_wp2
      go_quiet (first | (go_at_call 94; exact Calls.quiet_of (HN1.out _)))
      go_wp2
      go_region
      all_goals
        go_end0
        obtain ⟨L', s', hO⟩ := HE3.out _
        exact ⟨rfl, L', s', hO.same rfl rfl rfl rfl⟩
end Go.Proofs.Ytoffhgiljnagcaa
/- Contracts: a clause is taken from what is present. -/
namespace Go.Proofs.Ytoffhgiljnagcaa
open Go.RowKit Go.Lib Go.Maps
set_option maxRecDepth 100000

theorem NumC.del {D : DataW TypeId} {cnt pl : List Int → Nat} (h : NumC D cnt pl) {F : List Int} (hF : ∀ x ∈ F, lit x = true) :
    NumC (D.del (.string (kb F))) (fun G => if G = F then 0 else cnt G) (fun G => if G = F then 0 else pl G) := by
  refine ⟨?_, fun G hG => ?_⟩
  · obtain ⟨es, rfl⟩ := h.1
    exact ⟨_, rfl⟩
  · by_cases e : G = F
    · subst e
      rw [atKey_del_same]; simp
    · rw [atKey_del_other (fun e2 => e (kb_inj hG hF (by injection e2)))]
      simp only [if_neg e]
      exact h.2 G hG

set_option maxHeartbeats 2000000 in
theorem prem_none {w : World} {P Q K M m : Nat} {L : Tag → Value} {s : St} {cnt pl : List Int → Nat} (h : PMem w P Q K M m L s cnt pl) {a : Option Addr} {n c : Nat} {f : Nat → Int} (hn : n ≤ 1000) (hf : Has w a n f) (hl : litF f n = true)
    (hc : cnt (nfv (lof f n)) = 0) :
    Calls Try.prog 60 #[.pointer (some ⟨P, 0, none⟩), .slice a n c] w fun e w' => e = .returned (.bool false) ∧ Hid (Below w.heap.size w w' ∧ PMem w' P Q K M m L s cnt pl) := by
  have hno := norm_any a n c f w (by omega) hf
  unfold NormPost at hno
  have hlf := litF_mem hl
  have hle := nfv_le (lof f n)
  rw [lof_length] at hle
  have hky := padd_key h hlf (by omega)
  have HKL := Lib.hid (key_lit (F := nfv (lof f n)) (by omega))
  have hNl : ∀ x ∈ nfv (lof f n), lit x = true := fun x hx => hlf x ((nfv_mem hlf x).1 hx)
  generalize hN : nfv (lof f n) = N at *
  have HN := Lib.hid hno
  have HKY := Lib.hid hky
  clear hno hky hf hl hlf h
  have HNL := Lib.hid hNl
  clear hNl
  go_enter Try.func60, Try.ntmps60
  go_wp2_with (first
    | (go_at_call 22; refine HN.out.mono ?_; rintro e w1 ⟨a', c', rfl, n1, -, n3, n4⟩; have HK1 := Lib.hid (HKY.out w1 a' c' n3 n1 n4); clear n1 n3 n4)
    | (go_at_call 59; refine HK1.out.mono ?_; rintro e w2 ⟨rfl, k1, HP⟩; obtain ⟨D, hD, hND⟩ := HP.out.2.1.mp; have HD := Lib.hid hD; clear hD)
    | (at_lookup; refine wpList_lookup_cp _ rfl _ _ 82 9 87 rfl (string_keyed Try.underlying9) Try.underlying82 (zero87 _) Q m D rfl HD.out _ _ rfl HKL.out 0 (pl N) (by have := hND.2 N HNL.out; rw [hc] at this; exact this) ?_))
  go_ret
  exact ⟨rfl, Lib.hid ⟨HP.out.1.alloc HP.out.1.size _, HP.out.2.1.alloc _⟩⟩

set_option maxHeartbeats 2000000 in
theorem prem_less {w : World} {P Q K M m : Nat} {L : Tag → Value} {s : St} {cnt pl : List Int → Nat} (h : PMem w P Q K M m L s cnt pl) {a : Option Addr} {n c : Nat} {f : Nat → Int} (hn : n ≤ 1000) (hf : Has w a n f) (hl : litF f n = true)
    (hm : m ≤ 1000000) (hc : 1 < cnt (nfv (lof f n))) (hcb : cnt (nfv (lof f n)) ≤ 1000000) :
    Calls Try.prog 60 #[.pointer (some ⟨P, 0, none⟩), .slice a n c] w fun e w' => e = .returned (.bool true) ∧ Hid (Fr (fun b => Bl K M L b ∨ b = Q) w w' ∧ PMem w' P Q K M (m + 1) L s (fun G => if G = nfv (lof f n) then cnt (nfv (lof f n)) - 1 else cnt G) (fun G => if G = nfv (lof f n) then pl (nfv (lof f n)) else pl G)) := by
  have hno := norm_any a n c f w (by omega) hf
  unfold NormPost at hno
  have hlf := litF_mem hl
  have hle := nfv_le (lof f n)
  rw [lof_length] at hle
  have hky := padd_key h hlf (by omega)
  have HKL := Lib.hid (key_lit (F := nfv (lof f n)) (by omega))
  have hNl : ∀ x ∈ nfv (lof f n), lit x = true := fun x hx => hlf x ((nfv_mem hlf x).1 hx)
  generalize hN : nfv (lof f n) = N at *
  have HN := Lib.hid hno
  have HKY := Lib.hid hky
  clear hno hky hf hl hlf h
  have HNL := Lib.hid hNl
  have hA : (1 : Int) < ((cnt N : Nat) : Int) := by omega
  have hA0 : (((cnt N : Nat) : Int) == 0) = false := by rw [beq_eq_false_iff_ne]; omega
  clear hNl
  go_enter Try.func60, Try.ntmps60
  go_wp2_with (first
    | (go_at_call 22; refine HN.out.mono ?_; rintro e w1 ⟨a', c', rfl, n1, -, n3, n4⟩; have HK1 := Lib.hid (HKY.out w1 a' c' n3 n1 n4); clear n1 n3 n4)
    | (go_at_call 59; refine HK1.out.mono ?_; rintro e w2 ⟨rfl, k1, HP⟩; obtain ⟨D, hD, hND⟩ := HP.out.2.1.mp; have HD := Lib.hid hD; clear hD)
    | (at_lookup; refine wpList_lookup_cp _ rfl _ _ 82 9 87 rfl (string_keyed Try.underlying9) Try.underlying82 (zero87 _) Q m D rfl HD.out _ _ rfl HKL.out (cnt N) (pl N) (hND.2 N HNL.out) ?_))
  obtain ⟨k3, w3, hrun, HF⟩ := padd_put (HP.out.2.1.alloc (.cells #[.int .i64 ((cnt N : Nat) - 1), .int .i32 (pl N : Nat)] 87)) ((Fr.of_below HP.out.1).alloc _) HNL.out (by omega) hm (cnt N - 1) (pl N) ((cnt N : Nat) - 1) (by omega)
  go_region
  all_goals
    go_wp2
    go_ret
    exact ⟨rfl, HF⟩

/-- The entry goes. -/
theorem pdel_fin {w W : World} {P Q K M m : Nat} {L0 L : Tag → Value} {s : St} {cnt pl : List Int → Nat} (hP : PMem W P Q K M m L s cnt pl) (hb : Fr (fun b => Bl K M L0 b ∨ b = Q) w W) {N : List Int} (hN : ∀ x ∈ N, lit x = true) {D : DataW TypeId} (hND : NumC D cnt pl) {w3 : World} (hown : w3.ownsMap Try.prog 9 cpR Q m (D.del (.string (kb N)))) (ht : W.mapTurned w3 Q) :
    Fr (fun b => Bl K M L0 b ∨ b = Q) w w3 ∧ PMem w3 P Q K M m L s (fun G => if G = N then 0 else cnt G) (fun G => if G = N then 0 else pl G) := by
  have hf : Fr (fun b => b = Q) W w3 := (Fr.refl _ W).grown ht.grown (fun k e _ => by cases e; rfl)
  exact ⟨hb.then hf fun b e => .inl (.inr e), ⟨hP.mem.keep hf fun b hb e => hP.qb (e ▸ hb), hf.rowIs hP.pr hP.pq, ⟨_, hown, hND.del hN⟩, hP.pb, hP.qb, hP.pq⟩⟩

set_option maxHeartbeats 2000000 in
theorem prem_taut {w : World} {P Q K M m : Nat} {L : Tag → Value} {s : St} {cnt pl : List Int → Nat} (h : PMem w P Q K M m L s cnt pl) {a : Option Addr} {n c : Nat} {f : Nat → Int} (hn : n ≤ 1000) (hf : Has w a n f) (hl : litF f n = true)
    (hc : cnt (nfv (lof f n)) = 1) (hp : pl (nfv (lof f n)) = 0) :
    Calls Try.prog 60 #[.pointer (some ⟨P, 0, none⟩), .slice a n c] w fun e w' => e = .returned (.bool true) ∧ Hid (Fr (fun b => Bl K M L b ∨ b = Q) w w' ∧ PMem w' P Q K M m L s (fun G => if G = nfv (lof f n) then 0 else cnt G) (fun G => if G = nfv (lof f n) then 0 else pl G)) := by
  have hno := norm_any a n c f w (by omega) hf
  unfold NormPost at hno
  have hlf := litF_mem hl
  have hle := nfv_le (lof f n)
  rw [lof_length] at hle
  have hky := padd_key h hlf (by omega)
  have HKL := Lib.hid (key_lit (F := nfv (lof f n)) (by omega))
  have hNl : ∀ x ∈ nfv (lof f n), lit x = true := fun x hx => hlf x ((nfv_mem hlf x).1 hx)
  generalize hN : nfv (lof f n) = N at *
  have HN := Lib.hid hno
  have HKY := Lib.hid hky
  clear hno hky hf hl hlf h
  have HNL := Lib.hid hNl
  clear hNl
  go_enter Try.func60, Try.ntmps60
  go_wp2_with (first
    | (go_at_call 22; refine HN.out.mono ?_; rintro e w1 ⟨a', c', rfl, n1, -, n3, n4⟩; have HK1 := Lib.hid (HKY.out w1 a' c' n3 n1 n4); clear n1 n3 n4)
    | (go_at_call 59; refine HK1.out.mono ?_; rintro e w2 ⟨rfl, k1, HP⟩; obtain ⟨D, hD, hND⟩ := HP.out.2.1.mp; have HD := Lib.hid hD; have HND := Lib.hid hND; clear hD hND)
    | (at_lookup; refine wpList_lookup_cp _ rfl _ _ 82 9 87 rfl (string_keyed Try.underlying9) Try.underlying82 (zero87 _) Q m D rfl HD.out _ _ rfl HKL.out 1 0 (by have := HND.out.2 N HNL.out; rw [hc, hp] at this; exact this) ?_; have k2 : (w2.alloc (.cells #[.int .i64 1, .int .i32 0] 87)).cell? ⟨P, 1, none⟩ = some (.map (some Q)) := (HP.out.2.1.alloc _).pr.cell (by omega); have HD2 := Lib.hid (ownsCp_of_block HD.out (((Fr.refl (fun _ => False) w2).alloc (.cells #[.int .i64 1, .int .i32 0] 87)).block _ HD.out.lt id)))
    | (at_delete; refine wpList_delete_own _ rfl _ _ 82 9 rfl 87 (string_keyed Try.underlying9) Try.underlying82 cpR Q m D rfl HD2.out _ _ rfl HKL.out ?_; intro w3 o3 t3; have HF := Lib.hid (pdel_fin (HP.out.2.1.alloc (.cells #[.int .i64 1, .int .i32 0] 87)) ((Fr.of_below (B := fun b => Bl K M L b ∨ b = Q) HP.out.1).alloc _) HNL.out HND.out o3 t3); clear o3 t3))
  go_ret
  exact ⟨rfl, HF⟩

/-- What is known is asked to remove a clause. -/
def RemAsk (w : World) (K M : Nat) (L : Tag → Value) (s : St) (x : Nat) (X : (Tag → Value) → St → Prop) : Prop :=
  ∀ (w1 : World), Below w.heap.size w w1 → Mem w1 K M L s →
    Calls Try.prog 77 #[.pointer (some ⟨K, 0, none⟩), .int .i32 x] w1 fun e w2 => e = .returned (.tuple #[]) ∧ ∃ L' s', Tn K M w1 L w2 L' s' ∧ X L' s'
set_option maxHeartbeats 2000000 in
theorem prem_last {w : World} {P Q K M m : Nat} {L : Tag → Value} {s : St} {cnt pl : List Int → Nat} (h : PMem w P Q K M m L s cnt pl) {a : Option Addr} {n c : Nat} {f : Nat → Int} (hn : n ≤ 1000) (hf : Has w a n f) (hl : litF f n = true)
    (hc : cnt (nfv (lof f n)) = 1) (hp : pl (nfv (lof f n)) ≠ 0) {X : (Tag → Value) → St → Prop} (hX : RemAsk w K M L s (pl (nfv (lof f n))) X) :
    Calls Try.prog 60 #[.pointer (some ⟨P, 0, none⟩), .slice a n c] w fun e w' => e = .returned (.bool true) ∧ ∃ L' s', X L' s' ∧ (∀ b, Bl K M L' b → Bl K M L b ∨ w.heap.size ≤ b) ∧ Hid (Fr (fun b => Bl K M L b ∨ b = Q) w w' ∧ PMem w' P Q K M m L' s' (fun G => if G = nfv (lof f n) then 0 else cnt G) (fun G => if G = nfv (lof f n) then 0 else pl G)) := by
  have hno := norm_any a n c f w (by omega) hf
  unfold NormPost at hno
  have hlf := litF_mem hl
  have hle := nfv_le (lof f n)
  rw [lof_length] at hle
  have hky := padd_key h hlf (by omega)
  have HKL := Lib.hid (key_lit (F := nfv (lof f n)) (by omega))
  have hNl : ∀ x ∈ nfv (lof f n), lit x = true := fun x hx => hlf x ((nfv_mem hlf x).1 hx)
  generalize hN : nfv (lof f n) = N at *
  have HN := Lib.hid hno
  have HKY := Lib.hid hky
  have hasks : ∀ (w2 : World) (o : Obj) (q : Nat), Below w.heap.size w w2 → PMem w2 P Q K M m L s cnt pl → Calls Try.prog 77 #[.pointer (some ⟨K, 0, none⟩), .int .i32 (pl N : Nat)] ((w2.alloc o).drewN q) fun e w4 => e = .returned (.tuple #[]) ∧ w4.cell? ⟨P, 1, none⟩ = some (.map (some Q)) ∧ Hid (∃ L' s', X L' s' ∧ (∀ b, Bl K M L' b → Bl K M L b ∨ w.heap.size ≤ b) ∧ Fr (fun b => Bl K M L b ∨ b = Q) w w4 ∧ PMem w4 P Q K M m L' s' cnt pl) := fun w2 o q hb hP => by
    have hb' : Below w.heap.size w ((w2.alloc o).drewN q) := below_drewN (hb.alloc hb.size o) q
    have hP' : PMem ((w2.alloc o).drewN q) P Q K M m L s cnt pl := (hP.alloc o).below (below_drewN (Below.refl _ _) q)
    refine (hX _ hb' hP'.mem).mono ?_
    rintro e w4 ⟨rfl, L', s', T, hx⟩
    have hP4 := hP'.tn T
    refine ⟨rfl, hP4.pr.cell (by omega), Lib.hid ⟨L', s', hx, fun b hb => (T.gr b hb).imp id fun e => Nat.le_trans hb'.size e, ?_, hP4⟩⟩
    exact (Fr.of_below hb').then T.fr fun b hb => .inl (.inl hb)
  have HAS := Lib.hid hasks
  clear hno hky hf hl hlf h hX hasks
  have HNL := Lib.hid hNl
  have hpz : ((pl N : Int) != 0) = true := by rw [bne_iff_ne]; omega
  clear hNl
  go_enter Try.func60, Try.ntmps60
  go_wp2_with (first
    | (go_at_call 22; refine HN.out.mono ?_; rintro e w1 ⟨a', c', rfl, n1, -, n3, n4⟩; have HK1 := Lib.hid (HKY.out w1 a' c' n3 n1 n4); clear n1 n3 n4)
    | (go_at_call 59; refine HK1.out.mono ?_; rintro e w2 ⟨rfl, k1, HP⟩; obtain ⟨D, hD, hND⟩ := HP.out.2.1.mp; have HD := Lib.hid hD; have HND := Lib.hid hND; clear hD hND)
    | (at_lookup; refine wpList_lookup_cp _ rfl _ _ 82 9 87 rfl (string_keyed Try.underlying9) Try.underlying82 (zero87 _) Q m D rfl HD.out _ _ rfl HKL.out 1 (pl N) (by have := HND.out.2 N HNL.out; rw [hc] at this; exact this) ?_; have k0 : (w2.alloc (.cells #[.int .i64 1, .int .i32 (pl N : Nat)] 87)).cell? ⟨P, 0, none⟩ = some (.pointer (some ⟨K, 0, none⟩)) := (HP.out.2.1.alloc _).pr.cell (by omega); have HC := Lib.hid (fun q => HAS.out w2 (.cells #[.int .i64 1, .int .i32 (pl N : Nat)] 87) q HP.out.1 HP.out.2.1)))
  go_region_with (go_at_call 77; refine (HC.out _).mono ?_; rintro e w4 ⟨rfl, k4, H4⟩)
  all_goals
    obtain ⟨L', s', hx, hgr, hfr, hP4⟩ := H4.out
    obtain ⟨D4, hD4, hND4⟩ := hP4.mp
    have HD4 := Lib.hid hD4
    have H5 := Lib.hid (show ∀ w3, w3.ownsMap Try.prog 9 cpR Q m (D4.del (.string (kb N))) → w4.mapTurned w3 Q → _ from fun w3 o t => pdel_fin hP4 hfr HNL.out hND4 o t)
    have HX' := Lib.hid (And.intro hx hgr)
    clear hx hgr hfr hP4 hD4 hND4
    go_wp2_with (at_delete; refine wpList_delete_own _ rfl _ _ 82 9 rfl 87 (string_keyed Try.underlying9) Try.underlying82 cpR Q m D4 rfl HD4.out _ _ rfl HKL.out ?_; intro w3 o3 t3; have HF := Lib.hid (H5.out w3 o3 t3); clear o3 t3)
    go_ret
    exact ⟨rfl, L', s', HX'.out.1, HX'.out.2, HF⟩
end Go.Proofs.Ytoffhgiljnagcaa
