/- Contracts: demand, retreat. -/
import Derived.Test.YtoffhgiljnagcaaWA
namespace Go.Proofs.Ytoffhgiljnagcaa
open Go.RowKit Go.Lib Go.Maps

/-- What demand does. -/
def St.dem (s : St) (o a : Nat) : St := if s.val o = 0 then s.put o a else s
/-- Bounds under which nothing overflows. -/
structure Fit' (s : St) : Prop where
  nv : s.nv ≤ 100000000
  ev : s.ev = 2 * s.nv
  er : s.er = 2 * s.nv
  nt : s.nt ≤ 2 * s.nv

set_option maxHeartbeats 1000000 in
set_option maxRecDepth 100000 in
theorem demand_any {K M : Nat} {w : World} {L : Tag → Value} {s : St} (h : Mem w K M L s) (hf : Fit' s) {o a : Nat} (ho : o < 2 * s.nv) (hv : s.val o = -1 ∨ s.val o = 0 ∨ s.val o = 1) :
    Calls Try.prog 92 #[.pointer (some ⟨K, 0, none⟩), .agg #[.int .i32 a, .int .i32 o]] w fun e w' => e = .returned (.int .i32 (if s.val o = -1 then a else 0 : Nat)) ∧ ∃ L', (∀ t, t ≠ .tra → L' t = L t) ∧ Tn K M w L w' L' (s.dem o a) := by
  obtain ⟨gv, cv, hL4, _⟩ := (h.row .vals).pos (show 0 < s.ev by have := hf.ev; omega)
  replace hL4 : L .vals = .slice (some ⟨gv, 0, none⟩) s.ev cv := hL4
  have c4 : w.cell? ⟨K, 4, none⟩ = some (.slice (some ⟨gv, 0, none⟩) s.ev cv) := (h.c 4 (by omega)).trans (congrArg some hL4)
  have x1 : w.cell? ⟨gv, o, none⟩ = some (.int .i8 (s.val o)) := h.rc hL4 (show o < s.ev * 1 by have := hf.ev; omega)
  have hK := h.hd.lt
  have hgv := h.glt hL4
  have ho1 : (o : Int) < (s.ev : Int) := by have := hf.ev; omega
  have T0 := fun q => (h.tnAlloc (.cells #[.int .i32 a, .int .i32 o] 78)).drewN q
  have hset := fun q => set_any (r := a) (T0 q).mem ⟨hf.ev, hf.er⟩ hf.nv hf.nt ho
  have HS := Lib.hid hset
  have HT := Lib.hid T0
  clear hset T0 h hL4 hf
  rcases hv with hv | hv | hv
  · have HV := Lib.hid (show s.dem o a = s from if_neg (by omega))
    rw [hv] at x1 ⊢
    go_enter Try.func92, Try.ntmps92
    go_wp2
    go_quiet (fail)
    go_wp2
    go_ret
    exact ⟨rfl, L, fun _ _ => rfl, by rw [HV.out]; exact HT.out _⟩
  · have HV := Lib.hid (show s.dem o a = s.put o a from if_pos hv)
    rw [hv] at x1 ⊢
    go_enter Try.func92, Try.ntmps92
    go_wp2
    go_quiet (fail)
    go_wp2_with (go_at_call 72; refine (HS.out _).mono ?_; rintro e w' ⟨rfl, v, T⟩; have HT2 := Lib.hid T; clear T)
    go_ret
    exact ⟨rfl, _, fun t ht => up_other _ ht, by rw [HV.out]; exact (HT.out _).trans HT2.out⟩
  · have HV := Lib.hid (show s.dem o a = s from if_neg (by omega))
    rw [hv] at x1 ⊢
    go_enter Try.func92, Try.ntmps92
    go_wp2
    go_quiet (fail)
    go_wp2
    go_ret
    exact ⟨rfl, L, fun _ _ => rfl, by rw [HV.out]; exact HT.out _⟩

/-- The header of the trail is cut. -/
theorem Mem.trunc {K M : Nat} {w : World} {L : Tag → Value} {s : St} (h : Mem w K M L s) {gt n ct m : Nat} (hL : L .tra = .slice (some ⟨gt, 0, none⟩) n ct) (hm : m ≤ s.nt) :
    Tn K M w L (w.setCell ⟨K, 6, none⟩ (.slice (some ⟨gt, 0, none⟩) m ct)) (up L .tra (.slice (some ⟨gt, 0, none⟩) m ct)) { s with nt := m } := by
  have hf : Fr (fun b => b = K) w (w.setCell ⟨K, 6, none⟩ (.slice (some ⟨gt, 0, none⟩) m ct)) := (Fr.refl (fun b => b = K) w).set (p := ⟨K, 6, none⟩) rfl _
  refine h.turn .tra _ _ hf (fun t _ b hb e => absurd (e ▸ hb) (h.kb t)) ?_ ?_ ?_ ?_ ?_ (fun l hl => h.farw l hl) (fun b e _ => .inl e)
  · refine (h.hd.set 6 _).congr fun j hj => ?_
    match j, hj with
    | 0, _ | 1, _ | 2, _ | 3, _ | 4, _ | 5, _ | 6, _ | 7, _ | 8, _ | 9, _ => rfl
  · obtain ⟨D, hD, hN⟩ := h.mp
    exact ⟨D, ownsMap_of_block hD (hf.block _ hD.lt (fun e => h.km e.symm)), hN⟩
  · have h1 := h.row .tra
    rw [hL] at h1
    refine Sl.of_block (w := w) (Sl.trunc (n := s.nt) h1 hm) fun b hb => hf.block b ?_ ?_
    · cases hb; exact h.glt hL
    · rintro rfl; cases hb; exact h.ne hL rfl
  · intro t ht _
    refine ⟨by cases t <;> first | rfl | exact absurd rfl ht, fun j _ => by cases t <;> first | rfl | exact absurd rfl ht⟩
  · intro b hb; cases hb; exact .inl (by rw [hL]; rfl)

namespace St
def undV (s : St) (m : Nat) : Nat → Nat → Int
  | 0 => s.val
  | k + 1 => fun j => if j = neg (s.tr (m + k)) then 0 else if j = s.tr (m + k) then 0 else undV s m k j
def undR (s : St) (m : Nat) : Nat → Nat → Nat
  | 0 => s.rsn
  | k + 1 => fun j => if j = s.tr (m + k) then 0 else undR s m k j
/-- The first k behind m are undone. -/
def und (s : St) (m k : Nat) : St := { s with val := s.undV m k, rsn := s.undR m k }
theorem undV_eq (s : St) (m q : Nat) : ∀ k, ((∃ i, i < k ∧ (s.tr (m + i) = q ∨ s.tr (m + i) = neg q)) → s.undV m k q = 0) ∧ (¬ (∃ i, i < k ∧ (s.tr (m + i) = q ∨ s.tr (m + i) = neg q)) → s.undV m k q = s.val q)
  | 0 => ⟨fun ⟨i, h, _⟩ => absurd h (Nat.not_lt_zero _), fun _ => rfl⟩
  | k + 1 => by
    obtain ⟨h1, h2⟩ := undV_eq s m q k
    have e : s.undV m (k + 1) q = if q = neg (s.tr (m + k)) then 0 else if q = s.tr (m + k) then 0 else s.undV m k q := rfl
    rw [e]
    constructor
    · rintro ⟨i, hi, hx⟩
      by_cases h3 : q = neg (s.tr (m + k))
      · rw [if_pos h3]
      · rw [if_neg h3]
        by_cases h4 : q = s.tr (m + k)
        · rw [if_pos h4]
        · rw [if_neg h4]
          refine h1 ⟨i, ?_, hx⟩
          rcases Nat.lt_or_ge i k with h5 | h5
          · exact h5
          · obtain rfl : i = k := by omega
            rcases hx with hx | hx
            · exact absurd hx.symm h4
            · exact absurd (neg_eq hx.symm) h3
    · intro hn
      have h3 : q ≠ neg (s.tr (m + k)) := fun e => hn ⟨k, by omega, .inr (neg_eq e.symm)⟩
      have h4 : q ≠ s.tr (m + k) := fun e => hn ⟨k, by omega, .inl e.symm⟩
      rw [if_neg h3, if_neg h4]
      exact h2 fun ⟨i, hi, hx⟩ => hn ⟨i, by omega, hx⟩
theorem undR_eq (s : St) (m q : Nat) : ∀ k, ((∃ i, i < k ∧ s.tr (m + i) = q) → s.undR m k q = 0) ∧ (¬ (∃ i, i < k ∧ s.tr (m + i) = q) → s.undR m k q = s.rsn q)
  | 0 => ⟨fun ⟨i, h, _⟩ => absurd h (Nat.not_lt_zero _), fun _ => rfl⟩
  | k + 1 => by
    obtain ⟨h1, h2⟩ := undR_eq s m q k
    have e : s.undR m (k + 1) q = if q = s.tr (m + k) then 0 else s.undR m k q := rfl
    rw [e]
    constructor
    · rintro ⟨i, hi, hx⟩
      by_cases h4 : q = s.tr (m + k)
      · rw [if_pos h4]
      · rw [if_neg h4]
        refine h1 ⟨i, ?_, hx⟩
        rcases Nat.lt_or_ge i k with h5 | h5
        · exact h5
        · obtain rfl : i = k := by omega
          exact absurd hx.symm h4
    · intro hn
      have h4 : q ≠ s.tr (m + k) := fun e => hn ⟨k, by omega, e.symm⟩
      rw [if_neg h4]
      exact h2 fun ⟨i, hi, hx⟩ => hn ⟨i, by omega, hx⟩
theorem und_cut (s : St) (m : Nat) (hm : m ≤ s.nt) : { s.und m (s.nt - m) with nt := m, done := m } = s.cut m := by
  have hv : s.undV m (s.nt - m) = (s.cut m).val := by
    funext q
    obtain ⟨h1, h2⟩ := undV_eq s m q (s.nt - m)
    by_cases hx : ∃ i, i < s.nt ∧ m ≤ i ∧ (s.tr i = q ∨ s.tr i = neg q)
    · have e : (s.cut m).val q = 0 := if_pos (cut_any.2 hx)
      rw [e]
      obtain ⟨i, a, b, c⟩ := hx
      exact h1 ⟨i - m, by omega, by rw [show m + (i - m) = i by omega]; exact c⟩
    · have e : (s.cut m).val q = s.val q := if_neg (fun e => hx (cut_any.1 e))
      rw [e]
      exact h2 fun ⟨i, a, b⟩ => hx ⟨m + i, by omega, by omega, b⟩
  have hr : s.undR m (s.nt - m) = (s.cut m).rsn := by
    funext q
    obtain ⟨h1, h2⟩ := undR_eq s m q (s.nt - m)
    by_cases hx : ∃ i, i < s.nt ∧ m ≤ i ∧ s.tr i = q
    · have e : (s.cut m).rsn q = 0 := if_pos (cut_any2.2 hx)
      rw [e]
      obtain ⟨i, a, b, c⟩ := hx
      exact h1 ⟨i - m, by omega, by rw [show m + (i - m) = i by omega]; exact c⟩
    · have e : (s.cut m).rsn q = s.rsn q := if_neg (fun e => hx (cut_any2.1 e))
      rw [e]
      exact h2 fun ⟨i, a, b⟩ => hx ⟨m + i, by omega, by omega, b⟩
  show { s with val := s.undV m (s.nt - m), rsn := s.undR m (s.nt - m), nt := m, done := m } = s.cut m
  rw [hv, hr]; rfl
end St

set_option maxHeartbeats 2000000 in
set_option maxRecDepth 100000 in
theorem retreat_any {K M : Nat} {w : World} {L : Tag → Value} {s : St} (h : Mem w K M L s) (hf : Fit' s) (ht : ∀ i, i < s.nt → s.tr i < 2 * s.nv) {m : Nat} (hm : m ≤ s.nt) :
    Calls Try.prog 57 #[.pointer (some ⟨K, 0, none⟩), .int .i64 m] w fun e w' => e = .returned (.tuple #[]) ∧ ∃ L', Tn K M w L w' L' (s.cut m) := by
  rcases h.row .tra with ⟨hL6, h0⟩ | ⟨gt, ct, F, hL6, hct, hcm, hrw, hF⟩
  · have h0' : s.nt = 0 := h0
    obtain rfl : m = 0 := by omega
    have c6 : w.cell? ⟨K, 6, none⟩ = some (.slice none 0 0) := (h.c 6 (by omega)).trans (congrArg some hL6)
    have c7 : w.cell? ⟨K, 7, none⟩ = some (.int .i64 s.done) := h.c 7 (by omega)
    have fK := h.fk
    have e := St.und_cut s 0 hm
    rw [h0'] at e
    have T2 := (h.head 6 (.slice none 0 0) s (by
      intro j hj
      by_cases e : j = 6
      · subst e; rw [if_pos rfl]; exact hL6.symm
      · rw [if_neg e]) ⟨rfl, rfl, rfl⟩ fun t => ⟨rfl, fun _ => rfl⟩)
    have T3 := T2.trans (T2.mem.stDone 0)
    rw [show ({ s with done := 0 } : St) = s.cut 0 by rw [← e]; show ({ s with done := 0 } : St) = { s with nt := 0, done := 0 }; rw [← h0']] at T3
    have HT := Lib.hid T3
    clear T2 T3 h e ht hL6 h0 h0' hm hf
    go_enter Try.func57, Try.ntmps57
    go_wp2
    go_loopw [13] (fun v wr => v = .int .i64 0 ∧ wr = w) (fun _ _ => 0)
    case atStart => exact ⟨rfl, rfl⟩
    case round =>
      obtain ⟨rfl, rfl⟩ := hrel
      go_wp2
      go_end0
      exact ⟨rfl, _, HT.out⟩
  · clear hrw hF F
    replace hL6 : L .tra = .slice (some ⟨gt, 0, none⟩) s.nt ct := hL6
    have hm1 : m ≤ ct := Nat.le_trans hm hct
    have hct' : s.nt ≤ ct := hct
    have hmx : ct ≤ 9223372036854775807 := by unfold maxLen at hcm; omega
    have c6 : w.cell? ⟨K, 6, none⟩ = some (.slice (some ⟨gt, 0, none⟩) s.nt ct) := (h.c 6 (by omega)).trans (congrArg some hL6)
    have hmt : (m : Int) ≤ s.nt := by omega
    have HF := Lib.hid (And.intro hf (And.intro ht hL6))
    have H0 := Lib.hid (show Tn K M w L w L (s.und m 0) from h.refl)
    have HC := Lib.hid (St.und_cut s m hm)
    have hnt := hf.nt
    have hnv := hf.nv
    have HC0 := Lib.hid h
    clear hf ht hct hcm h hL6
    by_cases hmn : m = s.nt
    · have T1 := HC0.out.trunc HF.out.2.2 hm
      have T2 := T1.trans (T1.mem.stDone m)
      have e1 := HC.out
      have hu : s.und m (s.nt - m) = s := by rw [show s.nt - m = 0 by omega]; rfl
      rw [hu] at e1
      have HT := Lib.hid (show Tn K M w L _ _ (s.cut m) by rw [← e1]; exact T2)
      have c7 : w.cell? ⟨K, 7, none⟩ = some (.int .i64 s.done) := HC0.out.c 7 (by omega)
      have fK := HC0.out.fk
      clear T1 T2 e1 hu HC HC0 H0 HF hnt hnv hct' hm
      subst hmn
      by_cases hcs : ct = s.nt
      all_goals
        first | subst hcs | (have hcs2 : ¬ s.nt = ct := fun e => hcs e.symm)
        go_enter Try.func57, Try.ntmps57
        go_wp2
        go_loopw [13] (fun v wr => v = .int .i64 0 ∧ wr = w) (fun _ _ => 0)
        case atStart => exact ⟨rfl, rfl⟩
        case round =>
          obtain ⟨rfl, rfl⟩ := hrel
          go_wp2
          go_end0
          exact ⟨rfl, _, HT.out⟩
    clear HC0
    have hmn2 : m < s.nt := by omega
    have hct2 : ¬ ct = m := by omega
    have hct3 : ¬ m = ct := by omega
    have hct4 : ¬ (ct : Int) = m := by omega
    have hct5 : ¬ (m : Int) = ct := by omega
    go_enter Try.func57, Try.ntmps57
    go_wp2
    go_loopw [13] (fun v wr => ∃ k : Nat, m + k ≤ s.nt ∧ v = .int .i64 k ∧ Hid (Tn K M w L wr L (s.und m k))) (fun v _ => s.nt - m - (intOf v).toNat)
    case atStart => exact ⟨0, by omega, rfl, H0⟩
    case round =>
      obtain ⟨k, hk, rfl, HI⟩ := hrel
      clear c6
      have fK := HI.out.mem.fk
      have c6 := (HI.out.mem.c 6 (by omega)).trans (congrArg some HF.out.2.2)
      have c7 : wr.cell? ⟨K, 7, none⟩ = some (.int .i64 s.done) := HI.out.mem.c 7 (by omega)
      by_cases hlt : m + k < s.nt
      · clear c6 c7 fK
        have hme := HI.out.mem
        have hp : s.tr (m + k) < 2 * s.nv := HF.out.2.1 _ hlt
        have hnp := neg_lt hp
        have hev : s.ev = 2 * s.nv := HF.out.1.ev
        have her : s.er = 2 * s.nv := HF.out.1.er
        obtain ⟨gv, cv, hL4, _⟩ := (hme.row .vals).pos (show 0 < s.ev by omega)
        obtain ⟨gr, cr, hL5, _⟩ := (hme.row .rsns).pos (show 0 < s.er by omega)
        replace hL4 : L .vals = .slice (some ⟨gv, 0, none⟩) s.ev cv := hL4
        replace hL5 : L .rsns = .slice (some ⟨gr, 0, none⟩) s.er cr := hL5
        have c4 : wr.cell? ⟨K, 4, none⟩ = some (.slice (some ⟨gv, 0, none⟩) s.ev cv) := (hme.c 4 (by omega)).trans (congrArg some hL4)
        have c5 : wr.cell? ⟨K, 5, none⟩ = some (.slice (some ⟨gr, 0, none⟩) s.er cr) := (hme.c 5 (by omega)).trans (congrArg some hL5)
        have x0 : wr.cell? ⟨gt, m + k, none⟩ = some (.int .i32 (s.tr (m + k))) := hme.rc HF.out.2.2 (show m + k < s.nt * 1 by omega)
        have f4 := hme.fz hL4
        have f5 := hme.fz hL5
        have n1 := hme.ne hL4
        have n2 := hme.ne hL5
        have n3 := hme.ne2 hL4 hL5 (by decide)
        have x1 := hme.rc (t := .vals) hL4 (show s.tr (m + k) < s.ev * 1 by omega)
        have x2 := hme.rc (t := .vals) hL4 (show neg (s.tr (m + k)) < s.ev * 1 by omega)
        have x3 := hme.rc (t := .rsns) hL5 (show s.tr (m + k) < s.er * 1 by omega)
        have T1 := hme.stVal hL4 (s.tr (m + k)) 0
        have T2 := (T1.mem.stVal hL4 (neg (s.tr (m + k))) 0).drewN 1
        have T3 := T2.mem.stRsn hL5 (s.tr (m + k)) 0
        have HT := Lib.hid (HI.out.trans (T1.trans (T2.trans T3)))
        have HN := Lib.hid (negation_any (s.tr (m + k)) (by omega))
        have hq : neg (s.tr (m + k)) ≠ s.tr (m + k) := neg_ne _
        have hp1 : (s.tr (m + k) : Int) < (s.ev : Int) := by omega
        have hp2 : (neg (s.tr (m + k)) : Int) < (s.ev : Int) := by omega
        have hp3 : (s.tr (m + k) : Int) < (s.er : Int) := by omega
        clear hme T1 T2 T3 HI hL4 hL5 hp hnp hev her
        generalize hpp : s.tr (m + k) = p at *
        generalize fOf L _ .vals p = y1 at *
        generalize fOf L _ .vals (neg p) = y2 at *
        generalize fOf L _ .rsns p = y3 at *
        go_wp2
        go_region_with (go_at_call 71; refine (HN.out _).mono ?_; rintro e w' ⟨rfl, rfl⟩)
        all_goals
          go_wp2
          go_roundw
          case rel => exact ⟨k + 1, by omega, by go_num, Lib.hid (by have := HT.out; subst hpp; exact this.same rfl rfl rfl rfl)⟩
          case measure => simp [intOf]; omega
      · have T1 := HI.out.mem.trunc HF.out.2.2 hm
        have T2 := T1.trans (T1.mem.stDone m)
        have hk2 : k = s.nt - m := by omega
        subst hk2
        have T3 := HI.out.trans T2
        have e1 := HC.out
        have HT := Lib.hid (show Tn K M w L _ _ (s.cut m) by rw [← e1]; exact T3)
        clear T1 T2 T3 HI HC H0 e1
        have hz : ¬ (((s.nt - m : Nat) : Int) < (s.nt - m : Nat)) := by omega
        go_wp2
        go_end0
        exact ⟨rfl, _, HT.out⟩
end Go.Proofs.Ytoffhgiljnagcaa
