/- Joined: VA, VB, VC. -/
import Derived.Test.YtoffhgiljnagcaaRP
import Derived.Test.YtoffhgiljnagcaaUI
import Derived.Test.YtoffhgiljnagcaaZh
import Derived.Test.YtoffhgiljnagcaaUJ
/- Contracts: the answers' same; rows that come and go. -/
namespace Go.Proofs.Ytoffhgiljnagcaa
open Go.RowKit Go.Lib
set_option maxRecDepth 100000

def SmePost (A B : List Int) (w : World) (e : Ending) (w' : World) : Prop :=
  ∃ b : Bool, e = .returned (.bool b) ∧ Hid (b = true ↔ A = B) ∧ Hid (Below w.heap.size w w')
theorem gd_eq {a b : List Int} : a = b ↔ a.length = b.length ∧ ∀ j, j < a.length → gd a j = gd b j := by
  constructor
  · rintro rfl; exact ⟨rfl, fun _ _ => rfl⟩
  · rintro ⟨h1, h2⟩
    refine List.ext_getElem h1 fun i hi hi' => ?_
    have := h2 i hi
    rw [gd_lt hi, gd_lt hi'] at this; exact this
set_option maxHeartbeats 1000000 in
theorem same_any (a : Option Addr) (n c : Nat) (f : Nat → Int) (b : Option Addr) (m c' : Nat) (g : Nat → Int) (w : World) (hn : n ≤ 1000) (hm : m ≤ 1000) (hf : Has w a n f) (hg : Has w b m g) :
    Calls Try.prog 61 #[.slice a n c, .slice b m c'] w (SmePost (nfv (lof f n)) (nfv (lof g m)) w) := by
  have h1 := nfv_le (lof f n)
  have h2 := nfv_le (lof g m)
  rw [lof_length] at h1 h2
  have HI := Lib.hid (show ∀ w1 w2 a1 c1 a2 c2, Below w1.heap.size w1 w2 → Has w1 a1 (nfv (lof f n)).length (gd (nfv (lof f n))) → Has w2 a2 (nfv (lof g m)).length (gd (nfv (lof g m))) → Below w.heap.size w w2 → Calls Try.prog 79 #[.slice a1 (nfv (lof f n)).length c1, .slice a2 (nfv (lof g m)).length c2] w2 (SmePost (nfv (lof f n)) (nfv (lof g m)) w) from fun w1 w2 a1 c1 a2 c2 hb x1 x2 hw => by
    refine (ints_any a1 a2 _ _ c1 c2 _ _ w2 (by omega) (x1.below hb) x2).mono ?_
    rintro e w' ⟨rfl, q, rfl⟩
    refine ⟨_, rfl, Lib.hid ?_, Lib.hid (below_drewN hw q)⟩
    rw [sameF_iff, gd_eq])
  have HN := Lib.hid (show ∀ w', Below w.heap.size w w' → Calls Try.prog 78 #[.slice b m c'] w' (RefPost (lof g m) w') from fun w' hb => refNorm_any b m c' g w' (by omega) (hg.below hb))
  have HF := Lib.hid (refNorm_any a n c f w (by omega) hf)
  clear hf hg
  unfold RefPost at HN HF
  generalize nfv (lof f n) = A at *
  generalize nfv (lof g m) = B at *
  generalize tautv (lof f n) = tA at *
  generalize tautv (lof g m) = tB at *
  go_enter Try.func61, Try.ntmps61
  go_wp2_with (first
    | (go_at_call 79; refine HZ.out.mono ?_; rintro e w3 ⟨bb, rfl, hx, hy⟩)
    | (go_at_call 78; refine (HN.out w1 HX.out.2).mono ?_; rintro e w2 ⟨a2, c2, rfl, y1, y2⟩; have HZ := Lib.hid (HI.out w1 w2 a1 c1 a2 c2 y2 HX.out.1 y1 (HX.out.2.trans (y2.mono HX.out.2.size))); clear y1 y2)
    | (go_at_call 78; refine HF.out.mono ?_; rintro e w1 ⟨a1, c1, rfl, x1, x2⟩; have HX := Lib.hid (And.intro x1 x2); clear x1 x2))
  go_ret
  exact ⟨bb, rfl, hx, hy⟩
end Go.Proofs.Ytoffhgiljnagcaa
/- Rows that come and go: mathematics; in memory. -/
namespace Go.Proofs.Ytoffhgiljnagcaa
open Go.RowKit Go.Lib
set_option maxRecDepth 100000

theorem cntR_eq {R R' : Nat → Row} : ∀ {k : Nat}, (∀ j, j < k → R j = R' j) → cntR R k = cntR R' k
  | 0, _ => rfl
  | k + 1, h => by
    show inc (cntR R k) _ = inc (cntR R' k) _
    rw [cntR_eq (k := k) fun j hj => h j (by omega), h k (by omega)]
theorem cntR_ex {R : Nat → Row} {F : List Int} : ∀ {k : Nat}, cntR R k F ≠ 0 → ∃ j, j < k ∧ nfv (lof (R j).f (R j).n) = F
  | 0, h => absurd rfl h
  | k + 1, h => by
    by_cases e : F = nfv (lof (R k).f (R k).n)
    · exact ⟨k, by omega, e.symm⟩
    · have h' : inc (cntR R k) (nfv (lof (R k).f (R k).n)) F ≠ 0 := h
      rw [inc_ne e] at h'
      obtain ⟨j, hj, e2⟩ := cntR_ex h'
      exact ⟨j, by omega, e2⟩
theorem cntR_ap (T : Nat → Row) (t : Nat) (r : Row) : cntR (apR T t (fun _ => r)) (t + 1) = inc (cntR T t) (nfv (lof r.f r.n)) := by
  show inc (cntR (apR T t fun _ => r) t) (nfv (lof (apR T t (fun _ => r) t).f (apR T t (fun _ => r) t).n)) = _
  rw [cntR_eq (R := apR T t fun _ => r) (R' := T) fun j hj => if_pos hj, show apR T t (fun _ => r) t = r from if_neg (Nat.lt_irrefl _)]
/-- Without row x. -/
def dlR (T : Nat → Row) (x : Nat) (j : Nat) : Row := if j < x then T j else T (j + 1)
theorem dec_inc (c : List Int → Nat) (N : List Int) : dec (inc c N) N = c := by
  funext G; unfold dec inc
  split
  · next e => rw [if_pos rfl, e]; omega
  · rfl
theorem cntR_dl (T : Nat → Row) (x : Nat) : ∀ t, x ≤ t → cntR (dlR T x) t = dec (cntR T (t + 1)) (nfv (lof (T x).f (T x).n))
  | 0, h => by
    obtain rfl : x = 0 := by omega
    exact (dec_inc _ _).symm
  | t + 1, h => by
    by_cases e : x = t + 1
    · subst e
      rw [cntR_eq (R := dlR T (t + 1)) (R' := T) fun j hj => if_pos hj]
      exact (dec_inc _ _).symm
    · have ih := cntR_dl T x t (by omega)
      show inc (cntR (dlR T x) t) (nfv (lof (dlR T x t).f (dlR T x t).n)) = dec (inc (cntR T (t + 1)) (nfv (lof (T (t + 1)).f (T (t + 1)).n))) (nfv (lof (T x).f (T x).n))
      rw [ih, show dlR T x t = T (t + 1) from if_neg (by omega)]
      have hne := cntR_mono T (show x < t + 1 by omega)
      generalize cntR T (t + 1) = c at *
      generalize nfv (lof (T x).f (T x).n) = N at *
      generalize nfv (lof (T (t + 1)).f (T (t + 1)).n) = N2 at *
      funext G
      unfold inc dec
      by_cases h1 : G = N2 <;> by_cases h2 : G = N
      · subst h1; subst h2; simp; omega
      · subst h1
        have : ¬ G = N := h2
        simp [this]
      · subst h2
        have h3 : ¬ G = N2 := h1
        simp [h3]
      · simp [h1, h2]
theorem pcl_rows {T : Nat → Row} {t : Nat} (hl : litR T t = true) (so : Int → Prop) : Conf (PCl (cntR T t)) so ↔ Conf (RowC T t) so := by
  constructor
  · intro h
    refine h.sub (fun c hc => .inl ?_) _ fun _ h => h
    obtain ⟨F, h1, h2⟩ := hc
    obtain ⟨j, hj, rfl⟩ := cntR_ex h1
    exact ⟨_, ⟨j, hj, rfl⟩, fun x => ((h2 x).trans (nfv_mem (litF_mem (litR_iff.1 hl j hj)) x)).symm⟩
  · intro h
    refine h.sub (fun c hc => .inl ?_) _ fun _ h => h
    obtain ⟨j, hj, rfl⟩ := hc
    exact ⟨_, ⟨_, cntR_mono T hj, fun x => (nfv_mem (litF_mem (litR_iff.1 hl j hj)) x).symm⟩, .refl _⟩
/-- A row that may stand there. -/
structure RowOk (w : World) (r : Row) : Prop where
  has : Has w r.a r.n r.f
  n : r.n ≤ 30
  c : r.n ≤ r.c
  m : r.c ≤ 9223372036854775807
  lit : litF r.f r.n = true
/-- What is there. -/
structure Th (w wr : World) (a : Option Addr) (t c : Nat) (T : Nat → Row) : Prop where
  fr : Frs 23 w wr (.slice a t c) t (fun j => .slice (T j).a (T j).n (T j).c)
  rows : ∀ j, j < t → RowOk w (T j)
theorem Th.lit {w wr : World} {a : Option Addr} {t c : Nat} {T : Nat → Row} (h : Th w wr a t c T) : litR T t = true := litR_iff.2 fun j hj => (h.rows j hj).lit
theorem Th.rws {w wr : World} {a : Option Addr} {t c : Nat} {T : Nat → Row} (h : Th w wr a t c T) : Rws wr a t T := h.fr.rows fun j hj => ⟨rfl, (h.rows j hj).has.below h.fr.bel⟩
theorem Th.then {w wr w' : World} {a : Option Addr} {t c : Nat} {T : Nat → Row} (h : Th w wr a t c T) (hb : Below wr.heap.size wr w') : Th w w' a t c T := ⟨h.fr.then hb, h.rows⟩
theorem Th.ap {w w' : World} {a' : Option Addr} {t c' : Nat} {T : Nat → Row} {r : Row} (hr : ∀ j, j < t → RowOk w (T j)) (hr2 : RowOk w r) (h : Frs 23 w w' (.slice a' (t + 1) c') (t + 1) (snV (fun j => .slice (T j).a (T j).n (T j).c) t (.slice r.a r.n r.c))) : Th w w' a' (t + 1) c' (apR T t (fun _ => r)) := by
  refine ⟨h.congr fun j hj => ?_, fun j hj => ?_⟩
  · unfold snV apR; split <;> rfl
  · by_cases e : j < t
    · rw [show apR T t (fun _ => r) j = T j from if_pos e]; exact hr j e
    · rw [show apR T t (fun _ => r) j = r from if_neg e]; exact hr2
theorem Th.dl {w w' : World} {a' : Option Addr} {t c' x : Nat} {T : Nat → Row} (hx : x < t + 1) (hr : ∀ j, j < t + 1 → RowOk w (T j)) (h : Frs 23 w w' (.slice a' (x + (t - x)) c') (x + (t - x)) (catV (fun j => .slice (T j).a (T j).n (T j).c) x (fun j => .slice (T (x + 1 + j)).a (T (x + 1 + j)).n (T (x + 1 + j)).c))) : Th w w' a' (x + (t - x)) c' (dlR T x) := by
  refine ⟨h.congr fun j hj => ?_, fun j hj => ?_⟩
  · by_cases e : j < x
    · simp only [catV, dlR, if_pos e]
    · simp only [catV, dlR, if_neg e]
      rw [show x + 1 + (j - x) = j + 1 by omega]
  · unfold dlR
    split
    · exact hr j (by omega)
    · exact hr (j + 1) (by omega)
end Go.Proofs.Ytoffhgiljnagcaa
/- Contracts: the answers' Check. -/
namespace Go.Proofs.Ytoffhgiljnagcaa
open Go.RowKit Go.Lib
set_option maxRecDepth 100000

/-- A row that may come. -/
structure RowPre (w : World) (r : Row) : Prop where
  has : Has w r.a r.n r.f
  n : r.n ≤ 30
  c : r.n ≤ r.c
  m : r.c ≤ 9223372036854775807
theorem RowPre.ok {w : World} {r : Row} (h : RowPre w r) (hl : litF r.f r.n = true) : RowOk w r := ⟨h.has, h.n, h.c, h.m, hl⟩
def rowX (x : Lin) : Row := ⟨x.a, x.n, x.c, x.f⟩
/-- Behind i lines. -/
def ThW (w : World) (R : Nat → Row) (n : Nat) (X : Nat → Lin) (i : Nat) (wr : World) (a : Option Addr) (t c : Nat) : Prop :=
  ∃ T, Th w wr a t c T ∧ cntR T t = runL (cntR R n) X i ∧ okTo (cntR R n) X i ∧ t ≤ n + i

theorem fo_any {w wr : World} {a : Option Addr} {t c : Nat} {T : Nat → Row} {x : Lin} (hT : Th w wr a t c T) (hx : Has w x.a x.n x.f) (hxn : x.n ≤ 30) (hl : litF x.f x.n = true) (ht : t ≤ 1000) :
    Calls Try.prog 25 #[.slice a t c, .slice x.a x.n x.c] wr fun e w' => ∃ b : Bool, e = .returned (.bool b) ∧ Hid (Below wr.heap.size wr w') ∧ Hid (b = true ↔ okL (cntR T t) false x.f x.n) := by
  refine (refFollows_any a x.a t c x.n x.c T x.f wr ht (by omega) (fun j hj => ⟨(hT.rows j hj).n, (hT.rows j hj).c, (hT.rows j hj).m⟩) hT.rws (hx.below hT.fr.bel)).mono ?_
  rintro e w' ⟨b, rfl, h2, h3⟩
  refine ⟨b, rfl, h3, Lib.hid (h2.out.trans ?_)⟩
  unfold okL
  rw [pcl_rows hT.lit]
  constructor
  · rintro ⟨_, _, h⟩; exact ⟨hl, .inr ⟨rfl, h⟩⟩
  · rintro ⟨_, ⟨h, _⟩ | ⟨_, h⟩⟩
    · cases h
    · exact ⟨hT.lit, hl, h⟩

set_option maxHeartbeats 8000000 in
theorem refCheck_any (a : Option Addr) (n c : Nat) (R : Nat → Row) (a1 : Option Addr) (m c1 : Nat) (X : Nat → Lin) (a2 : Option Addr) (l c2 : Nat) (f : Nat → Int) (w : World) (hn : n ≤ 100) (hm : m ≤ 100) (hl : l ≤ 30) (h : Rws w a n R) (hnil : a = none → n = 0 ∧ c = 0) (hR : ∀ j, j < n → RowPre w (R j)) (hX : Lns w a1 m X) (hXp : ∀ j, j < m → RowPre w (rowX (X j))) (hf : Has w a2 l f) :
    Calls Try.prog 35 #[.slice a n c, .slice a1 m c1, .slice a2 l c2] w (ChkOk R n X m f l w) := by
  have HS0 := Lib.hid (Rws.src (h.below ((Below.refl w.heap.size w).alloc (Nat.le_refl _) (.cells #[] 23))) hnil)
  have HR := Lib.hid (And.intro h (And.intro hR (And.intro hX (And.intro hXp hf))))
  clear h hR hX hXp hf hnil
  go_enter Try.func35, Try.ntmps35
  go_wp2_with (at_builtin; refine Frs.app0 (W := w) elemRow (Below.refl _ _) HS0.out (by unfold maxLen; omega) (by omega) rfl _ _ rfl rfl rfl ?_; intro a3 c3 w1 H1)
  clear HS0
  go_loop [8] (fun v => ∃ i : Nat, i ≤ n ∧ v = .int .i64 i ∧ Hid (litR R i = true)) (fun v => n - (intOf v).toNat)
  case atStart => exact ⟨0, Nat.zero_le _, rfl, Lib.hid (by simp [litR])⟩
  case round =>
    obtain ⟨i, hi, rfl, HI⟩ := hrel
    by_cases hlt : i < n
    · have hltI : (i : Int) < (n : Int) := by omega
      rcases HR.out.1 with h0 | ⟨b, off, rfl, hb, hc⟩
      · omega
      have xc := (H1.out.bel.cell (p := ⟨b, off + i, none⟩) hb).trans (hc i hlt).1
      have HX := refRight_any (R i).a (R i).n (R i).c (R i).f w1 (by have := (HR.out.2.1 i hlt).n; omega) ((HR.out.2.1 i hlt).has.below H1.out.bel)
      clear hc hb
      cases e : litF (R i).f (R i).n
      · have HN := Lib.hid (show ChkOk R n X m f l w (.returned (.int .i64 (-1))) w1 from ⟨-1, rfl, Lib.hid (.inl ⟨(fun h => by rw [litR_iff.1 h.1 i hlt] at e; cases e), rfl⟩), Lib.hid H1.out.bel⟩)
        rw [e] at HX
        have HX := Lib.hid HX
        clear e
        go_wp2_with (go_at_call 16; refine HX.out.mono ?_; rintro e w' ⟨rfl, rfl⟩)
        go_ret
        exact HN.out
      · have HN := Lib.hid (show litR R (i + 1) = true from by rw [litR_succ, HI.out, e]; rfl)
        rw [e] at HX
        have HX := Lib.hid HX
        clear e
        go_wp2_with (go_at_call 16; refine HX.out.mono ?_; rintro e w' ⟨rfl, rfl⟩)
        go_round
        case rel => exact ⟨i + 1, by omega, by go_num, HN⟩
        case measure => simp [intOf]; omega
    · obtain rfl : i = n := by omega
      have hltI : ¬ (i : Int) < (i : Int) := by omega
      clear hlt
      have HX := refRight_any a2 l c2 f w1 (by omega) (HR.out.2.2.2.2.below H1.out.bel)
      cases hlf : litF f l
      · have HN := Lib.hid (show ChkOk R i X m f l w (.returned (.int .i64 (-1))) w1 from ⟨-1, rfl, Lib.hid (.inl ⟨(fun h => by rw [h.2] at hlf; cases hlf), rfl⟩), Lib.hid H1.out.bel⟩)
        rw [hlf] at HX
        have HX := Lib.hid HX
        clear hlf
        go_wp2_with (go_at_call 16; refine HX.out.mono ?_; rintro e w' ⟨rfl, rfl⟩)
        go_ret
        exact HN.out
      · rw [hlf] at HX
        have HX := Lib.hid HX
        have HLF := Lib.hid hlf
        clear hlf
        have H2 := Lib.hid (show ThW w R i X 0 w1 a3 i c3 from ⟨R, ⟨H1.out, fun j hj => (HR.out.2.1 j hj).ok (litR_iff.1 HI.out j hj)⟩, rfl, okTo_zero _ _, Nat.le_refl _⟩)
        go_wp2_with (go_at_call 16; refine HX.out.mono ?_; rintro e w' ⟨rfl, rfl⟩)
        clear HX H1
        go_loopw [7, 9, 10, 11, 12, 13] (fun s v _ _ _ _ wr => ∃ (k : Nat) (a : Option Addr) (t c : Nat), k ≤ m ∧ t ≤ i + k ∧ s = .slice a t c ∧ v = .int .i64 k ∧ Hid (ThW w R i X k wr a t c)) (fun _ v _ _ _ _ _ => m - (intOf v).toNat)
        case atStart => exact ⟨0, a3, i, c3, Nat.zero_le _, by omega, rfl, rfl, H2⟩
        case round =>
          obtain ⟨k, a, t, c, hk, htk, rfl, rfl, HT⟩ := hrel
          clear H2
          obtain ⟨T, hT, hcn, hok, _⟩ := HT.out
          have HTH := Lib.hid hT
          have HCN := Lib.hid hcn
          have HOK := Lib.hid hok
          clear hT hcn hok HT
          by_cases hlt : k < m
          · have hltI : (k : Int) < (m : Int) := by omega
            rcases HR.out.2.2.1 with h0 | ⟨b, off, rfl, hb, hc⟩
            · omega
            obtain ⟨y1, y2, y3⟩ := hc k hlt
            have x1 := (HTH.out.fr.bel.cell (p := ⟨b, off + k * 2, none⟩) hb).trans y1
            have x2 := (HTH.out.fr.bel.cell (p := ⟨b, off + k * 2 + 1, none⟩) hb).trans y2
            have HRP := Lib.hid (HR.out.2.2.2.1 k hlt)
            have HX := refRight_any (X k).a (X k).n (X k).c (X k).f wr (by have := HRP.out.n; unfold rowX at this; simp only at this; omega) (y3.below HTH.out.fr.bel)
            clear hc hb y1 y2 y3
            cases hlk : litF (X k).f (X k).n
            · have HN := Lib.hid (show ChkOk R i X m f l w (.returned (.int .i64 (k + 1))) wr from ⟨_, rfl, Lib.hid (.inr ⟨HI.out, HLF.out, .inl ⟨k, rfl, hlt, HOK.out, fun h => by have := h.1; rw [hlk] at this; cases this⟩⟩), Lib.hid HTH.out.fr.bel⟩)
              rw [hlk] at HX
              have HX := Lib.hid HX
              clear hlk
              go_wp2_with (go_at_call 16; refine HX.out.mono ?_; rintro e w' ⟨rfl, rfl⟩)
              go_ret
              exact HN.out
            · rw [hlk] at HX
              have HX := Lib.hid HX
              have HLK := Lib.hid hlk
              clear hlk
              have hxn : (X k).n ≤ 30 := HRP.out.n
              cases hd : (X k).d
              · rw [hd] at x1
                have HFO := Lib.hid (fo_any HTH.out HRP.out.has hxn HLK.out (by omega))
                have HNO := Lib.hid (show ∀ w', Below wr.heap.size wr w' → ¬ okL (cntR T t) false (X k).f (X k).n → ChkOk R i X m f l w (.returned (.int .i64 (k + 1))) w' from fun w' hb hno => ⟨_, rfl, Lib.hid (.inr ⟨HI.out, HLF.out, .inl ⟨k, rfl, hlt, HOK.out, by rw [← HCN.out, hd]; exact hno⟩⟩), Lib.hid (HTH.out.fr.bel.trans (hb.mono HTH.out.fr.bel.size))⟩)
                have HYE := Lib.hid (show okL (cntR T t) false (X k).f (X k).n → okTo (cntR R i) X (k + 1) ∧ runL (cntR R i) X (k + 1) = inc (cntR T t) (nfv (lof (X k).f (X k).n)) from fun ho => ⟨okTo_succ HOK.out (by rw [← HCN.out, hd]; exact ho), by
                  show nxt (runL (cntR R i) X k) (X k).d (X k).f (X k).n = _
                  rw [hd, ← HCN.out]; rfl⟩)
                clear hd
                go_wp2_with (first
                  | (go_at_call 16; refine HX.out.mono ?_; rintro e w' ⟨rfl, rfl⟩)
                  | (go_at_call 25; refine HFO.out.mono ?_; rintro e w2 ⟨bb, rfl, HB1, HB2⟩)
                  | (at_builtin; refine Frs.app1 elemRow (Lib.hid (HTH.out.then HB1.out).fr) (Below.refl _ _) (.slice (X k).a (X k).n (X k).c) rfl (by unfold maxLen; omega) (by omega) rfl _ _ rfl rfl rfl ?_; intro a5 c5 w5 H5))
                · have hb : bb = false := by simp_all
                  have HN := Lib.hid (HNO.out _ HB1.out fun ho => by rw [HB2.out.2 ho] at hb; cases hb)
                  clear hb
                  go_ret
                  exact HN.out
                · have hb : bb = true := by simp_all
                  have HN := Lib.hid (HYE.out (HB2.out.1 hb))
                  have HT' := Lib.hid (show ThW w R i X (k + 1) w5 a5 (t + 1) c5 from ⟨_, Th.ap (r := rowX (X k)) HTH.out.rows (HRP.out.ok HLK.out) H5.out, by rw [cntR_ap]; exact HN.out.2.symm, HN.out.1, by omega⟩)
                  clear hb
                  go_roundw
                  case rel => exact ⟨k + 1, a5, t + 1, c5, by omega, by omega, rfl, by go_num, HT'⟩
                  case measure => simp [intOf]; omega
              · rw [hd] at x1
                have HSM := Lib.hid (show ∀ j, j < t → ∀ w', Below wr.heap.size wr w' → Calls Try.prog 61 #[.slice (T j).a (T j).n (T j).c, .slice (X k).a (X k).n (X k).c] w' (SmePost (nfv (lof (T j).f (T j).n)) (nfv (lof (X k).f (X k).n)) w') from fun j hj w' hb =>
                  same_any _ _ _ _ _ _ _ _ w' (by have := (HTH.out.rows j hj).n; omega) (by omega) (((HTH.out.rows j hj).has.below HTH.out.fr.bel).below hb) ((HRP.out.has.below HTH.out.fr.bel).below hb))
                have HXD := Lib.hid hd
                have HB0 := Lib.hid (Below.refl wr.heap.size wr)
                obtain ⟨wq, hwq⟩ : ∃ wq, wq = wr := ⟨wr, rfl⟩
                subst hwq
                clear hd
                go_wp2_with (go_at_call 16; refine HX.out.mono ?_; rintro e w' ⟨rfl, rfl⟩)
                go_loopw [11, 12] (fun u v w' => ∃ (j : Nat) (r : Int), j ≤ t ∧ v = .int .i64 j ∧ u = .int .i64 r ∧ -1 ≤ r ∧ r < j ∧ Hid (Below wq.heap.size wq w') ∧ Hid ((r = -1 ∧ ∀ y, y < j → nfv (lof (T y).f (T y).n) ≠ nfv (lof (X k).f (X k).n)) ∨ ∃ x : Nat, r = x ∧ nfv (lof (T x).f (T x).n) = nfv (lof (X k).f (X k).n))) (fun _ v _ => t - (intOf v).toNat)
                case atStart => exact ⟨0, -1, Nat.zero_le _, rfl, rfl, by omega, by omega, HB0, Lib.hid (.inl ⟨rfl, fun y h => absurd h (Nat.not_lt_zero _)⟩)⟩
                case round =>
                  obtain ⟨j, r, hj, rfl, rfl, hr1, hr2, HB, HF⟩ := hrel
                  clear HB0
                  by_cases hjt : j < t
                  · have hjI : (j : Int) < (t : Int) := by omega
                    have hTw := HTH.out.then HB.out
                    rcases hTw.rws with h0 | ⟨g, o, rfl, hg, hgc⟩
                    · omega
                    have xj := (hgc j hjt).1
                    have HS := Lib.hid (HSM.out j hjt wr HB.out)
                    clear hgc hg hTw
                    go_wp2_with (go_at_call 61; refine HS.out.mono ?_; rintro e w3 ⟨bb, rfl, hx, hy⟩)
                    · have hb : bb = true := by simp_all
                      have HN := Lib.hid (hx.out.1 hb)
                      have HBN := Lib.hid (HB.out.trans (hy.out.mono HB.out.size))
                      clear hb
                      go_roundw
                      case rel => exact ⟨j + 1, j, by omega, by go_num, rfl, by omega, by omega, HBN, Lib.hid (.inr ⟨j, rfl, HN.out⟩)⟩
                      case measure => simp [intOf]; omega
                    · have hb : bb = false := by simp_all
                      have HN := Lib.hid (show ((r = -1 ∧ ∀ y, y < j + 1 → nfv (lof (T y).f (T y).n) ≠ nfv (lof (X k).f (X k).n)) ∨ ∃ x : Nat, r = x ∧ nfv (lof (T x).f (T x).n) = nfv (lof (X k).f (X k).n)) from by
                        rcases HF.out with ⟨h1, h2⟩ | h
                        · refine .inl ⟨h1, fun y hy' => ?_⟩
                          by_cases e : y = j
                          · subst e; intro e2; rw [hx.out.2 e2] at hb; cases hb
                          · exact h2 y (by omega)
                        · exact .inr h)
                      have HBN := Lib.hid (HB.out.trans (hy.out.mono HB.out.size))
                      clear hb
                      go_roundw
                      case rel => exact ⟨j + 1, r, by omega, by go_num, rfl, by omega, by omega, HBN, HN⟩
                      case measure => simp [intOf]; omega
                  · obtain rfl : j = t := by omega
                    have hjI : ¬ (j : Int) < (j : Int) := by omega
                    have HTW := Lib.hid (HTH.out.then HB.out)
                    rcases HF.out with ⟨rfl, hno⟩ | ⟨x, rfl, hx⟩
                    · have HN := Lib.hid (show ChkOk R i X m f l w (.returned (.int .i64 (k + 1))) wr from ⟨_, rfl, Lib.hid (.inr ⟨HI.out, HLF.out, .inl ⟨k, rfl, hlt, HOK.out, fun h => by
                        rcases h.2 with ⟨_, h4⟩ | ⟨h4, _⟩
                        · rw [← HCN.out] at h4
                          obtain ⟨y, hy, e⟩ := cntR_ex h4
                          exact hno y hy e
                        · rw [HXD.out] at h4; cases h4⟩⟩), Lib.hid HTW.out.fr.bel⟩)
                      clear hno hjt HF
                      go_wp2
                      go_ret
                      exact HN.out
                    · have hxj : x < j := by omega
                      have hx0 : ¬ (x : Int) < 0 := by omega
                      have HXX := Lib.hid hx
                      clear hx hjt HF hr1
                      obtain ⟨g, c', e, hjc, hcm, hg⟩ := HTW.out.fr.own.pos (by omega)
                      injection e with e1 e2 e3
                      subst e1 e3
                      have hxc : x ≤ c := by omega
                      have HSA := Lib.hid (show Src (wr.alloc (.cells #[] 23)) (some ⟨g, 0, none⟩) x c (fun y => .slice (T y).a (T y).n (T y).c) from .inr ⟨_, rfl, fun y hy => ⟨by
                        rw [adr, Nat.zero_add]
                        exact ((HTW.out.then ((Below.refl wr.heap.size wr).alloc (Nat.le_refl _) (.cells #[] 23))).fr.own.cell (j := y) (by omega)), rfl⟩⟩)
                      have HSB := Lib.hid (show ∀ w5, Below wr.heap.size wr w5 → Src w5 (if c = x + 1 then some ⟨g, 0, none⟩ else some ⟨g, x + 1, none⟩) (j - (x + 1)) (c - (x + 1)) (fun y => .slice (T (x + 1 + y)).a (T (x + 1 + y)).n (T (x + 1 + y)).c) from fun w5 hb => by
                        by_cases hcx : c = x + 1
                        · rw [if_pos hcx]
                          exact .inr ⟨_, rfl, fun y hy => by omega⟩
                        · rw [if_neg hcx]
                          refine .inr ⟨_, rfl, fun y hy => ⟨?_, rfl⟩⟩
                          rw [adr]
                          exact (HTW.out.then hb).fr.own.cell (j := x + 1 + y) (by omega))
                      have HFI := Lib.hid (show ∀ w6 a6 c6, Frs 23 wr w6 (.slice a6 (x + (j - (x + 1))) c6) (x + (j - (x + 1))) (catV (fun y => .slice (T y).a (T y).n (T y).c) x (fun y => .slice (T (x + 1 + y)).a (T (x + 1 + y)).n (T (x + 1 + y)).c)) → ThW w R i X (k + 1) w6 a6 (x + (j - (x + 1))) c6 from fun w6 a6 c6 h6 => by
                        have hbw := HTW.out.fr.bel
                        have h7 : Frs 23 w w6 (.slice a6 (x + (j - (x + 1))) c6) (x + (j - (x + 1))) (catV (fun y => .slice (T y).a (T y).n (T y).c) x (fun y => .slice (T (x + 1 + y)).a (T (x + 1 + y)).n (T (x + 1 + y)).c)) := ⟨h6.own, hbw.trans (h6.bel.mono hbw.size), fun b e => Nat.le_trans hbw.size (h6.new b e)⟩
                        have hmo := cntR_mono T hxj
                        rw [HXX.out, HCN.out] at hmo
                        refine ⟨dlR T x, ?_, ?_, okTo_succ HOK.out ⟨HLK.out, .inl ⟨HXD.out, hmo⟩⟩, by omega⟩
                        · rw [show j - (x + 1) = j - 1 - x by omega] at h7 ⊢
                          exact Th.dl (t := j - 1) (by omega) (fun y hy => HTH.out.rows y (by omega)) h7
                        · rw [show x + (j - (x + 1)) = j - 1 by omega, cntR_dl T x (j - 1) (by omega), show j - 1 + 1 = j by omega, HCN.out, HXX.out]
                          show _ = nxt (runL (cntR R i) X k) (X k).d (X k).f (X k).n
                          rw [HXD.out]; rfl)
                      clear e2 hcm hg
                      go_wp2_with (first
                        | (at_builtin; refine Frs.app (W := wr) elemRow H5 (Below.refl _ _) (HSB.out _ H5.out.bel) (by unfold maxLen; omega) (by omega) rfl _ _ rfl rfl rfl ?_; intro a6 c6 w6 H6)
                        | (at_builtin; refine Frs.app0 (W := wr) elemRow (Below.refl _ _) HSA.out (by unfold maxLen; omega) (by omega) rfl _ _ rfl rfl rfl ?_; intro a5 c5 w5 H5))
                      go_roundw
                      case rel => exact ⟨k + 1, a6, x + (j - (x + 1)), c6, by omega, by omega, rfl, by go_num, Lib.hid (HFI.out _ _ _ H6.out)⟩
                      case measure => simp [intOf]; omega
          · obtain rfl : k = m := by omega
            have hltI : ¬ (k : Int) < (k : Int) := by omega
            clear hlt
            have HSM := Lib.hid (show ∀ j, j < t → ∀ w', Below wr.heap.size wr w' → Calls Try.prog 61 #[.slice (T j).a (T j).n (T j).c, .slice a2 l c2] w' (SmePost (nfv (lof (T j).f (T j).n)) (nfv (lof f l)) w') from fun j hj w' hb =>
              same_any _ _ _ _ _ _ _ _ w' (by have := (HTH.out.rows j hj).n; omega) (by omega) (((HTH.out.rows j hj).has.below HTH.out.fr.bel).below hb) ((HR.out.2.2.2.2.below HTH.out.fr.bel).below hb))
            have HFO := Lib.hid (show ∀ w', Below wr.heap.size wr w' → Calls Try.prog 25 #[.slice a t c, .slice a2 l c2] w' fun e w'' => ∃ b : Bool, e = .returned (.bool b) ∧ Hid (Below w'.heap.size w' w'') ∧ Hid (b = true ↔ okL (cntR T t) false f l) from fun w' hb =>
              fo_any (x := ⟨false, a2, l, c2, f⟩) (HTH.out.then hb) HR.out.2.2.2.2 hl HLF.out (by omega))
            have HB0 := Lib.hid (Below.refl wr.heap.size wr)
            obtain ⟨wq, hwq⟩ : ∃ wq, wq = wr := ⟨wr, rfl⟩
            subst hwq
            go_wp2
            go_loopw [14] (fun v w' => ∃ (j : Nat), j ≤ t ∧ v = .int .i64 j ∧ Hid (Below wq.heap.size wq w')) (fun v _ => t - (intOf v).toNat)
            case atStart => exact ⟨0, Nat.zero_le _, rfl, HB0⟩
            case round =>
              obtain ⟨j, hj, rfl, HB⟩ := hrel
              clear HB0
              by_cases hjt : j < t
              · have hjI : (j : Int) < (t : Int) := by omega
                have hTw := HTH.out.then HB.out
                rcases hTw.rws with h0 | ⟨g, o, rfl, hg, hgc⟩
                · omega
                have xj := (hgc j hjt).1
                have HS := Lib.hid (HSM.out j hjt wr HB.out)
                clear hgc hg hTw HFO
                go_wp2_with (go_at_call 61; refine HS.out.mono ?_; rintro e w3 ⟨bb, rfl, hx, hy⟩)
                · have hb : bb = true := by simp_all
                  have HBN := HB.out.trans (hy.out.mono HB.out.size)
                  have HN := Lib.hid (show ChkOk R i X k f l w (.returned (.int .i64 0)) w3 from ⟨0, rfl, Lib.hid (.inr ⟨HI.out, HLF.out, .inr ⟨HOK.out, .inl ⟨rfl, by
                    rw [← HCN.out]
                    refine pcl_conf HLF.out ?_
                    rw [← hx.out.1 hb]
                    exact cntR_mono T hjt⟩⟩⟩), Lib.hid (HTH.out.fr.bel.trans (HBN.mono HTH.out.fr.bel.size))⟩)
                  clear hb HBN
                  go_ret
                  exact HN.out
                · have HBN := Lib.hid (HB.out.trans (hy.out.mono HB.out.size))
                  go_roundw
                  case rel => exact ⟨j + 1, by omega, by go_num, HBN⟩
                  case measure => simp [intOf]; omega
              · obtain rfl : j = t := by omega
                have hjI : ¬ (j : Int) < (j : Int) := by omega
                have HF2 := Lib.hid (HFO.out wr HB.out)
                have HBW := Lib.hid (HTH.out.then HB.out).fr.bel
                clear hjt HFO
                go_wp2_with (go_at_call 25; refine HF2.out.mono ?_; rintro e w3 ⟨bb, rfl, hx, hy⟩)
                · have hb : bb = false := by simp_all
                  have HN := Lib.hid (show ChkOk R i X k f l w (.returned (.int .i64 (k + 1))) w3 from ⟨_, rfl, Lib.hid (.inr ⟨HI.out, HLF.out, .inr ⟨HOK.out, .inr ⟨rfl, fun hc => by
                    rw [← HCN.out] at hc
                    rw [hy.out.2 ⟨HLF.out, .inr ⟨rfl, hc⟩⟩] at hb; cases hb⟩⟩⟩), Lib.hid (HBW.out.trans (hx.out.mono HBW.out.size))⟩)
                  clear hb
                  go_ret
                  exact HN.out
                · have hb : bb = true := by simp_all
                  have HN := Lib.hid (show ChkOk R i X k f l w (.returned (.int .i64 0)) w3 from ⟨_, rfl, Lib.hid (.inr ⟨HI.out, HLF.out, .inr ⟨HOK.out, .inl ⟨rfl, by
                    rw [← HCN.out]
                    rcases (hy.out.1 hb).2 with ⟨h, _⟩ | ⟨_, h⟩
                    · cases h
                    · exact h⟩⟩⟩), Lib.hid (HBW.out.trans (hx.out.mono HBW.out.size))⟩)
                  clear hb
                  go_ret
                  exact HN.out
/-- Check's answer is one alone. -/
theorem ChkIs.one {R : Nat → Row} {n : Nat} {X : Nat → Lin} {m : Nat} {f : Nat → Int} {l : Nat} {r r' : Int} (h : ChkIs R n X m f l r) (k : ChkIs R n X m f l r') : r = r' := by
  rcases h with ⟨h1, rfl⟩ | ⟨h1, h2, h3⟩
  · rcases k with ⟨_, rfl⟩ | ⟨k1, k2, _⟩
    · rfl
    · exact absurd ⟨k1, k2⟩ h1
  · rcases k with ⟨k1, _⟩ | ⟨_, _, k3⟩
    · exact absurd ⟨h1, h2⟩ k1
    · rcases h3 with ⟨i, rfl, hi, ho, hno⟩ | ⟨ho, h3⟩
      · rcases k3 with ⟨j, rfl, hj, ko, kno⟩ | ⟨ko, _⟩
        · rcases Nat.lt_trichotomy i j with e | e | e
          · exact absurd (ko i e) hno
          · rw [e]
          · exact absurd (ho j e) kno
        · exact absurd (ko i hi) hno
      · rcases k3 with ⟨j, rfl, hj, ko, kno⟩ | ⟨_, k3⟩
        · exact absurd (ho j hj) kno
        · rcases h3 with ⟨rfl, h3⟩ | ⟨rfl, h3⟩ <;> rcases k3 with ⟨rfl, k3⟩ | ⟨rfl, k3⟩
          · rfl
          · exact absurd h3 k3
          · exact absurd k3 h3
          · rfl
end Go.Proofs.Ytoffhgiljnagcaa
