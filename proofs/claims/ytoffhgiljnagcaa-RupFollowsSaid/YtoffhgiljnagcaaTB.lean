/- Contracts: the answers' Conflict, Follows. -/
import Derived.Test.YtoffhgiljnagcaaTA
import Derived.Test.YtoffhgiljnagcaaQL
namespace Go.Proofs.Ytoffhgiljnagcaa
open Go.RowKit Go.Lib
set_option maxRecDepth 100000

theorem lit_neg {x : Int} (h : lit x = true) : IntKind.i64.wrap (-x) = -x := by
  have := lit_iff.1 h
  exact IntWalk.i64_in (-x) (by omega)
/-- What a call says. -/
def ConPost (R : Nat → Row) (n : Nat) (so : Nat → Int) (m : Nat) (w : World) (e : Ending) (w' : World) : Prop :=
  ∃ b : Bool, e = .returned (.bool b) ∧ Hid (b = true ↔ Conf (RowC R n) (Has' so m)) ∧ Hid (Below w.heap.size w w')

theorem in_has {x : Int} {a : Option Addr} {n c : Nat} {f : Nat → Int} {w : World} (h : Hid (Has w a n f)) (hm : n ≤ 140737488355328) : Calls Try.prog 76 #[.int .i64 x, .slice a n c] w fun e w' => e = .returned (.bool (inF f n x)) ∧ w = w' :=
  in_any x a n c f w hm h.out
/-- The call within. -/
def ConRec (a0 : Option Addr) (n c0 : Nat) (R : Nat → Row) (so : Nat → Int) (m : Nat) (w : World) : Prop :=
  ∀ (a' : Option Addr) (c' : Nat) (so' : Nat → Int) (w' : World), Below w.heap.size w w' → Has w' a' (m + 1) so' → (a' = none → m + 1 = 0 ∧ c' = 0) → (∀ i, i < m + 1 → lit (so' i) = true) → outs (rowsL R n).flatten so' (m + 1) < outs (rowsL R n).flatten so m →
    Calls Try.prog 58 #[.slice a0 n c0, .slice a' (m + 1) c'] w' (ConPost R n so' (m + 1) w')
theorem snV_int (f : Nat → Int) (n : Nat) (x : Int) : ∀ j, snV (fun j => .int .i64 (f j)) n (.int .i64 x) j = .int .i64 (snF f n x j) := by
  intro j
  unfold snV snF
  split <;> rfl
theorem lit_in {R : Nat → Row} {n i j : Nat} (h : litR R n = true) (hi : i < n) (hj : j < (R i).n) : lit ((R i).f j) = true :=
  litF_iff.1 (litR_iff.1 h i hi) j hj
theorem con_end {R : Nat → Row} {n m i o : Nat} {so : Nat → Int} {last : Int} {h : Bool} {w w2 : World} (hb : Below w.heap.size w w2) (hi : i < n) (H : Opn so m (R i).f (R i).n o last h) (hh : h = false) (ho : o = 1) {e : Ending} {w3 : World} (hc : ConPost R n (snF so m last) (m + 1) w2 e w3) : ConPost R n so m w e w3 := by
  obtain ⟨b, h1, h2, h3⟩ := hc
  exact ⟨b, h1, Lib.hid (h2.out.trans (H.unit hi hh ho)), Lib.hid (hb.trans (h3.out.mono hb.size))⟩

set_option maxHeartbeats 8000000 in
theorem con_body (a0 : Option Addr) (n c0 : Nat) (R : Nat → Row) (hn : n ≤ 1000) (hl : litR R n = true) (hR : ∀ j, j < n → (R j).n ≤ 1000 ∧ (R j).n ≤ (R j).c ∧ (R j).c ≤ 9223372036854775807) (a1 : Option Addr) (m c1 : Nat) (so : Nat → Int) (w : World)
    (hm : m ≤ 2000000) (hs : ∀ i, i < m → lit (so i) = true) (hr : Rws w a0 n R) (ha : Has w a1 m so) (hnil : a1 = none → m = 0 ∧ c1 = 0) (hrec : ConRec a0 n c0 R so m w) :
    Calls Try.prog 58 #[.slice a0 n c0, .slice a1 m c1] w (ConPost R n so m w) := by
  have HIN := Lib.hid (fun x => in_any x a1 m c1 so w (by omega) ha)
  have HA := Lib.hid ha
  have HR := Lib.hid (And.intro hr hR)
  have HS := Lib.hid hs
  have HL := Lib.hid hl
  have HREC := Lib.hid hrec
  have HSRC := Lib.hid (fun (w' : World) (hb : Below w.heap.size w w') => (ha.below hb).src hnil)
  clear hr hR hs hl hrec hnil ha
  go_enter Try.func58, Try.ntmps58
  go_wp2
  go_loop [5] (fun v => ∃ i : Nat, i ≤ m ∧ v = .int .i64 i ∧ Hid (∀ j, j < i → ¬ Has' so m (-so j))) (fun v => m - (intOf v).toNat)
  case atStart => exact ⟨0, Nat.zero_le _, rfl, Lib.hid fun j h => absurd h (Nat.not_lt_zero _)⟩
  case round =>
    obtain ⟨i, hi, rfl, HI⟩ := hrel
    by_cases hlt : i < m
    · rcases HA.out with h0 | ⟨b, off, rfl, hb, hc⟩
      · omega
      have xc := hc i hlt
      have hw := lit_neg (HS.out i hlt)
      have HX := HIN.out (-so i)
      clear hc hb HIN HREC HSRC HR
      cases e : inF so m (-so i)
      · rw [e] at HX
        have HX := Lib.hid HX
        have HN := Lib.hid (show ∀ j, j < i + 1 → ¬ Has' so m (-so j) from fun j hj => by
          rcases lt_succ hj with h | rfl
          · exact HI.out j h
          · exact inF_no.1 e)
        clear e
        go_wp2_with (go_at_call 76; refine HX.out.mono ?_; rintro e w' ⟨rfl, rfl⟩)
        go_round
        case rel => exact ⟨i + 1, by omega, by go_num, HN⟩
        case measure => simp [intOf]; omega
      · rw [e] at HX
        have HX := Lib.hid HX
        have HE := Lib.hid (conf_clash (RowC R n) hlt (inF_has.1 e))
        clear e
        go_wp2_with (go_at_call 76; refine HX.out.mono ?_; rintro e w' ⟨rfl, rfl⟩)
        go_ret
        exact ⟨true, rfl, Lib.hid ⟨fun _ => HE.out, fun _ => rfl⟩, Lib.hid (Below.refl _ _)⟩
    · obtain rfl : i = m := by omega
      have hltI : ¬ (i : Int) < (i : Int) := by omega
      clear hlt
      go_wp2
      go_loop [6, 7, 8, 9, 10, 11] (fun v _ _ _ _ _ => ∃ t : Nat, t ≤ n ∧ v = .int .i64 t ∧ Hid (∀ j, j < t → Qui so i R j)) (fun v _ _ _ _ _ => n - (intOf v).toNat)
      case atStart => exact ⟨0, Nat.zero_le _, rfl, Lib.hid fun j h => absurd h (Nat.not_lt_zero _)⟩
      case round =>
        obtain ⟨t, ht, rfl, HQ⟩ := hrel
        by_cases hlt : t < n
        · rcases HR.out.1 with h0 | ⟨b, off, rfl, hb, hc⟩
          · omega
          obtain ⟨xc, hx⟩ := hc t hlt
          have HX := Lib.hid hx
          obtain ⟨hrn, hrc, hrm⟩ := HR.out.2 t hlt
          have HLI := Lib.hid (fun j (hj : j < (R t).n) => lit_in HL.out hlt hj)
          clear hc hb hx
          go_wp2
          go_loop [7, 8, 9, 10, 11] (fun o l h k _ => ∃ (q k' : Nat) (last : Int) (hh : Bool), k' ≤ (R t).n ∧ o = .int .i64 q ∧ l = .int .i64 last ∧ h = .bool hh ∧ k = .int .i64 k' ∧ Hid (Opn so i (R t).f k' q last hh)) (fun _ _ _ k _ => (R t).n - (intOf k).toNat)
          case atStart => exact ⟨0, 0, 0, false, Nat.zero_le _, rfl, rfl, rfl, rfl, Lib.hid (Opn.start _ _ _)⟩
          case round =>
            obtain ⟨q, k, last, hh, hk, rfl, rfl, rfl, rfl, HO⟩ := hrel
            by_cases hkl : k < (R t).n
            · rcases HX.out with h0 | ⟨b', off', hra, hb', hc'⟩
              · omega
              have yc := hc' k hkl
              rw [hra] at xc
              have hw := lit_neg (HLI.out k hkl)
              have hqk : q ≤ k := HO.out.ok
              have H3 := Lib.hid (show Has w (some ⟨b', off', none⟩) k (R t).f from .inr ⟨b', off', rfl, hb', fun j hj => hc' j (by omega)⟩)
              clear hc' hb'
              cases e1 : inF so i ((R t).f k)
              · cases e2 : inF so i (-(R t).f k)
                · cases e3 : inF (R t).f k ((R t).f k)
                  · have HN := Lib.hid (HO.out.next (inF_no.1 e1) (inF_no.1 e2) (fun ⟨j, hj, e⟩ => inF_not.1 e3 j hj e))
                    clear HO
                    go_wp2_with (first | (go_at_call 76; refine (in_has (f := so) (by exact HA) (by omega)).mono ?_; rintro e w' ⟨rfl, rfl⟩) | (go_at_call 76; refine (in_has (f := (R t).f) (by exact H3) (by omega)).mono ?_; rintro e w' ⟨rfl, rfl⟩))
                    go_round
                    case rel => exact ⟨q + 1, k + 1, _, hh, by omega, by go_num, rfl, rfl, by go_num, HN⟩
                    case measure => simp [intOf]; omega
                  · have HN := Lib.hid (HO.out.skip (inF_no.1 e1) (.inr (inF_iff.1 e3)))
                    clear HO
                    go_wp2_with (first | (go_at_call 76; refine (in_has (f := so) (by exact HA) (by omega)).mono ?_; rintro e w' ⟨rfl, rfl⟩) | (go_at_call 76; refine (in_has (f := (R t).f) (by exact H3) (by omega)).mono ?_; rintro e w' ⟨rfl, rfl⟩))
                    go_round
                    case rel => exact ⟨q, k + 1, last, hh, by omega, rfl, rfl, rfl, by go_num, HN⟩
                    case measure => simp [intOf]; omega
                · have HN := Lib.hid (HO.out.skip (inF_no.1 e1) (.inl (inF_has.1 e2)))
                  clear HO
                  go_wp2_with (first | (go_at_call 76; refine (in_has (f := so) (by exact HA) (by omega)).mono ?_; rintro e w' ⟨rfl, rfl⟩) | (go_at_call 76; refine (in_has (f := (R t).f) (by exact H3) (by omega)).mono ?_; rintro e w' ⟨rfl, rfl⟩))
                  go_round
                  case rel => exact ⟨q, k + 1, last, hh, by omega, rfl, rfl, rfl, by go_num, HN⟩
                  case measure => simp [intOf]; omega
              · have HN := Lib.hid (HO.out.hold (inF_has.1 e1))
                clear HO
                go_wp2_with (first | (go_at_call 76; refine (in_has (f := so) (by exact HA) (by omega)).mono ?_; rintro e w' ⟨rfl, rfl⟩) | (go_at_call 76; refine (in_has (f := (R t).f) (by exact H3) (by omega)).mono ?_; rintro e w' ⟨rfl, rfl⟩))
                go_round
                case rel => exact ⟨q, k + 1, last, true, by omega, rfl, rfl, rfl, by go_num, HN⟩
                case measure => simp [intOf]; omega
            · have hkn : k = (R t).n := by omega
              rw [hkn] at HO
              have hkI : ¬ (k : Int) < ((R t).n : Int) := by omega
              have hqk : q ≤ (R t).n := HO.out.ok
              clear hkn hkl hk
              cases hh with
              | true =>
                have HN := Lib.hid (show ∀ j, j < t + 1 → Qui so i R j from fun j hj => by
                  rcases lt_succ hj with h | rfl
                  · exact HQ.out j h
                  · exact HO.out.qui (.inl rfl))
                clear HO HQ
                go_wp2
                go_round
                case rel => exact ⟨t + 1, by omega, by go_num, HN⟩
                case measure => simp [intOf]; omega
              | false =>
                by_cases hq2 : 1 < q
                · have hqI : (1 : Int) < (q : Int) := by omega
                  have HN := Lib.hid (show ∀ j, j < t + 1 → Qui so i R j from fun j hj => by
                    rcases lt_succ hj with h | rfl
                    · exact HQ.out j h
                    · exact HO.out.qui (.inr hq2))
                  clear HO HQ hq2
                  go_wp2
                  go_round
                  case rel => exact ⟨t + 1, by omega, by go_num, HN⟩
                  case measure => simp [intOf]; omega
                · by_cases hq0 : q = 0
                  · have HN := Lib.hid (HO.out.none hlt rfl hq0)
                    subst hq0
                    clear HO HQ
                    go_wp2
                    go_ret
                    exact ⟨true, rfl, Lib.hid ⟨fun _ => HN.out, fun _ => rfl⟩, Lib.hid (Below.refl _ _)⟩
                  · obtain rfl : q = 1 := by omega
                    have HH := Lib.hid (HO.out.out hlt rfl)
                    have HLT := Lib.hid hlt
                    have hlast : Hid (lit last = true) := by
                      obtain ⟨⟨j, hj, rfl⟩, _⟩ := HO.out.o1 rfl
                      exact Lib.hid (HLI.out j hj)
                    have HSN := Lib.hid (show ∀ j, j < i + 1 → lit (snF so i last j) = true from fun j hj => by
                      by_cases h : j < i
                      · rw [snF, if_pos h]; exact HS.out j h
                      · rw [snF, if_neg h]; exact hlast.out)
                    clear hq0 hq2 HQ hlast
                    have HS0 := Lib.hid (HSRC.out _ ((Below.refl w.heap.size w).alloc (Nat.le_refl _) (.cells #[] 3)))
                    go_wp2_with (first
                      | (at_builtin; refine Frs.app1 elemInt H2 (Below.refl _ _) (.int .i64 last) rfl (by unfold maxLen; omega) (by omega) rfl _ _ rfl rfl rfl ?_; intro a3 c3 w3 H3)
                      | (at_builtin; refine Frs.app0 (W := w) elemInt (Below.refl _ _) HS0.out (by unfold maxLen; omega) (by omega) rfl _ _ rfl rfl rfl ?_; intro a2 c2 w2 H2)
                      | (go_at_call 58; refine (HREC.out a3 c3 (snF so i last) w3 H3.out.bel (H3.out.has fun j _ => snV_int so i last j) H3.out.nilA HSN.out HH.out).mono ?_; intro e w4 hp; obtain ⟨b, rfl, hb1, hb2⟩ := con_end H3.out.bel HLT.out HO.out rfl rfl hp; clear hp))
                    go_ret
                    exact ⟨b, rfl, hb1, hb2⟩
        · obtain rfl : t = n := by omega
          have hltI : ¬ (t : Int) < (t : Int) := by omega
          clear hlt
          have HE := Lib.hid (conf_false (R := R) (n := t) HI.out HQ.out)
          go_wp2
          go_ret
          exact ⟨false, rfl, Lib.hid ⟨fun h => by simp at h, fun h => absurd h HE.out⟩, Lib.hid (Below.refl _ _)⟩
theorem con_any (a0 : Option Addr) (n c0 : Nat) (R : Nat → Row) (hn : n ≤ 1000) (hl : litR R n = true) (hR : ∀ j, j < n → (R j).n ≤ 1000 ∧ (R j).n ≤ (R j).c ∧ (R j).c ≤ 9223372036854775807) : ∀ (k : Nat) (a1 : Option Addr) (m c1 : Nat) (so : Nat → Int) (w : World),
    outs (rowsL R n).flatten so m ≤ k → m + k ≤ 2000000 → (∀ i, i < m → lit (so i) = true) → Rws w a0 n R → Has w a1 m so → (a1 = none → m = 0 ∧ c1 = 0) →
    Calls Try.prog 58 #[.slice a0 n c0, .slice a1 m c1] w (ConPost R n so m w)
  | 0, a1, m, c1, so, w, hk, hm, hs, hr, ha, hnil => con_body a0 n c0 R hn hl hR a1 m c1 so w (by omega) hs hr ha hnil fun _ _ _ _ _ _ _ _ h => by omega
  | k + 1, a1, m, c1, so, w, hk, hm, hs, hr, ha, hnil => con_body a0 n c0 R hn hl hR a1 m c1 so w (by omega) hs hr ha hnil fun a' c' so' w' hb h1 h2 h3 h4 =>
    con_any a0 n c0 R hn hl hR k a' (m + 1) c' so' w' (by omega) (by omega) h3 (hr.below hb) h1 h2
end Go.Proofs.Ytoffhgiljnagcaa
