/- Contracts: the answers' Follows. -/
import Derived.Test.YtoffhgiljnagcaaTB
import Derived.Test.YtoffhgiljnagcaaQJ
namespace Go.Proofs.Ytoffhgiljnagcaa
open Go.RowKit Go.Lib
set_option maxRecDepth 100000

/-- The negations. -/
def ng (f : Nat → Int) (j : Nat) : Int := wrap64 (-f j)
theorem ng_lit {f : Nat → Int} {m j : Nat} (h : litF f m = true) (hj : j < m) : ng f j = -f j := by
  have := lit_iff.1 (litF_iff.1 h j hj)
  unfold ng wrap64; omega
theorem ng_lits {f : Nat → Int} {m : Nat} (h : litF f m = true) : ∀ j, j < m → lit (ng f j) = true := fun j hj => by
  have := lit_iff.1 (litF_iff.1 h j hj)
  rw [ng_lit h hj, lit_iff]; omega
theorem ng_den {f : Nat → Int} {m : Nat} (h : litF f m = true) : Has' (ng f) m = Den f m := by
  funext l
  refine propext ⟨fun ⟨j, hj, e⟩ => ⟨j, hj, by rw [← e, ng_lit h hj]⟩, fun ⟨j, hj, e⟩ => ⟨j, hj, by rw [e, ng_lit h hj]⟩⟩
def FoPost (R : Nat → Row) (n : Nat) (f : Nat → Int) (m : Nat) (w : World) (e : Ending) (w' : World) : Prop :=
  ∃ b : Bool, e = .returned (.bool b) ∧ Hid (b = true ↔ litR R n = true ∧ litF f m = true ∧ Conf (RowC R n) (Den f m)) ∧ Hid (Below w.heap.size w w')

set_option maxHeartbeats 8000000 in
theorem refFollows_any (a0 a1 : Option Addr) (n c0 m c1 : Nat) (R : Nat → Row) (f : Nat → Int) (w : World) (hn : n ≤ 1000) (hm : m ≤ 1000) (hR : ∀ j, j < n → (R j).n ≤ 30 ∧ (R j).n ≤ (R j).c ∧ (R j).c ≤ 9223372036854775807) (hr : Rws w a0 n R) (hf : Has w a1 m f) :
    Calls Try.prog 25 #[.slice a0 n c0, .slice a1 m c1] w (FoPost R n f m w) := by
  have HR := Lib.hid (And.intro hr hf)
  have HLE := Lib.hid (fun j hj => (hR j hj).1)
  have HCON := Lib.hid (show litR R n = true → litF f m = true → ∀ (a' : Option Addr) (c' : Nat) (w' : World), Below w.heap.size w w' → Has w' a' m (ng f) → (a' = none → m = 0 ∧ c' = 0) → Calls Try.prog 58 #[.slice a0 n c0, .slice a' m c'] w' (ConPost R n (ng f) m w') from fun h1 h2 a' c' w' hb ha hnil =>
    con_any a0 n c0 R hn h1 (fun j hj => by have := hR j hj; omega) _ a' m c' (ng f) w' (outs_le _ _ _) (by have := flat_le (R := R) (n := n) fun j hj => (hR j hj).1; omega) (ng_lits h2) (hr.below hb) ha hnil)
  have HRT := Lib.hid (fun (w' : World) (hb : Below w.heap.size w w') => refRight_any a1 m c1 f w' (by omega) (hf.below hb))
  clear hr hf hR
  go_enter Try.func25, Try.ntmps25
  go_wp2
  go_loop [5] (fun v => ∃ i : Nat, i ≤ n ∧ v = .int .i64 i ∧ Hid (litR R i = true)) (fun v => n - (intOf v).toNat)
  case atStart => exact ⟨0, Nat.zero_le _, rfl, Lib.hid (by simp [litR])⟩
  case round =>
    obtain ⟨i, hi, rfl, HI⟩ := hrel
    by_cases hlt : i < n
    · rcases HR.out.1 with h0 | ⟨b, off, rfl, hb, hc⟩
      · omega
      obtain ⟨xc, hx⟩ := hc i hlt
      have HX := refRight_any (R i).a (R i).n (R i).c (R i).f w (by have := HLE.out i hlt; omega) hx
      clear hc hb hx HCON HRT
      cases e : litF (R i).f (R i).n
      · have HN := Lib.hid (show ¬ litR R n = true from fun h => by rw [litR_iff.1 h i hlt] at e; cases e)
        rw [e] at HX
        have HX := Lib.hid HX
        clear e
        go_wp2_with (go_at_call 16; refine HX.out.mono ?_; rintro e w' ⟨rfl, rfl⟩)
        go_ret
        exact ⟨false, rfl, Lib.hid ⟨fun h => by simp at h, fun h => absurd h.1 HN.out⟩, Lib.hid (Below.refl _ _)⟩
      · have HN := Lib.hid (show litR R (i + 1) = true from by rw [litR_succ, HI.out, e]; rfl)
        rw [e] at HX
        have HX := Lib.hid HX
        clear e
        go_wp2_with (go_at_call 16; refine HX.out.mono ?_; rintro e w' ⟨rfl, rfl⟩)
        go_round
        case rel => exact ⟨i + 1, by omega, by go_num, HN⟩
        case measure => simp [intOf]; omega
    · obtain rfl : i = n := by omega
      have hltI : ¬ (i : Int) < (i : Int) := by omega
      clear hlt
      go_wp2
      go_loopw [6, 7] (fun s v wr => ∃ (k : Nat) (a : Option Addr) (c : Nat), k ≤ m ∧ s = .slice a k c ∧ v = .int .i64 k ∧ Hid (Frs 3 w wr (.slice a k c) k (fun j => .int .i64 (ng f j)))) (fun _ v _ => m - (intOf v).toNat)
      case atStart => exact ⟨0, none, 0, Nat.zero_le _, rfl, rfl, Lib.hid (Frs.nil (Below.refl _ _) _)⟩
      case round =>
        obtain ⟨k, a, c, hk, rfl, rfl, HF⟩ := hrel
        by_cases hlt : k < m
        · rcases HR.out.2 with h0 | ⟨b, off, rfl, hb, hc⟩
          · omega
          have xc := (HF.out.bel.cell (p := ⟨b, off + k, none⟩) hb).trans (hc k hlt)
          clear hc hb HCON HRT
          go_wp2_with (at_builtin; refine Frs.app1 elemInt HF (Below.refl _ _) _ rfl (by unfold maxLen; omega) (by omega) rfl _ _ rfl rfl rfl ?_; intro a' c' w' HF')
          go_roundw
          case rel => exact ⟨k + 1, a', c', by omega, rfl, by go_num, Lib.hid (HF'.out.congr fun j hj => by
            simp only [snV]
            split
            · rfl
            · rw [show j = k by omega]; rfl)⟩
          case measure => simp [intOf]; omega
        · obtain rfl : k = m := by omega
          have hltI : ¬ (k : Int) < (k : Int) := by omega
          have HX := HRT.out _ HF.out.bel
          clear hlt
          cases e : litF f k
          · rw [e] at HX
            have HX := Lib.hid HX
            have HE := Lib.hid e
            clear HCON e
            go_wp2_with (go_at_call 16; refine HX.out.mono ?_; rintro e w' ⟨rfl, rfl⟩)
            go_ret
            exact ⟨false, rfl, Lib.hid ⟨fun h => by simp at h, fun h => absurd h.2.1 (by rw [HE.out]; simp)⟩, Lib.hid HF.out.bel⟩
          · have HC := Lib.hid (HCON.out HI.out e a c _ HF.out.bel (HF.out.has fun _ _ => rfl) HF.out.nilA)
            have HD := Lib.hid (ng_den e)
            have HE := Lib.hid e
            rw [e] at HX
            have HX := Lib.hid HX
            clear HCON e
            go_wp2_with (first
              | (go_at_call 16; refine HX.out.mono ?_; rintro e w' ⟨rfl, rfl⟩)
              | (go_at_call 58; refine HC.out.mono ?_; rintro e w' ⟨b, rfl, hb1, hb2⟩))
            go_ret
            exact ⟨b, rfl, Lib.hid (by rw [hb1.out, HD.out]; exact ⟨fun h => ⟨HI.out, HE.out, h⟩, fun h => h.2.2⟩), Lib.hid (HF.out.bel.trans (hb2.out.mono HF.out.bel.size))⟩
theorem ref4Follows_any (a0 a1 : Option Addr) (n c0 m c1 : Nat) (R : Nat → Row) (f : Nat → Int) (w : World) (hn : n ≤ 1000) (hm : m ≤ 1000) (hR : ∀ j, j < n → (R j).n ≤ 30 ∧ (R j).n ≤ (R j).c ∧ (R j).c ≤ 9223372036854775807) (hr : Rws w a0 n R) (hf : Has w a1 m f) :
    Calls Try.prog 11 #[.slice a0 n c0, .slice a1 m c1] w (FoPost R n f m w) := by
  have H := Lib.hid (refFollows_any a0 a1 n c0 m c1 R f w hn hm hR hr hf)
  clear hR hr hf
  go_enter Try.func11, Try.ntmps11
  go_wp2_with (go_at_call 25; refine H.out.mono ?_; rintro e w' ⟨b, rfl, hb1, hb2⟩)
  go_ret
  exact ⟨b, rfl, hb1, hb2⟩
end Go.Proofs.Ytoffhgiljnagcaa
