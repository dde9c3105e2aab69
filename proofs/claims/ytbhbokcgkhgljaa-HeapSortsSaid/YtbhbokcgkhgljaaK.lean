/- The walk of HeapSorts. -/
import Derived.Test.YtbhbokcgkhgljaaJ
import Derived.Deep.RegionWith
namespace Go.Proofs.Ytbhbokcgkhgljaa
open Go.RowKit Go.Lib

theorem sorts_long (a : Option Addr) (n c : Nat) (w : World) (hn : 60 < n) (hm : n ≤ 9223372036854775807) : Calls Try.prog 4 #[.slice a n c] w (LawPost w) := by
  have HA := Lib.hid awake_any
  go_enter Try.func4, Try.ntmps4
  go_wp2_with fail
  refine (HA.out w).mono ?_
  rintro e w1 ⟨rfl, hb1⟩
  go_wp2_with fail
  refine (HA.out w1).mono ?_
  rintro e w2 ⟨rfl, hb2⟩
  go_wp2_with fail
  go_ret
  exact ⟨rfl, hb1.trans (hb2.mono hb1.size)⟩

/-- Behind k calls of Next: the last one, who is left. -/
structure Srt (n : Nat) (A : Nat → Int) (k l : Nat) (In : Nat → Bool) : Prop where
  num : cnt In n + k = n
  last : k = 0 ∧ l = 0 ∨ (1 ≤ l ∧ l ≤ n ∧ ∀ u, 1 ≤ u → u ≤ n → In u = true → ¬ bef A u l)
theorem Srt.start (n : Nat) (A : Nat → Int) : Srt n A 0 0 fun _ => true := ⟨by rw [cnt_all]; rfl, .inl ⟨rfl, rfl⟩⟩
theorem Srt.step {n : Nat} {A : Nat → Int} {k l v : Nat} {In : Nat → Bool} (h : Srt n A k l In) (hv : IsNext n A In v) : Srt n A (k + 1) v (upd In v false) :=
  ⟨by have := cnt_upd_f hv.1 hv.2.1 hv.2.2.1; have := h.num; omega, .inr ⟨hv.1, hv.2.1, fun u h1 h2 h3 => by
    by_cases e : u = v
    · subst e; exact bef_irrefl _ _
    · rw [upd_other _ _ e] at h3
      exact hv.2.2.2 u h1 h2 h3⟩⟩

set_option maxHeartbeats 8000000 in
theorem sorts_walk (a : Option Addr) (n c : Nat) (f : Nat → Int) (w : World) (hn : n ≤ 60) (h : Has w a n f) (hf : B64 n f) : Calls Try.prog 4 #[.slice a n c] w (LawPost w) := by
  have HA := Lib.hid (awake_any w)
  have HN := Lib.hid (fun w1 hb1 => hs_new n (by omega) w w1 hb1)
  have HH := Lib.hid h
  have HF := Lib.hid hf
  clear h hf
  go_enter Try.func4, Try.ntmps4
  go_wp2_with fail
  refine HA.out.mono ?_
  rintro e w1 ⟨rfl, hb1⟩
  have HN1 := Lib.hid (HN.out w1 hb1)
  clear hb1
  go_wp2_with fail
  refine HN1.out.mono ?_
  rintro e w2 ⟨hb, ob, pb, ab, rfl, hs⟩
  generalize w2.heap.size = T at hs
  rw [← acL_zero f] at hs
  have H0 := Lib.hid hs
  clear hs
  go_wp2_with fail
  go_loopw [5] (fun x wr => ∃ k : Nat, k ≤ n ∧ x = .int .i64 k ∧ Hid (Hs w T wr hb ob pb ab n (acL f k) fun _ => true)) (fun x _ => n - (intOf x).toNat)
  case atStart => exact ⟨0, Nat.zero_le _, rfl, H0⟩
  case round =>
    obtain ⟨k, hk, rfl, HJ⟩ := hrel
    clear H0
    by_cases hlt : k < n
    · obtain ⟨b, off, rfl, hc⟩ := HH.out.at hlt
      have hcell := hc wr HJ.out.bel
      have HC := Lib.hid (show Calls Try.prog 15 #[.pointer (some ⟨hb, 0, none⟩), .int .i64 ((k : Int) + 1), .int .i64 (f k)] wr.drew fun e w' => e = .returned (.bool (decide (0 ≤ f k))) ∧ Hs w T w' hb ob pb ab n (acL f (k + 1)) (fun _ => true) ∧ w'.cell? ⟨b, off + k, none⟩ = some (.int .i64 (f k)) from by
        have hJ : Hs w T wr.drew hb ob pb ab n (acL f k) (fun _ => true) := ⟨HJ.out.heap.drewN 1, ⟨HJ.out.bel.os, HJ.out.bel.tape, HJ.out.bel.output, HJ.out.bel.size, HJ.out.bel.block⟩, HJ.out.ge, HJ.out.lt, HJ.out.top⟩
        refine (hJ.bumpL hlt (HF.out k hlt).2).mono ?_
        rintro e w' ⟨rfl, h1, _⟩
        exact ⟨rfl, h1, hc w' h1.bel⟩)
      clear HJ hc
      generalize f k = y at hcell HC
      go_wp2_with fail
      have hw : IntKind.i64.wrap ((k : Int) + 1) = (k : Int) + 1 := IntWalk.i64_in _ (by omega)
      go_region_with (go_at_call 15; refine HC.out.mono ?_; rintro e w3 ⟨rfl, hs3, hc3⟩)
      all_goals
        have HS3 := Lib.hid hs3
        clear hs3 hw
        go_wp2_with fail
        go_roundw
        case rel => exact ⟨k + 1, by omega, by go_num, HS3⟩
        case measure => simp [intOf]; omega
    · obtain rfl : k = n := by omega
      generalize acL f k = A at HJ
      have H1 := Lib.hid (show Hs w T wr hb ob pb ab k A (fun _ => true) ∧ Srt k A 0 0 (fun _ => true) from ⟨HJ.out, Srt.start k A⟩)
      clear HJ
      go_wp2_with fail
      go_loopw [6, 7] (fun x y w2 => ∃ (i l : Nat) (In : Nat → Bool), i ≤ k ∧ l ≤ k ∧ x = .int .i64 l ∧ y = .int .i64 i ∧ Hid (Hs w T w2 hb ob pb ab k A In ∧ Srt k A i l In)) (fun _ y _ => k - (intOf y).toNat)
      case atStart => exact ⟨0, 0, _, Nat.zero_le _, Nat.zero_le _, rfl, rfl, H1⟩
      case round =>
        obtain ⟨i, l, In, hi, hlk, rfl, rfl, HI⟩ := hrel
        clear H1
        have hnum := HI.out.2.num
        by_cases hlt2 : i < k
        · have HC := Lib.hid (HI.out.1.next (by omega))
          clear hnum
          go_wp2_with fail
          refine HC.out.mono ?_
          rintro e w3 ⟨v, hv, rfl, hs3, _⟩
          have hv1 : (1 : Int) ≤ (v : Int) := by have := hv.1; omega
          have hv2 : (v : Int) ≤ (k : Int) := by have := hv.2.1; omega
          have hhas := hs3.has v
          rw [Int.toNat_natCast, upd_same, Bool.and_false] at hhas
          have HHAS := Lib.hid hhas
          have HST := Lib.hid (HI.out.2.step hv)
          have hlast := HI.out.2.last
          have hav := hs3.activity v
          rw [if_pos (isV_iff.2 ⟨hv1, hv2⟩), Int.toNat_natCast] at hav
          have HAV := Lib.hid hav
          have hnb : 1 ≤ l → ¬ bef A v l := fun h0 => by
            rcases hlast with h | h
            · omega
            · exact h.2.2 v hv.1 hv.2.1 hv.2.2.1
          have hal : 1 ≤ l → Calls Try.prog 22 #[.pointer (some ⟨hb, 0, none⟩), .int .i64 (l : Nat)] w3 fun e w' => e = .returned (.int .i64 (A l)) ∧ w3 = w' := fun h0 => by
            have := hs3.activity l
            rw [if_pos (isV_iff.2 (by omega)), Int.toNat_natCast] at this
            exact this
          have HS := Lib.hid hs3
          clear hs3 hhas hav hlast HC hv
          by_cases hl0 : l = 0
          · subst hl0
            clear hal hnb HAV
            go_wp2_with fail
            refine HHAS.out.mono ?_
            rintro e w4 ⟨rfl, rfl⟩
            go_wp2_with fail
            go_roundw
            case rel => exact ⟨i + 1, v, _, by omega, by omega, rfl, by go_num, Lib.hid ⟨HS.out, HST.out⟩⟩
            case measure => simp [intOf]; omega
          · have hl1 : (0 : Int) < (l : Int) := by omega
            have HAL := Lib.hid (hal (by omega))
            have hnb2 := hnb (by omega)
            unfold bef at hnb2
            clear hal hnb
            generalize A v = y at HAV hnb2
            generalize A l = x at HAL hnb2
            have hxy : ¬ x < y := by omega
            by_cases hE : x = y
            · have hvl : ¬ (v : Int) < (l : Int) := by omega
              subst hE
              clear hnb2
              go_wp2_with fail
              refine HHAS.out.mono ?_
              rintro e w4 ⟨rfl, rfl⟩
              go_wp2_with fail
              refine HAL.out.mono ?_
              rintro e w4 ⟨rfl, rfl⟩
              go_wp2_with fail
              refine HAV.out.mono ?_
              rintro e w4 ⟨rfl, rfl⟩
              go_wp2_with fail
              refine HAL.out.mono ?_
              rintro e w4 ⟨rfl, rfl⟩
              go_wp2_with fail
              refine HAV.out.mono ?_
              rintro e w4 ⟨rfl, rfl⟩
              go_wp2_with fail
              go_roundw
              case rel => exact ⟨i + 1, v, _, by omega, by omega, rfl, by go_num, Lib.hid ⟨HS.out, HST.out⟩⟩
              case measure => simp [intOf]; omega
            · have hne : (x == y) = false := by simpa using hE
              clear hnb2 hE
              go_wp2_with fail
              refine HHAS.out.mono ?_
              rintro e w4 ⟨rfl, rfl⟩
              go_wp2_with fail
              refine HAL.out.mono ?_
              rintro e w4 ⟨rfl, rfl⟩
              go_wp2_with fail
              refine HAV.out.mono ?_
              rintro e w4 ⟨rfl, rfl⟩
              go_wp2_with fail
              refine HAL.out.mono ?_
              rintro e w4 ⟨rfl, rfl⟩
              go_wp2_with fail
              refine HAV.out.mono ?_
              rintro e w4 ⟨rfl, rfl⟩
              go_wp2_with fail
              go_roundw
              case rel => exact ⟨i + 1, v, _, by omega, by omega, rfl, by go_num, Lib.hid ⟨HS.out, HST.out⟩⟩
              case measure => simp [intOf]; omega
        · have HC := Lib.hid (HI.out.1.next0 (by omega))
          have hl := HI.out.1.len
          rw [show cnt In k = 0 from by omega] at hl
          have HL := Lib.hid hl
          have HB := Lib.hid HI.out.1.bel
          clear hnum hl
          go_wp2_with fail
          refine HC.out.mono ?_
          rintro e w4 ⟨rfl, rfl⟩
          go_wp2_with fail
          refine HL.out.mono ?_
          rintro e w4 ⟨rfl, rfl⟩
          go_wp2_with fail
          go_ret
          exact ⟨rfl, HB.out⟩
end Go.Proofs.Ytbhbokcgkhgljaa
