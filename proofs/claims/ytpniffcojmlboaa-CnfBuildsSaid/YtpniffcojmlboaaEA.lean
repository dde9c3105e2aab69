/- The answers' Literal, Abs, Holds, All, Lists. -/
import Derived.Test.YtpniffcojmlboaaDC
import Derived.Test.YtpniffcojmlboaaMC
namespace Go.Proofs.Ytpniffcojmlboaa
open Go.RowKit Go.Lib Go.Maps
set_option maxRecDepth 100000

def litOk (x : Int) : Prop := x ≠ 0 ∧ -100000 ≤ x ∧ x ≤ 100000
theorem literal_ok (x : Int) (h : litOk x) (w : World) : Calls Try.prog 42 #[.int .i64 x] w fun e w' => e = .returned (.bool true) ∧ w = w' := by
  obtain ⟨h1, h2, h3⟩ := h
  have b1 : (x != 0) = true := by rw [bne_iff_ne]; exact h1
  have b2 : decide (-100000 ≤ x) = true := decide_eq_true h2
  have b3 : decide (x ≤ 100000) = true := decide_eq_true h3
  go_enter Try.func42, Try.ntmps42
  go_wp2
  go_ret
  exact ⟨rfl, rfl⟩
theorem abs_ok (x : Int) (h : litOk x) (w : World) : Calls Try.prog 43 #[.int .i64 x] w fun e w' => e = .returned (.int .i64 (x.natAbs : Nat)) ∧ w = w' := by
  obtain ⟨h1, h2, h3⟩ := h
  by_cases hx : x < 0
  · rw [show ((x.natAbs : Nat) : Int) = -x by omega]
    have m1 : IntKind.i64.wrap (-x) = -x := IntWalk.i64_in _ ⟨by omega, by omega⟩
    clear h1 h2 h3
    go_enter Try.func43, Try.ntmps43
    go_wp2
    go_ret
    exact ⟨rfl, rfl⟩
  · rw [show ((x.natAbs : Nat) : Int) = x by omega]
    clear h1 h2 h3
    go_enter Try.func43, Try.ntmps43
    go_wp2
    go_ret
    exact ⟨rfl, rfl⟩
variable {w w' : World}
theorem Row.below {v : Value} {l : List Int} (h : Row w v l) (hb : Below w.heap.size w w') : Row w' v l := h.of_block hb.size fun b e => hb.block b (h.lt e)
theorem hv_ok {f : Nat → Bool} {n : Nat} {x : Int} (h : litOk x) : hv f n x = ((decide (x.natAbs ≤ n) && f (x.natAbs - 1)) == decide (0 < x)) := by
  unfold hv; rw [decide_eq_true (show x ≠ 0 ∧ -100000 ≤ x ∧ x ≤ 100000 from h), Bool.true_and]
set_option maxHeartbeats 4000000 in
/-- Holds -/
theorem holds_any {v : Value} {l : List Int} (h : Row w v l) (hl : ∀ x ∈ l, litOk x) (hn : l.length ≤ 1000) {am : Option Addr} {m cm : Nat} {g : Nat → Bool} (hm : HasB w am m g) (hm2 : m ≤ 1000000) :
    Calls Try.prog 37 #[v, .slice am m cm] w fun e w' => e = .returned (.bool (holds g m l)) ∧ w = w' := by
  obtain ⟨b, rfl, hb, hc⟩ := h
  obtain ⟨n, hN⟩ : ∃ n, n = l.length := ⟨_, rfl⟩
  have HC := Lib.hid hc
  have HM := Lib.hid hm
  have HL := Lib.hid hl
  have HNN := Lib.hid hN
  rw [← hN]
  replace hn : n ≤ 1000 := by omega
  clear hc hm hl hb hN
  go_enter Try.func37, Try.ntmps37
  go_wp2
  go_loopw [5] (fun i wr => ∃ k : Nat, k ≤ n ∧ i = .int .i64 k ∧ wr = w ∧ Hid (holds g m l = (l.drop k).any (hv g m))) (fun i _ => n - (intOf i).toNat)
  case atStart => exact ⟨0, Nat.zero_le _, rfl, rfl, Lib.hid rfl⟩
  case round =>
    obtain ⟨k, hk, rfl, rfl, HP⟩ := hrel
    by_cases hlt : k < n
    · have hltI : (k : Int) < (n : Int) := by omega
      have hkl : k < l.length := HNN.out ▸ hlt
      have xc := HC.out k hkl
      have hok := HL.out l[k] (List.getElem_mem hkl)
      have hP := HP.out
      rw [List.drop_eq_getElem_cons hkl, List.any_cons, hv_ok hok] at hP
      have HA := Lib.hid (abs_ok l[k] hok wr)
      have HLi := Lib.hid (literal_ok l[k] hok wr)
      generalize l[k] = x at *
      obtain ⟨u, hu⟩ : ∃ u, x.natAbs = u + 1 := ⟨x.natAbs - 1, by have := hok.1; omega⟩
      rw [hu] at hP HA
      rw [Nat.add_sub_cancel] at hP
      have hub : u + 1 ≤ 100000 := by have := hok.2; omega
      clear hok hu hkl HP
      by_cases hum : u + 1 ≤ m
      · have humI : (u : Int) + 1 ≤ (m : Int) := by omega
        have humJ : (u : Int) < (m : Int) := by omega
        rcases HM.out with e | ⟨b2, off2, rfl, _, hc2⟩
        · omega
        have xm := hc2 u (by omega)
        rw [decide_eq_true hum, Bool.true_and] at hP
        generalize g u = gu at *
        clear hc2 hum
        by_cases hx : 0 < x
        · rw [decide_eq_true hx] at hP
          cases gu
          · have HP2 := Lib.hid (show holds g m l = (l.drop (k + 1)).any (hv g m) from hP)
            clear hP
            go_wp2_with (first
              | (go_at_call 42; refine HLi.out.mono ?_; rintro e w1 ⟨rfl, rfl⟩)
              | (go_at_call 43; refine HA.out.mono ?_; rintro e w1 ⟨rfl, rfl⟩))
            go_roundw
            case rel => exact ⟨k + 1, by omega, by go_num, by first | rfl | trivial, HP2⟩
            case measure => simp [intOf]; omega
          · have HP2 := Lib.hid (show holds g m l = true from hP)
            clear hP
            go_wp2_with (first
              | (go_at_call 42; refine HLi.out.mono ?_; rintro e w1 ⟨rfl, rfl⟩)
              | (go_at_call 43; refine HA.out.mono ?_; rintro e w1 ⟨rfl, rfl⟩))
            go_ret
            exact ⟨by rw [HP2.out]; rfl, by first | rfl | trivial⟩
        · have hxd : decide (0 < x) = false := decide_eq_false hx
          have hxe : (!decide (0 < x)) = true := by rw [hxd]; rfl
          rw [hxd] at hP
          cases gu
          · have HP2 := Lib.hid (show holds g m l = true from hP)
            clear hP
            go_wp2_with (first
              | (go_at_call 42; refine HLi.out.mono ?_; rintro e w1 ⟨rfl, rfl⟩)
              | (go_at_call 43; refine HA.out.mono ?_; rintro e w1 ⟨rfl, rfl⟩))
            go_ret
            exact ⟨by rw [HP2.out]; rfl, by first | rfl | trivial⟩
          · have HP2 := Lib.hid (show holds g m l = (l.drop (k + 1)).any (hv g m) from hP)
            clear hP
            go_wp2_with (first
              | (go_at_call 42; refine HLi.out.mono ?_; rintro e w1 ⟨rfl, rfl⟩)
              | (go_at_call 43; refine HA.out.mono ?_; rintro e w1 ⟨rfl, rfl⟩))
            go_roundw
            case rel => exact ⟨k + 1, by omega, by go_num, by first | rfl | trivial, HP2⟩
            case measure => simp [intOf]; omega
      · have humI : ¬ (u : Int) + 1 ≤ (m : Int) := by omega
        rw [decide_eq_false hum, Bool.false_and] at hP
        clear hum
        by_cases hx : 0 < x
        · rw [decide_eq_true hx] at hP
          have HP2 := Lib.hid (show holds g m l = (l.drop (k + 1)).any (hv g m) from hP)
          clear hP
          go_wp2_with (first
            | (go_at_call 42; refine HLi.out.mono ?_; rintro e w1 ⟨rfl, rfl⟩)
            | (go_at_call 43; refine HA.out.mono ?_; rintro e w1 ⟨rfl, rfl⟩))
          go_roundw
          case rel => exact ⟨k + 1, by omega, by go_num, by first | rfl | trivial, HP2⟩
          case measure => simp [intOf]; omega
        · have hxd : decide (0 < x) = false := decide_eq_false hx
          have hxe : (!decide (0 < x)) = true := by rw [hxd]; rfl
          rw [hxd] at hP
          have HP2 := Lib.hid (show holds g m l = true from hP)
          clear hP
          go_wp2_with (first
            | (go_at_call 42; refine HLi.out.mono ?_; rintro e w1 ⟨rfl, rfl⟩)
            | (go_at_call 43; refine HA.out.mono ?_; rintro e w1 ⟨rfl, rfl⟩))
          go_ret
          exact ⟨by rw [HP2.out]; rfl, by first | rfl | trivial⟩
    · obtain rfl : k = n := by omega
      have hltI : ¬ (k : Int) < (k : Int) := by omega
      have hP := HP.out
      rw [HNN.out, List.drop_length, List.any_nil] at hP
      have HP2 := Lib.hid hP
      clear hlt hP
      go_wp2
      go_ret
      exact ⟨by rw [HP2.out]; rfl, by first | rfl | trivial⟩
set_option maxHeartbeats 4000000 in
/-- All -/
theorem all_any {v : Value} {hs : Nat → Value} {C : List (List Int)} (h : Rws w v hs C) (hl : ∀ c ∈ C, c.length ≤ 1000 ∧ ∀ x ∈ c, litOk x) (hn : C.length ≤ 1000000) {am : Option Addr} {m cm : Nat} {g : Nat → Bool} (hm : HasB w am m g) (hm2 : m ≤ 1000000) :
    Calls Try.prog 17 #[v, .slice am m cm] w fun e w' => e = .returned (.bool (allC g m C)) ∧ w = w' := by
  obtain ⟨n, hN⟩ : ∃ n, n = C.length := ⟨_, rfl⟩
  have hsl := h.sl
  obtain ⟨a, c, rfl, _, _⟩ := hsl.shape
  have HC := Lib.hid h.row
  have HSL := Lib.hid hsl
  have HM := Lib.hid hm
  have HL := Lib.hid hl
  have HNN := Lib.hid hN
  rw [← hN] at hsl ⊢
  replace hn : n ≤ 1000000 := by omega
  clear hsl hm hl h hN
  go_enter Try.func17, Try.ntmps17
  go_wp2
  go_loopw [5] (fun i wr => ∃ k : Nat, k ≤ n ∧ i = .int .i64 k ∧ wr = w ∧ Hid (allC g m C = (C.drop k).all (holds g m))) (fun i _ => n - (intOf i).toNat)
  case atStart => exact ⟨0, Nat.zero_le _, rfl, rfl, Lib.hid rfl⟩
  case round =>
    obtain ⟨k, hk, rfl, rfl, HP⟩ := hrel
    by_cases hlt : k < n
    · have hltI : (k : Int) < (n : Int) := by omega
      have hkl : k < C.length := HNN.out ▸ hlt
      obtain ⟨gg, rfl, _, hc2⟩ := HSL.out.cells1 (by omega)
      have xc := hc2 k hkl
      have hrow := HC.out k hkl
      obtain ⟨hl1, hl2⟩ := HL.out C[k] (List.getElem_mem hkl)
      have hH := holds_any (cm := cm) hrow hl2 hl1 HM.out hm2
      have hP := HP.out
      rw [List.drop_eq_getElem_cons hkl, List.all_cons] at hP
      obtain ⟨a3, c3, e3⟩ := hrow.shape
      generalize C[k] = cc at *
      rw [e3] at hH xc
      clear hrow hl1 hl2 hc2 HP e3
      cases hr : holds g m cc
      · rw [hr, Bool.false_and] at hP
        rw [hr] at hH
        have HP2 := Lib.hid hP
        have HH := Lib.hid hH
        clear hP hH
        go_wp2_with (go_at_call 37; refine HH.out.mono ?_; rintro e w1 ⟨rfl, rfl⟩)
        go_ret
        exact ⟨by rw [HP2.out]; rfl, by first | rfl | trivial⟩
      · rw [hr, Bool.true_and] at hP
        rw [hr] at hH
        have HP2 := Lib.hid hP
        have HH := Lib.hid hH
        clear hP hH
        go_wp2_with (go_at_call 37; refine HH.out.mono ?_; rintro e w1 ⟨rfl, rfl⟩)
        go_roundw
        case rel => exact ⟨k + 1, by omega, by go_num, by first | rfl | trivial, HP2⟩
        case measure => simp [intOf]; omega
    · obtain rfl : k = n := by omega
      have hltI : ¬ (k : Int) < (k : Int) := by omega
      have hP := HP.out
      rw [HNN.out, List.drop_length, List.all_nil] at hP
      have HP2 := Lib.hid hP
      clear hlt hP
      go_wp2
      go_ret
      exact ⟨by rw [HP2.out]; rfl, by first | rfl | trivial⟩
theorem Rws.below {v : Value} {hs : Nat → Value} {C : List (List Int)} (h : Rws w v hs C) (hb : Below w.heap.size w w') : Rws w' v hs C := h.of_block hb.size fun b e => hb.block b (h.lt e)
set_option maxHeartbeats 4000000 in
/-- Lists, of two lists that are the same -/
theorem lists_any {v v' : Value} {hs hs' : Nat → Value} {C : List (List Int)} (h : Rws w v hs C) (h' : Rws w v' hs' C) (hl : ∀ c ∈ C, c.length ≤ 1000) (hn : C.length ≤ 1000000) :
    Calls Try.prog 15 #[v, v'] w fun e w' => e = .returned (.bool true) ∧ Below w.heap.size w w' := by
  obtain ⟨n, hN⟩ : ∃ n, n = C.length := ⟨_, rfl⟩
  obtain ⟨a, c, rfl, _, _⟩ := h.sl.shape
  obtain ⟨a', c', rfl, _, _⟩ := h'.sl.shape
  have H := Lib.hid h
  have H' := Lib.hid h'
  have HL := Lib.hid hl
  have HNN := Lib.hid hN
  rw [← hN]
  replace hn : n ≤ 1000000 := by omega
  clear h h' hl hN
  go_enter Try.func15, Try.ntmps15
  go_wp2
  go_loopw [5] (fun i wr => ∃ k : Nat, k ≤ n ∧ i = .int .i64 k ∧ Hid (Below w.heap.size w wr)) (fun i _ => n - (intOf i).toNat)
  case atStart => exact ⟨0, Nat.zero_le _, rfl, Lib.hid (Below.refl _ _)⟩
  case round =>
    obtain ⟨k, hk, rfl, HB⟩ := hrel
    by_cases hlt : k < n
    · have hltI : (k : Int) < (n : Int) := by omega
      have hkl : k < C.length := HNN.out ▸ hlt
      obtain ⟨g1, rfl, _, hc1⟩ := (H.out.below HB.out).sl.cells1 (by omega)
      obtain ⟨g2, rfl, _, hc2⟩ := (H'.out.below HB.out).sl.cells1 (by omega)
      have xa := hc1 k hkl
      have xb := hc2 k hkl
      have hr1 := (H.out.below (HB.out.drew)).row k hkl
      have hr2 := (H'.out.below (HB.out.drew)).row k hkl
      have hll := HL.out C[k] (List.getElem_mem hkl)
      obtain ⟨a3, c3, e3⟩ := hr1.shape
      obtain ⟨a4, c4, e4⟩ := hr2.shape
      rw [e3] at xa hr1
      rw [e4] at xb hr2
      have hI := ints_any (c := c3) (c' := c4) hr1.hasI.2 hr2.hasI.2 (by omega)
      generalize C[k] = cc at *
      have HI := Lib.hid hI
      have HBD := Lib.hid HB.out.drew
      clear hr1 hr2 hc1 hc2 hI e3 e4
      go_wp2
      go_region_with (go_at_call 27; refine HI.out.mono ?_; rintro e w2 ⟨rfl, hb2⟩; have HB2 := Lib.hid (HBD.out.trans (hb2.mono HBD.out.size)); clear hb2)
      all_goals
        go_wp2
        go_roundw
        case rel => exact ⟨k + 1, by omega, by go_num, HB2⟩
        case measure => simp [intOf]; omega
    · obtain rfl : k = n := by omega
      have hltI : ¬ (k : Int) < (k : Int) := by omega
      clear hlt
      go_wp2
      go_ret
      exact ⟨rfl, HB.out⟩
end Go.Proofs.Ytpniffcojmlboaa
