/- Joined: UK, UL. -/
import Derived.Test.YtoffhgiljnagcaaUJ
import Derived.Test.YtoffhgiljnagcaaQJ
import Derived.Test.YtoffhgiljnagcaaQI
/- The law: goals. -/
namespace Go.Proofs.Ytoffhgiljnagcaa
open Go.RowKit Go.Lib
set_option maxRecDepth 100000

/-- A list of bytes. -/
def HasU (w : World) (a : Option Addr) (n : Nat) (z : Nat → Int) : Prop :=
  n = 0 ∨ ∃ b off, a = some ⟨b, off, none⟩ ∧ b < w.heap.size ∧ ∀ j, j < n → w.cell? ⟨b, off + j, none⟩ = some (.int .u8 (z j)) ∧ 0 ≤ z j ∧ z j < 256
set_option maxHeartbeats 4000000 in
theorem goals_out (W : World) (a0 a1 : Option Addr) (n0 c0 n1 c1 : Nat) (R : Nat → Row)
    (hS : ∀ w1, Below W.heap.size W w1 → Calls Try.prog 9 #[.slice a0 n0 c0, .int .i64 30, .int .i64 100000] w1 fun e w' => e = .returned (.bool (small R n0 30)) ∧ w1 = w')
    (h : small R n0 30 = false ∨ n0 = 0 ∨ 12 < n1) :
    Calls Try.prog 7 #[.slice a0 n0 c0, .slice a1 n1 c1] W fun e w' => e = .returned (.bool true) ∧ Below W.heap.size W w' := by
  have HA := Lib.hid (awake_at (W := W))
  have HS := Lib.hid hS
  clear hS
  have HB0 := Lib.hid (Below.refl W.heap.size W)
  cases hs : small R n0 30
  · rw [hs] at HS
    go_enter Try.func7, Try.ntmps7
    go_wp2_with (first
      | (go_at_call 8; refine (HA.out _ HB1.out).mono ?_; rintro e w2 ⟨rfl, HB2⟩)
      | (go_at_call 8; refine (HA.out _ HB0.out).mono ?_; rintro e w1 ⟨rfl, HB1⟩)
      | (go_at_call 9; refine (HS.out _ HB1.out).mono ?_; rintro e w' ⟨rfl, rfl⟩))
    go_ret
    exact ⟨rfl, HB2.out⟩
  · rw [hs] at HS
    by_cases h0 : n0 = 0
    · subst h0
      go_enter Try.func7, Try.ntmps7
      go_wp2_with (first
        | (go_at_call 8; refine (HA.out _ HB1.out).mono ?_; rintro e w2 ⟨rfl, HB2⟩)
        | (go_at_call 8; refine (HA.out _ HB0.out).mono ?_; rintro e w1 ⟨rfl, HB1⟩)
        | (go_at_call 9; refine (HS.out _ HB1.out).mono ?_; rintro e w' ⟨rfl, rfl⟩))
      go_ret
      exact ⟨rfl, HB2.out⟩
    · have h1I : (12 : Int) < (n1 : Int) := by
        rcases h with h | h | h
        · rw [hs] at h; cases h
        · exact absurd h h0
        · omega
      have h0I : ((n0 : Int) == 0) = false := by rw [beq_eq_false_iff_ne]; omega
      go_enter Try.func7, Try.ntmps7
      go_wp2_with (first
        | (go_at_call 8; refine (HA.out _ HB1.out).mono ?_; rintro e w2 ⟨rfl, HB2⟩)
        | (go_at_call 8; refine (HA.out _ HB0.out).mono ?_; rintro e w1 ⟨rfl, HB1⟩)
        | (go_at_call 9; refine (HS.out _ HB1.out).mono ?_; rintro e w' ⟨rfl, rfl⟩))
      go_ret
      exact ⟨rfl, HB2.out⟩

/-- Which row is picked. -/
def pkI (z : Nat → Int) (n : Nat) (j : Nat) : Nat := (z j % (n : Int)).toNat
theorem pkI_lt {z : Nat → Int} {n j : Nat} (hn : 0 < n) : pkI z n j < n := by
  have h1 := Int.emod_nonneg (z j) (show (n : Int) ≠ 0 by omega)
  have h2 := Int.emod_lt_of_pos (z j) (show (0 : Int) < n by omega)
  unfold pkI
  omega

set_option maxHeartbeats 8000000 in
theorem goals_in (W : World) (a0 a1 : Option Addr) (n0 c0 n1 c1 : Nat) (R : Nat → Row) (z : Nat → Int)
    (hS : ∀ w1, Below W.heap.size W w1 → Calls Try.prog 9 #[.slice a0 n0 c0, .int .i64 30, .int .i64 100000] w1 fun e w' => e = .returned (.bool (small R n0 30)) ∧ w1 = w')
    (hs : small R n0 30 = true) (h0 : n0 ≠ 0) (h1 : n1 ≤ 12) (hr : Rws W a0 n0 R) (hz : HasU W a1 n1 z) :
    Calls Try.prog 7 #[.slice a0 n0 c0, .slice a1 n1 c1] W fun e w' => e = .returned (.bool true) ∧ Below W.heap.size W w' := by
  obtain ⟨hn0, hR⟩ := small_iff.1 hs
  have HA := Lib.hid (awake_at (W := W))
  rw [hs] at hS
  have HS := Lib.hid hS
  have HB0 := Lib.hid (Below.refl W.heap.size W)
  have hRH := fun j (hj : j < n0) => (show Has W (R j).a (R j).n (R j).f from by
    rcases hr with h | ⟨b, off, _, _, hc⟩
    · omega
    · exact (hc j hj).2)
  have HR := Lib.hid (And.intro hR (And.intro hr (And.intro hz hRH)))
  have HCK := Lib.hid (show ∀ w1 (a' : Option Addr) (m c' : Nat) (X : Nat → Lin) (a2 : Option Addr) (l c2 : Nat) (f : Nat → Int), Below W.heap.size W w1 → m ≤ 100 → (∀ j, j < m → (X j).n ≤ 1000) → l ≤ 1000 → Lns w1 a' m X → Has w1 a2 l f → Calls Try.prog 14 #[.slice a0 n0 c0, .slice a' m c', .slice a2 l c2] w1 (ChkOk R n0 X m f l w1) from fun w1 a' m c' X a2 l c2 f hb h2 h3 h4 h5 h6 =>
    check_any a0 n0 c0 R a' m c' X a2 l c2 f w1 (by omega) (fun j hj => by have := hR j hj; omega) h2 h3 h4 (hr.below hb) h5 h6)
  clear hS hr hz hR hRH
  have h1I : ¬ (12 : Int) < (n1 : Int) := by omega
  have h1J : decide ((12 : Int) < (n1 : Int)) = false := decide_eq_false h1I
  have h0I : ((n0 : Int) == 0) = false := by rw [beq_eq_false_iff_ne]; omega
  have h0J : ¬ (n0 : Int) = 0 := by omega
  go_enter Try.func7, Try.ntmps7
  go_wp2_with (first
    | (go_at_call 8; refine (HA.out _ HB0.out).mono ?_; rintro e w1 ⟨rfl, HB1⟩)
    | (go_at_call 9; refine (HS.out _ HB1.out).mono ?_; rintro e w' ⟨rfl, rfl⟩))
  go_loop [5] (fun v => ∃ i : Nat, i ≤ n0 ∧ v = .int .i64 i ∧ Hid (litR R i = true)) (fun v => n0 - (intOf v).toNat)
  case atStart => exact ⟨0, Nat.zero_le _, rfl, Lib.hid (by simp [litR])⟩
  case round =>
    obtain ⟨i, hi, rfl, HI⟩ := hrel
    by_cases hlt : i < n0
    · have hltI : (i : Int) < (n0 : Int) := by omega
      rcases HR.out.2.1 with h | ⟨b, off, rfl, hb, hc⟩
      · omega
      have xc := (HB1.out.cell (p := ⟨b, off + i, none⟩) hb).trans (hc i hlt).1
      have HX := refRight_any (R i).a (R i).n (R i).c (R i).f w1 (by have := HR.out.1 i hlt; omega) ((HR.out.2.2.2 i hlt).below HB1.out)
      clear hc hb
      cases e : litF (R i).f (R i).n
      · have HN := Lib.hid (show ¬ (litR R n0 = true ∧ litF (fun _ => 0) 0 = true) from fun h => by rw [litR_iff.1 h.1 i hlt] at e; cases e)
        rw [e] at HX
        have HX := Lib.hid HX
        have HC := Lib.hid (HCK.out w1 none 0 0 (fun _ => ⟨false, none, 0, 0, fun _ => 0⟩) none 0 0 (fun _ => 0) HB1.out (by omega) (fun j h => absurd h (Nat.not_lt_zero _)) (by omega) (.inl rfl) (.inl rfl))
        clear e HCK
        go_wp2_with (first
          | (go_at_call 16; refine HX.out.mono ?_; rintro e w' ⟨rfl, rfl⟩)
          | (go_at_call 14; refine HC.out.mono ?_; rintro e w2 ⟨r, rfl, HK, HB2⟩))
        have hr1 : r = -1 := by
          rcases HK.out with ⟨_, h⟩ | ⟨h1, h2, _⟩
          · exact h
          · exact absurd ⟨h1, h2⟩ HN.out
        go_ret
        exact ⟨by rw [hr1]; rfl, HB1.out.trans (HB2.out.mono HB1.out.size)⟩
      · have HN := Lib.hid (show litR R (i + 1) = true from by rw [litR_succ, HI.out, e]; rfl)
        rw [e] at HX
        have HX := Lib.hid HX
        clear e
        go_wp2_with (go_at_call 16; refine HX.out.mono ?_; rintro e w' ⟨rfl, rfl⟩)
        go_round
        case rel => exact ⟨i + 1, by omega, by go_num, HN⟩
        case measure => simp [intOf]; omega
    · obtain rfl : i = n0 := by omega
      have hltI : ¬ (i : Int) < (i : Int) := by omega
      clear hlt
      have H0 := Lib.hid (LnF.nil HB1.out (pickX R (pkI z i) n1))
      go_wp2
      go_loopw [6, 7] (fun s v wr => ∃ (k : Nat) (a : Option Addr) (c : Nat), k ≤ n1 ∧ s = .slice a k c ∧ v = .int .i64 k ∧ Hid (LnF W wr (.slice a k c) k (pickX R (pkI z i) n1))) (fun _ v _ => n1 - (intOf v).toNat)
      case atStart => exact ⟨0, none, 0, Nat.zero_le _, rfl, rfl, H0⟩
      case round =>
        obtain ⟨k, a, c, hk, rfl, rfl, HL⟩ := hrel
        clear H0
        by_cases hlt : k < n1
        · have hltI : (k : Int) < (n1 : Int) := by omega
          rcases HR.out.2.1 with h | ⟨b, off, rfl, hb, hc⟩
          · omega
          rcases HR.out.2.2.1 with h | ⟨b', off', rfl, hb', hc'⟩
          · omega
          obtain ⟨zc, z0, z1⟩ := hc' k hlt
          have p1 := pkI_lt (z := z) (n := i) (j := k) (by omega)
          have xz := (HL.out.bel.cell (p := ⟨b', off' + k, none⟩) hb').trans zc
          have xc : wr.cell? ⟨b, off + (z k % (i : Int)).toNat, none⟩ = some (.slice (R (pkI z i k)).a (R (pkI z i k)).n (R (pkI z i k)).c) := (HL.out.bel.cell (p := ⟨b, off + pkI z i k, none⟩) hb).trans (hc _ p1).1
          have hp0 := Int.emod_nonneg (z k) (show (i : Int) ≠ 0 by omega)
          have hp1 := Int.emod_lt_of_pos (z k) (show (0 : Int) < (i : Int) by omega)
          clear hc hb hc' hb' zc HCK
          have hpk := Lib.hid (pick_lo (R := R) (v := pkI z i) (p := n1) hlt)
          go_wp2_with (at_builtin; refine LnF.app HL (by omega) ⟨false, (R (pkI z i k)).a, (R (pkI z i k)).n, (R (pkI z i k)).c, (R (pkI z i k)).f⟩ rfl _ _ rfl rfl rfl ?_; intro a' c' w' HL')
          go_roundw
          case rel => exact ⟨k + 1, a', c', by omega, rfl, by go_num, Lib.hid (HL'.out.congr fun j hj => by
            by_cases e : j < k
            · rw [if_pos e]
            · rw [if_neg e, show j = k by omega, hpk.out])⟩
          case measure => simp [intOf]; omega
        · obtain rfl : k = n1 := by omega
          have hltI : ¬ (k : Int) < (k : Int) := by omega
          clear hlt
          have H0 := Lib.hid (show LnF W wr (.slice a (k + 0) c) (k + 0) (pickX R (pkI z i) k) from HL.out)
          go_wp2
          go_loopw [6, 8] (fun s v wr => ∃ (t : Nat) (a : Option Addr) (c : Nat), t ≤ k ∧ s = .slice a (k + t : Nat) c ∧ v = .int .i64 t ∧ Hid (LnF W wr (.slice a (k + t) c) (k + t) (pickX R (pkI z i) k))) (fun _ v _ => k - (intOf v).toNat)
          case atStart => exact ⟨0, a, c, Nat.zero_le _, rfl, rfl, H0⟩
          case round =>
            obtain ⟨t, a, c, ht, rfl, rfl, HL⟩ := hrel
            clear H0
            by_cases hlt : t < k
            · have hltI : (t : Int) < (k : Int) := by omega
              rcases HR.out.2.1 with h | ⟨b, off, rfl, hb, hc⟩
              · omega
              rcases HR.out.2.2.1 with h | ⟨b', off', rfl, hb', hc'⟩
              · omega
              obtain ⟨zc, z0, z1⟩ := hc' t hlt
              have p1 := pkI_lt (z := z) (n := i) (j := t) (by omega)
              have xz := (HL.out.bel.cell (p := ⟨b', off' + t, none⟩) hb').trans zc
              have xc : wr.cell? ⟨b, off + (z t % (i : Int)).toNat, none⟩ = some (.slice (R (pkI z i t)).a (R (pkI z i t)).n (R (pkI z i t)).c) := (HL.out.bel.cell (p := ⟨b, off + pkI z i t, none⟩) hb).trans (hc _ p1).1
              have hp0 := Int.emod_nonneg (z t) (show (i : Int) ≠ 0 by omega)
              have hp1 := Int.emod_lt_of_pos (z t) (show (0 : Int) < (i : Int) by omega)
              clear hc hb hc' hb' zc HCK
              have hpk := Lib.hid (show pickX R (pkI z i) k (k + t) = ⟨true, (R (pkI z i t)).a, (R (pkI z i t)).n, (R (pkI z i t)).c, (R (pkI z i t)).f⟩ from by rw [pick_hi (by omega), Nat.add_sub_cancel_left])
              go_wp2_with (at_builtin; refine LnF.app HL (by omega) ⟨true, (R (pkI z i t)).a, (R (pkI z i t)).n, (R (pkI z i t)).c, (R (pkI z i t)).f⟩ rfl _ _ rfl rfl rfl ?_; intro a' c' w' HL')
              go_roundw
              case rel => exact ⟨t + 1, a', c', by omega, rfl, by go_num, Lib.hid (HL'.out.congr fun j hj => by
                by_cases e : j < k + t
                · rw [if_pos e]
                · rw [if_neg e, show j = k + t by omega, hpk.out])⟩
              case measure => simp [intOf]; omega
            · obtain rfl : t = k := by omega
              have hltI : ¬ (t : Int) < (t : Int) := by omega
              clear hlt
              have hn2 : ∀ j, j < t + t → (pickX R (pkI z i) t j).n ≤ 1000 ∧ Has W (pickX R (pkI z i) t j).a (pickX R (pkI z i) t j).n (pickX R (pkI z i) t j).f := fun j hj => by
                have hx : ∀ y, (R (pkI z i y)).n ≤ 1000 ∧ Has W (R (pkI z i y)).a (R (pkI z i y)).n (R (pkI z i y)).f := fun y => by
                  have p1 := pkI_lt (z := z) (n := i) (j := y) (by omega)
                  exact ⟨by have := HR.out.1 _ p1; omega, HR.out.2.2.2 _ p1⟩
                by_cases e : j < t
                · rw [pick_lo e]; exact hx j
                · rw [pick_hi e]; exact hx (j - t)
              have HC2 := Lib.hid (show ∀ j, j < i → ∀ w', Below wr.heap.size wr w' → Calls Try.prog 14 #[.slice a0 i c0, .slice a (t + t) c, .slice (R j).a (R j).n (R j).c] w' fun e w'' => e = .returned (.int .i64 0) ∧ Hid (Below wr.heap.size wr w'') from fun j hj w' hb => by
                have hL' := HL.out.then hb
                have hbW := hL'.bel
                refine (HCK.out w' a (t + t) c _ (R j).a (R j).n (R j).c (R j).f hbW (by omega) (fun x hx => (hn2 x hx).1) (by have := HR.out.1 j hj; omega) (hL'.lns fun x hx => (hn2 x hx).2) ((HR.out.2.2.2 j hj).below hbW)).mono ?_
                rintro e w'' ⟨r, rfl, hk, hb2⟩
                have hk' := hk.out
                rw [show t + t = 2 * t by omega] at hk'
                exact ⟨by rw [pick_zero HI.out (fun x _ => pkI_lt (by omega)) hj hk'], Lib.hid (hb.trans (hb2.out.mono hb.size))⟩)
              have HBW := Lib.hid HL.out.bel
              have HB0 := Lib.hid (Below.refl wr.heap.size wr)
              clear hn2 HCK
              obtain ⟨wq, hwq⟩ : ∃ wq, wq = wr := ⟨wr, rfl⟩
              subst hwq
              go_wp2
              go_loopw [9] (fun v w' => ∃ (j : Nat), j ≤ i ∧ v = .int .i64 j ∧ Hid (Below wq.heap.size wq w')) (fun v _ => i - (intOf v).toNat)
              case atStart => exact ⟨0, Nat.zero_le _, rfl, HB0⟩
              case round =>
                obtain ⟨j, hj, rfl, HB2⟩ := hrel
                by_cases hlt : j < i
                · have hltI : (j : Int) < (i : Int) := by omega
                  rcases HR.out.2.1 with h | ⟨b, off, rfl, hb, hc⟩
                  · omega
                  have hbW : Below W.heap.size W wr := HBW.out.trans (HB2.out.mono HBW.out.size)
                  have xc := (hbW.cell (p := ⟨b, off + j, none⟩) hb).trans (hc j hlt).1
                  have HC3 := Lib.hid (HC2.out j hlt wr HB2.out)
                  clear hc hb hbW
                  go_wp2_with (go_at_call 14; refine HC3.out.mono ?_; rintro e w5 ⟨rfl, HB5⟩)
                  go_roundw
                  case rel => exact ⟨j + 1, by omega, by go_num, HB5⟩
                  case measure => simp [intOf]; omega
                · obtain rfl : j = i := by omega
                  have hltI : ¬ (j : Int) < (j : Int) := by omega
                  clear hlt
                  go_wp2
                  go_ret
                  exact ⟨rfl, HBW.out.trans (HB2.out.mono HBW.out.size)⟩
end Go.Proofs.Ytoffhgiljnagcaa
/- The law: goals: all arguments. -/
namespace Go.Proofs.Ytoffhgiljnagcaa
open Go.ChangeShapes Go.WideShapes Go.ChangeAt Go.RowKit Go.Lib

theorem cells5 : Try.prog.cellsOf 5 = 1 := by kernel_rfl
/-- A list of bytes. -/
theorem in_bytes {H : Type} {enc : TypeId × Value → H} {w : World} {base : Nat} {held : Bool} {a0 : Option Addr} {len0 cap0 : Nat} {x : DataW H × List MemPlace} {fuel : Nat}
    (hf : DataW.trod enc Try.prog w base (fun _ => true) held fuel 41 (Value.slice a0 len0 cap0).cells.toList = some x) :
    ∃ f : Nat → Int, HasU w a0 len0 f ∧ len0 ≤ 9223372036854775807 ∧ len0 ≤ cap0 := by
  rcases open_ints Try.underlying41 Try.underlying5 cells5 hf with ⟨hcs, _⟩ | ⟨x, l, c, zs, hcs, _, hl, hm, hz, _, hcell, hwz⟩
  · simp [Value.cells] at hcs
    obtain ⟨rfl, rfl, rfl⟩ := hcs
    exact ⟨fun _ => 0, .inl rfl, by omega, Nat.le_refl _⟩
  · simp [Value.cells] at hcs
    obtain ⟨rfl, rfl, rfl⟩ := hcs
    have hzl : zs.length = cap0 := by simpa using hz
    refine ⟨fun j => zs.getD j 0, ?_, by unfold maxLen at hm; omega, hl⟩
    by_cases h0 : len0 = 0
    · exact .inl h0
    · obtain ⟨b, off, rfl, hb, hc⟩ := addr_all (n := cap0) (f := fun i => .int .u8 (zs.getD i 0)) (by omega) (fun i hi => hcell i (by omega))
      refine .inr ⟨b, off, rfl, hb, fun j hj => ⟨hc j (by omega), ?_⟩⟩
      have hmem : zs.getD j 0 ∈ zs := by
        rw [List.getD_eq_getElem?_getD, List.getElem?_eq_getElem (by omega)]
        exact List.getElem_mem _
      have hw := hwz _ hmem
      have h1 : IntKind.u8.min = 0 := by decide
      have h2 : IntKind.u8.max = 255 := by decide
      simp only [Lit.wf, h1, h2, Bool.and_eq_true, decide_eq_true_eq] at hw
      show 0 ≤ zs.getD j 0 ∧ zs.getD j 0 < 256
      omega
theorem goals_any (a0 a1 : Option Addr) (n0 c0 n1 c1 : Nat) (R : Nat → Row) (z : Nat → Int) (W : World) (hn0 : n0 ≤ 9223372036854775807) (hnc : n0 ≤ c0) (hc0 : c0 ≤ 9223372036854775807) (hR : ∀ j, j < n0 → (R j).n ≤ 9223372036854775807) (hr : Rws W a0 n0 R) (hz : HasU W a1 n1 z) :
    Calls Try.prog 7 #[.slice a0 n0 c0, .slice a1 n1 c1] W fun e w' => e = .returned (.bool true) ∧ Below W.heap.size W w' := by
  have hS : ∀ w1, Below W.heap.size W w1 → Calls Try.prog 9 #[.slice a0 n0 c0, .int .i64 30, .int .i64 100000] w1 fun e w' => e = .returned (.bool (small R n0 30)) ∧ w1 = w' := fun w1 hb =>
    small_any a0 n0 c0 R 30 100000 (by omega) w1 hn0 (by omega) hnc hc0 hR (hr.below hb)
  by_cases h : small R n0 30 = false ∨ n0 = 0 ∨ 12 < n1
  · exact goals_out W a0 a1 n0 c0 n1 c1 R hS h
  · have h' : small R n0 30 = true := by
      cases e : small R n0 30
      · exact absurd (.inl e) h
      · rfl
    exact goals_in W a0 a1 n0 c0 n1 c1 R z hS h' (fun e => h (.inr (.inl e))) (by omega) hr hz
end Go.Proofs.Ytoffhgiljnagcaa
