/- Contract: Show (the answers'). -/
import Derived.Test.YtmgkoehclabejaaDoorPM
import Derived.Test.YtmgkoehclabejaaDoorV
namespace Go.Proofs.YtmgkoehclabejaaDoor
open Go Go.RowKit Go.Lib

theorem bs_sp (a b : List UInt8) : bs a ++ bs b ++ (⟨#[32]⟩ : ByteArray) = bs (a ++ b ++ [32]) := by
  rw [show (⟨#[32]⟩ : ByteArray) = bs [32] from rfl, bs_append, bs_append]
theorem bs_zero (a : List UInt8) : bs a ++ (⟨#[48, 10]⟩ : ByteArray) = bs (a ++ [48, 10]) := by
  rw [show (⟨#[48, 10]⟩ : ByteArray) = bs [48, 10] from rfl, bs_append]
theorem bs_head (g : Int) (n : Nat) : (⟨#[112, 32, 99, 110, 102, 32]⟩ : ByteArray) ++ bs (itoa g) ++ (⟨#[32]⟩ : ByteArray) ++ bs (itoa n) ++ (⟨#[10]⟩ : ByteArray) = bs (headS g n) := by
  rw [show (⟨#[112, 32, 99, 110, 102, 32]⟩ : ByteArray) = bs [112, 32, 99, 110, 102, 32] from rfl, show (⟨#[32]⟩ : ByteArray) = bs [32] from rfl, show (⟨#[10]⟩ : ByteArray) = bs [10] from rfl, bs_append, bs_append, bs_append, bs_append]
  rfl

def RefShowPost (L : List (List Int)) (w : World) (e : Ending) (w' : World) : Prop := e = .returned (.string (bs (showV L))) ∧ Below w.heap.size w w'
theorem showV_bad {R : Nat → Row} {n k : Nat} (hk : k < n) (h : litF (R k).f (R k).n = false) : showV (rowsL R n) = [] := by
  unfold showV
  rw [litR_all, if_neg]
  intro hh
  have := litR_iff.1 hh k hk
  rw [h] at this; cases this
theorem showV_good {R : Nat → Row} {n : Nat} (h : litR R n = true) : showV (rowsL R n) = headS (gr (rowsL R n)) n ++ rowsS (rowsL R n) := by
  unfold showV; rw [litR_all, h]; simp [showL, rowsL_length]

theorem rows_small' {R : Nat → Row} {k : Nat} (hv : ∀ j, j < k → litF (R j).f (R j).n = true) (hR : ∀ j, j < k → (R j).n ≤ 1000) : (rowsS (rowsL R k)).length ≤ 22002 * k := by
  have := rowsS_len (rowsL R k) (fun l hl => by
    obtain ⟨j, hj, rfl⟩ := rowsL_mem hl
    refine ⟨fun x hx => ?_, by rw [lof_length]; exact hR j hj⟩
    obtain ⟨i, hi, rfl⟩ := lof_mem hx
    exact litF_iff.1 (hv j hj) i hi)
  rwa [rowsL_length] at this

set_option maxRecDepth 100000 in
set_option maxHeartbeats 4000000 in
theorem refShow_core (b off n c : Nat) (R : Nat → Row) (w : World) (hm : n ≤ 1000) (hR : ∀ j, j < n → (R j).n ≤ 1000) (hlt : b < w.heap.size)
    (hc : ∀ j, j < n → w.cell? ⟨b, off + j, none⟩ = some (.slice (R j).a (R j).n (R j).c) ∧ Has w (R j).a (R j).n (R j).f) :
    Calls Tryd.prog 19 #[.slice (some ⟨b, off, none⟩) n c] w (RefShowPost (rowsL R n) w) := by
  have hrws : Rws w (some ⟨b, off, none⟩) n R := .inr ⟨b, off, rfl, hlt, hc⟩
  have hgr := refGreatest_any (some ⟨b, off, none⟩) n c R w (by omega) (fun j hj => by have := hR j hj; omega) hrws
  have hg := gr_bd (rowsL R n)
  have hd1 := fun W => digits_any (gr (rowsL R n)) (by omega) W
  have hd2 := fun W => digits_any (n : Int) (by omega) W
  have hhd := bs_head (gr (rowsL R n)) n
  have hl1 := itoa_length_le (gr (rowsL R n)) (by omega) (by omega)
  have hl2 := itoa_length_le (n : Int) (by omega) (by omega)
  have hl3 := headS_len (n := n) hg (by omega)
  have hbz := bs_size
  have hbad : ∀ k w', k < n → litF (R k).f (R k).n = false → Below w.heap.size w w' → RefShowPost (rowsL R n) w (.returned (.string ⟨#[]⟩)) w' := fun k w' hk h hb => ⟨by rw [showV_bad hk h]; rfl, hb⟩
  have hgood : ∀ w', litR R n = true → Below w.heap.size w w' → RefShowPost (rowsL R n) w (.returned (.string (bs (headS (gr (rowsL R n)) n ++ rowsS (rowsL R n))))) w' := fun w' h hb => ⟨by rw [showV_good h], hb⟩
  have hrow : ∀ k, rowsS (rowsL R (k + 1)) = rowsS (rowsL R k) ++ litsS (lof (R k).f (R k).n) ++ [48, 10] := fun k => by rw [rowsL_succ, rowsS_snoc]
  have hrow0 : rowsS (rowsL R 0) = [] := by simp [rowsL, rowsS]
  have hlitn : ∀ k, k ≤ n → (∀ j, j < k → litF (R j).f (R j).n = true) → k = n → litR R n = true := fun k _ h e => by subst e; exact litR_iff.2 h
  generalize gr (rowsL R n) = G at *
  have HBAD := Lib.hid hbad
  have HGOOD := Lib.hid hgood
  have HROW := Lib.hid hrow
  have HLN := Lib.hid hlitn
  have HC := Lib.hid hc
  have HR := Lib.hid hR
  have HG := Lib.hid hgr
  have HD1 := Lib.hid hd1
  have HD2 := Lib.hid hd2
  have HHD := Lib.hid hhd
  have hX0 : bs (headS G n) = bs (headS G n ++ rowsS (rowsL R 0)) := by rw [hrow0, List.append_nil]
  have HX0 := Lib.hid hX0
  clear hbad hgood hrow hrow0 hlitn hc hR hgr hd1 hd2 hhd hrws hX0
  go_enter Tryd.func19, Tryd.ntmps19
  go_wp2_with fail
  refine HG.out.mono ?_
  rintro e w' ⟨rfl, rfl⟩
  go_wp2_with fail
  refine (HD1.out _).mono ?_
  rintro e w1 ⟨rfl, hb1⟩
  go_wp2_with fail
  refine (HD2.out _).mono ?_
  rintro e w2 ⟨rfl, hb2⟩
  have HB := Lib.hid (hb1.trans (hb2.mono hb1.size))
  clear hb1 hb2
  go_wp2
  go_loopw [3, 4, 5] (fun s3 i _ wr => ∃ k : Nat, k ≤ n ∧ i = .int .i64 k ∧ s3 = .string (bs (headS G n ++ rowsS (rowsL R k))) ∧ Hid (∀ j, j < k → litF (R j).f (R j).n = true) ∧ Hid (Below w.heap.size w wr)) (fun _ i _ _ => n - (intOf i).toNat)
  case atStart => exact ⟨0, Nat.zero_le _, rfl, by rw [← HX0.out, ← HHD.out], Lib.hid fun _ h => absurd h (Nat.not_lt_zero _), HB⟩
  case round =>
    obtain ⟨k, hk, rfl, rfl, hl, HBW⟩ := hrel
    obtain ⟨wo, rfl⟩ : ∃ wo : World, wo = wr := ⟨_, rfl⟩
    by_cases hlt2 : k < n
    · obtain ⟨hcell, hhas⟩ := HC.out k hlt2
      have hrn := HR.out k hlt2
      have hro := HROW.out k
      have hbd := fun w' => HBAD.out k w' hlt2
      have hlk : litF (R k).f (R k).n = true → ∀ j, j < k + 1 → litF (R j).f (R j).n = true := fun h j hj => by
        by_cases e : j = k
        · subst e; exact h
        · exact hl.out j (by omega)
      have hlt3 : (k : Int) < (n : Int) := by omega
      have hPl : (headS G n ++ rowsS (rowsL R k)).length ≤ 100000000 := by
        have := rows_small' hl.out (fun j hj => HR.out j (by omega))
        rw [List.length_append]; omega
      generalize rowsL R k = L0 at *
      have HLK := Lib.hid hlk
      have HBD := Lib.hid hbd
      clear hlk hbd
      generalize R k = r at *
      obtain ⟨ra, rn, rc, rf⟩ := r
      simp only at *
      have hcw : wo.cell? ⟨b, off + k, none⟩ = some (.slice ra rn rc) := by
        rw [← hcell]; exact HBW.out.cell (p := ⟨b, off + k, none⟩) hlt
      have hrt := refRight_any ra rn rc rf wo (by omega) (hhas.below (HBW.out.mono (Nat.le_refl _)))
      have HH := Lib.hid hhas
      have HRO := Lib.hid hro
      have HCW := Lib.hid hcell
      clear hhas hro hcell
      generalize hP : headS G n ++ rowsS L0 = P at *
      have hnext : bs (P ++ litsS (lof rf rn)) ++ (⟨#[48, 10]⟩ : ByteArray) = bs (headS G n ++ rowsS (rowsL R (k + 1))) := by
        rw [HRO.out, ← hP, bs_zero]; simp
      have HNX := Lib.hid hnext
      clear hnext hP HRO
      cases hv : litF rf rn
      · rw [hv] at hrt
        have HRT := Lib.hid hrt
        have HP := Lib.hid (HBD.out wo hv HBW.out)
        clear hrt hv
        go_wp2_with fail
        refine HRT.out.mono ?_
        rintro e w' ⟨rfl, rfl⟩
        go_wp2
        go_ret
        exact HP.out
      · rw [hv] at hrt
        have HRT := Lib.hid hrt
        have HLK2 := Lib.hid (HLK.out hv)
        have HV := Lib.hid hv
        clear hrt hv
        have hP0 : bs P = bs (P ++ litsS (lof rf 0)) := by simp [lof, litsS]
        have HP0 := Lib.hid hP0
        clear hP0
        go_wp2_with fail
        refine HRT.out.mono ?_
        rintro e w' ⟨rfl, rfl⟩
        go_wp2
        go_loopw [3, 5] (fun s3 i wi => ∃ t : Nat, t ≤ rn ∧ i = .int .i64 t ∧ s3 = .string (bs (P ++ litsS (lof rf t))) ∧ Hid (Below w.heap.size w wi)) (fun _ i _ => rn - (intOf i).toNat)
        case atStart => exact ⟨0, Nat.zero_le _, rfl, by rw [← HP0.out], HBW⟩
        case round =>
          obtain ⟨t, ht, rfl, rfl, HBI⟩ := hrel
          have hci : wr.cell? ⟨b, off + k, none⟩ = some (.slice ra rn rc) := by
            rw [← HCW.out]; exact HBI.out.cell (p := ⟨b, off + k, none⟩) hlt
          clear hcw
          by_cases hlt4 : t < rn
          · rcases HH.out with h0 | ⟨b', off', rfl, hb', hcc⟩
            · omega
            · have hcell2 := hcc t hlt4
              clear hcc
              have hcj : wr.cell? ⟨b', off' + t, none⟩ = some (.int .i64 (rf t)) := by
                rw [← hcell2]; exact HBI.out.cell (p := ⟨b', off' + t, none⟩) hb'
              have hxt := litF_iff.1 HV.out t hlt4
              obtain ⟨hx1, hx2⟩ := lit_i64 hxt
              have hdg := fun W => digits_any (rf t) ⟨hx1, hx2⟩ W
              have hnx : bs (P ++ litsS (lof rf t)) ++ bs (itoa (rf t)) ++ (⟨#[32]⟩ : ByteArray) = bs (P ++ litsS (lof rf (t + 1))) := by
                rw [bs_sp, lof_succ, litsS_snoc]; simp [List.append_assoc]
              have hlt5 : (t : Int) < (rn : Int) := by omega
              have hll := litsS_len (lof rf t) (fun x hx' => by obtain ⟨i, hi, rfl⟩ := lof_mem hx'; exact litF_iff.1 HV.out i (by omega))
              rw [lof_length] at hll
              have hil := itoa_length_le (rf t) (by omega) (by omega)
              have hQ : (P ++ litsS (lof rf t)).length ≤ 200000000 := by rw [List.length_append]; omega
              clear hll
              have HDG := Lib.hid hdg
              have HNXT := Lib.hid hnx
              clear hdg hnx hcell2 hxt
              generalize rf t = x at *
              generalize P ++ litsS (lof rf t) = Q at *
              go_wp2_with fail
              refine (HDG.out _).mono ?_
              rintro e w7 ⟨rfl, hb7⟩
              have HB7 := Lib.hid (HBI.out.trans (hb7.mono HBI.out.size))
              clear hb7
              go_wp2
              go_roundw
              case rel => exact ⟨t + 1, by omega, by go_num, by rw [← HNXT.out], HB7⟩
              case measure => simp [intOf] <;> omega
          · obtain rfl : t = rn := by omega
            have hlt5 : ¬ ((t : Int) < (t : Int)) := by omega
            have hll := litsS_len (lof rf t) (fun x hx' => by obtain ⟨i, hi, rfl⟩ := lof_mem hx'; exact litF_iff.1 HV.out i (by omega))
            rw [lof_length] at hll
            have hQ : (P ++ litsS (lof rf t)).length ≤ 200000000 := by rw [List.length_append]; omega
            clear hlt4 hll
            generalize P ++ litsS (lof rf t) = Q at *
            go_wp2
            go_roundw
            case rel => exact ⟨k + 1, by omega, by go_num, by rw [← HNX.out], HLK2, HBI⟩
            case measure => simp [intOf] <;> omega
    · obtain rfl : k = n := by omega
      have HP := Lib.hid (HGOOD.out wo (HLN.out k (Nat.le_refl _) hl.out rfl) HBW.out)
      go_wp2
      go_ret
      exact HP.out
set_option maxRecDepth 100000 in
set_option maxHeartbeats 4000000 in
theorem refShow_zero (a : Option Addr) (c : Nat) (R : Nat → Row) (w : World) :
    Calls Tryd.prog 19 #[.slice a 0 c] w (RefShowPost (rowsL R 0) w) := by
  have hgr := refGreatest_any a 0 c R w (by omega) (fun j hj => by omega) (.inl rfl)
  have hg := gr_bd (rowsL R 0)
  have hd1 := fun W => digits_any (gr (rowsL R 0)) (by omega) W
  have hd2 := fun W => digits_any (0 : Int) (by omega) W
  have hhd := bs_head (gr (rowsL R 0)) 0
  have hl1 := itoa_length_le (gr (rowsL R 0)) (by omega) (by omega)
  have hl2 := itoa_length_le (0 : Int) (by omega) (by omega)
  have hbz := bs_size
  have hgood : ∀ w', Below w.heap.size w w' → RefShowPost (rowsL R 0) w (.returned (.string (bs (headS (gr (rowsL R 0)) 0)))) w' := fun w' hb => ⟨by rw [showV_good rfl]; simp [rowsL, rowsS], hb⟩
  generalize gr (rowsL R 0) = G at *
  have HGOOD := Lib.hid hgood
  have HG := Lib.hid hgr
  have HD1 := Lib.hid hd1
  have HD2 := Lib.hid hd2
  have HHD := Lib.hid hhd
  clear hgood hgr hd1 hd2 hhd
  go_enter Tryd.func19, Tryd.ntmps19
  go_wp2_with fail
  refine HG.out.mono ?_
  rintro e w' ⟨rfl, rfl⟩
  go_wp2_with fail
  refine (HD1.out _).mono ?_
  rintro e w1 ⟨rfl, hb1⟩
  go_wp2_with fail
  refine (HD2.out _).mono ?_
  rintro e w2 ⟨rfl, hb2⟩
  have HB := Lib.hid (hb1.trans (hb2.mono hb1.size))
  clear hb1 hb2
  go_wp2
  go_loopw [3, 4, 5] (fun s3 i _ wr => i = .int .i64 0 ∧ s3 = .string (bs (headS G 0)) ∧ Hid (Below w.heap.size w wr)) (fun _ _ _ _ => 0)
  case atStart => exact ⟨rfl, by rw [← HHD.out]; try rfl, HB⟩
  case round =>
    obtain ⟨rfl, rfl, HBW⟩ := hrel
    have HP := Lib.hid (HGOOD.out _ HBW.out)
    go_wp2
    go_ret
    exact HP.out
theorem refShow_any (a : Option Addr) (n c : Nat) (R : Nat → Row) (w : World) (hm : n ≤ 1000) (hR : ∀ j, j < n → (R j).n ≤ 1000) (h : Rws w a n R) :
    Calls Tryd.prog 19 #[.slice a n c] w (RefShowPost (rowsL R n) w) := by
  rcases h with rfl | ⟨b, off, rfl, hlt, hc⟩
  · exact refShow_zero a c R w
  · exact refShow_core b off n c R w hm hR hlt hc
end Go.Proofs.YtmgkoehclabejaaDoor
