/- Contracts: Show. -/
import Derived.Test.YtmgkoehclabejaaDoorG
import Derived.Outline
namespace Go.Proofs.YtmgkoehclabejaaDoor
open Go.RowKit Go.Lib

def litsS (l : List Int) : List UInt8 := l.flatMap fun x => itoa x ++ [32]
def rowS (l : List Int) : List UInt8 := litsS l ++ [48, 10]
def rowsS (L : List (List Int)) : List UInt8 := L.flatMap rowS
def headS (g : Int) (n : Nat) : List UInt8 := [112, 32, 99, 110, 102, 32] ++ itoa g ++ [32] ++ itoa n ++ [10]
def showL (L : List (List Int)) : List UInt8 := headS (gr L) L.length ++ rowsS L
def showV (L : List (List Int)) : List UInt8 := if L.all (·.all lit) then showL L else []

theorem litsS_snoc (l : List Int) (x : Int) : litsS (l ++ [x]) = litsS l ++ itoa x ++ [32] := by simp [litsS]
theorem rowsS_snoc (L : List (List Int)) (l : List Int) : rowsS (L ++ [l]) = rowsS L ++ litsS l ++ [48, 10] := by simp [rowsS, rowS]
theorem lit_i64 {x : Int} (h : lit x = true) : -1000000 ≤ x ∧ x ≤ 1000000 := by have := lit_iff.1 h; omega
theorem litsS_len (l : List Int) (h : ∀ x ∈ l, lit x = true) : (litsS l).length ≤ 22 * l.length := by
  induction l with
  | nil => simp [litsS]
  | cons x l ih =>
    have h1 := lit_i64 (h x (by simp))
    have h2 := itoa_length_le x (by omega) (by omega)
    have h3 := ih (fun y hy => h y (by simp [hy]))
    simp only [litsS, List.flatMap_cons, List.length_append, List.length_cons, List.length_nil] at *
    omega
theorem rowsS_len (L : List (List Int)) (h : ∀ l ∈ L, (∀ x ∈ l, lit x = true) ∧ l.length ≤ 1000) : (rowsS L).length ≤ 22002 * L.length := by
  induction L with
  | nil => simp [rowsS]
  | cons l L ih =>
    obtain ⟨h1, h2⟩ := h l (by simp)
    have h3 := litsS_len l h1
    have h4 := ih (fun y hy => h y (by simp [hy]))
    simp only [rowsS, rowS, List.flatMap_cons, List.length_append, List.length_cons, List.length_nil] at *
    omega
theorem lof_mem {f : Nat → Int} {n : Nat} {x : Int} (h : x ∈ lof f n) : ∃ j, j < n ∧ f j = x := by simpa [lof] using h
theorem rowsL_mem {R : Nat → Row} {n : Nat} {l : List Int} (h : l ∈ rowsL R n) : ∃ j, j < n ∧ lof (R j).f (R j).n = l := by simpa [rowsL] using h
theorem rows_small {R : Nat → Row} {n k : Nat} (hk : k ≤ n) (hv : litR R n = true) (hR : ∀ j, j < n → (R j).n ≤ 1000) : (rowsS (rowsL R k)).length ≤ 22002 * k := by
  have := rowsS_len (rowsL R k) (fun l hl => by
    obtain ⟨j, hj, rfl⟩ := rowsL_mem hl
    refine ⟨fun x hx => ?_, by rw [lof_length]; exact hR j (by omega)⟩
    obtain ⟨i, hi, rfl⟩ := lof_mem hx
    exact litF_iff.1 (litR_iff.1 hv j (by omega)) i hi)
  rwa [rowsL_length] at this
theorem headS_len {g : Int} {n : Nat} (h : 0 ≤ g ∧ g ≤ 100000) (hn : n ≤ 1000) : (headS g n).length ≤ 50 := by
  have h1 := itoa_length_le g (by omega) (by omega)
  have h2 := itoa_length_le (n : Int) (by omega) (by omega)
  simp only [headS, List.length_append, List.length_cons, List.length_nil]
  omega
theorem litR_all (R : Nat → Row) (n : Nat) : (rowsL R n).all (·.all lit) = litR R n := by
  rw [Bool.eq_iff_iff]; simp [rowsL, litR, litF, lof]

def ShowPost (L : List (List Int)) (w : World) (e : Ending) (w' : World) : Prop := e = .returned (.string ⟨(showV L).toArray⟩) ∧ Below w.heap.size w w'

set_option maxHeartbeats 400000 in
theorem show_bad (a : Option Addr) (n c : Nat) (R : Nat → Row) (w : World) (hm : n ≤ 1000) (hR : ∀ j, j < n → (R j).n ≤ 1000) (h : Rws w a n R) (hv : litR R n = false) :
    Calls Tryd.prog 18 #[.slice a n c] w (ShowPost (rowsL R n) w) := by
  have hc := valid_any a n c R w (by omega) (fun j hj => by have := hR j hj; omega) h
  rw [hv] at hc
  have hfin : ∀ q, ShowPost (rowsL R n) w (.returned (.string ⟨#[]⟩)) (w.drewN q) := fun q => by
    refine ⟨?_, below_drewN (Below.refl _ w) q⟩
    unfold showV; rw [litR_all, hv]; rfl
  have HF := Lib.hid hfin; clear hfin
  have HC := Lib.hid hc; clear hc h hv hR
  go_enter Tryd.func18, Tryd.ntmps18
  go_wp2_with (go_at_call 41; refine HC.out.mono ?_; rintro e w' ⟨rfl, q, rfl⟩)
  go_ret
  exact HF.out q

set_option maxHeartbeats 2000000 in
theorem show_core (b off n c : Nat) (R : Nat → Row) (w : World) (hT : Tab w) (hm : n ≤ 1000) (hR : ∀ j, j < n → (R j).n ≤ 1000) (hlt : b < w.heap.size)
    (hc : ∀ j, j < n → w.cell? ⟨b, off + j, none⟩ = some (.slice (R j).a (R j).n (R j).c) ∧ Has w (R j).a (R j).n (R j).f) (hv : litR R n = true) :
    Calls Tryd.prog 18 #[.slice (some ⟨b, off, none⟩) n c] w (ShowPost (rowsL R n) w) := by
  have hrws : Rws w (some ⟨b, off, none⟩) n R := .inr ⟨b, off, rfl, hlt, hc⟩
  have hva := valid_any (some ⟨b, off, none⟩) n c R w (by omega) (fun j hj => by have := hR j hj; omega) hrws
  rw [hv] at hva
  have hgr : ∀ W, Below w.heap.size w W → Calls Tryd.prog 20 #[.slice (some ⟨b, off, none⟩) n c] W fun e w' => e = .returned (.int .i64 (gr (rowsL R n))) ∧ W = w' := fun W hb =>
    greatest_any _ n c R W (by omega) (fun j hj => by have := hR j hj; omega) (hrws.below hb)
  have hg := gr_bd (rowsL R n)
  have hhd := headS_len (n := n) hg hm
  have hshow : showV (rowsL R n) = headS (gr (rowsL R n)) n ++ rowsS (rowsL R n) := by
    unfold showV; rw [litR_all, hv]; simp [showL, rowsL_length]
  have hsm := fun k (hk : k ≤ n) => rows_small hk hv hR
  have hfresh : ∀ q, SB w [] ((w.alloc (.cells #[.pointer none, .slice none 0 0] 54)).drewN q) := fun q =>
    ⟨below_drewN ((Below.refl _ w).alloc (Nat.le_refl _) _) q, isBuilder_below (Lib.fresh_isBuilder 54 5 w) (below_drewN (Below.refl _ _) q)⟩
  have hstr := sb_string w
  have hnum := fun wr s x h1 h2 h3 h4 => sb_number w wr s x h1 h2 hT h3 h4
  have hsp := sb_space w
  have hfe := sb_feed w
  have hdone := sb_done w
  have hbel : ∀ wr s, SB w s wr → Below w.heap.size w wr := fun _ _ h => h.1
  generalize hG : gr (rowsL R n) = G at *
  have hhs : headS G n = [112, 32, 99, 110, 102, 32] ++ itoa G ++ [32] ++ itoa n ++ [10] := rfl
  have hlG := itoa_length_le G (by omega) (by omega)
  have hlN := itoa_length_le (n : Int) (by omega) (by omega)
  have hnG := fun wr s => hnum wr s G (by omega) (by omega)
  have hnN := fun wr s => hnum wr s (n : Int) (by omega) (by omega)
  generalize itoa G = lG at hhs hlG hnG
  generalize itoa (n : Int) = lN at hhs hlN hnN
  have HHS := Lib.hid hhs; clear hhs
  have HNG := Lib.hid hnG; clear hnG
  have HNN := Lib.hid hnN; clear hnN
  have HVA := Lib.hid hva; clear hva
  have HGR := Lib.hid hgr; clear hgr
  have HFR := Lib.hid hfresh; clear hfresh
  have HST := Lib.hid hstr; clear hstr
  have HNU := Lib.hid hnum; clear hnum
  have HSP := Lib.hid hsp; clear hsp
  have HFE := Lib.hid hfe; clear hfe
  have HDO := Lib.hid hdone; clear hdone
  have HSH := Lib.hid hshow; clear hshow
  have HSM := Lib.hid hsm; clear hsm
  have HBE := Lib.hid hbel; clear hbel
  have HHD := Lib.hid hhd; clear hhd
  have HC := Lib.hid hc; clear hc
  have HR := Lib.hid hR; clear hR
  have HV := Lib.hid hv; clear hv
  clear hrws hG hT
  go_enter Tryd.func18, Tryd.ntmps18
  go_wp2_with (go_at_call 41; refine HVA.out.mono ?_; rintro e w' ⟨rfl, q, rfl⟩)
  refine (HST.out _ [] [112, 32, 99, 110, 102, 32] (HFR.out _) (by simp)).mono ?_
  rintro e w1 ⟨k1, rfl, h1⟩
  go_wp2_with fail
  refine (HGR.out _ (HBE.out _ _ h1)).mono ?_
  rintro e w' ⟨rfl, rfl⟩
  go_wp2_with fail
  refine (HNG.out _ _ h1 (by simp)).mono ?_
  rintro e w2 ⟨rfl, h2⟩
  go_wp2_with fail
  refine (HSP.out _ _ h2 (by simp; omega)).mono ?_
  rintro e w3 ⟨rfl, h3⟩
  go_wp2_with fail
  refine (HNN.out _ _ h3 (by simp; omega)).mono ?_
  rintro e w4 ⟨rfl, h4⟩
  go_wp2_with fail
  refine (HFE.out _ _ h4 (by simp; omega)).mono ?_
  rintro e w5 ⟨rfl, h5⟩
  rw [List.nil_append, ← HHS.out] at h5
  go_wp2_with fail
  clear h1 h2 h3 h4 w1 w2 w3 w4
  go_loopw [25] (fun i wr => ∃ k : Nat, k ≤ n ∧ i = .int .i64 k ∧ SB w (headS G n ++ rowsS (rowsL R k)) wr) (fun i _ => n - (intOf i).toNat)
  case atStart => exact ⟨0, Nat.zero_le _, rfl, by simpa [rowsL, rowsS] using h5⟩
  case round =>
    obtain ⟨k, hk, rfl, hsb⟩ := hrel
    obtain ⟨wo, rfl⟩ : ∃ wo : World, wo = wr := ⟨_, rfl⟩
    by_cases hlt2 : k < n
    · obtain ⟨hcell, hhas⟩ := HC.out k hlt2
      have hRk := HR.out k hlt2
      have hlit := litR_iff.1 HV.out k hlt2
      have hs := rowsL_succ R k
      have hlen := HSM.out k hk
      have hlen2 := HHD.out
      clear hlG hlN
      generalize R k = r at hcell hhas hRk hs hlit
      obtain ⟨ra, rn, rc, rf⟩ := r
      simp only at hcell hhas hRk hs hlit
      have hcw : wo.cell? ⟨b, off + k, none⟩ = some (.slice ra rn rc) := by
        rw [← hcell]; exact (HBE.out _ _ hsb).cell (p := ⟨b, off + k, none⟩) hlt
      have hnext : ∀ W, SB w ((headS G n ++ rowsS (rowsL R k)) ++ litsS (lof rf rn) ++ [48, 10]) W → SB w (headS G n ++ rowsS (rowsL R (k + 1))) W := fun W h => by
        rw [hs, rowsS_snoc]; simpa [List.append_assoc] using h
      have HN := Lib.hid hnext; clear hnext
      clear hs hcell
      have hPl : (headS G n ++ rowsS (rowsL R k)).length ≤ 100000000 := by
        have : k ≤ 1000 := by omega
        rw [List.length_append]; omega
      generalize headS G n ++ rowsS (rowsL R k) = P at hsb hPl HN
      have HH := Lib.hid hhas; clear hhas
      have HL := Lib.hid hlit; clear hlit
      clear hlen hlen2
      go_wp2
      go_loopw [31] (fun i wi => ∃ t : Nat, t ≤ rn ∧ i = .int .i64 t ∧ SB w (P ++ litsS (lof rf t)) wi) (fun i _ => rn - (intOf i).toNat)
      case atStart => exact ⟨0, Nat.zero_le _, rfl, by simpa [lof, litsS] using hsb⟩
      case round =>
        obtain ⟨t, ht, rfl, hsi⟩ := hrel
        by_cases hlt3 : t < rn
        · rcases HH.out with h0 | ⟨b', off', rfl, hb', hcc⟩
          · omega
          · have hcell2 := hcc t hlt3
            clear hcc
            have hci : wr.cell? ⟨b', off' + t, none⟩ = some (.int .i64 (rf t)) := by
              rw [← hcell2]; exact (HBE.out _ _ hsi).cell (p := ⟨b', off' + t, none⟩) hb'
            clear hcell2 hcw
            have hx := HL.out
            have hxt := litF_iff.1 hx t hlt3
            obtain ⟨hx1, hx2⟩ := lit_i64 hxt
            have hll := litsS_len (lof rf t) (fun x hx' => by obtain ⟨i, hi, rfl⟩ := lof_mem hx'; exact litF_iff.1 hx i (by omega))
            rw [lof_length] at hll
            have hil := itoa_length_le (rf t) (by omega) (by omega)
            have hnx : ∀ W, SB w (((P ++ litsS (lof rf t)) ++ itoa (rf t)) ++ [32]) W → SB w (P ++ litsS (lof rf (t + 1))) W := fun W h => by
              rw [lof_succ, litsS_snoc]; simpa [List.append_assoc] using h
            have HX := Lib.hid hnx; clear hnx hx hxt
            have hQ : (P ++ litsS (lof rf t)).length ≤ 200000000 := by rw [List.length_append]; omega
            have hQ2 : ((P ++ litsS (lof rf t)) ++ itoa (rf t)).length ≤ 200000100 := by rw [List.length_append]; omega
            generalize P ++ litsS (lof rf t) = Q at hsi hQ hQ2 HX
            clear hll hil
            go_wp2_with fail
            refine (HNU.out _ _ _ hx1 hx2 hsi (by omega)).mono ?_
            rintro e w7 ⟨rfl, h7⟩
            go_wp2_with fail
            refine (HSP.out _ _ h7 (by omega)).mono ?_
            rintro e w8 ⟨rfl, h8⟩
            go_wp2_with fail
            go_roundw
            case rel => exact ⟨t + 1, by omega, by go_num, HX.out _ h8⟩
            case measure => simp [intOf]; omega
        · obtain rfl : t = rn := by omega
          have hll := litsS_len (lof rf t) (fun x hx' => by obtain ⟨i, hi, rfl⟩ := lof_mem hx'; exact litF_iff.1 HL.out i hi)
          rw [lof_length] at hll
          have hQ : (P ++ litsS (lof rf t)).length ≤ 200000000 := by rw [List.length_append]; omega
          generalize P ++ litsS (lof rf t) = Q at hsi hQ HN
          clear hll
          go_wp2_with fail
          refine (HST.out _ _ [48, 10] hsi (by simp; omega)).mono ?_
          rintro e w7 ⟨k7, rfl, h7⟩
          go_wp2_with fail
          go_roundw
          case rel => exact ⟨k + 1, by omega, by go_num, HN.out _ h7⟩
          case measure => simp [intOf]; omega
    · obtain rfl : k = n := by omega
      rw [← HSH.out] at hsb
      go_wp2_with fail
      refine (HDO.out _ _ hsb).mono ?_
      rintro e w' ⟨rfl, hb⟩
      go_wp2
      go_ret
      exact ⟨rfl, hb⟩
set_option maxHeartbeats 2000000 in
theorem show_zero (a : Option Addr) (c : Nat) (R : Nat → Row) (w : World) (hT : Tab w) :
    Calls Tryd.prog 18 #[.slice a 0 c] w (ShowPost (rowsL R 0) w) := by
  have hrws : Rws w a 0 R := .inl rfl
  have hv : litR R 0 = true := rfl
  have hva := valid_any a 0 c R w (by omega) (fun j hj => by omega) hrws
  rw [hv] at hva
  have hgr : ∀ W, Below w.heap.size w W → Calls Tryd.prog 20 #[.slice a 0 c] W fun e w' => e = .returned (.int .i64 (gr (rowsL R 0))) ∧ W = w' := fun W hb =>
    greatest_any _ 0 c R W (by omega) (fun j hj => by omega) (hrws.below hb)
  have hg := gr_bd (rowsL R 0)
  have hhd := headS_len (n := 0) hg (by omega)
  have hshow : showV (rowsL R 0) = headS (gr (rowsL R 0)) 0 ++ rowsS (rowsL R 0) := by
    unfold showV; rw [litR_all, hv]; simp [showL, rowsL_length]
  have hfresh : ∀ q, SB w [] ((w.alloc (.cells #[.pointer none, .slice none 0 0] 54)).drewN q) := fun q =>
    ⟨below_drewN ((Below.refl _ w).alloc (Nat.le_refl _) _) q, isBuilder_below (Lib.fresh_isBuilder 54 5 w) (below_drewN (Below.refl _ _) q)⟩
  have hstr := sb_string w
  have hnum := fun wr s x h1 h2 h3 h4 => sb_number w wr s x h1 h2 hT h3 h4
  have hsp := sb_space w
  have hfe := sb_feed w
  have hdone := sb_done w
  have hbel : ∀ wr s, SB w s wr → Below w.heap.size w wr := fun _ _ h => h.1
  generalize hG : gr (rowsL R 0) = G at *
  have hhs : headS G 0 = [112, 32, 99, 110, 102, 32] ++ itoa G ++ [32] ++ itoa (0 : Int) ++ [10] := rfl
  have hlG := itoa_length_le G (by omega) (by omega)
  have hlN := itoa_length_le (0 : Int) (by omega) (by omega)
  have hnG := fun wr s => hnum wr s G (by omega) (by omega)
  have hnN := fun wr s => hnum wr s (0 : Int) (by omega) (by omega)
  generalize itoa G = lG at hhs hlG hnG
  generalize itoa (0 : Int) = lN at hhs hlN hnN
  have HHS := Lib.hid hhs; clear hhs
  have HNG := Lib.hid hnG; clear hnG
  have HNN := Lib.hid hnN; clear hnN
  have HVA := Lib.hid hva; clear hva
  have HGR := Lib.hid hgr; clear hgr
  have HFR := Lib.hid hfresh; clear hfresh
  have HST := Lib.hid hstr; clear hstr
  have HNU := Lib.hid hnum; clear hnum
  have HSP := Lib.hid hsp; clear hsp
  have HFE := Lib.hid hfe; clear hfe
  have HDO := Lib.hid hdone; clear hdone
  have HSH := Lib.hid hshow; clear hshow
  have HBE := Lib.hid hbel; clear hbel
  have HHD := Lib.hid hhd; clear hhd
  have HV := Lib.hid hv; clear hv
  clear hrws hG hT
  go_enter Tryd.func18, Tryd.ntmps18
  go_wp2_with (go_at_call 41; refine HVA.out.mono ?_; rintro e w' ⟨rfl, q, rfl⟩)
  refine (HST.out _ [] [112, 32, 99, 110, 102, 32] (HFR.out _) (by simp)).mono ?_
  rintro e w1 ⟨k1, rfl, h1⟩
  go_wp2_with fail
  refine (HGR.out _ (HBE.out _ _ h1)).mono ?_
  rintro e w' ⟨rfl, rfl⟩
  go_wp2_with fail
  refine (HNG.out _ _ h1 (by simp)).mono ?_
  rintro e w2 ⟨rfl, h2⟩
  go_wp2_with fail
  refine (HSP.out _ _ h2 (by simp; omega)).mono ?_
  rintro e w3 ⟨rfl, h3⟩
  go_wp2_with fail
  refine (HNN.out _ _ h3 (by simp; omega)).mono ?_
  rintro e w4 ⟨rfl, h4⟩
  go_wp2_with fail
  refine (HFE.out _ _ h4 (by simp; omega)).mono ?_
  rintro e w5 ⟨rfl, h5⟩
  rw [List.nil_append, ← HHS.out] at h5
  go_wp2_with fail
  clear h1 h2 h3 h4 w1 w2 w3 w4
  go_loopw [25] (fun i wr => i = .int .i64 0 ∧ SB w (headS G 0 ++ rowsS (rowsL R 0)) wr) (fun _ _ => 0)
  case atStart => exact ⟨rfl, by simpa [rowsL, rowsS] using h5⟩
  case round =>
    obtain ⟨rfl, hsb⟩ := hrel
    rw [← HSH.out] at hsb
    go_wp2_with fail
    refine (HDO.out _ _ hsb).mono ?_
    rintro e w' ⟨rfl, hb⟩
    go_wp2
    go_ret
    exact ⟨rfl, hb⟩

theorem show_any (a : Option Addr) (n c : Nat) (R : Nat → Row) (w : World) (hT : Tab w) (hm : n ≤ 1000) (hR : ∀ j, j < n → (R j).n ≤ 1000) (h : Rws w a n R) :
    Calls Tryd.prog 18 #[.slice a n c] w (ShowPost (rowsL R n) w) := by
  cases hv : litR R n
  · exact show_bad a n c R w hm hR h hv
  · rcases h with rfl | ⟨b, off, rfl, hlt, hc⟩
    · exact show_zero a c R w hT
    · exact show_core b off n c R w hT hm hR hlt hc hv
end Go.Proofs.YtmgkoehclabejaaDoor
