/- The walk of ClauseShows. -/
import Derived.Test.YtmgkoehclabejaaDoorPR
import Derived.Test.YtmgkoehclabejaaDoorPS
namespace Go.Proofs.YtmgkoehclabejaaDoor
open Go Go.RowKit Go.Lib

theorem itoa_lit_len {x : Int} (h : lit x = true) : (itoa x).length ≤ 7 := by
  have hx := lit_iff.1 h
  unfold itoa
  split
  · have := dec_len 5 x.natAbs (by omega)
    simp; omega
  · have := dec_len 5 x.toNat (by omega)
    omega
theorem litsS_len8 (l : List Int) (h : ∀ x ∈ l, lit x = true) : (litsS l).length ≤ 8 * l.length := by
  induction l with
  | nil => simp [litsS]
  | cons x l ih =>
    have h1 := itoa_lit_len (h x (by simp))
    have h3 := ih (fun y hy => h y (by simp [hy]))
    simp only [litsS, List.flatMap_cons, List.length_append, List.length_cons, List.length_nil] at *
    omega
theorem rowsS_len8 (m : Nat) (L : List (List Int)) (h : ∀ l ∈ L, (∀ x ∈ l, lit x = true) ∧ l.length ≤ m) : (rowsS L).length ≤ (8 * m + 2) * L.length := by
  induction L with
  | nil => simp [rowsS]
  | cons l L ih =>
    obtain ⟨h1, h2⟩ := h l (by simp)
    have h3 := litsS_len8 l h1
    have h4 := ih (fun y hy => h y (by simp [hy]))
    have e : (rowsS (l :: L)).length = (litsS l).length + 2 + (rowsS L).length := by simp [rowsS, rowS]; omega
    rw [e, List.length_cons, Nat.mul_add, Nat.mul_one]
    omega
theorem showL_len (L : List (List Int)) (h : ∀ l ∈ L, (∀ x ∈ l, lit x = true) ∧ l.length ≤ 30) (hn : L.length ≤ 60) : (showL L).length ≤ 100000 := by
  have h1 := rowsS_len8 30 L h
  have hg := gr_bd L
  have h2 := headS_len (n := L.length) hg (by omega)
  have h3 : (8 * 30 + 2) * L.length ≤ 242 * 60 := Nat.mul_le_mul_left 242 hn
  unfold showL
  rw [List.length_append]
  omega
theorem showL_ne (L : List (List Int)) : showL L ≠ [] := by simp [showL, headS]
theorem all_lit {R : Nat → Row} {n : Nat} (h : litR R n = true) : ∀ l ∈ rowsL R n, ∀ x ∈ l, lit x = true := by
  rw [← litR_all] at h
  intro l hl x hx
  exact List.all_eq_true.1 (List.all_eq_true.1 h l hl) x hx
theorem beq_self' (s : ByteArray) : (s == s) = true := by
  cases s with | mk d => show (d == d) = true; simp

set_option maxRecDepth 100000 in
set_option maxHeartbeats 4000000 in
theorem lawShows_any (a : Option Addr) (n c : Nat) (R : Nat → Row) (w : World) (hT : Tab w) (hnc : n ≤ c) (hcm : c ≤ 9223372036854775807) (hR : ∀ j, j < n → (R j).n ≤ 9223372036854775807) (h : Rws w a n R) :
    Calls Tryd.prog 4 #[.slice a n c] w (TruePost w) := by
  have ha := awake_any w hT
  have hsm := fun w1 (hb : Below w.heap.size w w1) => small_any a n c R 60 100000 (by omega) w1 (by omega) (by omega) hnc hcm hR (h.below hb)
  have HA := Lib.hid ha
  clear ha
  cases hs : small R n 60
  · rw [hs] at hsm
    have HS := Lib.hid hsm
    have ha2 := fun w1 (hb : Below w.heap.size w w1) => awake_any w1 (hT.below hb)
    have HA2 := Lib.hid ha2
    clear hsm hs ha2
    go_enter Tryd.func4, Tryd.ntmps4
    go_wp2_with fail
    refine HA.out.mono ?_
    rintro e w1 ⟨rfl, hb1⟩
    go_wp2_with fail
    refine (HS.out _ hb1).mono ?_
    rintro e w' ⟨rfl, rfl⟩
    go_wp2_with fail
    refine (HA2.out _ hb1).mono ?_
    rintro e w2 ⟨rfl, hb2⟩
    go_wp2
    go_ret
    exact ⟨rfl, hb1.trans (hb2.mono hb1.size)⟩
  · rw [hs] at hsm
    have HS := Lib.hid hsm
    obtain ⟨hn60, hr30⟩ := small_iff.1 hs
    have hn1 : n ≤ 1000 := by omega
    have hr1 : ∀ j, j < n → (R j).n ≤ 1000 := fun j hj => by have := hr30 j hj; omega
    have hsh := fun w1 (hb : Below w.heap.size w w1) => show_any a n c R w1 (hT.below hb) hn1 hr1 (h.below hb)
    have hrs := fun w1 (hb : Below w.heap.size w w1) => refShow_any a n c R w1 hn1 hr1 (h.below hb)
    have hga := fun w1 (hb : Below w.heap.size w w1) => greatest_any a n c R w1 (by omega) (fun j hj => by have := hr1 j hj; omega) (h.below hb)
    have hgb := fun w1 (hb : Below w.heap.size w w1) => refGreatest_any a n c R w1 (by omega) (fun j hj => by have := hr1 j hj; omega) (h.below hb)
    have hgg : ((gr (rowsL R n)) != (gr (rowsL R n))) = false := by simp
    have hll : (rowsL R n).length = n := rowsL_length R n
    have hX : (litR R n = false ∧ showV (rowsL R n) = []) ∨ (showV (rowsL R n) ≠ [] ∧ parseB (showV (rowsL R n)) = some (rowsL R n)) := by
      cases hv : litR R n
      · left
        refine ⟨rfl, ?_⟩
        unfold showV
        rw [litR_all, hv]; rfl
      · right
        have e : showV (rowsL R n) = showL (rowsL R n) := by unfold showV; rw [litR_all, hv]; rfl
        rw [e]
        exact ⟨showL_ne _, parse_show _ (all_lit hv) (by rw [hll]; omega)⟩
    have hlen : (showV (rowsL R n)).length ≤ 100000 := by
      cases hv : litR R n
      · unfold showV; rw [litR_all, hv]; simp
      · have e : showV (rowsL R n) = showL (rowsL R n) := by unfold showV; rw [litR_all, hv]; rfl
        rw [e]
        refine showL_len _ (fun l hl => ⟨all_lit hv l hl, ?_⟩) (by rw [hll]; exact hn60)
        obtain ⟨j, hj, rfl⟩ := rowsL_mem hl
        rw [lof_length]; exact hr30 j hj
    have hsh' : ∀ w1, Below w.heap.size w w1 → Calls Tryd.prog 18 #[.slice a n c] w1 fun e w' => e = .returned (.string (bs (showV (rowsL R n)))) ∧ Below w1.heap.size w1 w' := fun w1 hb => hsh w1 hb
    have hpa := fun w1 => parse_any (showV (rowsL R n)) hlen w1
    have hli := fun a' c' (R' : Nat → Row) m w1 (hb : Below w.heap.size w w1) (hw : Rws w1 a' m R') (hm : m ≤ 1000000) (hrr : ∀ j, j < m → (R' j).n ≤ 140737488355328) => lists_any a' a m n c' c R' R w1 hm hrr hw (h.below hb)
    have HSH := Lib.hid hsh'
    have HRS := Lib.hid hrs
    have HGA := Lib.hid hga
    have HGB := Lib.hid hgb
    have HPA := Lib.hid hpa
    have HLI := Lib.hid hli
    have HXX := Lib.hid hX
    clear hsm hs hsh hsh' hrs hga hgb hpa hli hX hr30 hr1
    have hxe := fun h0 => toList_empty (bs (showV (rowsL R n))) h0
    have hx0 := fun h0 => toList_empty0 (bs (showV (rowsL R n))) h0
    have hxs := bs_size (showV (rowsL R n))
    have hb1 := beq_self' (bs (showV (rowsL R n)))
    have hb2 : (bs (showV (rowsL R n)) != bs (showV (rowsL R n))) = false := by unfold bne; rw [hb1]; rfl
    unfold RefShowPost at HRS
    generalize showV (rowsL R n) = X at *
    generalize gr (rowsL R n) = G at *
    have HXE := Lib.hid hxe
    have HX0 := Lib.hid hx0
    clear hxe hx0
    go_enter Tryd.func4, Tryd.ntmps4
    go_wp2_with fail
    refine HA.out.mono ?_
    rintro e w1 ⟨rfl, hw1⟩
    go_wp2_with fail
    refine (HS.out _ hw1).mono ?_
    rintro e w' ⟨rfl, rfl⟩
    go_wp2_with fail
    refine (HSH.out _ hw1).mono ?_
    rintro e w2 ⟨rfl, hw2⟩
    have hw2' := hw1.trans (hw2.mono hw1.size)
    clear hw1 hw2
    go_wp2_with fail
    refine (HRS.out _ hw2').mono ?_
    rintro e w3 ⟨rfl, hw3⟩
    have hw3' := hw2'.trans (hw3.mono hw2'.size)
    clear hw2' hw3
    go_wp2_with fail
    refine (HGA.out _ hw3').mono ?_
    rintro e w' ⟨rfl, rfl⟩
    go_wp2_with fail
    refine (HGB.out _ hw3').mono ?_
    rintro e w' ⟨rfl, rfl⟩
    go_wp2_with fail
    refine (HPA.out _).mono ?_
    rintro e w4 ⟨hpost, hw4⟩
    have hw4' := hw3'.trans (hw4.mono hw3'.size)
    clear hw3' hw4
    rcases HXX.out with ⟨_, hx⟩ | ⟨hx, hpb⟩
    · have hxe := HX0.out (by rw [hxs, hx]; rfl)
      have HW4 := Lib.hid hw4'
      clear hx hw4'
      rcases hpost with ⟨_, rfl⟩ | ⟨out, a', c', R', _, rfl, _, _⟩
      · go_wp2
        go_ret
        exact ⟨rfl, HW4.out⟩
      · generalize out.length = m at *
        go_wp2
        go_ret
        exact ⟨rfl, HW4.out⟩
    · have hxe := HXE.out (by rw [hxs]; simpa using hx)
      rcases hpost with ⟨hno, _⟩ | ⟨out, a', c', R', ho, rfl, hrw, hro⟩
      · rw [hpb] at hno; cases hno
      · have hoL : out = rowsL R n := by rw [hpb] at ho; exact (Option.some.inj ho).symm
        have hol : out.length = n := by rw [hoL, hll]
        have hsml := parseB_small ho
        have hlc := HLI.out a' c' R' out.length w4 hw4' hrw (by omega) (fun j hj => by
          obtain ⟨k, hk, e⟩ := rows_len hro hj
          have := hsml.2 k hk
          have := hxs
          omega)
        have hlc' : Calls Tryd.prog 23 #[.slice a' out.length c', .slice a n c] w4 fun e w' => e = .returned (.bool true) ∧ ∃ q, w' = w4.drewN q := hlc.mono (by
          rintro e w' ⟨rfl, hq⟩
          exact ⟨by rw [hro, hoL]; simp, hq⟩)
        have HLC := Lib.hid hlc'
        have HW4 := Lib.hid hw4'
        clear hlc hlc' hsml ho hro hrw hoL hol hx hpb hw4'
        generalize out.length = m at *
        go_wp2_with fail
        refine HLC.out.mono ?_
        rintro e w5 ⟨rfl, q, rfl⟩
        go_wp2
        go_ret
        exact ⟨rfl, below_drewN' HW4.out q⟩
end Go.Proofs.YtmgkoehclabejaaDoor
