/- The walk of HeapMost. -/
import Derived.Test.YtbhbokcgkhgljaaI
namespace Go.Proofs.Ytbhbokcgkhgljaa
open Go.RowKit Go.Lib

theorem most_short (a : Option Addr) (n c : Nat) (t : Int) (w : World) (hn : n = 0 ∨ 40 < n) (hm : n ≤ 9223372036854775807) : Calls Try.prog 7 #[.slice a n c, .int .u8 t] w (LawPost w) := by
  have HA := Lib.hid awake_any
  rcases hn with rfl | hn
  all_goals
    go_enter Try.func7, Try.ntmps7
    go_wp2_with fail
    refine (HA.out w).mono ?_
    rintro e w1 ⟨rfl, hb1⟩
    go_wp2_with fail
    refine (HA.out w1).mono ?_
    rintro e w2 ⟨rfl, hb2⟩
    go_wp2_with fail
    go_ret
    exact ⟨rfl, hb1.trans (hb2.mono hb1.size)⟩

def clm (x : Int) : Int := if x < 0 then 0 else if x ≤ 1125899906842624 then x else 1125899906842624
theorem clm_bd (x : Int) : 0 ≤ clm x ∧ clm x ≤ 1125899906842624 := by unfold clm; split; omega; split <;> omega
theorem acL_le {f : Nat → Int} {n : Nat} {K : Int} (hK : 0 ≤ K) (h : ∀ j, f j ≤ K) (v : Nat) : acL f n v ≤ K := by
  unfold acL; split
  · have := h (v - 1); unfold cl; split; omega; split <;> omega
  · exact hK
theorem most_next {f : Nat → Int} {n v : Nat} (h1 : 1 ≤ v) (h2 : v ≤ n) (hf : ∀ j, f j ≤ 1125899906842624) : IsNext n (updI (acL f n) v (bmp (acL f n v) 36028797018963968)) (fun _ => true) v := by
  refine ⟨h1, h2, rfl, fun u hu1 hu2 _ => ?_⟩
  by_cases e : u = v
  · subst e; exact bef_irrefl _ _
  · have a := acL_le (n := n) (by omega) hf u
    have b := acL_le (n := n) (by omega) hf v
    have c : 0 ≤ acL f n v := by unfold acL; split; exact (cl_bd _).1; omega
    have d : 36028797018963968 ≤ bmp (acL f n v) 36028797018963968 := by unfold bmp; split <;> omega
    unfold bef
    rw [updI_same, updI_other _ _ e]
    omega

set_option maxHeartbeats 4000000 in
theorem most_walk (a : Option Addr) (n c : Nat) (t : Nat) (f : Nat → Int) (w : World) (hn0 : 0 < n) (hn : n ≤ 40) (ht : t ≤ 255) (h : Has w a n f) (hf : B64 n f) : Calls Try.prog 7 #[.slice a n c, .int .u8 t] w (LawPost w) := by
  have HA := Lib.hid (awake_any w)
  have HN := Lib.hid (fun w1 hb1 => hs_new n (by omega) w w1 hb1)
  have HH := Lib.hid h
  have HF := Lib.hid hf
  have hn1 : ((n : Int) == 0) = false := by simp; omega
  clear h hf
  go_enter Try.func7, Try.ntmps7
  go_wp2_with fail
  refine HA.out.mono ?_
  rintro e w1 ⟨rfl, hb1⟩
  have HN1 := Lib.hid (HN.out w1 hb1)
  clear hb1
  go_wp2_with fail
  refine HN1.out.mono ?_
  rintro e w2 ⟨hb, ob, pb, ab, rfl, hs⟩
  generalize w2.heap.size = T at hs
  rw [← acL_zero fun j => clm (f j)] at hs
  have H0 := Lib.hid hs
  clear hs
  go_wp2_with fail
  go_loopw [7] (fun x wr => ∃ k : Nat, k ≤ n ∧ x = .int .i64 k ∧ Hid (Hs w T wr hb ob pb ab n (acL (fun j => clm (f j)) k) fun _ => true)) (fun x _ => n - (intOf x).toNat)
  case atStart => exact ⟨0, Nat.zero_le _, rfl, H0⟩
  case round =>
    obtain ⟨k, hk, rfl, HJ⟩ := hrel
    clear H0
    by_cases hlt : k < n
    · obtain ⟨b, off, rfl, hc⟩ := HH.out.at hlt
      have hcell := hc wr HJ.out.bel
      have hfb := HF.out k hlt
      have hC := HJ.out.bumpL hlt (by have := clm_bd (f k); omega)
      have hcase : (f k < 0 ∧ clm (f k) = 0) ∨ (0 ≤ f k ∧ f k ≤ 1125899906842624 ∧ clm (f k) = f k) ∨ (1125899906842624 < f k ∧ clm (f k) = 1125899906842624) := by
        unfold clm; split; omega; split <;> omega
      have hd : decide (0 ≤ clm (f k)) = true := by simp; exact (clm_bd _).1
      clear HJ hc
      rw [hd] at hC
      clear hd
      rcases hcase with ⟨hy, he⟩ | ⟨hy, hy2, he⟩ | ⟨hy, he⟩
      all_goals
        rw [he] at hC
        have HC := Lib.hid hC
        clear hC he
        generalize f k = y at *
        go_wp2_with fail
        refine HC.out.mono ?_
        rintro e w3 ⟨rfl, hs3, _⟩
        have HS3 := Lib.hid hs3
        clear hs3
        go_wp2_with fail
        go_roundw
        case rel => exact ⟨k + 1, by omega, by go_num, HS3⟩
        case measure => simp [intOf]; omega
    · obtain rfl : k = n := by omega
      have hv1 : 1 + t % k ≤ k := by have := Nat.mod_lt t hn0; omega
      have hC := HJ.out.bump (v := 1 + t % k) (b := 36028797018963968) (by omega) hv1 (by omega) (by omega)
      have hcast : ((1 + t % k : Nat) : Int) = 1 + (t : Int) % (k : Int) := by omega
      rw [hcast] at hC
      have HX := Lib.hid (most_next (f := fun j => clm (f j)) (n := k) (v := 1 + t % k) (by omega) hv1 (fun j => (clm_bd _).2))
      have HC := Lib.hid hC
      have HCA := Lib.hid hcast
      clear HJ hC hcast
      go_wp2_with fail
      refine HC.out.mono ?_
      rintro e w3 ⟨rfl, hs3, _⟩
      have hC2 := hs3.nextV HX.out
      rw [HCA.out] at hC2
      have HC2 := Lib.hid hC2
      clear hs3 hC2 HC
      go_wp2_with fail
      refine HC2.out.mono ?_
      rintro e w4 ⟨rfl, hs4, _⟩
      have hC3 := hs4.has (1 + (t : Int) % (k : Int))
      have hfl : (isV k (1 + (t : Int) % (k : Int)) && upd (fun _ => true) (1 + t % k) false (1 + (t : Int) % (k : Int)).toNat) = false := by
        rw [show (1 + (t : Int) % (k : Int)).toNat = 1 + t % k from by have := HCA.out; omega, upd_same, Bool.and_false]
      rw [hfl] at hC3
      have hC4 := hs4.len
      have hcn : ((cnt (upd (fun _ => true) (1 + t % k) false) k : Nat) : Int) = (k : Int) - 1 := by
        have := cnt_upd_f (p := fun _ => true) (n := k) (v := 1 + t % k) (by omega) hv1 rfl
        rw [cnt_all] at this
        omega
      rw [hcn] at hC4
      have HC3 := Lib.hid hC3
      have HC4 := Lib.hid hC4
      have HB := Lib.hid hs4.bel
      clear hC3 hfl hC4 hcn hs4 HC2
      go_wp2_with fail
      refine HC3.out.mono ?_
      rintro e w5 ⟨rfl, rfl⟩
      go_wp2_with fail
      refine HC4.out.mono ?_
      rintro e w5 ⟨rfl, rfl⟩
      go_wp2_with fail
      go_ret
      exact ⟨rfl, HB.out⟩
end Go.Proofs.Ytbhbokcgkhgljaa
