/- What the laws over lists of activities share; the walk of HeapHalves. -/
import Derived.Test.YtbhbokcgkhgljaaH
namespace Go.Proofs.Ytbhbokcgkhgljaa
open Go.RowKit Go.Lib

/-- A slice of numbers in memory: none, or each in its cell. -/
def Has (w : World) (a : Option Addr) (n : Nat) (f : Nat → Int) : Prop :=
  n = 0 ∨ ∃ b off, a = some ⟨b, off, none⟩ ∧ b < w.heap.size ∧ ∀ j, j < n → w.cell? ⟨b, off + j, none⟩ = some (.int .i64 (f j))
theorem Has.at {w : World} {a : Option Addr} {n : Nat} {f : Nat → Int} (h : Has w a n f) {j : Nat} (hj : j < n) : ∃ b off, a = some ⟨b, off, none⟩ ∧ ∀ w', Below w.heap.size w w' → w'.cell? ⟨b, off + j, none⟩ = some (.int .i64 (f j)) := by
  rcases h with h | ⟨b, off, ha, hlt, hc⟩
  · omega
  · exact ⟨b, off, ha, fun w' hb => by rw [← hc j hj]; exact hb.cell (p := ⟨b, off + j, none⟩) hlt⟩
def B64 (n : Nat) (f : Nat → Int) : Prop := ∀ j, j < n → -9223372036854775808 ≤ f j ∧ f j ≤ 9223372036854775807

def cl (x : Int) : Int := if x < 0 then 0 else if x ≤ 1152921504606846976 then x else 1152921504606846976
theorem cl_bd (x : Int) : 0 ≤ cl x ∧ cl x ≤ 1152921504606846976 := by unfold cl; split; omega; split <;> omega
theorem bmp_cl {x : Int} (h : 0 ≤ x) : bmp 0 x = cl x := by unfold bmp cl; split <;> split <;> (try split) <;> omega
/-- The activities behind k bumps. -/
def acL (f : Nat → Int) (k : Nat) : Nat → Int := fun v => if 1 ≤ v ∧ v ≤ k then cl (f (v - 1)) else 0
theorem acL_zero (f : Nat → Int) : acL f 0 = fun _ => 0 := by funext v; unfold acL; rw [if_neg (by omega)]
theorem acL_hit {f : Nat → Int} {k : Nat} (h : 0 ≤ f k) : updI (acL f k) (k + 1) (bmp (acL f k (k + 1)) (f k)) = acL f (k + 1) := by
  have e0 : acL f k (k + 1) = 0 := by unfold acL; rw [if_neg (by omega)]
  rw [e0, bmp_cl h]
  funext v
  unfold updI acL
  by_cases e : v = k + 1
  · subst e; simp
  · rw [if_neg e]
    by_cases h2 : 1 ≤ v ∧ v ≤ k
    · rw [if_pos h2, if_pos (by omega)]
    · rw [if_neg h2, if_neg (by omega)]
theorem acL_miss {f : Nat → Int} {k : Nat} (h : f k < 0) : acL f k = acL f (k + 1) := by
  funext v
  unfold acL
  by_cases e : v = k + 1
  · subst e
    have : cl (f k) = 0 := by unfold cl; rw [if_pos h]
    simp [this]
  · by_cases h2 : 1 ≤ v ∧ v ≤ k
    · rw [if_pos h2, if_pos (by omega)]
    · rw [if_neg h2, if_neg (by omega)]
theorem Hs.bumpL {w0 w : World} {T hb ob pb ab n : Nat} {f : Nat → Int} {In : Nat → Bool} {k : Nat} (h : Hs w0 T w hb ob pb ab n (acL f k) In) (hk : k < n) (hf : f k ≤ 9223372036854775807) :
    Calls Try.prog 15 #[.pointer (some ⟨hb, 0, none⟩), .int .i64 ((k : Int) + 1), .int .i64 (f k)] w fun e w' => e = .returned (.bool (decide (0 ≤ f k))) ∧ Hs w0 T w' hb ob pb ab n (acL f (k + 1)) In ∧ Fr (Bk hb ob pb ab) w w' := by
  by_cases h0 : 0 ≤ f k
  · have := h.bump (v := k + 1) (b := f k) (by omega) (by omega) h0 hf
    rw [acL_hit h0] at this
    simpa [h0] using this
  · refine (h.bump0 ((k : Int) + 1) (f k) (.inr (by omega))).mono ?_
    rintro e w' ⟨rfl, rfl⟩
    rw [acL_miss (by omega)] at h
    exact ⟨by simp [h0], h, Fr.refl _ _⟩

/-- Halved k times. -/
def hvn (x : Int) : Nat → Int
  | 0 => x
  | k + 1 => hvn x k / 2
theorem hvn_bd {x : Int} (h : 0 ≤ x ∧ x ≤ 1152921504606846976) (k : Nat) : 0 ≤ hvn x k ∧ hvn x k ≤ 1152921504606846976 := by
  induction k with
  | zero => exact h
  | succ k ih => simp only [hvn]; omega

/-- What a law's walk ends in. -/
def LawPost (w : World) (e : Ending) (w' : World) : Prop := e = .returned (.bool true) ∧ Below w.heap.size w w'

theorem halves_long (a : Option Addr) (n c : Nat) (t : Int) (w : World) (hn : 40 < n) (hm : n ≤ 9223372036854775807) : Calls Try.prog 5 #[.slice a n c, .int .u8 t] w (LawPost w) := by
  have HA := Lib.hid awake_any
  go_enter Try.func5, Try.ntmps5
  go_wp2_with fail
  refine (HA.out w).mono ?_
  rintro e w1 ⟨rfl, hb1⟩
  go_wp2_with fail
  refine (HA.out w1).mono ?_
  rintro e w2 ⟨rfl, hb2⟩
  go_wp2_with fail
  go_ret
  exact ⟨rfl, hb1.trans (hb2.mono hb1.size)⟩

set_option maxHeartbeats 4000000 in
theorem halves_walk (a : Option Addr) (n c : Nat) (t : Nat) (f : Nat → Int) (w : World) (hn : n ≤ 40) (ht : t ≤ 255) (h : Has w a n f) (hf : B64 n f) : Calls Try.prog 5 #[.slice a n c, .int .u8 t] w (LawPost w) := by
  have HA := Lib.hid (awake_any w)
  have HN := Lib.hid (fun w1 hb1 => hs_new n (by omega) w w1 hb1)
  have HH := Lib.hid h
  have HF := Lib.hid hf
  clear h hf
  go_enter Try.func5, Try.ntmps5
  go_wp2_with fail
  refine HA.out.mono ?_
  rintro e w1 ⟨rfl, hb1⟩
  have HN1 := Lib.hid (HN.out w1 hb1)
  clear hb1
  go_wp2_with fail
  refine HN1.out.mono ?_
  rintro e w2 ⟨hb, ob, pb, ab, rfl, hs⟩
  generalize w2.heap.size = T at hs
  rw [← acL_zero f] at hs
  have H0 := Lib.hid hs
  clear hs
  go_wp2_with fail
  go_loopw [7] (fun x wr => ∃ k : Nat, k ≤ n ∧ x = .int .i64 k ∧ Hid (Hs w T wr hb ob pb ab n (acL f k) fun _ => true)) (fun x _ => n - (intOf x).toNat)
  case atStart => exact ⟨0, Nat.zero_le _, rfl, H0⟩
  case round =>
    obtain ⟨k, hk, rfl, HJ⟩ := hrel
    clear H0
    by_cases hlt : k < n
    · obtain ⟨b, off, rfl, hc⟩ := HH.out.at hlt
      have hcell := hc wr HJ.out.bel
      have HC := Lib.hid (HJ.out.bumpL hlt (HF.out k hlt).2)
      clear HJ hc
      generalize f k = y at hcell HC
      go_wp2_with fail
      refine HC.out.mono ?_
      rintro e w3 ⟨rfl, hs3, _⟩
      have HS3 := Lib.hid hs3
      clear hs3
      go_wp2_with fail
      go_roundw
      case rel => exact ⟨k + 1, by omega, by go_num, HS3⟩
      case measure => simp [intOf]; omega
    · obtain rfl : k = n := by omega
      go_wp2_with fail
      go_loopw [8] (fun x wr => ∃ j : Nat, j ≤ t % 70 ∧ x = .int .i64 j ∧ Hid (Hs w T wr hb ob pb ab k (fun v => hvn (acL f k v) j) fun _ => true)) (fun x _ => t % 70 - (intOf x).toNat)
      case atStart => exact ⟨0, Nat.zero_le _, rfl, HJ⟩
      case round =>
        obtain ⟨j, hj, rfl, HJ2⟩ := hrel
        clear HJ
        have htc : ((t % 70 : Nat) : Int) = (t : Int) % 70 := by omega
        by_cases hlt2 : j < t % 70
        · have hlti : (j : Int) < (t : Int) % 70 := by omega
          have HC := Lib.hid HJ2.out.halve
          clear HJ2 htc
          go_wp2_with fail
          refine HC.out.mono ?_
          rintro e w3 ⟨rfl, hs3, _⟩
          have HS3 := Lib.hid hs3
          clear hs3
          go_wp2_with fail
          go_roundw
          case rel => exact ⟨j + 1, by omega, by go_num, HS3⟩
          case measure => simp [intOf]; omega
        · have hlti : ¬ (j : Int) < (t : Int) % 70 := by omega
          obtain rfl : j = t % 70 := by omega
          clear htc
          go_wp2_with fail
          go_loopw [9] (fun x w3 => ∃ i : Nat, i ≤ k ∧ x = .int .i64 i ∧ w3 = wr) (fun x _ => k - (intOf x).toNat)
          case atStart => exact ⟨0, Nat.zero_le _, rfl, rfl⟩
          case round =>
            obtain ⟨i, hi, rfl, rfl⟩ := hrel
            by_cases hlt3 : i < k
            · obtain ⟨b, off, rfl, hc⟩ := HH.out.at hlt3
              have hcell := hc wr HJ2.out.bel
              have hfb := HF.out i hlt3
              have hval : (if isV k ((i : Int) + 1) then hvn (acL f k ((i : Int) + 1).toNat) (t % 70) else 0) = hvn (cl (f i)) (t % 70) := by
                rw [if_pos (isV_iff.2 (by omega)), show ((i : Int) + 1).toNat = i + 1 from by omega]
                unfold acL; rw [if_pos (by omega)]; rfl
              have hC := HJ2.out.activity ((i : Int) + 1)
              rw [hval] at hC
              have HC := Lib.hid hC
              have hY := cl_bd (f i)
              have hcase : (f i < 0 ∧ cl (f i) = 0) ∨ (0 ≤ f i ∧ f i ≤ 1152921504606846976 ∧ cl (f i) = f i) ∨ (1152921504606846976 < f i ∧ cl (f i) = 1152921504606846976) := by
                unfold cl; split; omega; split <;> omega
              clear hc hC hval
              generalize f i = y at hcell hfb HC hY hcase
              generalize cl y = Y at HC hY hcase
              have htc : ((t % 70 : Nat) : Int) = (t : Int) % 70 := by omega
              have HT := Lib.hid htc
              clear htc
              rcases hcase with ⟨hy, he⟩ | ⟨hy, hy2, he⟩ | ⟨hy, he⟩
              all_goals
                have HE := Lib.hid he
                clear he
                go_wp2_with fail
                go_loopw [10, 11] (fun x z w4 => ∃ q : Nat, q ≤ t % 70 ∧ z = .int .i64 q ∧ x = .int .i64 (hvn Y q) ∧ w4 = wr) (fun _ z _ => t % 70 - (intOf z).toNat)
                case atStart => exact ⟨0, Nat.zero_le _, rfl, by show _ = Value.int .i64 Y; rw [HE.out], rfl⟩
                case round =>
                  obtain ⟨q, hq, rfl, rfl, rfl⟩ := hrel
                  by_cases hlt4 : q < t % 70
                  · have hlti : (q : Int) < (t : Int) % 70 := by have := HT.out; omega
                    have hb := hvn_bd hY q
                    have HS := Lib.hid (show hvn Y (q + 1) = hvn Y q / 2 from rfl)
                    generalize hvn Y q = z at hb HS
                    clear hcell hy
                    go_wp2_with fail
                    go_roundw
                    case rel => exact ⟨q + 1, by omega, by go_num, by rw [HS.out], by trivial⟩
                    case measure => simp [intOf]; omega
                  · have hlti : ¬ (q : Int) < (t : Int) % 70 := by have := HT.out; omega
                    obtain rfl : q = t % 70 := by omega
                    generalize hvn Y (t % 70) = Z at HC
                    clear hcell hy
                    go_wp2_with fail
                    refine HC.out.mono ?_
                    rintro e w5 ⟨rfl, rfl⟩
                    go_wp2_with fail
                    go_roundw
                    case rel => exact ⟨i + 1, by omega, by go_num, by trivial⟩
                    case measure => simp [intOf]; omega
            · obtain rfl : i = k := by omega
              have hC := HJ2.out.len
              rw [cnt_all] at hC
              have HC := Lib.hid hC
              have HB := Lib.hid HJ2.out.bel
              clear hC
              go_wp2_with fail
              refine HC.out.mono ?_
              rintro e w5 ⟨rfl, rfl⟩
              go_wp2_with fail
              go_ret
              exact ⟨rfl, HB.out⟩
end Go.Proofs.Ytbhbokcgkhgljaa
