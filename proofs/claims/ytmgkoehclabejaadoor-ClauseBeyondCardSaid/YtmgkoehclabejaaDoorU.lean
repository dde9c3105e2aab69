/- The walk of ClauseAll. -/
import Derived.Test.YtmgkoehclabejaaDoorS
import Derived.Test.YtmgkoehclabejaaDoorK
namespace Go.Proofs.YtmgkoehclabejaaDoor
open Go.RowKit Go.Lib

theorem allR_succ (R : Nat → Row) (t : Nat) (g : Nat → Bool) (k : Nat) : allR R (t + 1) g k = (allR R t g k && holdsF (R t).f (R t).n g k) := by
  simp [allR, List.range_succ]

set_option maxHeartbeats 1000000 in
theorem all_long (a am : Option Addr) (n c k cm : Nat) (w : World) (hT : Tab w) (hm : n ≤ 9223372036854775807) (hk : k ≤ 9223372036854775807) (hn : 60 < n ∨ 60 < k) : Calls Tryd.prog 6 #[.slice a n c, .slice am k cm] w (LawPost w) := by
  have haw := fun W => awake_later w W hT
  have HA := Lib.hid haw; clear haw
  have hb0 : Below w.heap.size w w := Below.refl _ _
  clear hT
  by_cases h40 : 60 < n
  · clear hn
    go_enter Tryd.func6, Tryd.ntmps6
    go_wp2_with fail
    refine (HA.out _ hb0).mono ?_
    rintro e w1 ⟨rfl, hb1⟩
    go_wp2_with fail
    refine (HA.out _ hb1).mono ?_
    rintro e w2 ⟨rfl, hb2⟩
    go_wp2
    go_ret
    exact ⟨rfl, hb2⟩
  · have h60 : 60 < k := by omega
    clear hn
    go_enter Tryd.func6, Tryd.ntmps6
    go_wp2_with fail
    refine (HA.out _ hb0).mono ?_
    rintro e w1 ⟨rfl, hb1⟩
    go_wp2_with fail
    refine (HA.out _ hb1).mono ?_
    rintro e w2 ⟨rfl, hb2⟩
    go_wp2
    go_ret
    exact ⟨rfl, hb2⟩

set_option maxHeartbeats 4000000 in
theorem all_walk (a am : Option Addr) (n c k cm : Nat) (R : Nat → Row) (g : Nat → Bool) (w : World) (hT : Tab w) (hn : n ≤ 60) (hk : k ≤ 60) (hRm : ∀ j, j < n → (R j).n ≤ 9223372036854775807) (h : Rws w a n R) (hg : HasB w am k g) :
    Calls Tryd.prog 6 #[.slice a n c, .slice am k cm] w (LawPost w) := by
  have haw := fun W => awake_later w W hT
  have hho : ∀ j, j < n → (R j).n ≤ 40 → ∀ W, Below w.heap.size w W → Calls Tryd.prog 15 #[.slice (R j).a (R j).n (R j).c, .slice am k cm] W fun e w' => e = .returned (.bool (holdsF (R j).f (R j).n g k)) ∧ Below w.heap.size w w' := fun j hj h40 W hb => by
    rcases h with h0 | ⟨b, off, _, _, hc⟩
    · omega
    · exact (holds_any _ _ _ _ am k cm g W (by omega) (by omega) ((hc j hj).2.below hb) (hg.below hb)).mono fun _ _ ⟨he, h3⟩ => ⟨he, hb.trans (h3.mono hb.size)⟩
  have hal : (∀ j, j < n → (R j).n ≤ 40) → ∀ W, Below w.heap.size w W → Calls Tryd.prog 25 #[.slice a n c, .slice am k cm] W fun e w' => e = .returned (.bool (allR R n g k)) ∧ Below w.heap.size w w' := fun hR W hb =>
    (all_any a n c R am k cm g W (by omega) (fun j hj => by have := hR j hj; omega) (by omega) (h.below hb) (hg.below hb)).mono fun _ _ ⟨he, h3⟩ => ⟨he, hb.trans (h3.mono hb.size)⟩
  have hra : (∀ j, j < n → (R j).n ≤ 40) → ∀ W, Below w.heap.size w W → Calls Tryd.prog 26 #[.slice a n c, .slice am k cm] W fun e w' => e = .returned (.bool (allR R n g k)) ∧ W = w' := fun hR W hb =>
    refAll_any a n c R am k cm g W (by omega) (fun j hj => by have := hR j hj; omega) (by omega) (h.below hb) (hg.below hb)
  have hcell : ∀ j, j < n → ∃ b off, a = some ⟨b, off, none⟩ ∧ ∀ W, Below w.heap.size w W → W.cell? ⟨b, off + j, none⟩ = some (.slice (R j).a (R j).n (R j).c) := fun j hj => by
    rcases h with h0 | ⟨b, off, ha, hlt, hc⟩
    · omega
    · exact ⟨b, off, ha, fun W hb => by rw [← (hc j hj).1]; exact hb.cell (p := ⟨b, off + j, none⟩) hlt⟩
  have HA := Lib.hid haw; clear haw
  have HHO := Lib.hid hho; clear hho
  have HAL := Lib.hid hal; clear hal
  have HRA := Lib.hid hra; clear hra
  have HCE := Lib.hid hcell; clear hcell
  have HRM := Lib.hid hRm; clear hRm
  have hb0 : Below w.heap.size w w := Below.refl _ _
  clear hT h hg
  go_enter Tryd.func6, Tryd.ntmps6
  go_wp2_with fail
  refine (HA.out _ hb0).mono ?_
  rintro e w1 ⟨rfl, hb1⟩
  go_wp2_with fail
  go_loopw [5, 6] (fun v i wr => ∃ t : Nat, t ≤ n ∧ i = .int .i64 t ∧ v = .bool (allR R t g k) ∧ Below w.heap.size w wr ∧ Hid (∀ j, j < t → (R j).n ≤ 40)) (fun _ i _ => n - (intOf i).toNat)
  case atStart => exact ⟨0, Nat.zero_le _, rfl, rfl, hb1, Lib.hid fun _ h => absurd h (Nat.not_lt_zero _)⟩
  case round =>
    obtain ⟨t, ht, rfl, rfl, hbw, hn40⟩ := hrel
    by_cases hlt : t < n
    · obtain ⟨b, off, rfl, hcc⟩ := HCE.out t hlt
      have hcl := hcc wr hbw
      have hrm := HRM.out t hlt
      have hcall := fun h40 => HHO.out t hlt h40 wr hbw
      have hs := allR_succ R t g k
      have hnx : (R t).n ≤ 40 → Hid (∀ j, j < t + 1 → (R j).n ≤ 40) := fun h0 => Lib.hid fun j hj => by
        by_cases e : j = t
        · subst e; exact h0
        · exact hn40.out j (by omega)
      clear hcc
      generalize holdsF (R t).f (R t).n g k = v1 at hcall hs
      generalize R t = r at hcl hcall hnx hrm
      obtain ⟨ra, rn, rc, rf⟩ := r
      simp only at hcl hcall hnx hrm
      generalize allR R t g k = v0 at hs ⊢
      have HNX := Lib.hid hnx; clear hnx
      have HS := Lib.hid hs; clear hs
      by_cases h40 : 40 < rn
      · clear hcall
        go_wp2_with fail
        go_ret
        exact ⟨rfl, hbw⟩
      · have HC := Lib.hid (hcall (by omega)); clear hcall
        cases v0
        · go_wp2_with fail
          go_roundw
          case rel => exact ⟨t + 1, by omega, by go_num, by rw [HS.out]; rfl, hbw, HNX.out (by omega)⟩
          case measure => simp [intOf]; omega
        · go_wp2_with fail
          refine HC.out.mono ?_
          rintro e w2 ⟨rfl, hb2⟩
          go_wp2_with fail
          go_roundw
          case rel => exact ⟨t + 1, by omega, by go_num, by rw [HS.out]; rfl, hb2, HNX.out (by omega)⟩
          case measure => simp [intOf]; omega
    · obtain rfl : t = n := by omega
      have hA := HAL.out hn40.out
      have hB := HRA.out hn40.out
      generalize allR R t g k = v0 at hA hB ⊢
      have HA1 := Lib.hid hA; clear hA
      have HB1 := Lib.hid hB; clear hB
      cases v0
      all_goals
        go_wp2_with fail
        refine (HA1.out _ hbw).mono ?_
        rintro e w2 ⟨rfl, hb2⟩
        go_wp2_with fail
        refine (HB1.out _ hb2).mono ?_
        rintro e w3 ⟨rfl, rfl⟩
        go_wp2_with fail
        go_ret
        exact ⟨rfl, hb2⟩

theorem lawAll_any (a am : Option Addr) (n c k cm : Nat) (R : Nat → Row) (g : Nat → Bool) (w : World) (hT : Tab w) (hm : n ≤ 9223372036854775807) (hk : k ≤ 9223372036854775807) (hRm : ∀ j, j < n → (R j).n ≤ 9223372036854775807) (h : Rws w a n R) (hg : HasB w am k g) :
    Calls Tryd.prog 6 #[.slice a n c, .slice am k cm] w (LawPost w) := by
  by_cases hn : 60 < n ∨ 60 < k
  · exact all_long a am n c k cm w hT hm hk hn
  · exact all_walk a am n c k cm R g w hT (by omega) (by omega) hRm h hg
end Go.Proofs.YtmgkoehclabejaaDoor
