/- Contract: two lists of lists, compared. -/
import Derived.Test.YtmgkoehclabejaaDoorC
import Derived.Deep.RegionWith
namespace Go.Proofs.YtmgkoehclabejaaDoor
open Go Go.RowKit Go.Lib

def ListsPost (R R' : Nat → Row) (n n' : Nat) (w : World) (e : Ending) (w' : World) : Prop := e = .returned (.bool (decide (rowsL R n = rowsL R' n'))) ∧ ∃ q, w' = w.drewN q
theorem lof_eq {f g : Nat → Int} {n m : Nat} : lof f n = lof g m ↔ n = m ∧ ∀ j, j < n → f j = g j := by
  constructor
  · intro h
    have hl := congrArg List.length h
    rw [lof_length, lof_length] at hl
    subst hl
    refine ⟨rfl, fun j hj => ?_⟩
    have := congrArg (fun l => l[j]?) h
    simpa [lof, hj] using this
  · rintro ⟨rfl, h⟩
    unfold lof
    exact List.map_congr_left fun j hj => h j (by simpa using hj)
theorem rowsL_eq {R R' : Nat → Row} {n m : Nat} : rowsL R n = rowsL R' m ↔ n = m ∧ ∀ j, j < n → sameF (R j).f (R' j).f (R j).n (R' j).n = true := by
  constructor
  · intro h
    have hl := congrArg List.length h
    rw [rowsL_length, rowsL_length] at hl
    subst hl
    refine ⟨rfl, fun j hj => ?_⟩
    have := congrArg (fun l => l[j]?) h
    simp [rowsL, hj] at this
    exact sameF_iff.2 (lof_eq.1 this)
  · rintro ⟨rfl, h⟩
    unfold rowsL
    exact List.map_congr_left fun j hj => lof_eq.2 (sameF_iff.1 (h j (by simpa using hj)))

set_option maxHeartbeats 1000000 in
theorem lists_lens (a a' : Option Addr) (n n' c c' : Nat) (R R' : Nat → Row) (h : n ≠ n') (w : World) : Calls Tryd.prog 23 #[.slice a n c, .slice a' n' c'] w (ListsPost R R' n n' w) := by
  have hb : ((n : Int) != (n' : Int)) = true := by simp; omega
  have hfin : ListsPost R R' n n' w (.returned (.bool false)) w := ⟨by rw [decide_eq_false (fun e => h (rowsL_eq.1 e).1)], 0, rfl⟩
  have HF := Lib.hid hfin; clear hfin h
  go_enter Tryd.func23, Tryd.ntmps23
  go_wp2
  go_ret
  exact HF.out
set_option maxHeartbeats 1000000 in
theorem lists_zero (a a' : Option Addr) (c c' : Nat) (R R' : Nat → Row) (w : World) : Calls Tryd.prog 23 #[.slice a 0 c, .slice a' 0 c'] w (ListsPost R R' 0 0 w) := by
  have hfin : ListsPost R R' 0 0 w (.returned (.bool true)) w := ⟨rfl, 0, rfl⟩
  have HF := Lib.hid hfin; clear hfin
  go_enter Tryd.func23, Tryd.ntmps23
  go_wp2
  go_loop [5] (fun i => i = .int .i64 0) (fun _ => 0)
  case atStart => rfl
  case round =>
    subst hrel
    go_wp2
    go_ret
    exact HF.out

set_option maxHeartbeats 4000000 in
theorem lists_core (b off n c b' off' c' : Nat) (R R' : Nat → Row) (w : World) (hn : n ≤ 1000000) (hR : ∀ j, j < n → (R j).n ≤ 140737488355328)
    (hc : ∀ j, j < n → w.cell? ⟨b, off + j, none⟩ = some (.slice (R j).a (R j).n (R j).c) ∧ Has w (R j).a (R j).n (R j).f)
    (hc' : ∀ j, j < n → w.cell? ⟨b', off' + j, none⟩ = some (.slice (R' j).a (R' j).n (R' j).c) ∧ Has w (R' j).a (R' j).n (R' j).f) :
    Calls Tryd.prog 23 #[.slice (some ⟨b, off, none⟩) n c, .slice (some ⟨b', off', none⟩) n c'] w (ListsPost R R' n n w) := by
  have hyes : ∀ q, (∀ j, j < n → sameF (R j).f (R' j).f (R j).n (R' j).n = true) → ListsPost R R' n n w (.returned (.bool true)) (w.drewN q) := fun q h => ⟨by rw [decide_eq_true (rowsL_eq.2 ⟨rfl, h⟩)], q, rfl⟩
  have hno : ∀ q j, j < n → sameF (R j).f (R' j).f (R j).n (R' j).n = false → ListsPost R R' n n w (.returned (.bool false)) (w.drewN q) := fun q j hj h => ⟨by
    rw [decide_eq_false (fun e => by have := (rowsL_eq.1 e).2 j hj; rw [h] at this; cases this)], q, rfl⟩
  have HY := Lib.hid hyes
  have HN := Lib.hid hno
  have HC := Lib.hid hc
  have HC' := Lib.hid hc'
  have HR := Lib.hid hR
  clear hyes hno hc hc' hR
  go_enter Tryd.func23, Tryd.ntmps23
  go_wp2
  go_loopw [5] (fun i wr => ∃ (k : Nat) (q : Nat), k ≤ n ∧ i = .int .i64 k ∧ wr = w.drewN q ∧ Hid (∀ j, j < k → sameF (R j).f (R' j).f (R j).n (R' j).n = true)) (fun i _ => n - (intOf i).toNat)
  case atStart => exact ⟨0, 0, by omega, rfl, rfl, Lib.hid fun _ h => by omega⟩
  case round =>
    obtain ⟨k, q, hk, rfl, rfl, hs⟩ := hrel
    by_cases hlt : k < n
    · obtain ⟨hcell, hhas⟩ := HC.out k hlt
      obtain ⟨hcell', hhas'⟩ := HC'.out k hlt
      have hrn := HR.out k hlt
      have hit := fun W => ints_any (R k).a (R' k).a (R k).n (R' k).n (R k).c (R' k).c (R k).f (R' k).f W hrn
      have hlt2 : (k : Int) < (n : Int) := by omega
      have hnx : sameF (R k).f (R' k).f (R k).n (R' k).n = true → ∀ j, j < k + 1 → sameF (R j).f (R' j).f (R j).n (R' j).n = true := fun h j hj => by
        by_cases e : j = k
        · subst e; exact h
        · exact hs.out j (by omega)
      have hbad := fun q h => HN.out q k hlt h
      have HNX := Lib.hid hnx
      have HBAD := Lib.hid hbad
      clear hnx hbad
      generalize R k = r at *
      generalize R' k = r' at *
      obtain ⟨ra, rn, rc, rf⟩ := r
      obtain ⟨ra', rn', rc', rf'⟩ := r'
      simp only at *
      have hic : ∀ p, Calls Tryd.prog 12 #[.slice ra rn rc, .slice ra' rn' rc'] (w.drewN p) (SamePost rf rf' rn rn' (w.drewN p)) := fun p => hit _ (hhas.drewN p) (hhas'.drewN p)
      have hcd : ∀ p, (w.drewN p).cell? ⟨b, off + k, none⟩ = some (.slice ra rn rc) := fun p => hcell
      have hcd' : ∀ p, (w.drewN p).cell? ⟨b', off' + k, none⟩ = some (.slice ra' rn' rc') := fun p => hcell'
      clear hit hhas hhas'
      have hce : (w.drewN q).drew.cell? ⟨b, off + k, none⟩ = some (.slice ra rn rc) := hcell
      have hce' : (w.drewN q).drew.cell? ⟨b', off' + k, none⟩ = some (.slice ra' rn' rc') := hcell'
      have hie : ∀ v, sameF rf rf' rn rn' = v → Calls Tryd.prog 12 #[.slice ra rn rc, .slice ra' rn' rc'] (w.drewN q).drew fun e w' => e = .returned (.bool v) ∧ ∃ q, w' = w.drewN q := fun v hv => by
        have h := hic (q + 1)
        rw [show w.drewN (q + 1) = (w.drewN q).drew from rfl] at h
        refine h.mono ?_
        rintro e w' ⟨rfl, p, rfl⟩
        exact ⟨by rw [hv], q + 1 + p, by rw [show (w.drewN q).drew = w.drewN (q + 1) from rfl]; exact World.drewN_drewN _ _ _⟩
      clear hic hcd hcd'
      cases hsf : sameF rf rf' rn rn'
      · have HIC := Lib.hid (hie _ hsf)
        have HB2 := Lib.hid (fun q => HBAD.out q hsf)
        clear hie hsf
        go_wp2
        go_region_with (go_at_call 12; refine HIC.out.mono ?_; rintro e w' ⟨rfl, p, rfl⟩)
        all_goals go_wp2
        all_goals go_ret
        all_goals exact HB2.out _
      · have HIC := Lib.hid (hie _ hsf)
        have HNX2 := Lib.hid (HNX.out hsf)
        clear hie hsf
        go_wp2
        go_region_with (go_at_call 12; refine HIC.out.mono ?_; rintro e w' ⟨rfl, p, rfl⟩)
        all_goals go_wp2
        all_goals go_roundw
        all_goals first
          | (exact ⟨k + 1, p, by omega, by go_num, rfl, HNX2⟩)
          | (simp [intOf]; omega)
    · obtain rfl : k = n := by omega
      have HF := Lib.hid (HY.out q hs.out)
      go_wp2
      go_ret
      exact HF.out
theorem lists_any (a a' : Option Addr) (n n' c c' : Nat) (R R' : Nat → Row) (w : World) (hn : n ≤ 1000000) (hR : ∀ j, j < n → (R j).n ≤ 140737488355328) (h : Rws w a n R) (h' : Rws w a' n' R') :
    Calls Tryd.prog 23 #[.slice a n c, .slice a' n' c'] w (ListsPost R R' n n' w) := by
  by_cases e : n = n'
  · subst e
    rcases h with rfl | ⟨b, off, rfl, _, hc⟩
    · exact lists_zero a a' c c' R R' w
    · rcases h' with rfl | ⟨b', off', rfl, _, hc'⟩
      · exact lists_zero _ a' c c' R R' w
      · exact lists_core b off n c b' off' c' R R' w hn hR hc hc'
  · exact lists_lens a a' n n' c c' R R' e w
end Go.Proofs.YtmgkoehclabejaaDoor
