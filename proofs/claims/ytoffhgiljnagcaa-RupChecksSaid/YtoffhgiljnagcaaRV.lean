/- Contracts: the answer's Greatest and Small. -/
import Derived.Test.YtoffhgiljnagcaaRN
import Derived.WalkLawsBesides
namespace Go.Proofs.Ytoffhgiljnagcaa
open Go.RowKit Go.Lib

theorem gr1_up {m x : Int} (h : lit x = true) (hg : m < av x) : gr1 m x = av x := by unfold gr1; rw [h, if_pos rfl]; omega
theorem gr1_not {m x : Int} (h : lit x = false) : gr1 m x = m := by unfold gr1; rw [h]; rfl
theorem gr1_stay {m x : Int} (h : lit x = true) (hg : ¬ m < av x) : gr1 m x = m := by unfold gr1; rw [h, if_pos rfl]; omega

set_option maxHeartbeats 2000000 in
theorem refGreatest_core (b off n c : Nat) (R : Nat → Row) (w : World) (hm : n ≤ 140737488355328) (hR : ∀ j, j < n → (R j).n ≤ 140737488355328)
    (hc : ∀ j, j < n → w.cell? ⟨b, off + j, none⟩ = some (.slice (R j).a (R j).n (R j).c) ∧ Has w (R j).a (R j).n (R j).f) :
    Calls Try.prog 12 #[.slice (some ⟨b, off, none⟩) n c] w fun e w' => e = .returned (.int .i64 (gr (rowsL R n))) ∧ w = w' := by
  go_enter Try.func12, Try.ntmps12
  go_wp2
  go_loop [3, 4] (fun m i => ∃ k : Nat, k ≤ n ∧ i = .int .i64 k ∧ m = .int .i64 (gr (rowsL R k))) (fun _ i => n - (intOf i).toNat)
  case atStart => exact ⟨0, Nat.zero_le _, rfl, rfl⟩
  case round =>
    obtain ⟨k, hk, rfl, rfl⟩ := hrel
    by_cases hlt : k < n
    · obtain ⟨hcell, hhas⟩ := hc k hlt
      have hRk := hR k hlt
      have hs := rowsL_succ R k
      have hg := gr_bd (rowsL R k)
      clear hc hR
      generalize R k = r at hcell hhas hRk hs
      obtain ⟨ra, rn, rc, rf⟩ := r
      simp only at hcell hhas hRk hs
      have HS := Lib.hid hs; clear hs
      have HH := Lib.hid hhas; clear hhas
      generalize hG : gr (rowsL R k) = G at hg
      have HG := Lib.hid hG; clear hG
      go_wp2
      go_loop [3, 5] (fun m i => ∃ t : Nat, t ≤ rn ∧ i = .int .i64 t ∧ m = .int .i64 (grL G (lof rf t))) (fun _ i => rn - (intOf i).toNat)
      case atStart => exact ⟨0, Nat.zero_le _, rfl, rfl⟩
      case round =>
        obtain ⟨t, ht, rfl, rfl⟩ := hrel
        have hb := grL_bd (l := lof rf t) hg
        by_cases hlt2 : t < rn
        · have hsn := lof_succ rf t
          have HSN := Lib.hid hsn; clear hsn
          generalize hX : grL G (lof rf t) = X at hb
          have HX := Lib.hid hX; clear hX
          rcases HH.out with h0 | ⟨b', off', rfl, _, hcc⟩
          · omega
          · have hcell2 := hcc t hlt2
            clear hcc HH
            have hl := fun w => refLiteral_any (rf t) w
            cases hb2 : lit (rf t)
            · rw [hb2] at hl
              have HL := Lib.hid hl; clear hl
              have HB := Lib.hid hb2; clear hb2
              go_wp2_with (go_at_call 26; refine (HL.out _).mono ?_; rintro e w' ⟨rfl, rfl⟩)
              go_round
              case rel => exact ⟨t + 1, by omega, by go_num, by rw [HSN.out, grL_snoc, HX.out, gr1_not HB.out]⟩
              case measure => simp [intOf]; omega
            · rw [hb2] at hl
              obtain ⟨_, hx1, hx2⟩ := lit_iff.1 hb2
              have hv := fun w => abs_any (rf t) hx1 hx2 w
              have hup : X < av (rf t) → gr1 X (rf t) = av (rf t) := gr1_up hb2
              have hst : ¬ X < av (rf t) → gr1 X (rf t) = X := gr1_stay hb2
              have HL := Lib.hid hl; clear hl
              clear hb2
              generalize av (rf t) = V at hv hup hst
              have HV := Lib.hid hv; clear hv
              have HU := Lib.hid hup; clear hup
              have HT := Lib.hid hst; clear hst
              by_cases hxv : X < V
              · go_wp2_with (first | (go_at_call 26; refine (HL.out _).mono ?_; rintro e w' ⟨rfl, rfl⟩) | (go_at_call 27; refine (HV.out _).mono ?_; rintro e w' ⟨rfl, rfl⟩))
                go_round
                case rel => exact ⟨t + 1, by omega, by go_num, by rw [HSN.out, grL_snoc, HX.out, HU.out hxv]⟩
                case measure => simp [intOf]; omega
              · go_wp2_with (first | (go_at_call 26; refine (HL.out _).mono ?_; rintro e w' ⟨rfl, rfl⟩) | (go_at_call 27; refine (HV.out _).mono ?_; rintro e w' ⟨rfl, rfl⟩))
                go_round
                case rel => exact ⟨t + 1, by omega, by go_num, by rw [HSN.out, grL_snoc, HX.out, HT.out (by omega)]⟩
                case measure => simp [intOf]; omega
        · obtain rfl : t = rn := by omega
          go_wp2
          go_round
          case rel => exact ⟨k + 1, by omega, by go_num, by rw [HS.out, gr_snoc, HG.out]⟩
          case measure => simp [intOf]; omega
    · obtain rfl : k = n := by omega
      clear hc hR
      go_wp2
      go_ret
      exact ⟨rfl, rfl⟩
theorem refGreatest_zero (a : Option Addr) (c : Nat) (R : Nat → Row) (w : World) :
    Calls Try.prog 12 #[.slice a 0 c] w fun e w' => e = .returned (.int .i64 (gr (rowsL R 0))) ∧ w = w' := by
  go_enter Try.func12, Try.ntmps12
  go_wp2
  go_loop [3, 4] (fun m i => i = .int .i64 0 ∧ m = .int .i64 0) (fun _ _ => 0)
  case atStart => exact ⟨rfl, rfl⟩
  case round =>
    obtain ⟨rfl, rfl⟩ := hrel
    go_wp2
    go_ret
    exact ⟨rfl, rfl⟩
theorem refGreatest_any (a : Option Addr) (n c : Nat) (R : Nat → Row) (w : World) (hm : n ≤ 140737488355328) (hR : ∀ j, j < n → (R j).n ≤ 140737488355328) (h : Rws w a n R) :
    Calls Try.prog 12 #[.slice a n c] w fun e w' => e = .returned (.int .i64 (gr (rowsL R n))) ∧ w = w' := by
  rcases h with rfl | ⟨b, off, rfl, _, hc⟩
  · exact refGreatest_zero a c R w
  · exact refGreatest_core b off n c R w hm hR hc

/-- Are there few enough clauses, none of them too long? -/
def small (R : Nat → Row) (n m : Nat) : Bool := decide (n ≤ m) && (List.range n).all fun j => decide ((R j).n ≤ 30)
theorem small_iff {R : Nat → Row} {n m : Nat} : small R n m = true ↔ n ≤ m ∧ ∀ j, j < n → (R j).n ≤ 30 := by simp [small]
theorem small_not {R : Nat → Row} {n m j : Nat} (hj : j < n) (h : ¬ (R j).n ≤ 30) : small R n m = false := by
  rw [← Bool.not_eq_true, small_iff]; exact fun hh => h (hh.2 j hj)

theorem small_long (a : Option Addr) (n c : Nat) (R : Nat → Row) (m : Nat) (mx : Int) (w : World) (hm : n ≤ 9223372036854775807) (hmm : m ≤ 1000) (h : m < n) :
    Calls Try.prog 9 #[.slice a n c, .int .i64 m, .int .i64 mx] w fun e w' => e = .returned (.bool (small R n m)) ∧ w = w' := by
  have hs : small R n m = false := by rw [← Bool.not_eq_true, small_iff]; omega
  have HS := Lib.hid hs; clear hs
  go_enter Try.func9, Try.ntmps9
  go_wp2
  go_ret
  exact ⟨ret_bool HS.out.symm, rfl⟩

set_option maxHeartbeats 2000000 in
set_option maxRecDepth 100000 in
theorem small_core (b off n c : Nat) (R : Nat → Row) (m : Nat) (mx : Int) (hmx : 100000 ≤ mx) (w : World) (hmm : m ≤ 1000) (hn : n ≤ m) (hnc : n ≤ c) (hcm : c ≤ 9223372036854775807) (hR : ∀ j, j < n → (R j).n ≤ 9223372036854775807) (hb : b < w.heap.size)
    (hc : ∀ j, j < n → w.cell? ⟨b, off + j, none⟩ = some (.slice (R j).a (R j).n (R j).c) ∧ Has w (R j).a (R j).n (R j).f) :
    Calls Try.prog 9 #[.slice (some ⟨b, off, none⟩) n c, .int .i64 m, .int .i64 mx] w fun e w' => e = .returned (.bool (small R n m)) ∧ w = w' := by
  have hgr : ∀ t, t < n → (R t).n ≤ 30 → ∃ G : Int, G ≤ mx ∧ ∀ cc, Calls Try.prog 12 #[.slice (some ⟨b, off + t, none⟩) 1 cc] w fun e w' => e = .returned (.int .i64 G) ∧ w = w' := fun t ht h30 =>
    ⟨_, Int.le_trans (gr_bd (rowsL (fun j => R (t + j)) 1)).2 hmx, fun cc => refGreatest_any (some ⟨b, off + t, none⟩) 1 cc (fun j => R (t + j)) w (by omega) (fun j hj => by
      obtain rfl : j = 0 := by omega
      simp only [Nat.add_zero]
      omega) (.inr ⟨b, off + t, rfl, hb, fun j hj => by
      obtain rfl : j = 0 := by omega
      exact hc t ht⟩)⟩
  have HGR := Lib.hid hgr; clear hgr
  have hmn : decide (m < n) = false := decide_eq_false (by omega)
  go_enter Try.func9, Try.ntmps9
  go_wp2
  go_loop [7] (fun i => ∃ k : Nat, k ≤ n ∧ i = .int .i64 k ∧ Hid (∀ j, j < k → (R j).n ≤ 30)) (fun i => n - (intOf i).toNat)
  case atStart => exact ⟨0, Nat.zero_le _, rfl, Lib.hid fun _ h => absurd h (Nat.not_lt_zero _)⟩
  case round =>
    obtain ⟨k, hk, rfl, hn30⟩ := hrel
    by_cases hlt : k < n
    · have hcell := (hc k hlt).1
      have hRk := hR k hlt
      have hret : ¬ (R k).n ≤ 30 → small R n m = false := small_not hlt
      have hnx : (R k).n ≤ 30 → Hid (∀ j, j < k + 1 → (R j).n ≤ 30) := fun h0 => Lib.hid fun j hj => by
        by_cases e : j = k
        · subst e; exact h0
        · exact hn30.out j (by omega)
      have hcall := HGR.out k hlt
      clear hc hR
      generalize R k = r at hcell hRk hret hnx hcall
      obtain ⟨ra, rn, rc, rf⟩ := r
      simp only at hcell hRk hret hnx hcall
      have HRET := Lib.hid hret; clear hret
      have HNX := Lib.hid hnx; clear hnx
      by_cases h30 : 30 < rn
      · clear hcall
        go_wp2
        go_ret
        exact ⟨ret_bool (HRET.out (by omega)).symm, rfl⟩
      · obtain ⟨G, hG, hcl⟩ := hcall (by omega)
        clear hcall
        have HCL := Lib.hid hcl; clear hcl
        clear hmx
        go_wp2_with fail
        refine (HCL.out _).mono ?_
        rintro e w' ⟨rfl, rfl⟩
        go_wp2
        go_round
        case rel => exact ⟨k + 1, by omega, by go_num, HNX.out (by omega)⟩
        case measure => simp [intOf]; omega
    · clear hc hR
      go_wp2
      go_ret
      exact ⟨ret_bool (small_iff.2 ⟨hn, fun j hj => hn30.out j (by omega)⟩).symm, rfl⟩
theorem small_zero (a : Option Addr) (c : Nat) (R : Nat → Row) (m : Nat) (mx : Int) (w : World) (hmm : m ≤ 1000) :
    Calls Try.prog 9 #[.slice a 0 c, .int .i64 m, .int .i64 mx] w fun e w' => e = .returned (.bool (small R 0 m)) ∧ w = w' := by
  have hs : small R 0 m = true := by rw [small_iff]; exact ⟨Nat.zero_le _, fun j hj => by omega⟩
  have HS := Lib.hid hs; clear hs
  go_enter Try.func9, Try.ntmps9
  go_wp2
  go_loop [7] (fun i => i = .int .i64 0) (fun _ => 0)
  case atStart => rfl
  case round =>
    subst hrel
    go_wp2
    go_ret
    exact ⟨ret_bool HS.out.symm, rfl⟩
theorem small_any (a : Option Addr) (n c : Nat) (R : Nat → Row) (m : Nat) (mx : Int) (hmx : 100000 ≤ mx) (w : World) (hm : n ≤ 9223372036854775807) (hmm : m ≤ 1000) (hnc : n ≤ c) (hcm : c ≤ 9223372036854775807) (hR : ∀ j, j < n → (R j).n ≤ 9223372036854775807) (h : Rws w a n R) :
    Calls Try.prog 9 #[.slice a n c, .int .i64 m, .int .i64 mx] w fun e w' => e = .returned (.bool (small R n m)) ∧ w = w' := by
  by_cases hn : n ≤ m
  · rcases h with rfl | ⟨b, off, rfl, hb, hc⟩
    · exact small_zero a c R m mx w hmm
    · exact small_core b off n c R m mx hmx w hmm hn hnc hcm hR hb hc
  · exact small_long a n c R m mx w hm hmm (by omega)
end Go.Proofs.Ytoffhgiljnagcaa
