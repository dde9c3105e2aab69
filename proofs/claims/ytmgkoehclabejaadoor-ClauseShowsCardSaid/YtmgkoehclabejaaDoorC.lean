/- Contracts: a literal's variable, the greatest variable of a list of clauses. -/
import Derived.Test.YtmgkoehclabejaaDoorA
import Derived.WalkLawsBesides
import Derived.Outline
namespace Go.Proofs.YtmgkoehclabejaaDoor
open Go.RowKit Go.Lib

def av (x : Int) : Int := if x < 0 then -x else x

set_option maxHeartbeats 400000 in
theorem variable_any (x : Int) (h1 : -100000 ≤ x) (h2 : x ≤ 100000) (w : World) :
    Calls Tryd.prog 40 #[.int .i64 x] w fun e w' => e = .returned (.int .i64 (av x)) ∧ w = w' := by
  go_enter Tryd.func40, Tryd.ntmps40
  go_wp2
  all_goals
    go_ret
    exact ⟨ret_int (by unfold av; omega), rfl⟩

/-- One row of a list of lists. -/
structure Row where
  a : Option Addr
  n : Nat
  c : Nat
  f : Nat → Int
def lof (f : Nat → Int) (n : Nat) : List Int := (List.range n).map f
theorem lof_length (f : Nat → Int) (n : Nat) : (lof f n).length = n := by simp [lof]
theorem lof_succ (f : Nat → Int) (n : Nat) : lof f (n + 1) = lof f n ++ [f n] := by simp [lof, List.range_succ]
def rowsL (R : Nat → Row) (n : Nat) : List (List Int) := (List.range n).map fun j => lof (R j).f (R j).n
theorem rowsL_succ (R : Nat → Row) (n : Nat) : rowsL R (n + 1) = rowsL R n ++ [lof (R n).f (R n).n] := by simp [rowsL, List.range_succ]
theorem rowsL_length (R : Nat → Row) (n : Nat) : (rowsL R n).length = n := by simp [rowsL]
/-- A list of lists of numbers in memory. -/
def Rws (w : World) (a : Option Addr) (n : Nat) (R : Nat → Row) : Prop :=
  n = 0 ∨ ∃ b off, a = some ⟨b, off, none⟩ ∧ b < w.heap.size ∧ ∀ j, j < n → w.cell? ⟨b, off + j, none⟩ = some (.slice (R j).a (R j).n (R j).c) ∧ Has w (R j).a (R j).n (R j).f
theorem Rws.below {w w' : World} {a : Option Addr} {n : Nat} {R : Nat → Row} (h : Rws w a n R) (hb : Below w.heap.size w w') : Rws w' a n R := by
  rcases h with h | ⟨b, off, ha, hlt, hc⟩
  · exact .inl h
  · exact .inr ⟨b, off, ha, Nat.lt_of_lt_of_le hlt hb.size, fun j hj => ⟨by rw [← (hc j hj).1]; exact hb.cell (p := ⟨b, off + j, none⟩) hlt, (hc j hj).2.below hb⟩⟩

/-- The greatest variable so far. -/
def gr1 (m x : Int) : Int := if lit x then max m (av x) else m
def grL (m : Int) (l : List Int) : Int := l.foldl gr1 m
def gr (L : List (List Int)) : Int := L.foldl grL 0
theorem gr1_bd {m x : Int} (h : 0 ≤ m ∧ m ≤ 100000) : 0 ≤ gr1 m x ∧ gr1 m x ≤ 100000 := by
  unfold gr1
  split
  · rename_i hl
    have := lit_iff.1 hl
    unfold av; split <;> omega
  · exact h
theorem grL_bd {l : List Int} : ∀ {m : Int}, 0 ≤ m ∧ m ≤ 100000 → 0 ≤ grL m l ∧ grL m l ≤ 100000 := by
  induction l with
  | nil => intro m h; exact h
  | cons x l ih => intro m h; exact ih (gr1_bd h)
theorem gr_bd' {L : List (List Int)} : ∀ {m : Int}, 0 ≤ m ∧ m ≤ 100000 → 0 ≤ L.foldl grL m ∧ L.foldl grL m ≤ 100000 := by
  induction L with
  | nil => intro m h; exact h
  | cons x l ih => intro m h; exact ih (grL_bd h)
theorem gr_bd (L : List (List Int)) : 0 ≤ gr L ∧ gr L ≤ 100000 := gr_bd' (by omega)
theorem grL_snoc (m : Int) (l : List Int) (x : Int) : grL m (l ++ [x]) = gr1 (grL m l) x := by simp [grL]
theorem gr_snoc (L : List (List Int)) (l : List Int) : gr (L ++ [l]) = grL (gr L) l := by simp [gr]

set_option maxHeartbeats 1000000 in
theorem greatest_core (b off n c : Nat) (R : Nat → Row) (w : World) (hm : n ≤ 140737488355328) (hR : ∀ j, j < n → (R j).n ≤ 140737488355328)
    (hc : ∀ j, j < n → w.cell? ⟨b, off + j, none⟩ = some (.slice (R j).a (R j).n (R j).c) ∧ Has w (R j).a (R j).n (R j).f) :
    Calls Tryd.prog 20 #[.slice (some ⟨b, off, none⟩) n c] w fun e w' => e = .returned (.int .i64 (gr (rowsL R n))) ∧ w = w' := by
  go_enter Tryd.func20, Tryd.ntmps20
  go_wp2
  go_loop [3, 10] (fun m i => ∃ k : Nat, k ≤ n ∧ i = .int .i64 k ∧ m = .int .i64 (gr (rowsL R k))) (fun _ i => n - (intOf i).toNat)
  case atStart => exact ⟨0, Nat.zero_le _, rfl, rfl⟩
  case round =>
    obtain ⟨k, hk, rfl, rfl⟩ := hrel
    by_cases hlt : k < n
    · obtain ⟨hcell, hhas⟩ := hc k hlt
      have hRk := hR k hlt
      have hs := rowsL_succ R k
      have hg := gr_bd (rowsL R k)
      clear hc hR
      generalize R k = r at hcell hhas hRk hs
      obtain ⟨ra, rn, rc, rf⟩ := r
      simp only at hcell hhas hRk hs
      have HS := Lib.hid hs; clear hs
      have HH := Lib.hid hhas; clear hhas
      generalize hG : gr (rowsL R k) = G at hg
      have HG := Lib.hid hG; clear hG
      go_wp2
      go_loop [3, 16] (fun m i => ∃ t : Nat, t ≤ rn ∧ i = .int .i64 t ∧ m = .int .i64 (grL G (lof rf t))) (fun _ i => rn - (intOf i).toNat)
      case atStart => exact ⟨0, Nat.zero_le _, rfl, rfl⟩
      case round =>
        obtain ⟨t, ht, rfl, rfl⟩ := hrel
        have hb := grL_bd (l := lof rf t) hg
        by_cases hlt2 : t < rn
        · have hsn := lof_succ rf t
          have HSN := Lib.hid hsn; clear hsn
          generalize hX : grL G (lof rf t) = X at hb
          have HX := Lib.hid hX; clear hX
          rcases HH.out with h0 | ⟨b', off', rfl, _, hcc⟩
          · omega
          · have hcell2 := hcc t hlt2
            clear hcc HH
            have hl := fun w => literal_any (rf t) w
            have HL := Lib.hid hl; clear hl
            cases hb2 : lit (rf t)
            · rw [hb2] at HL
              have HB := Lib.hid hb2; clear hb2
              go_wp2_with (go_at_call 37; refine (HL.out _).mono ?_; rintro e w' ⟨rfl, rfl⟩)
              go_round
              case rel => exact ⟨t + 1, by omega, by go_num, by rw [HSN.out, grL_snoc, HX.out, gr1, HB.out]; rfl⟩
              case measure => simp [intOf]; omega
            · rw [hb2] at HL
              obtain ⟨_, hx1, hx2⟩ := lit_iff.1 hb2
              have HB := Lib.hid hb2; clear hb2
              have hv := fun w => variable_any (rf t) hx1 hx2 w
              generalize hV : av (rf t) = V at hv
              have HV := Lib.hid hV; clear hV
              have HVc := Lib.hid hv; clear hv
              go_wp2_with (first | (go_at_call 37; refine (HL.out _).mono ?_; rintro e w' ⟨rfl, rfl⟩) | (go_at_call 40; refine (HVc.out _).mono ?_; rintro e w' ⟨rfl, rfl⟩))
              all_goals
                go_round
                case rel => exact ⟨t + 1, by omega, by go_num, by rw [HSN.out, grL_snoc, HX.out, gr1, HB.out, HV.out]; simp only [if_true]; congr 1; omega⟩
                case measure => simp [intOf]; omega
        · obtain rfl : t = rn := by omega
          go_wp2
          go_round
          case rel => exact ⟨k + 1, by omega, by go_num, by rw [HS.out, gr_snoc, HG.out]⟩
          case measure => simp [intOf]; omega
    · obtain rfl : k = n := by omega
      clear hc hR
      go_wp2
      go_ret
      exact ⟨rfl, rfl⟩

theorem greatest_zero (a : Option Addr) (c : Nat) (R : Nat → Row) (w : World) :
    Calls Tryd.prog 20 #[.slice a 0 c] w fun e w' => e = .returned (.int .i64 (gr (rowsL R 0))) ∧ w = w' := by
  go_enter Tryd.func20, Tryd.ntmps20
  go_wp2
  go_loop [3, 10] (fun m i => i = .int .i64 0 ∧ m = .int .i64 0) (fun _ _ => 0)
  case atStart => exact ⟨rfl, rfl⟩
  case round =>
    obtain ⟨rfl, rfl⟩ := hrel
    go_wp2
    go_ret
    exact ⟨rfl, rfl⟩
theorem greatest_any (a : Option Addr) (n c : Nat) (R : Nat → Row) (w : World) (hm : n ≤ 140737488355328) (hR : ∀ j, j < n → (R j).n ≤ 140737488355328) (h : Rws w a n R) :
    Calls Tryd.prog 20 #[.slice a n c] w fun e w' => e = .returned (.int .i64 (gr (rowsL R n))) ∧ w = w' := by
  rcases h with rfl | ⟨b, off, rfl, _, hc⟩
  · exact greatest_zero a c R w
  · exact greatest_core b off n c R w hm hR hc
end Go.Proofs.YtmgkoehclabejaaDoor
