/- Contracts: runs of bytes, gaps. -/
import Derived.Test.YtgikihbnafadjaaDoorC
namespace Go.Proofs.YtgikihbnafadjaaDoor
open Go Go.RowKit Go.Lib

theorem index_eq (c : UInt8) (l : Wd) : Lib.indexByte l c = if l.contains c then ((span (fun x => x != c) l : Nat) : Int) else -1 := by
  induction l with
  | nil => rfl
  | cons b l ih =>
    show (if b == c then 0 else if Lib.indexByte l c == -1 then -1 else Lib.indexByte l c + 1) = if (b :: l).contains c = true then ((if (b != c) = true then span (fun x => x != c) l + 1 else 0 : Nat) : Int) else -1
    rw [ih, List.contains_cons]
    by_cases h : b = c
    · subst h; simp
    · have h2 : (b == c) = false := by simpa using h
      have h3 : (c == b) = false := by simp; exact fun e => h e.symm
      have h6 : (b != c) = true := by simp [bne, h2]
      rw [h2, h3, h6, Bool.false_or]
      cases h4 : l.contains c with
      | true =>
        have h5 : (((span (fun x => x != c) l : Nat) : Int) == -1) = false := by
          rw [beq_eq_false_iff_ne]; omega
        simp only [if_true, h5, Bool.false_eq_true, if_false]; omega
      | false => rfl
theorem not_contains {c : UInt8} {l : Wd} (h : l.contains c = false) : span (fun x => x != c) l = l.length := by
  refine span_of (Nat.le_refl _) (fun j hj _ => ?_) (fun h => absurd h (Nat.lt_irrefl _))
  rw [List.contains_eq_mem] at h
  have := of_decide_eq_false h
  simp only [bne_iff_ne]
  exact fun e => this (e ▸ List.getElem_mem hj)
/-- IndexByte -/
theorem index_any (l : Wd) (c : UInt8) (w : World) : Calls Tryd.prog 31 #[.string (bs l), .int .u8 (c.toNat : Int)] w fun e w' => e = .returned (.int .i64 (if l.contains c then ((span (fun x => x != c) l : Nat) : Int) else -1)) ∧ w = w' := by
  have := Go.Proofs.Tryd.strings_IndexByte (bs l) (c.toNat : Int) w
  rw [bs_data, u8_eq, index_eq] at this
  exact this.mono fun e w' ⟨h, h2⟩ => ⟨h, h2.symm⟩

def anyK (K : List Nat) (c : UInt8) : Bool := K.any fun k => isK k c
set_option maxRecDepth 100000 in
set_option maxHeartbeats 2000000 in
/-- isOf -/
theorem isOf_any (c : UInt8) (K : List Nat) (hK : ∀ j, j < K.length → K.getD j 0 < 4) (hn : K.length ≤ 100000) (g m : Nat) {w : World} (h : Gl w) (hc : ∀ j, j < K.length → w.cell? ⟨g, j, none⟩ = some (.int .i64 (K.getD j 0 : Nat))) :
    Calls Tryd.prog 38 #[.int .u8 (c.toNat : Int), .slice (some ⟨g, 0, none⟩) K.length m] w fun e w' => e = .returned (.bool (anyK K c)) ∧ w = w' := by
  obtain ⟨t, fr, hb⟩ := h.b
  have hat : ∀ k, k < 4 → w.cell? ⟨3, k, none⟩ = some (.string (bs (kb k))) := by
    intro k hk
    rw [cell_of_block hb]
    have : k = 0 ∨ k = 1 ∨ k = 2 ∨ k = 3 := by omega
    rcases this with rfl | rfl | rfl | rfl <;> rfl
  have HI := Lib.hid (fun k => index_any (kb k) c w)
  have HAT := Lib.hid hat
  have HC := Lib.hid hc
  have HK := Lib.hid hK
  clear hat hc hK hb h
  have hans : ∀ k, (0 : Int) ≤ (if (kb k).contains c then ((span (fun x => x != c) (kb k) : Nat) : Int) else -1) ↔ isK k c = true := by
    intro k; unfold isK
    split
    · rename_i h; rw [h]; simp
    · rename_i h
      exact ⟨fun e => absurd e (by omega), fun e => absurd e h⟩
  have HA := Lib.hid hans; clear hans
  generalize hN : K.length = N at *
  go_enter Tryd.func38, Tryd.ntmps38
  go_wp2
  go_loop [9, 6] (fun i _ => ∃ k : Nat, k ≤ N ∧ i = .int .i64 k ∧ Hid (∀ j, j < k → isK (K.getD j 0) c = false)) (fun i _ => N - (Lib.intOf i).toNat)
  case atStart => exact ⟨0, Nat.zero_le _, rfl, Lib.hid fun j h0 => absurd h0 (Nat.not_lt_zero _)⟩
  case round =>
    obtain ⟨k, hk, rfl, hn2⟩ := hrel
    by_cases hlt : k < N
    · have hcell := HC.out k hlt
      have hk4 := HK.out k hlt
      obtain ⟨x, hx⟩ : ∃ x, x = K.getD k 0 := ⟨_, rfl⟩
      rw [← hx] at hcell hk4
      have hcell2 := HAT.out x hk4
      have HI2 := Lib.hid (HI.out x)
      have HA2 := HA.out x
      have HX := Lib.hid hx; clear hx
      generalize (if (kb x).contains c then ((span (fun y => y != c) (kb x) : Nat) : Int) else -1) = r at *
      cases hq : isK x c with
      | true =>
        have hr : (0 : Int) ≤ r := HA2.2 hq
        have hfin : anyK K c = true := by
          unfold anyK
          rw [List.any_eq_true]
          have hkl : k < K.length := by omega
          refine ⟨x, ?_, hq⟩
          rw [HX.out]; simp [List.getD, hkl]
        have HF := Lib.hid hfin; clear hfin hq HA2
        go_wp2_with fail
        refine HI2.out.mono ?_
        rintro e w2 ⟨rfl, hw2⟩
        have hw3 := hw2.symm; subst hw3; clear hw2
        go_wp2
        go_ret
        exact ⟨ret_bool HF.out.symm, rfl⟩
      | false =>
        have hr : ¬ (0 : Int) ≤ r := fun e => by rw [HA2.1 e] at hq; cases hq
        have HQ := Lib.hid hq; clear hq HA2
        go_wp2_with fail
        refine HI2.out.mono ?_
        rintro e w2 ⟨rfl, hw2⟩
        have hw3 := hw2.symm; subst hw3; clear hw2
        go_wp2
        go_round
        case rel => exact ⟨k + 1, by omega, by go_num, Lib.hid fun j hj => by
          by_cases e : j = k
          · subst e; rw [← HX.out]; exact HQ.out
          · exact hn2.out j (by omega)⟩
        case measure => simp [Lib.intOf]; omega
    · have hfin : anyK K c = false := by
        unfold anyK
        rw [List.any_eq_false]
        intro y hy
        obtain ⟨j, hj, rfl⟩ := List.getElem_of_mem hy
        have := hn2.out j (by omega)
        simp [List.getD, hj] at this
        simp [this]
      have HF := Lib.hid hfin; clear hfin
      go_wp2
      go_ret
      exact ⟨ret_bool HF.out.symm, rfl⟩
set_option maxRecDepth 100000 in
set_option maxHeartbeats 2000000 in
/-- run -/
theorem run_core (l : Wd) (hl : l.length ≤ 100000) (K : List Nat) (hK : ∀ j, j < K.length → K.getD j 0 < 4) (hn : K.length ≤ 100000) (g m : Nat) {w : World} (h : Gl w) (hc : ∀ j, j < K.length → w.cell? ⟨g, j, none⟩ = some (.int .i64 (K.getD j 0 : Nat))) :
    Calls Tryd.prog 29 #[.string (bs l), .slice (some ⟨g, 0, none⟩) K.length m] w fun e w' => e = .returned (.int .i64 (span (anyK K) l)) ∧ w = w' := by
  have HI := Lib.hid (fun c => isOf_any c K hK hn g m h hc)
  have hsz := bs_size l
  clear hK hc h
  generalize hN : K.length = N at *
  clear hN
  have hfin : ∀ k : Nat, k ≤ l.length → (∀ j (h : j < l.length), j < k → anyK K l[j] = true) → (∀ h : k < l.length, anyK K l[k] = false) → span (anyK K) l = k := fun k a b c => span_of a b c
  have HF := Lib.hid hfin; clear hfin
  go_enter Tryd.func29, Tryd.ntmps29
  go_wp2
  go_loop [8, 5] (fun i _ => ∃ k : Nat, k ≤ l.length ∧ i = .int .i64 k ∧ Hid (∀ j (h : j < l.length), j < k → anyK K l[j] = true)) (fun i _ => l.length - (Lib.intOf i).toNat)
  case atStart => exact ⟨0, Nat.zero_le _, rfl, Lib.hid fun j h h0 => absurd h0 (Nat.not_lt_zero _)⟩
  case round =>
    obtain ⟨k, hk, rfl, hn2⟩ := hrel
    by_cases hlt : k < l.length
    · have hg := bs_at l k hlt (by rw [hsz]; exact hlt)
      have HI2 := Lib.hid (HI.out l[k])
      cases hq : anyK K l[k] with
      | true =>
        rw [hq] at HI2
        have HQ := Lib.hid hq; clear hq
        go_wp2_with fail
        refine HI2.out.mono ?_
        rintro e w2 ⟨rfl, hw2⟩
        have hw3 := hw2.symm; subst hw3; clear hw2
        go_wp2
        go_round
        case rel => exact ⟨k + 1, by omega, by go_num, Lib.hid fun j hj hj2 => by
          by_cases e : j = k
          · subst e; exact HQ.out
          · exact hn2.out j hj (by omega)⟩
        case measure => simp [Lib.intOf]; omega
      | false =>
        rw [hq] at HI2
        have HQ := Lib.hid (HF.out k hk hn2.out fun _ => hq); clear hq
        go_wp2_with fail
        refine HI2.out.mono ?_
        rintro e w2 ⟨rfl, hw2⟩
        have hw3 := hw2.symm; subst hw3; clear hw2
        go_wp2
        go_ret
        exact ⟨ret_int (by rw [HQ.out]), rfl⟩
    · have HQ := Lib.hid (HF.out k hk hn2.out fun h => absurd h hlt)
      go_wp2
      go_ret
      exact ⟨ret_int (by rw [HQ.out]; omega), rfl⟩
end Go.Proofs.YtgikihbnafadjaaDoor
