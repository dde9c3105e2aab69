/- Contracts: the answers' digits. -/
import Derived.Test.YtmgkoehclabejaaDoorPB
import Derived.Test.YtmgkoehclabejaaDoorPI
import Derived.Laws.IdiomStrings
namespace Go.Proofs.YtmgkoehclabejaaDoor
open Go Go.RowKit Go.Lib

theorem bs_append (a b : List UInt8) : bs a ++ bs b = bs (a ++ b) := by
  apply ByteArray.ext
  simp [bs]

theorem byte_string (W : World) (c : UInt8) (z : Int) (hz : z = c.toNat) : (convert 52 9 (.slice (some ⟨W.heap.size, 0, none⟩) 1 1)).run Tryd.prog (W.alloc (.cells #[.int .u8 z] 5)) = .ok (.string (bs [c])) (W.alloc (.cells #[.int .u8 z] 5)) := by
  subst hz
  refine run_convert_bytes_back _ 52 9 5 ⟨W.heap.size, 0, none⟩ 1 [c] Tryd.underlying52 Tryd.underlying5 Tryd.underlying9 ?_
  intro j hj
  obtain rfl : j = 0 := by simpa using hj
  simp [Addr.add]

set_option maxRecDepth 100000 in
set_option maxHeartbeats 1000000 in
theorem digit_any (u : Nat) (h : u < 10) (w : World) : Calls Tryd.prog 48 #[.int .i64 u] w fun e w' => e = .returned (.string (bs (decDigits u))) ∧ Below w.heap.size w w' := by
  rw [dec_small h]
  have hfin : ∀ o, Below w.heap.size w (w.alloc o) := fun o => (Below.refl _ w).alloc (Nat.le_refl _) o
  have hge : (0 : Int) ≤ (u : Int) := by omega
  have hlt : (u : Int) < 10 := by omega
  have kc := byte_string w (UInt8.ofNat (48 + u)) (48 + (u : Int)) (by rw [ofNat_dig h]; omega)
  generalize UInt8.ofNat (48 + u) = c at *
  go_enter Tryd.func48, Tryd.ntmps48
  go_wp2
  go_ret
  exact ⟨rfl, hfin _⟩

set_option maxRecDepth 100000 in
set_option maxHeartbeats 2000000 in
theorem digits_nat (u : Nat) : u ≤ 1000000 → ∀ w : World, Calls Tryd.prog 48 #[.int .i64 u] w fun e w' => e = .returned (.string (bs (decDigits u))) ∧ Below w.heap.size w w' := by
  induction u using Nat.strongRecOn with
  | _ u ih =>
    intro hu w
    by_cases h : u < 10
    · exact digit_any u h w
    · have h1 := ih (u / 10) (by omega) (by omega)
      have h2 := fun w => digit_any (u % 10) (by omega) w
      have happ : bs (decDigits (u / 10)) ++ bs (decDigits (u % 10)) = bs (decDigits u) := by
        rw [bs_append, dec_big h, dec_small (show u % 10 < 10 by omega)]
      have d1 := dec_len 6 (u / 10) (by omega)
      have d2 := dec_len 6 (u % 10) (by omega)
      have s1 := bs_size (decDigits (u / 10))
      have s2 := bs_size (decDigits (u % 10))
      have hge : (10 : Int) ≤ (u : Int) := by omega
      have q1 : ((u / 10 : Nat) : Int) = (u : Int) / 10 := by omega
      have q2 : ((u % 10 : Nat) : Int) = (u : Int) % 10 := by omega
      generalize hX : bs (decDigits (u / 10)) = X at *
      generalize hY : bs (decDigits (u % 10)) = Y at *
      rw [q1] at h1
      rw [q2] at h2
      have H1 := Lib.hid h1
      have H2 := Lib.hid h2
      have HA := Lib.hid happ
      clear ih h1 h2 happ hX hY h q1 q2
      go_enter Tryd.func48, Tryd.ntmps48
      go_wp2_with fail
      refine (H1.out _).mono ?_
      rintro e w1 ⟨rfl, hb1⟩
      go_wp2_with fail
      refine (H2.out _).mono ?_
      rintro e w2 ⟨rfl, hb2⟩
      go_wp2
      go_ret
      exact ⟨by rw [← HA.out]; rfl, hb1.trans (hb2.mono hb1.size)⟩

set_option maxRecDepth 100000 in
set_option maxHeartbeats 2000000 in
theorem digits_any (x : Int) (h : -1000000 ≤ x ∧ x ≤ 1000000) (w : World) : Calls Tryd.prog 48 #[.int .i64 x] w fun e w' => e = .returned (.string (bs (itoa x))) ∧ Below w.heap.size w w' := by
  by_cases hx : x < 0
  · have hi : itoa x = [45] ++ decDigits x.natAbs := by unfold itoa; rw [if_pos hx]; rfl
    have hn := digits_nat x.natAbs (by omega) w
    rw [show ((x.natAbs : Nat) : Int) = -x by omega] at hn
    have happ : (⟨#[45]⟩ : ByteArray) ++ bs (decDigits x.natAbs) = bs (itoa x) := by rw [hi, ← bs_append]; rfl
    have d1 := dec_len 6 x.natAbs (by omega)
    have s1 := bs_size (decDigits x.natAbs)
    generalize hX : bs (decDigits x.natAbs) = X at *
    have H1 := Lib.hid hn
    have HA := Lib.hid happ
    obtain ⟨h1, h2⟩ := h
    clear hn happ hX hi
    go_enter Tryd.func48, Tryd.ntmps48
    go_wp2_with fail
    refine H1.out.mono ?_
    rintro e w1 ⟨rfl, hb1⟩
    go_wp2
    go_ret
    exact ⟨by rw [← HA.out]; rfl, hb1⟩
  · have hn := digits_nat x.toNat (by omega) w
    rw [show ((x.toNat : Nat) : Int) = x by omega] at hn
    have : itoa x = decDigits x.toNat := by unfold itoa; rw [if_neg hx]
    rw [this]
    exact hn
end Go.Proofs.YtmgkoehclabejaaDoor
