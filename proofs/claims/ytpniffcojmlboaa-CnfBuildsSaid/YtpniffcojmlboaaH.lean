/- Contracts: Nodes, own, Not, New. -/
import Derived.Test.YtpniffcojmlboaaG
namespace Go.Proofs.Ytpniffcojmlboaa
open Go.RowKit Go.Lib Go.Maps
set_option maxRecDepth 100000

theorem Gm.cell0 {w : World} {G M : Nat} {v iv : Value} {s : Gr} (h : Gm w G M v iv s) : w.cell? ⟨G, 0, none⟩ = some v := h.hd.cell (i := 0) (by omega)
theorem Gm.cell1 {w : World} {G M : Nat} {v iv : Value} {s : Gr} (h : Gm w G M v iv s) : w.cell? ⟨G, 1, none⟩ = some (.map (some M)) := h.hd.cell (i := 1) (by omega)
theorem Gm.cell2 {w : World} {G M : Nat} {v iv : Value} {s : Gr} (h : Gm w G M v iv s) : w.cell? ⟨G, 2, none⟩ = some iv := h.hd.cell (i := 2) (by omega)
/-- Nodes -/
theorem nodes_any {w : World} {G M : Nat} {v iv : Value} {s : Gr} (h : Gm w G M v iv s) (hn : s.n ≤ 100000) :
    Calls Try.prog 30 #[.pointer (some ⟨G, 0, none⟩)] w fun e w' => e = .returned (.int .i64 ((s.n : Int) + 1)) ∧ w = w' := by
  obtain ⟨a, c, rfl, _, _⟩ := h.sl.shape
  have hc := h.cell0
  clear h
  go_enter Try.func30, Try.ntmps30
  go_wp2
  go_ret
  exact ⟨rfl, rfl⟩
/-- own -/
theorem own_any {w : World} {G M : Nat} {v iv : Value} {s : Gr} (h : Gm w G M v iv s) (hn : s.n ≤ 100000) (x : Int) (hx : x ≤ 1000000) :
    Calls Try.prog 36 #[.pointer (some ⟨G, 0, none⟩), .int .i64 x] w fun e w' => e = .returned (.int .i64 (edg s.n x)) ∧ w = w' := by
  have HN := Lib.hid (nodes_any h hn)
  clear h
  by_cases h1 : x < 0
  · have he : edg s.n x = 0 := if_neg (by omega)
    rw [he]; clear he
    go_enter Try.func36, Try.ntmps36
    go_wp2
    go_ret
    exact ⟨rfl, rfl⟩
  · by_cases h2 : x < 2 * ((s.n : Int) + 1)
    · have he : ((edg s.n x : Nat) : Int) = x := by unfold edg; rw [if_pos (by omega)]; omega
      rw [he]; clear he
      have h3 : ¬ ((s.n : Int) + 1 ≤ x / 2) := by omega
      have h0 : 0 ≤ x := by omega
      go_enter Try.func36, Try.ntmps36
      go_wp2_with (go_at_call 30; refine HN.out.mono ?_; rintro e w' ⟨rfl, rfl⟩)
      go_ret
      exact ⟨rfl, rfl⟩
    · have he : edg s.n x = 0 := if_neg (by omega)
      rw [he]; clear he
      have h3 : ((s.n : Int) + 1 ≤ x / 2) := by omega
      have h0 : 0 ≤ x := by omega
      go_enter Try.func36, Try.ntmps36
      go_wp2_with (go_at_call 30; refine HN.out.mono ?_; rintro e w' ⟨rfl, rfl⟩)
      go_ret
      exact ⟨rfl, rfl⟩
theorem xor_one (e : Nat) : e ^^^ 1 = nt e := by
  have h1 : (e ^^^ 1) / 2 = e / 2 := by rw [Nat.xor_div_two]; simp
  have h2 : (e ^^^ 1) % 2 = 1 ↔ ¬ (e % 2 = 1 ↔ 1 % 2 = 1) := Nat.xor_mod_two_eq_one
  unfold nt; split <;> omega
theorem bits_not (e : Nat) (he : e ≤ 9223372036854775807) : bits .xor .i64 (e : Int) 1 = ((nt e : Nat) : Int) := by
  have hx : e ^^^ 1 < 2 ^ 63 := Nat.xor_lt_two_pow (by omega) (by omega)
  have h1 : (BitVec.ofInt 64 (e : Int)).toNat = e := by
    rw [BitVec.ofInt_natCast, BitVec.toNat_ofNat]; exact Nat.mod_eq_of_lt (by omega)
  show IntKind.i64.wrap ((BitVec.ofInt 64 (e : Int) ^^^ BitVec.ofInt 64 1).toNat : Int) = _
  rw [BitVec.toNat_xor, h1, show (BitVec.ofInt 64 1).toNat = 1 from rfl, xor_one] at *
  exact IntWalk.i64_in _ (by omega)
/-- Not -/
theorem not_any (e : Nat) (he : e ≤ 9223372036854775807) (w : World) :
    Calls Try.prog 22 #[.int .i64 e] w fun r w' => r = .returned (.int .i64 (nt e)) ∧ w = w' := by
  have hb := bits_not e he
  go_enter Try.func22, Try.ntmps22
  go_wp2
  go_ret
  exact ⟨rfl, rfl⟩
end Go.Proofs.Ytpniffcojmlboaa
