/- The law BitsWide. -/
import Derived.Test.YtepafgmiloncgaaBP
namespace Go.Proofs.Ytepafgmiloncgaa
open Go.RowKit Go.Lib Go.Maps
set_option maxRecDepth 100000

/-- What a law answers. -/
def Law (w : World) (e : Ending) (w' : World) : Prop := e = .returned (.bool true) ∧ Below w.heap.size w w'
theorem trm_up {A B : Nat} (hA : 0 < A) (h : A ≤ B) (x : Int) : trm B (trm A x) = trm A x := by
  have hr := trm_range hA x
  have h4 : 2 ^ (A - 1) ≤ 2 ^ (B - 1) := Nat.pow_le_pow_right (by omega) (by omega)
  exact trm_fit (by omega) (by omega) (by omega)
theorem trm_down {A B : Nat} (h : B ≤ A) (x : Int) : trm B (trm A x) = trm B x := by
  have hp : ((2 ^ A : Nat) : Int) = ((2 ^ B : Nat) : Int) * ((2 ^ (A - B) : Nat) : Int) := by rw [← Int.natCast_mul, ← Nat.pow_add, show B + (A - B) = A by omega]
  refine trm_of ?_
  rw [← Int.emod_emod_of_dvd _ (show ((2 ^ B : Nat) : Int) ∣ ((2 ^ A : Nat) : Int) from ⟨_, hp⟩), trm_emod, Int.emod_emod_of_dvd _ ⟨_, hp⟩]
theorem law_new {w w1 w2 : World} {G M : Nat} {v iv : Value} {s : Gr} (h : Below w.heap.size w w1) (g : Gn w1 G M w2 v iv s) : Below w.heap.size w w2 := h.trans (g.bel.mono h.size)
set_option maxHeartbeats 2000000 in
theorem wideLaw (n : Int) (hn : -9223372036854775808 ≤ n ∧ n ≤ 9223372036854775807) (x y : Nat) (hx : x ≤ 255) (hy : y ≤ 255) (w : World) : Calls Try.prog 8 #[.int .i64 n, .agg #[.int .u8 x, .int .u8 y]] w (Law w) := by
  have HAw := Lib.hid awake_any
  obtain ⟨A, hA⟩ : ∃ A, A = 1 + x % 16 := ⟨_, rfl⟩
  obtain ⟨B, hB⟩ : ∃ B, B = 1 + y % 16 := ⟨_, rfl⟩
  have hA1 : 1 ≤ A ∧ A ≤ 16 := by omega
  have hB1 : 1 ≤ B ∧ B ≤ 16 := by omega
  have e1 : IntKind.i64.wrap (1 + (x : Int) % 16) = (A : Int) := by rw [IntWalk.i64_in _ (by omega)]; omega
  have e2 : IntKind.i64.wrap (1 + (y : Int) % 16) = (B : Int) := by rw [IntWalk.i64_in _ (by omega)]; omega
  have e3 : (1 + (x : Int) % 16) = (A : Int) := by omega
  have e4 : (1 + (y : Int) % 16) = (B : Int) := by omega
  have HN := Lib.hid new_any
  have HRT := Lib.hid (fun (k : Nat) (hk : 1 ≤ k ∧ k ≤ 16) (W : World) => rtrim_in n hn k hk W)
  clear hA hB
  go_enter Try.func8, Try.ntmps8
  go_wp2_with fail
  refine (HAw.out _).mono ?_; rintro e w1 ⟨rfl, hb1⟩
  have hb0 : Below w.heap.size w (w.alloc (.cells #[.int .u8 x, .int .u8 y] 22)) := (Below.refl _ w).alloc (Nat.le_refl _) _
  have HB1 := Lib.hid (hb0.trans (hb1.mono hb0.size))
  have t2 := two_at w w.heap.size (x := .int .u8 x) (y := .int .u8 y) (t := 22) (w' := w.alloc (.cells #[.int .u8 x, .int .u8 y] 22)) rfl rfl
  have c1 : w1.cell? ⟨w.heap.size, 0, none⟩ = some (.int .u8 x) := by have := t2 0 _ rfl; rw [adr, Nat.zero_add] at this; rw [← this]; exact hb1.cell (p := ⟨w.heap.size, 0, none⟩) (by simp)
  have c2 : w1.cell? ⟨w.heap.size, 1, none⟩ = some (.int .u8 y) := by have := t2 1 _ rfl; rw [adr, Nat.zero_add] at this; rw [← this]; exact hb1.cell (p := ⟨w.heap.size, 1, none⟩) (by simp)
  clear hb1 hb0 t2
  go_wp2_with fail
  go_quiet (fail)
  have HB1d := Lib.hid (show Below w.heap.size w (w1.drewN nq) from ⟨HB1.out.os, HB1.out.tape, HB1.out.output, HB1.out.size, HB1.out.block⟩)
  go_wp2_with fail
  refine (HN.out _).mono ?_; rintro e w2 ⟨G, M, v, iv, rfl, H2⟩
  have HB2 := Lib.hid (law_new HB1d.out H2.out)
  clear c1 c2 HB1 HB1d
  go_wp2_with fail
  refine (const_nw n A hA1 w2).mono ?_; rintro e w3 ⟨b3, rfl, H3⟩
  have G3 := Lib.hid (H2.out.below H3.out.bel)
  have HB3 := Lib.hid (HB2.out.trans (H3.out.bel.mono HB2.out.size))
  have HW := wide_any (((H3.out.nv H2.out.gm).has.vc hA1 A).weak) (B : Int)
  rw [lim_of hB1] at HW
  have HW := Lib.hid HW
  go_wp2_with fail
  refine HW.out.mono ?_; rintro e w4 ⟨b4, rfl, H4⟩
  have G4 := Lib.hid (G3.out.below H4.out.bel)
  have HB4 := Lib.hid (HB3.out.trans (H4.out.bel.mono HB3.out.size))
  have HEv := Lib.hid (eval_vec (c1 := 0) (c2 := B) G4.out.gm (by show 0 ≤ _; omega) (hasB_nil w4 (fun _ => false)) (by omega) (H4.out.nv G3.out.gm).has ((Vo.const s0 A _).ext (by omega)) (by omega))
  go_wp2_with fail
  refine HEv.out.mono ?_; rintro e w5 ⟨a5, c5, rfl, H5⟩
  have HB5 := Lib.hid (HB4.out.trans (H5.out.1.mono HB4.out.size))
  have HV := value_num (c := c5) H5.out.2 hB1
  rw [num_ext (by omega) (by omega), num_bit] at HV
  have HV := Lib.hid HV
  clear G3 G4 HEv H5 H4 H3 H2 HW HB2 HB3 HB4
  go_wp2_with fail
  refine HV.out.mono ?_; rintro e w' ⟨rfl, rfl⟩
  by_cases hle : A ≤ B
  · have i1 : (A : Int) ≤ (B : Int) := by omega
    have et := trm_up (by omega) hle n
    have hb : (trm B (trm A n) == trm A n) = true := by rw [beq_iff_eq]; exact et
    go_wp2_with fail
    refine (HRT.out A hA1 _).mono ?_; rintro e w' ⟨rfl, rfl⟩
    go_wp2_with fail
    go_ret
    exact ⟨by first | rfl | (rw [et]; simp), HB5.out⟩
  · have i1 : ¬ (A : Int) ≤ (B : Int) := by omega
    have et := trm_down (by omega : B ≤ A) n
    have hb : (trm B (trm A n) == trm B n) = true := by rw [beq_iff_eq]; exact et
    go_wp2_with fail
    refine (HRT.out B hB1 _).mono ?_; rintro e w' ⟨rfl, rfl⟩
    go_wp2_with fail
    go_ret
    exact ⟨by first | rfl | (rw [et]; simp), HB5.out⟩
end Go.Proofs.Ytepafgmiloncgaa
