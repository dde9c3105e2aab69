/- Contracts: do, Eval of a vector, awake. -/
import Derived.Test.YtepafgmiloncgaaBO
import Derived.Test.YtepafgmiloncgaaBJ
import Derived.Test.YtepafgmiloncgaaBM
namespace Go.Proofs.Ytepafgmiloncgaa
open Go.RowKit Go.Lib Go.Maps
set_option maxRecDepth 100000

section
variable {w w1 w2 : World} {G M b : Nat} {v iv v1 iv1 v2 iv2 : Value} {s s1 s2 : Gr} {f f' : Nat → Nat}
set_option maxHeartbeats 1000000 in
/-- do -/
theorem do_any (op : Nat) (hop : op < 5) (hG : Gm w G M v iv s) (hs : s.n ≤ 80000) {va vb : Value} {n m : Nat} {g h : Nat → Nat} (ha : Vc w (Bg G M v iv) va n g) (hb : Vc w (Bg G M v iv) vb m h) (hg : Vo s n g) (hh : Vo s m h) :
    Calls Try.prog 16 #[.pointer (some ⟨G, 0, none⟩), .int .i64 (op : Nat), va, vb] w (NuR w G M v iv s 3200 (max n m) (fun I => trm (max n m) (dop op (num I s g n) (num I s h m)))) := by
  have hn := ha.len
  have hm := hb.len
  have HA := Lib.hid ((add_any hG (by omega) ha hb hg hh).mono fun e w' h => h.le (show 7 * max n m ≤ 3200 by omega))
  have HS := Lib.hid ((sub_any hG (by omega) ha hb hg hh).mono fun e w' h => h.le (show 7 * max n m ≤ 3200 by omega))
  have HM := Lib.hid (mul_any hG hs ha hb hg hh)
  have HD := Lib.hid (div_any hG hs ha hb hg hh)
  have HR := Lib.hid (rem_any hG hs ha hb hg hh)
  clear hG ha hb hg hh
  have h : op = 0 ∨ op = 1 ∨ op = 2 ∨ op = 3 ∨ op = 4 := by omega
  rcases h with rfl | rfl | rfl | rfl | rfl
  · change Calls Try.prog 16 #[.pointer (some ⟨G, 0, none⟩), .int .i64 0, va, vb] w _
    go_enter Try.func16, Try.ntmps16
    go_wp2_with (go_at_call 29; refine HA.out.mono ?_; rintro e w3 ⟨b3, f3, v3, iv3, t3, rfl, T3, N3, U3⟩)
    go_ret
    exact ⟨_, f3, v3, iv3, t3, rfl, T3, N3, U3⟩
  · change Calls Try.prog 16 #[.pointer (some ⟨G, 0, none⟩), .int .i64 1, va, vb] w _
    go_enter Try.func16, Try.ntmps16
    go_wp2_with (go_at_call 30; refine HS.out.mono ?_; rintro e w3 ⟨b3, f3, v3, iv3, t3, rfl, T3, N3, U3⟩)
    go_ret
    exact ⟨_, f3, v3, iv3, t3, rfl, T3, N3, U3⟩
  · change Calls Try.prog 16 #[.pointer (some ⟨G, 0, none⟩), .int .i64 2, va, vb] w _
    go_enter Try.func16, Try.ntmps16
    go_wp2_with (go_at_call 31; refine HM.out.mono ?_; rintro e w3 ⟨b3, f3, v3, iv3, t3, rfl, T3, N3, U3⟩)
    go_ret
    exact ⟨_, f3, v3, iv3, t3, rfl, T3, N3, U3⟩
  · change Calls Try.prog 16 #[.pointer (some ⟨G, 0, none⟩), .int .i64 3, va, vb] w _
    go_enter Try.func16, Try.ntmps16
    go_wp2_with (go_at_call 32; refine HD.out.mono ?_; rintro e w3 ⟨b3, f3, v3, iv3, t3, rfl, T3, N3, U3⟩)
    go_ret
    exact ⟨_, f3, v3, iv3, t3, rfl, T3, N3, U3⟩
  · change Calls Try.prog 16 #[.pointer (some ⟨G, 0, none⟩), .int .i64 4, va, vb] w _
    go_enter Try.func16, Try.ntmps16
    go_wp2_with (go_at_call 33; refine HR.out.mono ?_; rintro e w3 ⟨b3, f3, v3, iv3, t3, rfl, T3, N3, U3⟩)
    go_ret
    exact ⟨_, f3, v3, iv3, t3, rfl, T3, N3, U3⟩
/-- Eval of a list of edges: the values in memory. -/
theorem eval_vec (h : Gm w G M v iv s) (hn : s.n ≤ 100000) {a1 : Option Addr} {m c1 : Nat} {gm : Nat → Bool} (hm : HasB w a1 m gm) (hm2 : m ≤ 1000000) {B : Nat → Prop} {a2 : Option Addr} {n c2 : Nat} {g : Nat → Nat} (he : HasE w B a2 n g) (hg : Vo s n g) (hn2 : n ≤ 1000000) :
    Calls Try.prog 18 #[.pointer (some ⟨G, 0, none⟩), .slice a1 m c1, .slice a2 n c2] w fun e w' => ∃ a c, e = .returned (.slice a n c) ∧ Hid (Below w.heap.size w w' ∧ HasB w' a n (fun j => val (mdl gm m) s (g j))) := by
  refine (eval_any h hn hm hm2 he.weak hg hn2).mono fun e w' ⟨a, c, h1, F⟩ => ⟨a, c, h1, Lib.hid ⟨F.out.bel, ?_⟩⟩
  by_cases h0 : n = 0
  · exact .inl h0
  · obtain ⟨g0, c0, e0, _, _, hl⟩ := F.out.own.pos (by omega)
    cases e0
    exact .inr ⟨g0, 0, rfl, hl, fun j hj => by rw [Nat.zero_add]; exact F.out.own.cell (by omega)⟩
/-- Value of an evaluated vector. -/
theorem value_num {a : Option Addr} {n c : Nat} {I : Nat → Bool} {g : Nat → Nat} (h : HasB w a n (fun j => val I s (g j))) (hn : 1 ≤ n ∧ n ≤ 16) : Calls Try.prog 17 #[.slice a n c] w fun e w' => e = .returned (.int .i64 (num I s g n)) ∧ w = w' := value_any' h hn
theorem hasB_nil (w : World) (f : Nat → Bool) : HasB w none 0 f := .inl rfl
set_option maxHeartbeats 4000000 in
/-- awake -/
theorem awake_any (w : World) : Calls Try.prog 11 #[] w fun e w' => e = .returned (.bool true) ∧ Below w.heap.size w w' := by
  have HN := Lib.hid (new_any w)
  go_enter Try.func11, Try.ntmps11
  go_wp2_with fail
  refine HN.out.mono ?_; rintro e w1 ⟨G, M, v, iv, rfl, H1⟩
  go_wp2_with fail
  refine (const_nw 7 4 (by omega) w1).mono ?_; rintro e w2 ⟨b2, rfl, H2⟩
  have G2 := Lib.hid (H1.out.below H2.out.bel)
  have R2 := Lib.hid (H2.out.nv H1.out.gm)
  go_wp2_with fail
  refine (const_nw 1 4 (by omega) w2).mono ?_; rintro e w3 ⟨b3, rfl, H3⟩
  have G3 := Lib.hid (G2.out.below H3.out.bel)
  have R2' := Lib.hid (R2.out.below H3.out.bel)
  have R3 := Lib.hid (H3.out.nv G2.out.gm)
  have hA := add_any G3.out.gm (by show 0 ≤ _; omega) (R2'.out.has.vc (by omega) 4) (R3.out.has.vc (by omega) 4) (Vo.const s0 4 _) (Vo.const s0 4 _)
  rw [Nat.max_self] at hA
  have HA := Lib.hid hA
  clear hA
  go_wp2_with fail
  refine HA.out.mono ?_; rintro e w4 ⟨b4, f4, v4, iv4, t4, rfl, T4, N4, U4⟩
  have G4 := Lib.hid (G3.out.next T4.out)
  have ht4 : t4.n = 0 := U4.out.lay.z rfl
  have HEv := Lib.hid (eval_vec (c1 := 0) (c2 := 4) G4.out.gm (by omega) (hasB_nil w4 (fun _ => false)) (by omega) N4.out.has U4.out.vo (by omega))
  go_wp2_with fail
  refine HEv.out.mono ?_; rintro e w5 ⟨a5, c5, rfl, H5⟩
  have hv : num (mdl (fun _ => false) 0) t4 f4 4 = -8 := by
    rw [U4.out.val]
    simp only [num_bit]
    decide
  have HV := Lib.hid (value_num (c := c5) H5.out.2 (by omega))
  rw [hv] at HV
  have G5 := Lib.hid (G4.out.below H5.out.1)
  go_wp2_with fail
  refine HV.out.mono ?_; rintro e w' ⟨rfl, rfl⟩
  go_wp2_with fail
  refine (const_nw (-7) 4 (by omega) w5).mono ?_; rintro e w6 ⟨b6, rfl, H6⟩
  have G6 := Lib.hid (G5.out.below H6.out.bel)
  have R6 := Lib.hid (H6.out.nv G5.out.gm)
  go_wp2_with fail
  refine (const_nw 2 4 (by omega) w6).mono ?_; rintro e w7 ⟨b7, rfl, H7⟩
  have G7 := Lib.hid (G6.out.below H7.out.bel)
  have R6' := Lib.hid (R6.out.below H7.out.bel)
  have R7 := Lib.hid (H7.out.nv G6.out.gm)
  have hD := div_any G7.out.gm (by omega) (R6'.out.has.vc (by omega) 4) (R7.out.has.vc (by omega) 4) (Vo.const t4 4 _) (Vo.const t4 4 _)
  rw [Nat.max_self] at hD
  have HD := Lib.hid hD
  clear hD
  go_wp2_with fail
  refine HD.out.mono ?_; rintro e w8 ⟨b8, f8, v8, iv8, t8, rfl, T8, N8, U8⟩
  have G8 := Lib.hid (G7.out.next T8.out)
  have ht8 : t8.n = 0 := U8.out.lay.z ht4
  have HEv2 := Lib.hid (eval_vec (c1 := 0) (c2 := 4) G8.out.gm (by omega) (hasB_nil w8 (fun _ => false)) (by omega) N8.out.has U8.out.vo (by omega))
  go_wp2_with fail
  refine HEv2.out.mono ?_; rintro e w9 ⟨a9, c9, rfl, H9⟩
  have hv2 : num (mdl (fun _ => false) 0) t8 f8 4 = -3 := by
    rw [U8.out.val]
    simp only [num_bit]
    decide
  have HV2 := Lib.hid (value_num (c := c9) H9.out.2 (by omega))
  rw [hv2] at HV2
  go_wp2_with fail
  refine HV2.out.mono ?_; rintro e w' ⟨rfl, rfl⟩
  go_wp2_with fail
  go_ret
  exact ⟨rfl, (G8.out.below H9.out.1).bel⟩
end
end Go.Proofs.Ytepafgmiloncgaa
