/- Contracts: vector, sign, Wide, level. -/
import Derived.Test.YtepafgmiloncgaaBB
namespace Go.Proofs.Ytepafgmiloncgaa
open Go.RowKit Go.Lib Go.Maps
set_option maxRecDepth 100000

/-- What counts as a vector of n edges g. -/
def Vc (w : World) (B : Nat → Prop) (v : Value) (n : Nat) (g : Nat → Nat) : Prop :=
  ∃ (a : Option Addr) (l c : Nat), v = .slice a l c ∧ l ≤ 1000000 ∧ ((1 ≤ l ∧ l ≤ 16 ∧ n = l ∧ HasE w B a l g) ∨ ((l < 1 ∨ 16 < l) ∧ n = 1 ∧ g = fun _ => 0))
section
variable {w w' : World} {B B' : Nat → Prop} {v : Value} {a : Option Addr} {n c : Nat} {g : Nat → Nat}
theorem Vc.len (h : Vc w B v n g) : 1 ≤ n ∧ n ≤ 16 := by
  obtain ⟨_, l, _, _, _, ⟨h1, h2, h3, _⟩ | ⟨_, h, _⟩⟩ := h
  · omega
  · omega
theorem Vc.below (h : Vc w B v n g) (hb : Below w.heap.size w w') : Vc w' B v n g := by
  obtain ⟨a, l, c, h0, hl, ⟨h1, h2, h3, h4⟩ | h⟩ := h
  · exact ⟨a, l, c, h0, hl, .inl ⟨h1, h2, h3, h4.below hb⟩⟩
  · exact ⟨a, l, c, h0, hl, .inr h⟩
theorem Vc.next {G M : Nat} {gv iv gv' iv' : Value} {s : Gr} (h : Vc w (Bg G M gv iv) v n g) (T : GmT G M w gv iv w' gv' iv' s) : Vc w' (Bg G M gv' iv') v n g := by
  obtain ⟨a, l, c, h0, hl, ⟨h1, h2, h3, h4⟩ | h⟩ := h
  · exact ⟨a, l, c, h0, hl, .inl ⟨h1, h2, h3, h4.next T⟩⟩
  · exact ⟨a, l, c, h0, hl, .inr h⟩
theorem HasE.vc (h : HasE w B a n g) (hn : 1 ≤ n ∧ n ≤ 16) (c : Nat) : Vc w B (.slice a n c) n g := ⟨a, n, c, rfl, by omega, .inl ⟨hn.1, hn.2, rfl, h⟩⟩
theorem Vc.nil (B : Nat → Prop) (w : World) : Vc w B (.slice none 0 0) 1 (fun _ => 0) := ⟨none, 0, 0, rfl, by omega, .inr ⟨.inl (by omega), rfl, rfl⟩⟩
theorem Vc.long (B : Nat → Prop) (w : World) (a : Option Addr) {l : Nat} (c : Nat) (h : 16 < l) (hl : l ≤ 1000000) : Vc w B (.slice a l c) 1 (fun _ => 0) := ⟨a, l, c, rfl, hl, .inr ⟨.inr h, rfl, rfl⟩⟩
/-- vector -/
theorem vector_any (h : Vc w B v n g) (hB : ∀ k, B k → k < w.heap.size) :
    Calls Try.prog 45 #[v] w fun e w' => ∃ a c, e = .returned (.slice a n c) ∧ Hid (Below w.heap.size w w' ∧ HasE w' B a n g) := by
  obtain ⟨a, l, c, rfl, hl, ⟨h1, h2, rfl, h4⟩ | ⟨h1 | h1, rfl, rfl⟩⟩ := h
  · have HF := Lib.hid (show Below w.heap.size w w ∧ HasE w B a n g from ⟨Below.refl _ w, h4⟩)
    have d1 : decide ((n : Int) < 1) = false := by simp; omega
    have d2 : decide (16 < (n : Int)) = false := by simp; omega
    have i1 : ¬ (n : Int) < 1 := by omega
    have i2 : ¬ 16 < (n : Int) := by omega
    clear h4 h1 h2
    go_enter Try.func45, Try.ntmps45
    go_wp2
    go_ret
    first | exact ⟨_, _, rfl, HF⟩ | exact ⟨_, ⟨_, rfl⟩, HF⟩
  · obtain rfl : l = 0 := by omega
    have HF := Lib.hid (show Below w.heap.size w (w.alloc (.cells #[.int .i64 0] 3)) ∧ HasE (w.alloc (.cells #[.int .i64 0] 3)) B (some ⟨w.heap.size, 0, none⟩) 1 (fun _ => 0) from ⟨(Below.refl _ w).alloc (Nat.le_refl _) _, .inr ⟨w.heap.size, 0, rfl, by simp, fun e => absurd (hB _ e) (by omega), fun j hj => by
      obtain rfl : j = 0 := by omega
      exact one_at w w.heap.size rfl rfl 0 _ rfl⟩⟩)
    clear hB h1
    go_enter Try.func45, Try.ntmps45
    go_wp2
    go_ret
    first | exact ⟨_, _, rfl, HF⟩ | exact ⟨_, ⟨_, rfl⟩, HF⟩
  · have HF := Lib.hid (show Below w.heap.size w (w.alloc (.cells #[.int .i64 0] 3)) ∧ HasE (w.alloc (.cells #[.int .i64 0] 3)) B (some ⟨w.heap.size, 0, none⟩) 1 (fun _ => 0) from ⟨(Below.refl _ w).alloc (Nat.le_refl _) _, .inr ⟨w.heap.size, 0, rfl, by simp, fun e => absurd (hB _ e) (by omega), fun j hj => by
      obtain rfl : j = 0 := by omega
      exact one_at w w.heap.size rfl rfl 0 _ rfl⟩⟩)
    have d1 : decide ((l : Int) < 1) = false := by simp; omega
    have d2 : decide (16 < (l : Int)) = true := by simp; omega
    have i1 : ¬ (l : Int) < 1 := by omega
    have i2 : 16 < (l : Int) := by omega
    clear hB h1
    go_enter Try.func45, Try.ntmps45
    go_wp2
    go_ret
    first | exact ⟨_, _, rfl, HF⟩ | exact ⟨_, ⟨_, rfl⟩, HF⟩
/-- sign -/
theorem sign_any (h : HasE w B a n g) (hn : 1 ≤ n ∧ n ≤ 16) :
    Calls Try.prog 46 #[.slice a n c] w fun e w' => e = .returned (.int .i64 (g (n - 1) : Nat)) ∧ w = w' := by
  rcases h with e | ⟨b, off, rfl, _, _, hc⟩
  · omega
  obtain ⟨k, rfl⟩ : ∃ k, n = k + 1 := ⟨n - 1, by omega⟩
  have xc := hc k (by omega)
  simp only [Nat.add_sub_cancel]
  generalize g k = x at *
  clear hc
  go_enter Try.func46, Try.ntmps46
  go_wp2
  go_ret
  exact ⟨rfl, rfl⟩
/-- A vector that was made since w. -/
structure Nw (w w' : World) (b n : Nat) (f : Nat → Nat) : Prop where
  bel : Below w.heap.size w w'
  new : w.heap.size ≤ b
  row : w'.rowIs b 3 n (fun j => .int .i64 (f j : Nat))
theorem Nw.below {w w1 w2 : World} {b n : Nat} {f : Nat → Nat} (h : Nw w w1 b n f) (hb : Below w1.heap.size w1 w2) : Nw w w2 b n f :=
  ⟨h.bel.trans (hb.mono h.bel.size), h.new, h.row.of_block (hb.block b h.row.lt)⟩
theorem Nw.has {w w1 : World} {b n : Nat} {f : Nat → Nat} (h : Nw w w1 b n f) (hB : ∀ k, B k → k < w.heap.size) : HasE w1 B (some ⟨b, 0, none⟩) n f :=
  .inr ⟨b, 0, rfl, h.row.lt, fun e => absurd (hB _ e) (by have := h.new; omega), fun j hj => by rw [Nat.zero_add]; exact h.row.cell hj⟩
theorem Nw.pre {w0 w w1 : World} {b n : Nat} {f : Nat → Nat} (h : Nw w w1 b n f) (hb : Below w0.heap.size w0 w) : Nw w0 w1 b n f :=
  ⟨hb.trans (h.bel.mono hb.size), Nat.le_trans hb.size h.new, h.row⟩
theorem Nw.congr {w w1 : World} {b n : Nat} {f f' : Nat → Nat} (h : Nw w w1 b n f) (hf : ∀ j, j < n → f j = f' j) : Nw w w1 b n f' :=
  ⟨h.bel, h.new, World.rowIs.congr h.row fun j hj => by rw [hf j hj]⟩
set_option maxHeartbeats 1000000 in
/-- Wide -/
theorem wide_any (h : Vc w (fun _ => False) v n g) (x : Int) :
    Calls Try.prog 26 #[v, .int .i64 x] w fun e w' => ∃ b, e = .returned (.slice (some ⟨b, 0, none⟩) (lim x) (lim x)) ∧ Hid (Nw w w' b (lim x) (extv n g)) := by
  have HV := Lib.hid (vector_any h (fun _ e => e.elim))
  have hn := h.len
  have HL := Lib.hid (limit_any x)
  have hp := lim_pos x
  generalize lim x = m at *
  have hmk := fun W => make_ints m (by omega) W
  clear h
  go_enter Try.func26, Try.ntmps26
  go_wp2_with (first
    | (go_at_call 45; refine HV.out.mono ?_; rintro e w1 ⟨a, c, rfl, H1⟩)
    | (go_at_call 34; refine (HL.out _).mono ?_; rintro e w' ⟨rfl, rfl⟩))
  have HR0 := Lib.hid (show (w1.alloc (.cells (madeCells #[.int .i64 0] m) 3)).rowIs w1.heap.size 3 m (fun j => .int .i64 ((if j < 0 then extv n g j else 0 : Nat) : Nat)) from World.rowIs.congr (World.rowIs_made w1 (.int .i64 0) m 3) fun j _ => by simp)
  have HB0 := Lib.hid ((Below.refl w1.heap.size w1).alloc (Nat.le_refl _) (.cells (madeCells #[.int .i64 0] m) 3))
  go_loopw [14] (fun i wr => ∃ k : Nat, k ≤ m ∧ i = .int .i64 k ∧ Hid (Below w1.heap.size w1 wr) ∧ Hid (wr.rowIs w1.heap.size 3 m (fun j => .int .i64 ((if j < k then extv n g j else 0 : Nat) : Nat)))) (fun i _ => m - (intOf i).toNat)
  case atStart => exact ⟨0, Nat.zero_le _, rfl, HB0, HR0⟩
  case round =>
    obtain ⟨k, hk, rfl, HB, HR⟩ := hrel
    by_cases hlt : k < m
    · have hltI : (k : Int) < (m : Int) := by omega
      have cr := HR.out.cell hlt
      have fr := HR.out.frozen k
      have HE := Lib.hid (H1.out.2.below HB.out)
      have HS := Lib.hid (sign_any (c := c) HE.out hn)
      have hrow1 := HR.out.set k (.int .i64 (g (n - 1) : Nat))
      have HB1 := Lib.hid (HB.out.setCell (p := ⟨w1.heap.size, k, none⟩) (Nat.le_refl _) (.int .i64 (g (n - 1) : Nat)))
      have HE1 := Lib.hid (H1.out.2.below HB1.out)
      have HG := Lib.hid (rfl : g = g)
      by_cases hkn : k < n
      · have hknI : (k : Int) < (n : Int) := by omega
        rcases H1.out.2 with e | ⟨ba, off, rfl, hba, _, _⟩
        · omega
        have xc : (wr.setCell ⟨w1.heap.size, k, none⟩ (.int .i64 (g (n - 1) : Nat))).cell? ⟨ba, off + k, none⟩ = some (.int .i64 (g k : Nat)) := by
          rcases HE1.out with e | ⟨b2, o2, e2, _, _, hc⟩
          · omega
          · cases e2; exact hc k hkn
        have cr1 := hrow1.cell hlt
        have fr1 := hrow1.frozen k
        have HBN := Lib.hid (HB1.out.setCell (p := ⟨w1.heap.size, k, none⟩) (Nat.le_refl _) (.int .i64 (g k : Nat)))
        have HRN := Lib.hid (show ((wr.setCell ⟨w1.heap.size, k, none⟩ (.int .i64 (g (n - 1) : Nat))).setCell ⟨w1.heap.size, k, none⟩ (.int .i64 (g k : Nat))).rowIs w1.heap.size 3 m (fun j => .int .i64 ((if j < k + 1 then extv n g j else 0 : Nat) : Nat)) from World.rowIs.congr (hrow1.set k (.int .i64 (g k : Nat))) fun j hj => by
          by_cases e : j = k
          · subst e; simp [extv, hkn]
          · rw [if_neg e, if_neg e]
            by_cases e2 : j < k
            · simp [e2, show j < k + 1 by omega]
            · simp [e2, show ¬ j < k + 1 by omega])
        clear hrow1
        generalize g k = gk at *
        generalize g (n - 1) = gn at *
        go_wp2_with (go_at_call 46; refine HS.out.mono ?_; rintro e w' ⟨rfl, rfl⟩)
        go_roundw
        case rel => exact ⟨k + 1, by omega, by go_num, HBN, HRN⟩
        case measure => simp [intOf]; omega
      · have hknI : ¬ (k : Int) < (n : Int) := by omega
        have HRN := Lib.hid (show (wr.setCell ⟨w1.heap.size, k, none⟩ (.int .i64 (g (n - 1) : Nat))).rowIs w1.heap.size 3 m (fun j => .int .i64 ((if j < k + 1 then extv n g j else 0 : Nat) : Nat)) from World.rowIs.congr hrow1 fun j hj => by
          by_cases e : j = k
          · subst e; simp [extv, hkn]
          · rw [if_neg e]
            by_cases e2 : j < k
            · simp [e2, show j < k + 1 by omega]
            · simp [e2, show ¬ j < k + 1 by omega])
        clear hrow1
        generalize g (n - 1) = gn at *
        go_wp2_with (go_at_call 46; refine HS.out.mono ?_; rintro e w' ⟨rfl, rfl⟩)
        go_roundw
        case rel => exact ⟨k + 1, by omega, by go_num, HB1, HRN⟩
        case measure => simp [intOf]; omega
    · obtain rfl : k = m := by omega
      have hltI : ¬ (k : Int) < (k : Int) := by omega
      clear hlt
      go_wp2
      go_ret
      exact ⟨_, rfl, Lib.hid (Nw.pre ⟨HB.out, Nat.le_refl _, World.rowIs.congr HR.out fun j hj => by rw [if_pos hj]⟩ H1.out.1)⟩
end
end Go.Proofs.Ytepafgmiloncgaa
