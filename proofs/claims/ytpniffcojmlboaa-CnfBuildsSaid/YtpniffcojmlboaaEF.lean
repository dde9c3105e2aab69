/- The laws' helpers: told. -/
import Derived.Test.YtpniffcojmlboaaED
namespace Go.Proofs.Ytpniffcojmlboaa
open Go.RowKit Go.Lib Go.Maps
set_option maxRecDepth 100000

/-- The answers' graph, come since w. -/
structure Tl (w w' : World) (T : Nat) (tv : Value) (s : Gr) : Prop where
  rg : Rg w' T tv s
  bel : Below w.heap.size w w'
  new : ∀ b, (b = T ∨ tv.ownBlock = some b) → w.heap.size ≤ b
variable {w wr w' : World} {G M T : Nat} {v iv tv tv' : Value} {s : Gr}
theorem Tl.below (h : Tl w wr T tv s) (hb : Below wr.heap.size wr w') : Tl w w' T tv s :=
  ⟨h.rg.of_block fun b e => hb.block b (h.rg.lt e), h.bel.trans (hb.mono h.bel.size), h.new⟩
theorem Tl.next {s' : Gr} (h : Tl w wr T tv s) (k : RgT T wr tv w' tv' s') : Tl w w' T tv' s' :=
  ⟨k.rg, h.bel.trans (k.fr.below h.bel.size fun b e => h.new b e), fun b e => e.elim (fun e => h.new b (.inl e)) fun e => (k.own b e).elim (fun e => h.new b (.inr e)) fun e => by have := h.bel.size; omega⟩
theorem add_pre (s : Gr) (k : Nat) : Gr.add ⟨k, s.L⟩ (s.L k) = ⟨k + 1, s.L⟩ := by
  unfold Gr.add
  congr 1
  funext i
  show (if i = k then _ else _) = _
  split
  · next e => rw [e]
  · rfl
theorem RgM.tonext {k : Nat} {x : Option (Nat × Nat)} (h : RgM T wr tv w' tv' (Gr.add ⟨k, s.L⟩ x)) (hx : s.L k = x) : RgM T wr tv w' tv' ⟨k + 1, s.L⟩ := by subst hx; rwa [add_pre] at h
set_option maxHeartbeats 4000000 in
/-- told -/
theorem told_any (h : Gm w G M v iv s) (hn : s.n ≤ 400) : Calls Try.prog 8 #[.pointer (some ⟨G, 0, none⟩)] w fun e w' => ∃ T tv, e = .returned (.pointer (some ⟨T, 0, none⟩)) ∧ Hid (Tl w w' T tv s) := by
  have H := Lib.hid h
  have hT0 : Tl w (w.alloc (.cells #[.slice none 0 0] 60)) w.heap.size (.slice none 0 0) ⟨0, s.L⟩ := by
    refine ⟨⟨World.rowIs_alloc w #[.slice none 0 0] 60 (fun _ => .slice none 0 0) (fun i hi => ?_), Sl.nil, fun e => by cases e⟩, (Below.refl _ w).alloc (Nat.le_refl _) _, fun b e => ?_⟩
    · obtain rfl : i = 0 := by simp at hi; omega
      rfl
    · rcases e with rfl | e
      · exact Nat.le_refl _
      · cases e
  have HT0 := Lib.hid hT0
  clear hT0 h
  go_enter Try.func8, Try.ntmps8
  go_wp2
  go_loopw [4] (fun i wr => ∃ (k : Nat) (tv : Value), k ≤ s.n ∧ i = .int .i64 ((k : Int) + 1) ∧ Hid (Tl w wr w.heap.size tv ⟨k, s.L⟩)) (fun i _ => s.n + 1 - (intOf i).toNat)
  case atStart => exact ⟨0, _, Nat.zero_le _, rfl, HT0⟩
  case round =>
    obtain ⟨k, tv, hk, rfl, HR⟩ := hrel
    have hgm := H.out.below HR.out.bel
    have HNo := Lib.hid (nodes_any hgm (by omega))
    by_cases hlt : k < s.n
    · have hltI : (k : Int) + 1 < (s.n : Int) + 1 := by omega
      have hN := node_any hgm (by omega) ((k : Int) + 1) (by omega)
      rw [show ((k : Int) + 1) = ((k + 1 : Nat) : Int) from rfl, ndO_nat s (by omega), show nd s (k + 1) = s.L k by simp [nd]] at hN
      have hok := hgm.ok k hlt
      have h5 : ¬ (500 : Int) < (k : Int) + 1 := by omega
      have HSH := Lib.hid (show ∀ w2, Below wr.heap.size wr w2 → (∃ a c, tv = .slice a k c) ∧ w2.cell? ⟨w.heap.size, 0, none⟩ = some tv ∧ Hid (Rg w2 w.heap.size tv ⟨k, s.L⟩) from fun w2 hb => by
        obtain ⟨a, c, e, _⟩ := HR.out.rg.sl.shape
        exact ⟨⟨a, c, e⟩, (HR.out.below hb).rg.hd.cell (i := 0) (by omega), Lib.hid (HR.out.below hb).rg⟩)
      clear hgm
      cases hx : s.L k with
      | none =>
        rw [hx, show ndT none = .tuple #[.int .i64 0, .int .i64 0, .bool false] from rfl] at hN
        have HN := Lib.hid hN
        have HX := Lib.hid hx
        clear hN hok hx
        go_wp2_with (first
          | (go_at_call 30; refine HNo.out.mono ?_; rintro e w1 ⟨rfl, rfl⟩)
          | (go_at_call 21; refine HN.out.mono ?_; rintro e w2 ⟨rfl, hb2⟩; obtain ⟨⟨al, cl, rfl⟩, x2, HRg⟩ := HSH.out _ hb2; have HB2 := Lib.hid hb2; clear hb2)
          | (at_builtin; refine Rg.app HRg none (by show k ≤ _; omega) rfl rfl _ _ rfl rfl rfl ?_; intro a3 c3 w3 q1; have x3 := q1.out.hd.cell (i := 0) (by omega); have f3 := q1.out.hd.frozen 0; have H3 := Lib.hid ((HR.out.below HB2.out).next (q1.out.tonext HX.out).store); clear q1))
        go_roundw
        case rel => exact ⟨k + 1, _, by omega, by go_num, H3⟩
        case measure => simp [intOf]; omega
      | some p =>
        obtain ⟨a, b⟩ := p
        obtain ⟨o1, o2, o3, _⟩ := hok a b hx
        rw [hx, show ndT (some (a, b)) = .tuple #[.int .i64 a, .int .i64 b, .bool true] from rfl] at hN
        have HN := Lib.hid hN
        have HX := Lib.hid hx
        have d1 : ((a : Int)).tdiv 2 = ((a / 2 : Nat) : Int) := by rw [Int.tdiv_eq_ediv_of_nonneg (by omega)]; omega
        have d2 : ((b : Int)).tdiv 2 = ((b / 2 : Nat) : Int) := by rw [Int.tdiv_eq_ediv_of_nonneg (by omega)]; omega
        have d3 : (a : Int) / 2 = ((a / 2 : Nat) : Int) := by omega
        have d4 : (b : Int) / 2 = ((b / 2 : Nat) : Int) := by omega
        have k1 : ¬ ((k : Int) + 1 ≤ ((a / 2 : Nat) : Int)) := by omega
        have k2 : ¬ ((k : Int) + 1 ≤ ((b / 2 : Nat) : Int)) := by omega
        have k3 : ¬ (a : Int) < 0 := by omega
        have k4 : ¬ (b : Int) < 0 := by omega
        have kb : a ≤ 1000 ∧ b ≤ 1000 := by omega
        obtain ⟨kb1, kb2⟩ := kb
        have kb3 : a / 2 ≤ 1000 := by omega
        have kb4 : b / 2 ≤ 1000 := by omega
        clear hN hok hx o1 o2 o3
        generalize a / 2 = ua at *
        generalize b / 2 = ub at *
        go_wp2_with (first
          | (go_at_call 30; refine HNo.out.mono ?_; rintro e w1 ⟨rfl, rfl⟩)
          | (go_at_call 21; refine HN.out.mono ?_; rintro e w2 ⟨rfl, hb2⟩; obtain ⟨⟨al, cl, rfl⟩, x2, HRg⟩ := HSH.out _ hb2; have HB2 := Lib.hid hb2; clear hb2)
          | (at_builtin; refine Rg.app HRg (some (a, b)) (by show k ≤ _; omega) rfl rfl _ _ rfl rfl rfl ?_; intro a3 c3 w3 q1; have x3 := q1.out.hd.cell (i := 0) (by omega); have f3 := q1.out.hd.frozen 0; have H3 := Lib.hid ((HR.out.below HB2.out).next (q1.out.tonext HX.out).store); clear q1))
        go_roundw
        case rel => exact ⟨k + 1, _, by omega, by go_num, H3⟩
        case measure => simp [intOf]; omega
    · obtain ⟨nn, rfl⟩ : ∃ nn, nn = k := ⟨k, rfl⟩
      have hkn : nn = s.n := by omega
      have hltI : ¬ (nn : Int) + 1 < (s.n : Int) + 1 := by omega
      have HF := Lib.hid (show Tl w wr w.heap.size tv s by have := HR.out; rw [hkn] at this; exact this)
      clear hlt hgm hkn
      go_wp2_with (go_at_call 30; refine HNo.out.mono ?_; rintro e w1 ⟨rfl, rfl⟩)
      go_ret
      exact ⟨_, _, rfl, HF⟩
end Go.Proofs.Ytpniffcojmlboaa
