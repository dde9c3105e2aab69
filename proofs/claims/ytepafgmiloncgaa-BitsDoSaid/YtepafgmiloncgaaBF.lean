/- Contracts: Mux, negateIf, magnitude. -/
import Derived.Test.YtepafgmiloncgaaBE
namespace Go.Proofs.Ytepafgmiloncgaa
open Go.RowKit Go.Lib Go.Maps
set_option maxRecDepth 100000

section
variable {w w1 w2 : World} {G M b : Nat} {v iv v1 iv1 v2 iv2 : Value} {s s1 s2 : Gr} {f f' : Nat → Nat}
set_option maxHeartbeats 2000000 in
/-- Mux -/
theorem muxv_any (hG : Gm w G M v iv s) (hs : s.n ≤ 87000) {va vb : Value} {n m : Nat} {g h : Nat → Nat} (ha : Vc w (Bg G M v iv) va n g) (hb : Vc w (Bg G M v iv) vb m h) (hg : Vo s n g) (hh : Vo s m h) {c : Nat} (hc : c < 2 * (s.n + 1)) :
    Calls Try.prog 28 #[.pointer (some ⟨G, 0, none⟩), .int .i64 (c : Nat), va, vb] w (NuR w G M v iv s (3 * max n m) (max n m) (fun I => if val I s c then num I s g n else num I s h m)) := by
  have hn := ha.len
  have hm := hb.len
  have HL := Lib.hid (level_any ha.weak hb.weak)
  unfold LevR at HL
  obtain ⟨N, hN⟩ : ∃ N, N = max n m := ⟨_, rfl⟩
  rw [← hN] at HL ⊢
  have hN1 : 1 ≤ N ∧ N ≤ 16 := by omega
  have hmk := fun W => make_ints N (by omega) W
  obtain ⟨A, hA⟩ : ∃ A, A = extv n g := ⟨_, rfl⟩
  obtain ⟨B, hB⟩ : ∃ B, B = extv m h := ⟨_, rfl⟩
  rw [← hA, ← hB] at HL
  have HA := Lib.hid (show Vo s N A by rw [hA]; exact hg.ext (by omega))
  have HB := Lib.hid (show Vo s N B by rw [hB]; exact hh.ext (by omega))
  have HF := Lib.hid (show ∀ t f, MS s t N A B c N f → Nu s t (3 * N) N f (fun I => if val I s c then num I s g n else num I s h m) from fun t f P => P.nu.congr fun I => by rw [hA, hB, num_up (by omega) (by omega), num_up (by omega) (by omega)])
  have HC := Lib.hid hc
  have HG := Lib.hid hG
  have HM0 := Lib.hid (MS.start hG.ok N A B c)
  clear hG ha hb hg hh hN hA hB hc
  go_enter Try.func28, Try.ntmps28
  go_wp2_with (go_at_call 39; refine HL.out.mono ?_; rintro e w1 ⟨b1, b2, rfl, H1⟩)
  have HT0 := Lib.hid ((HG.out.refl.below H1.out.1.bel).below ((Below.refl w1.heap.size w1).alloc (Nat.le_refl _) (.cells (madeCells #[.int .i64 0] N) 3)))
  have HN0 := Lib.hid (show Nv w (w1.alloc (.cells (madeCells #[.int .i64 0] N) 3)) (Bg G M v iv) w1.heap.size N (fun _ => 0) from ⟨H1.out.1.bel.size, fun e => absurd (HG.out.lt e) (by have := H1.out.1.bel.size; omega), World.rowIs_made w1 (.int .i64 0) N 3⟩)
  have HV1 := Lib.hid (((H1.out.1.nv HG.out).below ((Below.refl w1.heap.size w1).alloc (Nat.le_refl _) (.cells (madeCells #[.int .i64 0] N) 3))))
  have HV2 := Lib.hid (((H1.out.2.1.nv HG.out).below ((Below.refl w1.heap.size w1).alloc (Nat.le_refl _) (.cells (madeCells #[.int .i64 0] N) 3))))
  have HNE := Lib.hid (show b1 ≠ w1.heap.size ∧ b2 ≠ w1.heap.size from ⟨Nat.ne_of_lt H1.out.1.row.lt, Nat.ne_of_lt H1.out.2.1.row.lt⟩)
  generalize w1.heap.size = b0 at *
  go_loopw [22] (fun i wr => ∃ (k : Nat) (f : Nat → Nat) (v' iv' : Value) (t : Gr), k ≤ N ∧ i = .int .i64 k ∧ Hid (GmT G M w v iv wr v' iv' t) ∧ Hid (Nv w wr (Bg G M v' iv') b0 N f) ∧ Hid (MS s t N A B c k f) ∧ Hid (Nv w wr (Bg G M v' iv') b1 N A) ∧ Hid (Nv w wr (Bg G M v' iv') b2 N B)) (fun i _ => N - (intOf i).toNat)
  case atStart => exact ⟨0, fun _ => 0, v, iv, s, Nat.zero_le _, rfl, HT0, HN0, HM0, HV1, HV2⟩
  case round =>
    obtain ⟨k, f, v', iv', t, hk, rfl, HT, HN, HM, HX, HY⟩ := hrel
    by_cases hlt : k < N
    · have hltI : (k : Int) < (N : Int) := by omega
      have htn := HM.out.lay.n
      have x1 := HX.out.row.cell hlt
      have x2 := HY.out.row.cell hlt
      have y1 := HN.out.row.cell hlt
      have y2 := HN.out.row.frozen k
      have HTd := Lib.hid (HT.out.below (Below.refl _ wr).drew)
      have HMux := Lib.hid (show Calls Try.prog 48 #[.pointer (some ⟨G, 0, none⟩), .int .i64 (c : Nat), .int .i64 (A k : Nat), .int .i64 (B k : Nat)] wr.drew fun e w3 => ∃ (r : Nat) (v3 iv3 : Value) (t3 : Gr), e = .returned (.int .i64 (r : Nat)) ∧ w3.cell? ⟨b0, k, none⟩ = some (.int .i64 (f k : Nat)) ∧ w3.frozen? ⟨b0, k, none⟩ = false ∧ Hid (GmT G M w v iv (w3.setCell ⟨b0, k, none⟩ (.int .i64 (r : Nat))) v3 iv3 t3) ∧ Hid (Nv w (w3.setCell ⟨b0, k, none⟩ (.int .i64 (r : Nat))) (Bg G M v3 iv3) b0 N (fun j => if j = k then r else f j)) ∧ Hid (MS s t3 N A B c (k + 1) (fun j => if j = k then r else f j)) ∧ Hid (Nv w (w3.setCell ⟨b0, k, none⟩ (.int .i64 (r : Nat))) (Bg G M v3 iv3) b1 N A) ∧ Hid (Nv w (w3.setCell ⟨b0, k, none⟩ (.int .i64 (r : Nat))) (Bg G M v3 iv3) b2 N B) from by
        have hm := mux_rel HTd.out.gm (by omega) (HM.out.lay.lt HC.out) (HM.out.lay.lt (HA.out k hlt)) (HM.out.lay.lt (HB.out k hlt))
        refine hm.mono fun e w3 ⟨r, v3, iv3, t3, he, T, E⟩ => ?_
        have NN := (HN.out.below (Below.refl _ wr).drew).next T.out
        have N1 := (HX.out.below (Below.refl _ wr).drew).next T.out
        have N2 := (HY.out.below (Below.refl _ wr).drew).next T.out
        have TT := HTd.out.trans T.out
        exact ⟨r, v3, iv3, t3, he, NN.row.cell hlt, NN.row.frozen k, Lib.hid (TT.setNew (p := ⟨b0, k, none⟩) NN.nb NN.new _), Lib.hid (NN.set k r), Lib.hid (HM.out.step hlt HA.out HB.out HC.out E.out), Lib.hid ⟨N1.new, N1.nb, N1.row.of_block (Below.heap_setCell _ _ _ _ HNE.out.1)⟩, Lib.hid ⟨N2.new, N2.nb, N2.row.of_block (Below.heap_setCell _ _ _ _ HNE.out.2)⟩⟩)
      clear htn
      generalize A k = ak at *
      generalize B k = bk at *
      go_wp2
      go_region_with (go_at_call 48; refine HMux.out.mono ?_; rintro e w3 ⟨r, v3, iv3, t3, rfl, z1, z2, T3, N3, M3, X3, Y3⟩)
      all_goals
        go_wp2
        go_roundw
        case rel => exact ⟨k + 1, _, v3, iv3, t3, by omega, by go_num, T3, N3, M3, X3, Y3⟩
        case measure => simp [intOf]; omega
    · obtain rfl : k = N := by omega
      have hltI : ¬ (k : Int) < (k : Int) := by omega
      clear hlt
      go_wp2
      go_ret
      exact ⟨_, f, v', iv', t, rfl, HT, HN, Lib.hid (HF.out _ _ HM.out)⟩
end
end Go.Proofs.Ytepafgmiloncgaa
