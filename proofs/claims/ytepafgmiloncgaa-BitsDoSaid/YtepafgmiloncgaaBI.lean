/- Contracts: divide. -/
import Derived.Test.YtepafgmiloncgaaBH
import Derived.Test.YtepafgmiloncgaaME
import Derived.Deep.DeepCutAuto
import Derived.Deep.CutBlock
namespace Go.Proofs.Ytepafgmiloncgaa
open Go.RowKit Go.Lib Go.Maps
set_option maxRecDepth 100000

/-- Quotient and rest, as they are made. -/
structure DQ (w wc : World) (bq br n : Nat) : Prop where
  bel : Below w.heap.size w wc
  nq : w.heap.size ≤ bq
  nr : w.heap.size ≤ br
  q : wc.rowIs bq 3 n (fun _ => .int .i64 (0 : Nat))
  r : wc.rowIs br 3 n (fun j => .int .i64 ((bit 0 j).toNat : Nat))
  ne : bq ≠ br
theorem DQ.a {w w1 : World} {b1 n : Nat} (h : Nw (w.drew.alloc (.cells (madeCells #[.int .i64 0] n) 3)) w1 b1 n (fun j => (bit 0 j).toNat)) : DQ w w1 w.heap.size b1 n := by
  have hb : Below w.heap.size w (w.drew.alloc (.cells (madeCells #[.int .i64 0] n) 3)) := (Below.refl w.heap.size w).drew.alloc (Nat.le_refl _) _
  have hs : (w.drew.alloc (.cells (madeCells #[.int .i64 0] n) 3)).heap.size = w.heap.size + 1 := by simp
  have hn := h.new
  have r0 : (w.drew.alloc (.cells (madeCells #[.int .i64 0] n) 3)).rowIs w.heap.size 3 n (fun _ => .int .i64 (0 : Nat)) := World.rowIs_made w.drew (.int .i64 0) n 3
  exact ⟨hb.trans (h.bel.mono hb.size), Nat.le_refl _, by omega, r0.of_block (h.bel.block _ (by omega)), h.row, by omega⟩
theorem DQ.b {w w1 : World} {b1 n : Nat} (h : Nw w.drew w1 b1 n (fun j => (bit 0 j).toNat)) : DQ w (w1.alloc (.cells (madeCells #[.int .i64 0] n) 3)) w1.heap.size b1 n := by
  have hb : Below w.heap.size w w1 := (Below.refl w.heap.size w).drew.trans h.bel
  have hl := h.row.lt
  exact ⟨hb.alloc hb.size _, hb.size, h.new, World.rowIs_made w1 (.int .i64 0) n 3, h.row.of_block (Below.heap_alloc _ _ _ hl), by omega⟩
theorem slice_one (ba n p : Nat) (hp : p < n) (hn : n ≤ 16) (W : World) : (Instr.slice 26 (.slice (some ⟨ba, 0, none⟩) n n) (some (.int .i64 p)) (some (.int .i64 (p + 1))) none).run Try.prog W = .ok (.slice (some ⟨ba, p, none⟩) 1 (n - p)) W := by
  go_simp
  rw [if_pos (by omega), if_neg (by omega)]
section
variable {w w1 w2 : World} {G M b : Nat} {v iv v1 iv1 v2 iv2 : Value} {s s1 s2 : Gr} {f f' : Nat → Nat}
/-- divide: quotient and rest without signs. -/
def DivR (w : World) (G M : Nat) (v iv : Value) (s : Gr) (n : Nat) (A B : Nat → Nat) (e : Ending) (w' : World) : Prop :=
  ∃ (bq br : Nat) (fq fr : Nat → Nat) (v' iv' : Value) (t : Gr), e = .returned (.tuple #[.slice (some ⟨bq, 0, none⟩) n n, .slice (some ⟨br, 0, none⟩) n n]) ∧ Hid (GmT G M w v iv w' v' iv' t) ∧ Hid (Nv w w' (Bg G M v' iv') bq n fq) ∧ Hid (Nv w w' (Bg G M v' iv') br n fr) ∧ Hid (DS s t n A B n fq fr)
set_option maxHeartbeats 4000000 in
theorem divide_any (hG : Gm w G M v iv s) (hs : s.n ≤ 84000) {ba bb : Nat} {n : Nat} (hn : 1 ≤ n ∧ n ≤ 16) {A B : Nat → Nat} (ha : HasE w (Bg G M v iv) (some ⟨ba, 0, none⟩) n A) (hb : HasE w (Bg G M v iv) (some ⟨bb, 0, none⟩) n B) (hA : Vo s n A) (hB : Vo s n B) :
    Calls Try.prog 51 #[.pointer (some ⟨G, 0, none⟩), .slice (some ⟨ba, 0, none⟩) n n, .slice (some ⟨bb, 0, none⟩) n n] w (DivR w G M v iv s n A B) := by
  have hmk := fun W => make_ints n (by omega) W
  have HK := Lib.hid (const_nw 0 n hn)
  have HA := Lib.hid ha
  have HB := Lib.hid hb
  have HVA := Lib.hid hA
  have HVB := Lib.hid hB
  have HG := Lib.hid hG
  have HS0 := Lib.hid (DS.start hG.ok n A B (fun j => (bit 0 j).toNat) (fun j => by rw [bit_zero]; rfl))
  clear hG ha hb hA hB
  go_enter Try.func51, Try.ntmps51
  go_wp2
  go_cut [6, 7] (fun q r wc => ∃ bq br, q = .slice (some ⟨bq, 0, none⟩) n n ∧ r = .slice (some ⟨br, 0, none⟩) n n ∧ Hid (DQ w wc bq br n))
  case first =>
    go_region_with (go_at_call 23; refine (HK.out _).mono ?_; rintro e w1 ⟨b1, rfl, H1⟩)
    all_goals (go_wp2_with fail; go_meet)
    all_goals
      case rel => first | exact ⟨_, _, rfl, rfl, Lib.hid (DQ.a H1.out)⟩ | exact ⟨_, _, rfl, rfl, Lib.hid (DQ.b H1.out)⟩
  case rest =>
    obtain ⟨bq, br, rfl, rfl, HQ⟩ := hcut
    have HT0 := Lib.hid (HG.out.refl.below HQ.out.bel)
    have HNq := Lib.hid (show Nv w wc (Bg G M v iv) bq n (fun _ => 0) from ⟨HQ.out.nq, fun e => absurd (HG.out.lt e) (by have := HQ.out.nq; omega), HQ.out.q⟩)
    have HNr := Lib.hid (show Nv w wc (Bg G M v iv) br n (fun j => (bit 0 j).toNat) from ⟨HQ.out.nr, fun e => absurd (HG.out.lt e) (by have := HQ.out.nr; omega), HQ.out.r⟩)
    have HNE := Lib.hid HQ.out.ne
    clear HQ
    go_wp2
    go_loopw [7, 20] (fun r i wr => ∃ (k br : Nat) (fq fr : Nat → Nat) (v' iv' : Value) (t : Gr), k ≤ n ∧ r = .slice (some ⟨br, 0, none⟩) n n ∧ i = .int .i64 k ∧ Hid (GmT G M w v iv wr v' iv' t) ∧ Hid (Nv w wr (Bg G M v' iv') bq n fq) ∧ Hid (Nv w wr (Bg G M v' iv') br n fr ∧ bq ≠ br) ∧ Hid (DS s t n A B k fq fr)) (fun _ i _ => n - (intOf i).toNat)
    case atStart => exact ⟨0, br, fun _ => 0, fun j => (bit 0 j).toNat, v, iv, s, Nat.zero_le _, rfl, rfl, HT0, HNq, Lib.hid ⟨HNr.out, HNE.out⟩, HS0⟩
    case round =>
      obtain ⟨k, br, fq, fr, v', iv', t, hk, rfl, rfl, HT, Hq, Hr, HD⟩ := hrel
      by_cases hlt : k < n
      · have hltI : (k : Int) < (n : Int) := by omega
        obtain ⟨p, hp⟩ : ∃ p, p = n - 1 - k := ⟨_, rfl⟩
        have hp1 : p < n := by omega
        obtain ⟨m, hm⟩ : ∃ m, m = n - 1 := ⟨_, rfl⟩
        have hmI : (n : Int) - 1 = (m : Int) := by omega
        have hpI : (m : Int) - (k : Int) = (p : Int) := by omega
        have hp2 : p + 1 ≤ n := by omega
        have hw1 : IntKind.i64.wrap ((p : Int) + 1) = (p : Int) + 1 := IntWalk.i64_in _ (by omega)
        have hw3 : IntKind.i64.wrap (m : Int) = (m : Int) := IntWalk.i64_in _ (by omega)
        have hs1 : (0 : Int) ≤ (p : Int) + 1 := by omega
        have hs2 : (p : Int) + 1 ≤ (n : Int) := by omega
        have hs4 : ¬ n = p := by omega
        have hm1 : (m : Int) ≤ (n : Int) := by omega
        have hm2 : m ≤ n := by omega
        have htn : t.n ≤ 84000 + 2560 := by
          have h1 := HD.out.lay.n
          have h2 : 10 * n * k ≤ 10 * 16 * 16 := Nat.mul_le_mul (by omega) (by omega)
          omega
        obtain ⟨fr', hfr'⟩ : ∃ fr' : Nat → Nat, fr' = ahd (fun j => A (p + j)) fr := ⟨_, rfl⟩
        have HV' := Lib.hid (show Vo t n fr' from fun j hj => by
          rw [hfr']; unfold ahd
          split
          · exact HD.out.lay.lt (HVA.out _ (by omega))
          · exact HD.out.vor _ (by omega))
        have HFR := Lib.hid (show fr' 0 = A p ∧ ∀ j, j + 1 < n → fr' (j + 1) = fr j from by rw [hfr']; exact ⟨by simp [ahd], fun j _ => by simp [ahd]⟩)
        have hbW : Below wr.heap.size wr (wr.drew.alloc (.cells #[.slice (some ⟨ba, p, none⟩) 1 (n - p), .slice (some ⟨br, 0, none⟩) m n] 26)) := (Below.refl wr.heap.size wr).drew.alloc (Nat.le_refl _) _
        have HA' := HA.out.next HT.out
        have HC56 := Lib.hid (show Calls Try.prog 56 #[.slice (some ⟨wr.heap.size, 0, none⟩) 2 2] (wr.drew.alloc (.cells #[.slice (some ⟨ba, p, none⟩) 1 (n - p), .slice (some ⟨br, 0, none⟩) m n] 26)) fun e w1 => ∃ a' c', e = .returned (.slice a' n c') ∧ Hid (GmT G M w v iv w1 v' iv' t ∧ HasE w1 (Bg G M v' iv') a' n fr' ∧ Nv w w1 (Bg G M v' iv') bq n fq) from by
          rcases HA' with e | ⟨b', o', e', hlt', hnb', hc'⟩
          · omega
          cases e'
          have t2 := two_at wr.drew wr.heap.size (x := .slice (some ⟨ba, p, none⟩) 1 (n - p)) (y := .slice (some ⟨br, 0, none⟩) m n) (t := 26) (w' := wr.drew.alloc (.cells #[.slice (some ⟨ba, p, none⟩) 1 (n - p), .slice (some ⟨br, 0, none⟩) m n] 26)) rfl rfl
          have t20 := t2 0 _ rfl
          have t21 := t2 1 _ rfl
          rw [adr, Nat.zero_add] at t20 t21
          have hsz : (wr.drew.alloc (.cells #[.slice (some ⟨ba, p, none⟩) 1 (n - p), .slice (some ⟨br, 0, none⟩) m n] 26)).heap.size = wr.heap.size + 1 := by simp
          have P1 : Part wr (.slice (some ⟨ba, p, none⟩) 1 (n - p)) ba p 1 (n - p) (fun j => A (p + j)) := ⟨rfl, hlt', fun j hj => by have := hc' (p + j) (by omega); rw [Nat.zero_add] at this; exact this⟩
          have P2 : Part wr (.slice (some ⟨br, 0, none⟩) m n) br 0 m n fr := ⟨rfl, Hr.out.1.row.lt, fun j hj => by rw [Nat.zero_add]; exact Hr.out.1.row.cell (by omega)⟩
          have := concat_two (cc := 2) (by omega) (by omega) t20 t21 (P1.below hbW) (P2.below hbW)
          rw [show 1 + m = n by omega, ← hfr'] at this
          refine this.mono fun e w1 ⟨a', c', he, F⟩ => ⟨a', c', he, Lib.hid ?_⟩
          have hb1 : Below wr.heap.size wr w1 := hbW.trans (F.out.bel.mono hbW.size)
          refine ⟨HT.out.below hb1, ?_, Hq.out.below hb1⟩
          obtain ⟨g0, c0, e0, _, _, hl0⟩ := F.out.own.pos (by omega)
          cases e0
          have hnew := F.out.new g0 rfl
          exact .inr ⟨g0, 0, rfl, hl0, fun e => absurd (HT.out.gm.lt e) (by omega), fun j hj => by rw [Nat.zero_add]; exact F.out.own.cell (by omega)⟩)
        have HMin := Lib.hid (show ∀ w1 a' c', GmT G M w v iv w1 v' iv' t ∧ HasE w1 (Bg G M v' iv') a' n fr' ∧ Nv w w1 (Bg G M v' iv') bq n fq → Calls Try.prog 50 #[.pointer (some ⟨G, 0, none⟩), .slice a' n c', .slice (some ⟨bb, 0, none⟩) n n] w1 fun e w2 => ∃ (b3 cy : Nat) (f3 : Nat → Nat) (v3 iv3 : Value) (t3 : Gr), e = .returned (.tuple #[.slice (some ⟨b3, 0, none⟩) n n, .int .i64 (cy : Nat)]) ∧ Hid (GmT G M w v iv w2 v3 iv3 t3 ∧ HasE w2 (Bg G M v3 iv3) a' n fr' ∧ Nv w w2 (Bg G M v3 iv3) bq n fq ∧ Nv w w2 (Bg G M v3 iv3) b3 n f3 ∧ SumIs t t3 (7 * n) n f3 cy (fun I => un (bv I t fr') n + un (fun j => !bv I t B j) n + 1)) from fun w1 a' c' ⟨T, E, Q⟩ => by
          have := minus_any (c1 := c') (c2 := n) T.gm (by omega) (by omega) E (HB.out.next T) HV'.out (HVB.out.lay HD.out.lay)
          exact this.mono fun e w2 ⟨b3, cy, f3, v3, iv3, t3, he, T3, N3, S3⟩ => ⟨b3, cy, f3, v3, iv3, t3, he, Lib.hid ⟨T.trans T3.out, E.next T3.out, Q.next T3.out, N3.out.pre T.fr.size, S3.out⟩⟩)
        have HMux := Lib.hid (show ∀ w2 a' c' b3 cy f3 v3 iv3 t3, GmT G M w v iv w2 v3 iv3 t3 ∧ HasE w2 (Bg G M v3 iv3) a' n fr' ∧ Nv w w2 (Bg G M v3 iv3) bq n fq ∧ Nv w w2 (Bg G M v3 iv3) b3 n f3 ∧ SumIs t t3 (7 * n) n f3 cy (fun I => un (bv I t fr') n + un (fun j => !bv I t B j) n + 1) → Calls Try.prog 28 #[.pointer (some ⟨G, 0, none⟩), .int .i64 (cy : Nat), .slice (some ⟨b3, 0, none⟩) n n, .slice a' n c'] w2 fun e w3 => ∃ (b4 : Nat) (f4 : Nat → Nat) (v4 iv4 : Value) (t4 : Gr), e = .returned (.slice (some ⟨b4, 0, none⟩) n n) ∧ w3.cell? ⟨bq, p, none⟩ = some (.int .i64 (fq p : Nat)) ∧ w3.frozen? ⟨bq, p, none⟩ = false ∧ Hid (GmT G M w v iv (w3.setCell ⟨bq, p, none⟩ (.int .i64 (cy : Nat))) v4 iv4 t4) ∧ Hid (Nv w (w3.setCell ⟨bq, p, none⟩ (.int .i64 (cy : Nat))) (Bg G M v4 iv4) bq n (fun j => if j = p then cy else fq j)) ∧ Hid (Nv w (w3.setCell ⟨bq, p, none⟩ (.int .i64 (cy : Nat))) (Bg G M v4 iv4) b4 n f4 ∧ bq ≠ b4) ∧ Hid (DS s t4 n A B (k + 1) (fun j => if j = p then cy else fq j) f4) from fun w2 a' c' b3 cy f3 v3 iv3 t3 ⟨T, E, Q, N3, S⟩ => by
          have := muxv_any T.gm (by have := S.lay.n; omega) (N3.has.vc hn n) (E.vc hn c') S.vo (HV'.out.lay S.lay) S.lt
          rw [Nat.max_self] at this
          refine this.mono fun e w3 ⟨b4, f4, v4, iv4, t4, he, T4, N4, U4⟩ => ?_
          have QQ := Q.next T4.out
          have hne : bq ≠ b4 := by have := Q.row.lt; have := N4.out.new; omega
          have NN : Nv w w3 (Bg G M v4 iv4) b4 n f4 := N4.out.pre T.fr.size
          exact ⟨b4, f4, v4, iv4, t4, he, QQ.row.cell hp1, QQ.row.frozen p, Lib.hid ((T.trans T4.out).setNew (p := ⟨bq, p, none⟩) QQ.nb QQ.new _), Lib.hid (QQ.set p cy), Lib.hid ⟨⟨NN.new, NN.nb, NN.row.of_block (Below.heap_setCell _ _ _ _ fun e => hne e.symm)⟩, hne⟩, Lib.hid (HD.out.step hlt hp HVA.out HVB.out HFR.out.1 HFR.out.2 HV'.out S U4.out)⟩)
        have HP := Lib.hid hp
        have HM := Lib.hid hm
        clear hp hm hfr' hbW HA' htn
        go_wp2
        go_still_tail 9, (by kernel_rfl)
        change wpList _ _ _ _ _ wr.drew
        go_wp2_with (first
          | (go_at_call 56; refine HC56.out.mono ?_; rintro e w1 ⟨a', c', rfl, H1⟩)
          | (go_at_call 50; refine (HMin.out _ _ _ H1.out).mono ?_; rintro e w2 ⟨b3, cy, f3, v3, iv3, t3, rfl, H2⟩)
          | (go_at_call 28; refine (HMux.out _ _ _ _ _ _ _ _ _ H2.out).mono ?_; rintro e w3 ⟨b4, f4, v4, iv4, t4, rfl, y1, y2, T4, Q4, N4, D4⟩))
        go_roundw
        case rel => exact ⟨k + 1, b4, _, f4, v4, iv4, t4, by omega, rfl, by go_num, T4, Q4, N4, D4⟩
        case measure => simp [intOf]; omega
      · obtain rfl : k = n := by omega
        have hltI : ¬ (k : Int) < (k : Int) := by omega
        clear hlt
        go_wp2
        go_ret2
        exact ⟨_, _, fq, fr, v', iv', t, rfl, HT, Hq, Lib.hid Hr.out.1, HD⟩
end
end Go.Proofs.Ytepafgmiloncgaa
