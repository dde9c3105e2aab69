/- Contracts: Less. -/
import Derived.Test.YtepafgmiloncgaaBL
namespace Go.Proofs.Ytepafgmiloncgaa
open Go.RowKit Go.Lib Go.Maps
set_option maxRecDepth 100000

section
variable {w w1 w2 : World} {G M b : Nat} {v iv v1 iv1 v2 iv2 : Value} {s s1 s2 : Gr} {f f' : Nat → Nat}
/-- The two vectors behind the swap. -/
theorem swap_nw {w wd : World} {b1 b2 N : Nat} {A B : Nat → Nat} (h1 : Nw w wd b1 N A) (h2 : Nw w wd b2 N B) (hne : b1 ≠ b2) (p : Nat) (hp : p = N - 1) :
    Nw w ((wd.setCell ⟨b1, p, none⟩ (.int .i64 (B p : Nat))).setCell ⟨b2, p, none⟩ (.int .i64 (A p : Nat))) b1 N (swp N A B) ∧ Nw w ((wd.setCell ⟨b1, p, none⟩ (.int .i64 (B p : Nat))).setCell ⟨b2, p, none⟩ (.int .i64 (A p : Nat))) b2 N (swp N B A) := by
  have r1 := h1.row.set p (.int .i64 (B p : Nat))
  have r2 : (wd.setCell ⟨b1, p, none⟩ (.int .i64 (B p : Nat))).rowIs b2 3 N (fun j => .int .i64 (B j : Nat)) := h2.row.of_block (Below.heap_setCell _ _ _ _ fun e => hne e.symm)
  have r1' : ((wd.setCell ⟨b1, p, none⟩ (.int .i64 (B p : Nat))).setCell ⟨b2, p, none⟩ (.int .i64 (A p : Nat))).rowIs b1 3 N (fun j => if j = p then .int .i64 (B p : Nat) else .int .i64 (A j : Nat)) := r1.of_block (Below.heap_setCell _ _ _ _ hne)
  have r2' := r2.set p (.int .i64 (A p : Nat))
  have hb : Below w.heap.size w ((wd.setCell ⟨b1, p, none⟩ (.int .i64 (B p : Nat))).setCell ⟨b2, p, none⟩ (.int .i64 (A p : Nat))) := (h1.bel.setCell (p := ⟨b1, p, none⟩) h1.new _).setCell (p := ⟨b2, p, none⟩) h2.new _
  refine ⟨⟨hb, h1.new, World.rowIs.congr r1' fun j hj => ?_⟩, ⟨hb, h2.new, World.rowIs.congr r2' fun j hj => ?_⟩⟩
  · unfold swp; rw [← hp]; by_cases e : j = p
    · subst e; simp
    · rw [if_neg e, if_neg e]
  · unfold swp; rw [← hp]; by_cases e : j = p
    · subst e; simp
    · rw [if_neg e, if_neg e]
set_option maxHeartbeats 4000000 in
/-- Less -/
theorem less_any (hG : Gm w G M v iv s) (hs : s.n ≤ 86000) {va vb : Value} {n m : Nat} {g h : Nat → Nat} (ha : Vc w (Bg G M v iv) va n g) (hb : Vc w (Bg G M v iv) vb m h) (hg : Vo s n g) (hh : Vo s m h) :
    Calls Try.prog 21 #[.pointer (some ⟨G, 0, none⟩), va, vb] w (LayE w G M v iv s 64 (fun I => decide (num I s g n < num I s h m))) := by
  have hn := ha.len
  have hm := hb.len
  have HL := Lib.hid (level_any ha.weak hb.weak)
  unfold LevR at HL
  obtain ⟨N, hN⟩ : ∃ N, N = max n m := ⟨_, rfl⟩
  rw [← hN] at HL
  have hN1 : 1 ≤ N ∧ N ≤ 16 := by omega
  obtain ⟨A, hA⟩ : ∃ A, A = extv n g := ⟨_, rfl⟩
  obtain ⟨B, hB⟩ : ∃ B, B = extv m h := ⟨_, rfl⟩
  rw [← hA, ← hB] at HL
  have hA1 : Vo s N A := by rw [hA]; exact hg.ext (by omega)
  have hB1 : Vo s N B := by rw [hB]; exact hh.ext (by omega)
  have HE := Lib.hid (show ∀ I, num I s A N = num I s g n ∧ num I s B N = num I s h m from fun I => by rw [hA, hB]; exact ⟨num_up (by omega) (by omega) I, num_up (by omega) (by omega) I⟩)
  have HG := Lib.hid hG
  obtain ⟨A', hA'⟩ : ∃ A', A' = swp N A B := ⟨_, rfl⟩
  obtain ⟨B', hB'⟩ : ∃ B', B' = swp N B A := ⟨_, rfl⟩
  have HA := Lib.hid (show Vo s N A' by
    rw [hA']; intro j hj; unfold swp; split
    · exact hB1 j hj
    · exact hA1 j hj)
  have HB := Lib.hid (show Vo s N B' by
    rw [hB']; intro j hj; unfold swp; split
    · exact hA1 j hj
    · exact hB1 j hj)
  have HF := Lib.hid (show ∀ t r, LeS s t A' B' N r → ∀ I, val I t r = decide (num I s g n < num I s h m) from fun t r P I => by
    rw [hA', hB'] at P
    rw [P.fin (by omega) I, (HE.out I).1, (HE.out I).2])
  have HS0 := Lib.hid (LeS.start hG.ok A' B')
  obtain ⟨p, hp⟩ : ∃ p, p = N - 1 := ⟨_, rfl⟩
  have HSW := Lib.hid (show ∀ w1 b1 b2, Nw w w1 b1 N A ∧ Nw w w1 b2 N B ∧ b1 < b2 →
      w1.cell? ⟨b1, p, none⟩ = some (.int .i64 (A p : Nat)) ∧ w1.cell? ⟨b2, p, none⟩ = some (.int .i64 (B p : Nat)) ∧ w1.frozen? ⟨b1, p, none⟩ = false ∧ w1.frozen? ⟨b2, p, none⟩ = false ∧ b1 ≠ b2 ∧
      Hid (Nw w ((w1.drew.setCell ⟨b1, p, none⟩ (.int .i64 (B p : Nat))).setCell ⟨b2, p, none⟩ (.int .i64 (A p : Nat))) b1 N A' ∧ Nw w ((w1.drew.setCell ⟨b1, p, none⟩ (.int .i64 (B p : Nat))).setCell ⟨b2, p, none⟩ (.int .i64 (A p : Nat))) b2 N B') from fun w1 b1 b2 ⟨h1, h2, hlt⟩ => by
    have hpN : p < N := by omega
    have hd : Below w1.heap.size w1 w1.drew := (Below.refl _ w1).drew
    have := swap_nw (h1.below hd) (h2.below hd) (Nat.ne_of_lt hlt) p hp
    rw [← hA', ← hB'] at this
    exact ⟨h1.row.cell hpN, h2.row.cell hpN, h1.row.frozen p, h2.row.frozen p, Nat.ne_of_lt hlt, Lib.hid this⟩)
  have hpI : (N : Int) - 1 = (p : Int) := by omega
  have hpN : p < N := by omega
  have hpNI : (p : Int) < (N : Int) := by omega
  clear hG ha hb hg hh hN hA hB hA1 hB1 hA' hB' hp
  go_enter Try.func21, Try.ntmps21
  go_wp2_with fail
  refine HL.out.mono ?_; rintro e w1 ⟨b1, b2, rfl, H1⟩
  clear HL
  obtain ⟨c1, c2, f1, f2, hne, HN2⟩ := HSW.out _ _ _ H1.out
  have c1d : (w1.drew).cell? ⟨b1, p, none⟩ = some (.int .i64 (A p : Nat)) := c1
  have c2d : (w1.drew).cell? ⟨b2, p, none⟩ = some (.int .i64 (B p : Nat)) := c2
  have cS : (w1.drew.setCell ⟨b1, p, none⟩ (.int .i64 (B p : Nat))).cell? ⟨b2, p, none⟩ = some (.int .i64 (B p : Nat)) := (World.cell?_of_block (Below.heap_setCell _ _ _ _ fun e => hne e.symm)).trans c2d
  clear HSW
  generalize A p = ap at *
  generalize B p = bp at *
  have T1 := Lib.hid (HG.out.refl.below HN2.out.1.bel)
  have XA1 := Lib.hid (HN2.out.1.nv HG.out)
  have XB1 := Lib.hid (HN2.out.2.nv HG.out)
  clear H1 HN2
  go_wp2_with fail
  go_region
  go_wp2_with fail
  clear cS c1d c2d f1 f2 c1 c2
  go_loopw [8, 37] (fun q i wr => ∃ (k r : Nat) (v' iv' : Value) (t : Gr), k ≤ N ∧ q = .int .i64 (r : Nat) ∧ i = .int .i64 k ∧ Hid (GmT G M w v iv wr v' iv' t) ∧ Hid (Nv w wr (Bg G M v' iv') b1 N A') ∧ Hid (Nv w wr (Bg G M v' iv') b2 N B') ∧ Hid (LeS s t A' B' k r)) (fun _ i _ => N - (intOf i).toNat)
  case atStart => exact ⟨0, 0, v, iv, s, Nat.zero_le _, rfl, rfl, T1, XA1, XB1, HS0⟩
  case round =>
    obtain ⟨k, r, v', iv', t, hk, rfl, rfl, HT, XA, XB, HS⟩ := hrel
    by_cases hlt : k < N
    · have hltI : (k : Int) < (N : Int) := by omega
      have htn := HS.out.lay.n
      have x1 := XA.out.row.cell hlt
      have x2 := XB.out.row.cell hlt
      have HTd := Lib.hid (HT.out.below (Below.refl _ wr).drew)
      have XAd := Lib.hid (XA.out.below (Below.refl _ wr).drew)
      have XBd := Lib.hid (XB.out.below (Below.refl _ wr).drew)
      have la := HS.out.lay.lt (HA.out k hlt)
      have lb := HS.out.lay.lt (HB.out k hlt)
      have ha1 : A' k ≤ 1000000 := by omega
      have hb1 : B' k ≤ 1000000 := by omega
      have HX := Lib.hid (and_rel HTd.out.gm (by omega) (nt_lt la) lb)
      have HY := Lib.hid (show ∀ w3 x v3 iv3 t3, GmT G M wr.drew v' iv' w3 v3 iv3 t3 → Ed t t3 1 x (fun I => val I t (nt (A' k)) && val I t (B' k)) → w3.cell? ⟨b1, k, none⟩ = some (.int .i64 (A' k : Nat)) ∧ w3.cell? ⟨b2, k, none⟩ = some (.int .i64 (B' k : Nat)) ∧ Hid (Calls Try.prog 40 #[.pointer (some ⟨G, 0, none⟩), .int .i64 (A' k : Nat), .int .i64 (nt (B' k) : Nat)] w3.drew (LayE w3.drew G M v3 iv3 t3 1 (fun I => val I t3 (A' k) && val I t3 (nt (B' k))))) from fun w3 x v3 iv3 t3 T E => by
        have hn3 := E.lay.n
        exact ⟨(XAd.out.next T).row.cell hlt, (XBd.out.next T).row.cell hlt, Lib.hid (and_rel (T.below (Below.refl _ w3).drew).gm (by omega) (E.lay.lt la) (nt_lt (E.lay.lt lb)))⟩)
      have HZ := Lib.hid (show ∀ w3 x v3 iv3 t3 w4 y v4 iv4 t4, GmT G M wr.drew v' iv' w3 v3 iv3 t3 → Ed t t3 1 x (fun I => val I t (nt (A' k)) && val I t (B' k)) → GmT G M w3.drew v3 iv3 w4 v4 iv4 t4 → Ed t3 t4 1 y (fun I => val I t3 (A' k) && val I t3 (nt (B' k))) → x ≤ 1000000 ∧ y ≤ 1000000 ∧ Calls Try.prog 40 #[.pointer (some ⟨G, 0, none⟩), .int .i64 (nt y : Nat), .int .i64 (r : Nat)] w4 (LayE w4 G M v4 iv4 t4 1 (fun I => val I t4 (nt y) && val I t4 r)) from fun w3 x v3 iv3 t3 w4 y v4 iv4 t4 T E T4 E4 => by
        have h1 := E.lt
        have h2 := E.lay.n
        have h3 := E4.lt
        have h4 := E4.lay.n
        exact ⟨by omega, by omega, and_rel T4.gm (by omega) (nt_lt E4.lt) (E4.lay.lt (E.lay.lt HS.out.lt))⟩)
      have HW := Lib.hid (show ∀ w3 x v3 iv3 t3 w4 y v4 iv4 t4 w5 z v5 iv5 t5, GmT G M wr.drew v' iv' w3 v3 iv3 t3 → Ed t t3 1 x (fun I => val I t (nt (A' k)) && val I t (B' k)) → GmT G M w3.drew v3 iv3 w4 v4 iv4 t4 → Ed t3 t4 1 y (fun I => val I t3 (A' k) && val I t3 (nt (B' k))) → GmT G M w4 v4 iv4 w5 v5 iv5 t5 → Ed t4 t5 1 z (fun I => val I t4 (nt y) && val I t4 r) → Calls Try.prog 43 #[.pointer (some ⟨G, 0, none⟩), .int .i64 (x : Nat), .int .i64 (z : Nat)] w5 fun e w6 => ∃ (o : Nat) (v6 iv6 : Value) (t6 : Gr), e = .returned (.int .i64 (o : Nat)) ∧ Hid (GmT G M w v iv w6 v6 iv6 t6) ∧ Hid (Nv w w6 (Bg G M v6 iv6) b1 N A') ∧ Hid (Nv w w6 (Bg G M v6 iv6) b2 N B') ∧ Hid (LeS s t6 A' B' (k + 1) o) from fun w3 x v3 iv3 t3 w4 y v4 iv4 t4 w5 z v5 iv5 t5 T3 E3 T4 E4 T5 E5 => by
        have h2 := E3.lay.n
        have h4 := E4.lay.n
        have h5 := E5.lay.n
        refine (or_rel T5.gm (by omega) (E5.lay.lt (E4.lay.lt E3.lt)) E5.lt).mono fun e w6 ⟨o, v6, iv6, t6, he, T6, E6⟩ => ?_
        have hd3 : Below w3.heap.size w3 w3.drew := (Below.refl _ w3).drew
        exact ⟨o, v6, iv6, t6, he, Lib.hid (((((HTd.out.trans T3).below hd3).trans T4).trans T5).trans T6.out), Lib.hid (((((XAd.out.next T3).below hd3).next T4).next T5).next T6.out), Lib.hid (((((XBd.out.next T3).below hd3).next T4).next T5).next T6.out), Lib.hid (HS.out.step hlt HA.out HB.out E3 E4 E5 E6.out)⟩)
      clear htn la lb
      generalize A' k = ak at *
      generalize B' k = bk at *
      go_wp2_with fail
      go_region_with (first
        | (go_at_call 41; refine (not_any _ (by omega) _).mono ?_; rintro e w' ⟨rfl, rfl⟩)
        | (go_at_call 40; refine HX.out.mono ?_; rintro e w3 ⟨x, v3, iv3, t3, rfl, T3, E3⟩; obtain ⟨z1, z2, HYY⟩ := HY.out _ _ _ _ _ T3.out E3.out))
      all_goals
        go_wp2_with fail
        go_region_with (first
          | (go_at_call 41; refine (not_any _ (by omega) _).mono ?_; rintro e w' ⟨rfl, rfl⟩)
          | (go_at_call 40; refine HYY.out.mono ?_; rintro e w4 ⟨y, v4, iv4, t4, rfl, T4, E4⟩; obtain ⟨q1, q2, hZ⟩ := HZ.out _ _ _ _ _ _ _ _ _ _ T3.out E3.out T4.out E4.out; have HZZ := Lib.hid hZ; clear hZ))
        all_goals
          go_wp2_with (first
            | (go_at_call 41; refine (not_any _ (by omega) _).mono ?_; rintro e w' ⟨rfl, rfl⟩)
            | (go_at_call 40; refine HZZ.out.mono ?_; rintro e w5 ⟨z, v5, iv5, t5, rfl, T5, E5⟩)
            | (go_at_call 43; refine (HW.out _ _ _ _ _ _ _ _ _ _ _ _ _ _ _ T3.out E3.out T4.out E4.out T5.out E5.out).mono ?_; rintro e w6 ⟨o, v6, iv6, t6, rfl, T6, A6, B6, S6⟩))
          go_roundw
          case rel => exact ⟨k + 1, o, v6, iv6, t6, by omega, rfl, by go_num, T6, A6, B6, S6⟩
          case measure => simp [intOf]; omega
    · obtain rfl : k = N := by omega
      have hltI : ¬ (k : Int) < (k : Int) := by omega
      clear hlt
      go_wp2_with fail
      go_ret
      exact ⟨r, v', iv', t, rfl, HT, Lib.hid ⟨HS.out.lay.le (by omega), HS.out.lt, HF.out _ _ HS.out⟩⟩
end
end Go.Proofs.Ytepafgmiloncgaa
