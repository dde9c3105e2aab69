/- Contracts: Same, Less, Inputs. -/
import Derived.Test.YtepafgmiloncgaaBK
import Derived.Test.YtepafgmiloncgaaMH
namespace Go.Proofs.Ytepafgmiloncgaa
open Go.RowKit Go.Lib Go.Maps
set_option maxRecDepth 100000

section
variable {w w1 w2 : World} {G M b : Nat} {v iv v1 iv1 v2 iv2 : Value} {s s1 s2 : Gr} {f f' : Nat → Nat}
set_option maxHeartbeats 4000000 in
/-- Same -/
theorem same_any (hG : Gm w G M v iv s) (hs : s.n ≤ 86000) {va vb : Value} {n m : Nat} {g h : Nat → Nat} (ha : Vc w (Bg G M v iv) va n g) (hb : Vc w (Bg G M v iv) vb m h) (hg : Vo s n g) (hh : Vo s m h) :
    Calls Try.prog 20 #[.pointer (some ⟨G, 0, none⟩), va, vb] w (LayE w G M v iv s 64 (fun I => decide (num I s g n = num I s h m))) := by
  have hn := ha.len
  have hm := hb.len
  have HL := Lib.hid (level_any ha.weak hb.weak)
  unfold LevR at HL
  obtain ⟨N, hN⟩ : ∃ N, N = max n m := ⟨_, rfl⟩
  rw [← hN] at HL
  have hN1 : 1 ≤ N ∧ N ≤ 16 := by omega
  obtain ⟨A, hA⟩ : ∃ A, A = extv n g := ⟨_, rfl⟩
  obtain ⟨B, hB⟩ : ∃ B, B = extv m h := ⟨_, rfl⟩
  rw [← hA, ← hB] at HL
  have HA := Lib.hid (show Vo s N A by rw [hA]; exact hg.ext (by omega))
  have HB := Lib.hid (show Vo s N B by rw [hB]; exact hh.ext (by omega))
  have HE := Lib.hid (show ∀ I, num I s A N = num I s g n ∧ num I s B N = num I s h m from fun I => by rw [hA, hB]; exact ⟨num_up (by omega) (by omega) I, num_up (by omega) (by omega) I⟩)
  have HG := Lib.hid hG
  have HS0 := Lib.hid (SaS.start hG.ok A B)
  clear hG ha hb hg hh hN hA hB
  go_enter Try.func20, Try.ntmps20
  go_wp2_with fail
  refine HL.out.mono ?_; rintro e w1 ⟨b1, b2, rfl, H1⟩
  clear HL
  have T1 := Lib.hid (HG.out.refl.below H1.out.1.bel)
  have XA1 := Lib.hid (H1.out.1.nv HG.out)
  have XB1 := Lib.hid (H1.out.2.1.nv HG.out)
  clear H1
  go_wp2_with fail
  go_loopw [7, 17] (fun p i wr => ∃ (k r : Nat) (v' iv' : Value) (t : Gr), k ≤ N ∧ p = .int .i64 (r : Nat) ∧ i = .int .i64 k ∧ Hid (GmT G M w v iv wr v' iv' t) ∧ Hid (Nv w wr (Bg G M v' iv') b1 N A) ∧ Hid (Nv w wr (Bg G M v' iv') b2 N B) ∧ Hid (SaS s t A B k r)) (fun _ i _ => N - (intOf i).toNat)
  case atStart => exact ⟨0, 1, v, iv, s, Nat.zero_le _, rfl, rfl, T1, XA1, XB1, HS0⟩
  case round =>
    obtain ⟨k, r, v', iv', t, hk, rfl, rfl, HT, XA, XB, HS⟩ := hrel
    by_cases hlt : k < N
    · have hltI : (k : Int) < (N : Int) := by omega
      have htn := HS.out.lay.n
      have x1 := XA.out.row.cell hlt
      have x2 := XB.out.row.cell hlt
      have HTd := Lib.hid (HT.out.below (Below.refl _ wr).drew)
      have XAd := Lib.hid (XA.out.below (Below.refl _ wr).drew)
      have XBd := Lib.hid (XB.out.below (Below.refl _ wr).drew)
      have la := HS.out.lay.lt (HA.out k hlt)
      have lb := HS.out.lay.lt (HB.out k hlt)
      have HX := Lib.hid (xor_rel HTd.out.gm (by omega) la lb)
      have HY := Lib.hid (show ∀ w3 x v3 iv3 t3, GmT G M wr.drew v' iv' w3 v3 iv3 t3 → Ed t t3 3 x (fun I => val I t (A k) != val I t (B k)) → x ≤ 1000000 ∧ Calls Try.prog 40 #[.pointer (some ⟨G, 0, none⟩), .int .i64 (r : Nat), .int .i64 (nt x : Nat)] w3 fun e w4 => ∃ (o : Nat) (v4 iv4 : Value) (t4 : Gr), e = .returned (.int .i64 (o : Nat)) ∧ Hid (GmT G M w v iv w4 v4 iv4 t4) ∧ Hid (Nv w w4 (Bg G M v4 iv4) b1 N A) ∧ Hid (Nv w w4 (Bg G M v4 iv4) b2 N B) ∧ Hid (SaS s t4 A B (k + 1) o) from fun w3 x v3 iv3 t3 T E => by
        have hl := E.lt
        have hn3 := E.lay.n
        refine ⟨by omega, ?_⟩
        refine (and_rel T.gm (by omega) (E.lay.lt HS.out.lt) (nt_lt E.lt)).mono fun e w4 ⟨o, v4, iv4, t4, he, T4, E4⟩ => ?_
        exact ⟨o, v4, iv4, t4, he, Lib.hid ((HTd.out.trans T).trans T4.out), Lib.hid ((XAd.out.next T).next T4.out), Lib.hid ((XBd.out.next T).next T4.out), Lib.hid (HS.out.step hlt HA.out HB.out E E4.out)⟩)
      clear htn la lb
      generalize A k = ak at *
      generalize B k = bk at *
      go_wp2_with fail
      go_region_with (first
        | (go_at_call 42; refine HX.out.mono ?_; rintro e w3 ⟨x, v3, iv3, t3, rfl, T3, E3⟩; obtain ⟨hx, hY⟩ := HY.out _ _ _ _ _ T3.out E3.out; have HYY := Lib.hid hY; clear hY)
        | (go_at_call 41; refine (not_any _ (by omega) _).mono ?_; rintro e w' ⟨rfl, rfl⟩)
        | (go_at_call 40; refine HYY.out.mono ?_; rintro e w4 ⟨o, v4, iv4, t4, rfl, T4, A4, B4, S4⟩))
      all_goals
        go_wp2_with fail
        go_roundw
        case rel => exact ⟨k + 1, o, v4, iv4, t4, by omega, rfl, by go_num, T4, A4, B4, S4⟩
        case measure => simp [intOf]; omega
    · obtain rfl : k = N := by omega
      have hltI : ¬ (k : Int) < (k : Int) := by omega
      clear hlt
      go_wp2_with fail
      go_ret
      exact ⟨r, v', iv', t, rfl, HT, Lib.hid ⟨HS.out.lay.le (by omega), HS.out.lt, fun I => by rw [HS.out.fin I, (HE.out I).1, (HE.out I).2]⟩⟩
end
end Go.Proofs.Ytepafgmiloncgaa
