/- Contract of sink over a heap in memory. -/
import Derived.Test.YtbhbokcgkhgljaaC
namespace Go.Proofs.Ytbhbokcgkhgljaa
open Go.RowKit Go.Lib

theorem sink_zero {w : World} {hb ob pb ab n : Nat} {O : Nat → Nat} {P A : Nat → Int} (h : Mem w hb ob pb ab n 0 O P A) (hl : Link n 0 O P) :
    Calls Try.prog 28 #[.pointer (some ⟨hb, 0, none⟩), .int .i64 0] w fun e w' => e = .returned (.tuple #[]) ∧ Sifted hb ob pb ab n 0 0 P A w w' := by
  have c0 := h.c0
  have HE := Lib.hid (show Sifted hb ob pb ab n 0 0 P A w w from ⟨O, P, h, hl, fun _ => Iff.rfl, fun j hj => by omega, Fr.refl _ _⟩)
  clear h hl
  go_enter Try.func28, Try.ntmps28
  go_wp2_with fail
  go_loopw [1] (fun x wr => x = .int .i64 0 ∧ wr = w) (fun _ _ => 0)
  case atStart => exact ⟨rfl, rfl⟩
  case round =>
    obtain ⟨rfl, rfl⟩ := hrel
    go_wp2_with fail
    go_loopw [4, 5] (fun f b w2 => f = .int .i64 0 ∧ b = .int .i64 1 ∧ w2 = wr) (fun _ _ _ => 0)
    case atStart => exact ⟨rfl, rfl, rfl⟩
    case round =>
      obtain ⟨rfl, rfl, rfl⟩ := hrel
      go_wp2_with fail
      refine bodyPost_ret (results_none rfl _ _ _) rfl ?_
      exact ⟨rfl, HE.out⟩

set_option maxHeartbeats 8000000 in
theorem sink_core {w : World} {hb ob pb ab n m : Nat} {O : Nat → Nat} {P A : Nat → Int} (h : Mem w hb ob pb ab n m O P A) (hl : Link n m O P) (hmn : m ≤ n) (hn : n ≤ 200000) {lo i : Nat} (hi : i < m) (hlo : lo ≤ i) (hr : SinkInv A O lo m i) :
    Calls Try.prog 28 #[.pointer (some ⟨hb, 0, none⟩), .int .i64 i] w fun e w' => e = .returned (.tuple #[]) ∧ Sifted hb ob pb ab n m lo P A w w' := by
  have H0 := Lib.hid (show ∃ O' P', Mem w hb ob pb ab n m O' P' A ∧ Link n m O' P' ∧ (∀ v, P' v = -1 ↔ P v = -1) ∧ SinkInv A O' lo m i ∧ Fr (Bk hb ob pb ab) w w from ⟨O, P, h, hl, fun _ => Iff.rfl, hr, Fr.refl _ _⟩)
  clear h hl hr
  go_enter Try.func28, Try.ntmps28
  go_wp2_with fail
  go_loopw [1] (fun x wr => ∃ j : Nat, j < m ∧ lo ≤ j ∧ x = .int .i64 j ∧ Hid (∃ O' P', Mem wr hb ob pb ab n m O' P' A ∧ Link n m O' P' ∧ (∀ v, P' v = -1 ↔ P v = -1) ∧ SinkInv A O' lo m j ∧ Fr (Bk hb ob pb ab) w wr)) (fun x _ => m - (intOf x).toNat)
  case atStart => exact ⟨i, hi, hlo, rfl, H0⟩
  case round =>
    obtain ⟨j, hj, hlj, rfl, HJ⟩ := hrel
    clear H0
    obtain ⟨O', P', hM, hL, hP, hR, hF⟩ := HJ.out
    have c0 := hM.c0
    have HB := Lib.hid (show ∀ q b f, b < m → f < m → Calls Try.prog 29 #[.pointer (some ⟨hb, 0, none⟩), .int .i64 (b : Nat), .int .i64 (f : Nat)] (wr.drewN q) fun e w' => e = .returned (.bool (decide (bef A (O' b) (O' f)))) ∧ ∃ q', w' = (wr.drewN q).drewN q' from fun q b f hb hf => before_any (hM.drewN q) hL hmn hn hb hf)
    have HS := Lib.hid (show ∀ q f, f < m → Calls Try.prog 27 #[.pointer (some ⟨hb, 0, none⟩), .int .i64 (j : Nat), .int .i64 (f : Nat)] (wr.drewN q) fun e w' => e = .returned (.tuple #[]) ∧ Mem w' hb ob pb ab n m (swO O' j f) (swP P' O' j f) A ∧ Fr (Bk hb ob pb ab) (wr.drewN q) w' from fun q f hf => swap_any (hM.drewN q) hL hmn hn hj hf)
    have HD := Lib.hid (show ∀ q, (∀ c, 0 < c → par c = j → c < m → ¬ bef A (O' c) (O' j)) → Sifted hb ob pb ab n m lo P A w (wr.drewN q) from fun q hf => ⟨O', P', hM.drewN q, hL, hP, sink_done hR hf, hF.drewN q⟩)
    have HN := Lib.hid (show ∀ f q w', f < m → 0 < f → par f = j → bef A (O' f) (O' j) → (∀ c, 0 < c → par c = j → c < m → ¬ bef A (O' c) (O' f)) → Mem w' hb ob pb ab n m (swO O' j f) (swP P' O' j f) A → Fr (Bk hb ob pb ab) (wr.drewN q) w' →
        Hid (∃ O' P', Mem w' hb ob pb ab n m O' P' A ∧ Link n m O' P' ∧ (∀ v, P' v = -1 ↔ P v = -1) ∧ SinkInv A O' lo m f ∧ Fr (Bk hb ob pb ab) w w') from
      fun f q w' hf h0 hp hb hc hM' hF' => Lib.hid ⟨_, _, hM', (hL.swap hj hf).1, fun v => ((hL.swap hj hf).2 v).trans (hP v), sink_step hR hlj h0 hf hp hb hc, (hF.drewN q).trans hF'⟩)
    clear hM hL hP hR hF HJ
    go_wp2_with fail
    go_loopw [4, 5] (fun x y w2 => ∃ f b q : Nat, f < m ∧ 2 * j + 1 ≤ b ∧ b ≤ 2 * j + 3 ∧ x = .int .i64 f ∧ y = .int .i64 b ∧ w2 = wr.drewN q ∧ Hid (FirstInv A O' m j b f)) (fun _ y _ => 2 * j + 3 - (intOf y).toNat)
    case atStart => exact ⟨j, 2 * j + 1, 0, hj, by omega, by omega, rfl, by go_num, rfl, Lib.hid (FirstInv.start A O' m j)⟩
    case round =>
      obtain ⟨f, b, q, hf, hb1, hb2, rfl, rfl, rfl, HI⟩ := hrel
      have c0q : (wr.drewN q).cell? ⟨hb, 0, none⟩ = some (.slice (some ⟨ob, 0, none⟩) m n) := c0
      clear c0
      by_cases hc : b ≤ 2 * j + 2 ∧ b < m
      · obtain ⟨hc1, hc2⟩ := hc
        have hb0 : 0 < b := by omega
        have hpb : par b = j := by unfold par; omega
        have hci : (b : Int) ≤ 2 * (j : Int) + 2 := by omega
        have HC := Lib.hid (HB.out q b f hc2 hf)
        cases hd : decide (bef A (O' b) (O' f))
        · rw [hd] at HC
          have HM := Lib.hid (HI.out.miss (by simpa using hd))
          clear HI hd
          go_wp2_with fail
          refine HC.out.mono ?_
          rintro e w' ⟨rfl, q', rfl⟩
          go_wp2_with fail
          go_roundw
          case rel => exact ⟨f, b + 1, _, hf, by omega, by omega, rfl, by go_num, rfl, HM⟩
          case measure => simp [intOf]; omega
        · rw [hd] at HC
          have HM := Lib.hid (HI.out.hit hc2 hb0 hpb (by simpa using hd))
          clear HI hd
          go_wp2_with fail
          refine HC.out.mono ?_
          rintro e w' ⟨rfl, q', rfl⟩
          go_wp2_with fail
          go_roundw
          case rel => exact ⟨b, b + 1, _, hc2, by omega, by omega, rfl, by go_num, rfl, HM⟩
          case measure => simp [intOf]; omega
      · have HF := Lib.hid (HI.out.full (by omega))
        have HX := Lib.hid HI.out.is
        clear HI
        have key : (∃ x : Bool, decide ((b : Int) ≤ 2 * (j : Int) + 2) = x ∧ (x = true → ¬ (b : Int) < (m : Int))) := ⟨_, rfl, fun h => by have := of_decide_eq_true h; omega⟩
        obtain ⟨x, hx, hxm⟩ := key
        by_cases he : f = j
        · subst he
          have HE := Lib.hid (HD.out q HF.out)
          cases x
          · clear hxm
            go_wp2_with fail
            refine bodyPost_ret (results_none rfl _ _ _) rfl ?_
            exact ⟨rfl, HE.out⟩
          · have hm2 := hxm rfl
            clear hxm
            go_wp2_with fail
            refine bodyPost_ret (results_none rfl _ _ _) rfl ?_
            exact ⟨rfl, HE.out⟩
        · have hfj : ((f : Int) == (j : Int)) = false := by simp; omega
          have HX2 := Lib.hid (show par f = j ∧ 0 < f ∧ f < m ∧ bef A (O' f) (O' j) from HX.out.resolve_left he)
          have hjf : j < f := by have h1 := HX2.out.1; have h2 := HX2.out.2.1; have := par_lt h2; omega
          have HC := Lib.hid (HS.out q f hf)
          clear he
          cases x
          · clear hxm
            go_wp2_with fail
            refine HC.out.mono ?_
            rintro e w2 ⟨rfl, hM2, hF2⟩
            have HR := HN.out f q w2 hf HX2.out.2.1 HX2.out.1 HX2.out.2.2.2 HF.out hM2 hF2
            clear hM2 hF2
            go_wp2_with fail
            go_roundw
            case rel => exact ⟨f, hf, by omega, rfl, HR⟩
            case measure => simp [intOf]; omega
          · have hm2 := hxm rfl
            clear hxm
            go_wp2_with fail
            refine HC.out.mono ?_
            rintro e w2 ⟨rfl, hM2, hF2⟩
            have HR := HN.out f q w2 hf HX2.out.2.1 HX2.out.1 HX2.out.2.2.2 HF.out hM2 hF2
            clear hM2 hF2
            go_wp2_with fail
            go_roundw
            case rel => exact ⟨f, hf, by omega, rfl, HR⟩
            case measure => simp [intOf]; omega

theorem sink_any {w : World} {hb ob pb ab n m : Nat} {O : Nat → Nat} {P A : Nat → Int} (h : Mem w hb ob pb ab n m O P A) (hl : Link n m O P) (hmn : m ≤ n) (hn : n ≤ 200000) (hr : SinkInv A O 0 m 0) :
    Calls Try.prog 28 #[.pointer (some ⟨hb, 0, none⟩), .int .i64 0] w fun e w' => e = .returned (.tuple #[]) ∧ Sifted hb ob pb ab n m 0 P A w w' := by
  by_cases h0 : m = 0
  · subst h0; exact sink_zero h hl
  · exact sink_core (i := 0) h hl hmn hn (by omega) (Nat.le_refl _) hr
end Go.Proofs.Ytbhbokcgkhgljaa
