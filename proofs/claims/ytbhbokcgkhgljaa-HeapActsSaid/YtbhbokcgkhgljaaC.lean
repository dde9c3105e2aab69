/- Contracts of swap, rise, sink over a heap in memory. -/
import Derived.Test.YtbhbokcgkhgljaaB
namespace Go.Proofs.Ytbhbokcgkhgljaa
open Go.RowKit Go.Lib

theorem Mem.swapped {w : World} {hb ob pb ab n m : Nat} {O : Nat → Nat} {P A : Nat → Int} (h : Mem w hb ob pb ab n m O P A) (i k : Nat) (q : Nat) :
    Mem (((((w.setCell ⟨ob, i, none⟩ (.int .i64 (O k))).setCell ⟨ob, k, none⟩ (.int .i64 (O i))).setCell ⟨pb, O i, none⟩ (.int .i64 k)).setCell ⟨pb, O k, none⟩ (.int .i64 i)).drewN q) hb ob pb ab n m (swO O i k) (swP P O i k) A := by
  obtain ⟨n1, n2, n3, n4, n5, n6⟩ := h.ne
  refine Mem.drewN ⟨?_, ?_, ?_, ?_, h.ne⟩ q
  · exact (((h.hd.setOther (a := ⟨ob, i, none⟩) n1 _).setOther (a := ⟨ob, k, none⟩) n1 _).setOther (a := ⟨pb, O i, none⟩) n2 _).setOther (a := ⟨pb, O k, none⟩) n2 _
  · obtain ⟨F, hF, he⟩ := h.od
    refine ⟨_, ((((hF.set i _).set k _).setOther (a := ⟨pb, O i, none⟩) n4 _).setOther (a := ⟨pb, O k, none⟩) n4 _), fun j hj => ?_⟩
    unfold swO
    split
    · rfl
    · split
      · rfl
      · exact he j hj
  · refine ((((h.pl.setOther (a := ⟨ob, i, none⟩) (Ne.symm n4) _).setOther (a := ⟨ob, k, none⟩) (Ne.symm n4) _).set (O i) _).set (O k) _).congr fun j hj => ?_
    unfold swP
    split
    · rfl
    · split <;> rfl
  · exact (((h.ac.setOther (a := ⟨ob, i, none⟩) (Ne.symm n5) _).setOther (a := ⟨ob, k, none⟩) (Ne.symm n5) _).setOther (a := ⟨pb, O i, none⟩) (Ne.symm n6) _).setOther (a := ⟨pb, O k, none⟩) (Ne.symm n6) _

theorem swap_any {w : World} {hb ob pb ab n m : Nat} {O : Nat → Nat} {P A : Nat → Int} (h : Mem w hb ob pb ab n m O P A) (hl : Link n m O P) (hmn : m ≤ n) (hn : n ≤ 200000) {i k : Nat} (hi : i < m) (hk : k < m) :
    Calls Try.prog 27 #[.pointer (some ⟨hb, 0, none⟩), .int .i64 i, .int .i64 k] w fun e w' => e = .returned (.tuple #[]) ∧ Mem w' hb ob pb ab n m (swO O i k) (swP P O i k) A ∧ Fr (Bk hb ob pb ab) w w' := by
  have hoi := hl.ord i hi
  have hok := hl.ord k hk
  refine (swap_core hb ob pb n m i k (O i) (O k) (P (O i)) (P (O k)) w hi hk (by omega) hn hoi.2.1 hok.2.1 h.ne.1 h.ne.2.1 h.ne.2.2.2.1 h.c0 h.c1 (h.co hi hmn) (h.co hk hmn) (h.cp hoi.2.1) (h.cp hok.2.1) h.fo (fun j => h.pl.frozen j)).mono ?_
  rintro e w' ⟨rfl, q, rfl⟩
  refine ⟨rfl, h.swapped i k q, ?_⟩
  exact ((((Fr.refl _ w).set (.inr (.inl rfl)) _).set (.inr (.inl rfl)) _).set (.inr (.inr (.inl rfl))) _).set (.inr (.inr (.inl rfl))) _ |>.drewN q

/-- What a sift leaves. -/
def Sifted (hb ob pb ab n m lo : Nat) (P A : Nat → Int) (w w' : World) : Prop :=
  ∃ O' P', Mem w' hb ob pb ab n m O' P' A ∧ Link n m O' P' ∧ (∀ v, P' v = -1 ↔ P v = -1) ∧ Up A O' lo m ∧ Fr (Bk hb ob pb ab) w w'

set_option maxHeartbeats 4000000 in
theorem rise_any {w : World} {hb ob pb ab n m : Nat} {O : Nat → Nat} {P A : Nat → Int} (h : Mem w hb ob pb ab n m O P A) (hl : Link n m O P) (hmn : m ≤ n) (hn : n ≤ 200000) {i : Nat} (hi : i < m) (hr : RiseInv A O m i) :
    Calls Try.prog 25 #[.pointer (some ⟨hb, 0, none⟩), .int .i64 i] w fun e w' => e = .returned (.tuple #[]) ∧ Sifted hb ob pb ab n m 0 P A w w' := by
  have H0 := Lib.hid (show ∃ O' P', Mem w hb ob pb ab n m O' P' A ∧ Link n m O' P' ∧ (∀ v, P' v = -1 ↔ P v = -1) ∧ RiseInv A O' m i ∧ Fr (Bk hb ob pb ab) w w from ⟨O, P, h, hl, fun _ => Iff.rfl, hr, Fr.refl _ _⟩)
  clear h hl hr
  go_enter Try.func25, Try.ntmps25
  go_wp2_with fail
  go_loopw [1] (fun x wr => ∃ j : Nat, j < m ∧ x = .int .i64 j ∧ Hid (∃ O' P', Mem wr hb ob pb ab n m O' P' A ∧ Link n m O' P' ∧ (∀ v, P' v = -1 ↔ P v = -1) ∧ RiseInv A O' m j ∧ Fr (Bk hb ob pb ab) w wr)) (fun x _ => (intOf x).toNat)
  case atStart => exact ⟨i, hi, rfl, H0⟩
  case round =>
    obtain ⟨j, hj, rfl, HJ⟩ := hrel
    clear H0
    by_cases h0 : 0 < j
    · obtain ⟨O', P', hM, hL, hP, hR, hF⟩ := HJ.out
      have hp := par_lt h0
      have hpe : ((par j : Nat) : Int) = ((j : Int) - 1) / 2 := by unfold par; omega
      have hbf := before_any hM hL hmn hn hj (k := par j) (by omega)
      have hsw : ∀ q, Calls Try.prog 27 #[.pointer (some ⟨hb, 0, none⟩), .int .i64 j, .int .i64 (((j : Int) - 1) / 2)] (wr.drewN q) fun e w' => e = .returned (.tuple #[]) ∧ Mem w' hb ob pb ab n m (swO O' j (par j)) (swP P' O' j (par j)) A ∧ Fr (Bk hb ob pb ab) (wr.drewN q) w' := fun q => by
        rw [← hpe]; exact swap_any (hM.drewN q) hL hmn hn hj (by omega)
      rw [hpe] at hbf
      have HSW := Lib.hid hsw; clear hsw
      have HP2 := Lib.hid (show (par j < m ∧ Value.int .i64 (((j : Int) - 1) / 2) = .int .i64 (par j : Nat)) from ⟨by omega, by rw [hpe]⟩)
      cases hd : decide (bef A (O' j) (O' (par j)))
      · rw [hd] at hbf
        have HD := Lib.hid hd; clear hd
        have HBF := Lib.hid hbf; clear hbf hpe
        have HE := Lib.hid (show ∀ q, Sifted hb ob pb ab n m 0 P A w (wr.drewN q) from fun q => ⟨O', P', hM.drewN q, hL, hP, rise_done hR hj (.inr (by simpa using HD.out)), hF.drewN q⟩)
        clear hM hL hP hR hF
        go_wp2_with fail
        refine HBF.out.mono ?_
        rintro e w' ⟨rfl, q, rfl⟩
        go_wp2_with fail
        refine bodyPost_ret (results_none rfl _ _ _) rfl ?_
        exact ⟨rfl, HE.out q⟩
      · rw [hd] at hbf
        have HD := Lib.hid hd; clear hd
        have HBF := Lib.hid hbf; clear hbf hpe
        have HM := Lib.hid hM; clear hM
        have HL := Lib.hid (hL.swap hj (k := par j) (by omega)); clear hL
        have HP := Lib.hid hP; clear hP
        have HR := Lib.hid (rise_step hR hj h0 (by simpa using HD.out)); clear hR
        have HF := Lib.hid hF; clear hF
        go_wp2_with fail
        refine HBF.out.mono ?_
        rintro e w' ⟨rfl, q, rfl⟩
        go_wp2_with fail
        refine (HSW.out q).mono ?_
        rintro e w2 ⟨rfl, hM2, hF2⟩
        have HM2 := Lib.hid hM2; clear hM2
        have HF2 := Lib.hid hF2; clear hF2
        go_wp2_with fail
        go_roundw
        case rel => exact ⟨par j, HP2.out.1, HP2.out.2, Lib.hid ⟨_, _, HM2.out, HL.out.1, fun v => (HL.out.2 v).trans (HP.out v), HR.out, (HF.out.drewN q).trans HF2.out⟩⟩
        case measure => simp [intOf]; omega
    · have HE := Lib.hid (show Sifted hb ob pb ab n m 0 P A w wr from by
        obtain ⟨O', P', hM, hL, hP, hR, hF⟩ := HJ.out
        exact ⟨O', P', hM, hL, hP, rise_done hR hj (.inl (by omega)), hF⟩)
      clear HJ
      go_wp2_with fail
      go_end0
      exact ⟨rfl, HE.out⟩
end Go.Proofs.Ytbhbokcgkhgljaa
