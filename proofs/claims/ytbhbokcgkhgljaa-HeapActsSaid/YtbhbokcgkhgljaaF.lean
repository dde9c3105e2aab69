/- A heap as a set of variables with activities: contracts of Next, Bump. -/
import Derived.Test.YtbhbokcgkhgljaaE
namespace Go.Proofs.Ytbhbokcgkhgljaa
open Go.RowKit Go.Lib

theorem next_none {w : World} {hb ob pb ab n : Nat} {A : Nat → Int} {In : Nat → Bool} (h : Heap w hb ob pb ab n A In) (h0 : cnt In n = 0) :
    Calls Try.prog 13 #[.pointer (some ⟨hb, 0, none⟩)] w fun e w' => e = .returned (.tuple #[.int .i64 0, .bool false]) ∧ w = w' := by
  have hl := len_any h
  rw [h0] at hl
  have HL := Lib.hid hl
  clear hl h h0
  go_enter Try.func13, Try.ntmps13
  go_wp2_with fail
  refine HL.out.mono ?_
  rintro e w' ⟨rfl, rfl⟩
  go_wp2_with fail
  go_ret2
  exact ⟨rfl, rfl⟩

theorem Mem.next {w : World} {hb ob pb ab n k : Nat} {O : Nat → Nat} {P A : Nat → Int} (h : Mem w hb ob pb ab n (k + 1) O P A) (v : Nat) :
    Mem ((w.setCell ⟨hb, 0, none⟩ (.slice (some ⟨ob, 0, none⟩) k n)).setCell ⟨pb, v, none⟩ (.int .i64 (-1))) hb ob pb ab n k O (updI P v (-1)) A ∧
    Fr (Bk hb ob pb ab) w ((w.setCell ⟨hb, 0, none⟩ (.slice (some ⟨ob, 0, none⟩) k n)).setCell ⟨pb, v, none⟩ (.int .i64 (-1))) := by
  obtain ⟨n1, n2, n3, n4, n5, n6⟩ := h.ne
  refine ⟨⟨?_, ?_, ?_, ?_, h.ne⟩, ((Fr.refl _ w).set (.inl rfl) _).set (.inr (.inr (.inl rfl))) _⟩
  · refine ((h.hd.set 0 _).setOther (a := ⟨pb, v, none⟩) n2 _).congr fun j _ => ?_
    unfold hdF
    split <;> rfl
  · obtain ⟨F, hF, he⟩ := h.od
    exact ⟨F, (hF.setOther (a := ⟨hb, 0, none⟩) (Ne.symm n1) _).setOther (a := ⟨pb, v, none⟩) n4 _, fun j hj => he j (by omega)⟩
  · refine ((h.pl.setOther (a := ⟨hb, 0, none⟩) (Ne.symm n2) _).set v _).congr fun j _ => ?_
    unfold updI
    split <;> rfl
  · exact (h.ac.setOther (a := ⟨hb, 0, none⟩) (Ne.symm n3) _).setOther (a := ⟨pb, v, none⟩) (Ne.symm n6) _

set_option maxHeartbeats 4000000 in
theorem next_some {w : World} {hb ob pb ab n : Nat} {A : Nat → Int} {In : Nat → Bool} (h : Heap w hb ob pb ab n A In) (h0 : 0 < cnt In n) :
    Calls Try.prog 13 #[.pointer (some ⟨hb, 0, none⟩)] w fun e w' => ∃ v, IsNext n A In v ∧ e = .returned (.tuple #[.int .i64 v, .bool true]) ∧ Heap w' hb ob pb ab n A (upd In v false) ∧ Fr (Bk hb ob pb ab) w w' := by
  obtain ⟨hn, m, O, P, hM, hG⟩ := h
  obtain ⟨k, rfl⟩ : ∃ k, m = k + 1 := ⟨m - 1, by have := hG.num; omega⟩
  have hle := hG.le
  obtain ⟨hL, hS, hI, hN⟩ := next_mid hG
  have hnx := hG.next (by omega)
  have ho := hG.link.ord 0 (by omega)
  have hl : Calls Try.prog 19 #[.pointer (some ⟨hb, 0, none⟩)] w fun e w' => e = .returned (.int .i64 ((k : Int) + 1)) ∧ w = w' := len_core hb ob n (k + 1) w hM.c0
  have hsw : Calls Try.prog 27 #[.pointer (some ⟨hb, 0, none⟩), .int .i64 0, .int .i64 k] w fun e w' => e = .returned (.tuple #[]) ∧ Mem w' hb ob pb ab n (k + 1) (swO O 0 k) (swP P O 0 k) A ∧ Fr (Bk hb ob pb ab) w w' :=
    swap_any (i := 0) (k := k) hM hG.link (by omega) (by omega) (by omega) (by omega)
  have HK := Lib.hid (show ∀ w2, Mem w2 hb ob pb ab n (k + 1) (swO O 0 k) (swP P O 0 k) A → Fr (Bk hb ob pb ab) w w2 →
      Calls Try.prog 28 #[.pointer (some ⟨hb, 0, none⟩), .int .i64 0] ((w2.setCell ⟨hb, 0, none⟩ (.slice (some ⟨ob, 0, none⟩) k n)).setCell ⟨pb, O 0, none⟩ (.int .i64 (-1))) fun e w' => e = .returned (.tuple #[]) ∧ Heap w' hb ob pb ab n A (upd In (O 0) false) ∧ Fr (Bk hb ob pb ab) w w' from fun w2 hM2 hF2 => by
    obtain ⟨hM3, hF3⟩ := hM2.next (O 0)
    refine (sink_any hM3 hL (by omega) (by omega) hS).mono ?_
    rintro e w' ⟨rfl, O', P', a1, a2, a3, a4, a5⟩
    exact ⟨rfl, ⟨hn, k, O', P', a1, Good.sifted (O := swO O 0 k) hG.act hI hN a2 a3 a4⟩, (hF2.trans hF3).trans a5⟩)
  have c0 : w.cell? ⟨hb, 0, none⟩ = some (.slice (some ⟨ob, 0, none⟩) (k + 1) n) := hM.c0
  have co := hM.co (j := 0) (by omega) hle
  obtain ⟨n1, n2, n3, n4, n5, n6⟩ := hM.ne
  have HN := Lib.hid hnx
  have HL := Lib.hid hl
  have HS := Lib.hid hsw
  clear hnx hl hsw hL hS hI hN hG hM h0
  generalize O 0 = v at *
  have hv1 : (v : Int) < (n : Int) + 1 := by omega
  have hk1 : ((k : Int) + 1 == 0) = false := by simp; omega
  clear ho
  go_enter Try.func13, Try.ntmps13
  go_wp2_with fail
  refine HL.out.mono ?_
  rintro e w' ⟨rfl, rfl⟩
  go_wp2_with fail
  refine HS.out.mono ?_
  rintro e w2 ⟨rfl, hM2, hF2⟩
  have hC := HK.out w2 hM2 hF2
  have d0 : w2.cell? ⟨hb, 0, none⟩ = some (.slice (some ⟨ob, 0, none⟩) (k + 1) n) := hM2.c0
  have z0 := hM2.hd.frozen 0
  have d1 : (w2.setCell ⟨hb, 0, none⟩ (.slice (some ⟨ob, 0, none⟩) k n)).cell? ⟨hb, 1, none⟩ = some (.slice (some ⟨pb, 0, none⟩) (n + 1) (n + 1)) := (hM2.hd.set 0 _).cell (i := 1) (by omega)
  have d2 := (hM2.pl.setOther (a := ⟨hb, 0, none⟩) (Ne.symm n2) (.slice (some ⟨ob, 0, none⟩) k n)).cell (i := v) (by omega)
  have z2 := hM2.pl.frozen v
  have HC := Lib.hid hC
  clear hM2 hF2 hC HK
  go_wp2_with fail
  refine HC.out.mono ?_
  rintro e w3 ⟨rfl, hH⟩
  have HH := Lib.hid hH; clear hH
  go_wp2_with fail
  go_ret2
  exact ⟨v, HN.out, rfl, HH.out⟩

theorem bump_no {w : World} {hb ob pb ab n : Nat} {A : Nat → Int} {In : Nat → Bool} (h : Heap w hb ob pb ab n A In) (v by' : Int) (hv : isV n v = false ∨ by' < 0) :
    Calls Try.prog 15 #[.pointer (some ⟨hb, 0, none⟩), .int .i64 v, .int .i64 by'] w fun e w' => e = .returned (.bool false) ∧ w = w' := by
  obtain ⟨hn, m, O, P, hM, hG⟩ := h
  have hvv := variable_core hb pb n v w (by omega) hM.c1
  cases hb2 : isV n v
  · rw [hb2] at hvv
    have HV := Lib.hid hvv
    clear hvv hM hG hv hb2
    go_enter Try.func15, Try.ntmps15
    go_wp2_with fail
    refine HV.out.mono ?_
    rintro e w' ⟨rfl, rfl⟩
    go_wp2_with fail
    go_ret
    exact ⟨rfl, rfl⟩
  · have hlt : by' < 0 := by rw [hb2] at hv; simpa using hv
    rw [hb2] at hvv
    have HV := Lib.hid hvv
    clear hvv hM hG hv hb2
    go_enter Try.func15, Try.ntmps15
    go_wp2_with fail
    refine HV.out.mono ?_
    rintro e w' ⟨rfl, rfl⟩
    go_wp2_with fail
    go_ret
    exact ⟨rfl, rfl⟩

/-- An activity that is increased. -/
def bmp (x b : Int) : Int := if b ≤ 1152921504606846976 - x then x + b else 1152921504606846976
theorem bmp_bd {x b : Int} (h : 0 ≤ x ∧ x ≤ 1152921504606846976) (hb : 0 ≤ b) : x ≤ bmp x b ∧ 0 ≤ bmp x b ∧ bmp x b ≤ 1152921504606846976 := by unfold bmp; split <;> omega

theorem Mem.bump {w : World} {hb ob pb ab n m : Nat} {O : Nat → Nat} {P A : Nat → Int} (h : Mem w hb ob pb ab n m O P A) (v : Nat) (x : Int) :
    Mem ((w.setCell ⟨ab, v, none⟩ (.int .i64 x)).drew) hb ob pb ab n m O P (updI A v x) ∧ Fr (Bk hb ob pb ab) w ((w.setCell ⟨ab, v, none⟩ (.int .i64 x)).drew) := by
  obtain ⟨n1, n2, n3, n4, n5, n6⟩ := h.ne
  refine ⟨⟨h.hd.setOther (a := ⟨ab, v, none⟩) n3 _, ?_, h.pl.setOther (a := ⟨ab, v, none⟩) n6 _, (h.ac.set v _).congr fun j _ => ?_, h.ne⟩, ((Fr.refl _ w).set (.inr (.inr (.inr rfl))) _).drew⟩
  · obtain ⟨F, hF, he⟩ := h.od
    exact ⟨F, hF.setOther (a := ⟨ab, v, none⟩) n5 _, he⟩
  · unfold updI
    split <;> rfl

set_option maxHeartbeats 4000000 in
theorem bump_yes {w : World} {hb ob pb ab n : Nat} {A : Nat → Int} {In : Nat → Bool} (h : Heap w hb ob pb ab n A In) (v : Nat) (b : Int) (h1 : 1 ≤ v) (h2 : v ≤ n) (hb0 : 0 ≤ b) (hb1 : b ≤ 9223372036854775807) :
    Calls Try.prog 15 #[.pointer (some ⟨hb, 0, none⟩), .int .i64 v, .int .i64 b] w fun e w' => e = .returned (.bool true) ∧ Heap w' hb ob pb ab n (updI A v (bmp (A v) b)) In ∧ Fr (Bk hb ob pb ab) w w' := by
  obtain ⟨hn, m, O, P, hM, hG⟩ := h
  have hvv := variable_core hb pb n v w (by omega) hM.c1
  rw [isV_nat.2 ⟨h1, h2⟩] at hvv
  have hx := hG.act v h2
  have hz := bmp_bd hx hb0
  obtain ⟨hM1, hF1⟩ := hM.bump v (bmp (A v) b)
  have hact : ∀ u, u ≤ n → 0 ≤ updI A v (bmp (A v) b) u ∧ updI A v (bmp (A v) b) u ≤ 1152921504606846976 := fun u hu => by
    unfold updI; split
    · exact hz.2
    · exact hG.act u hu
  have hH1 : In v = false → Heap ((w.setCell ⟨ab, v, none⟩ (.int .i64 (bmp (A v) b))).drew) hb ob pb ab n (updI A v (bmp (A v) b)) In := fun hf => by
    refine ⟨hn, m, O, P, hM1, hG.link, bump_out hG ?_, hact, hG.inn, hG.num⟩
    have := hG.inn v h1 h2
    rw [hf] at this
    simpa using this
  have hrise : In v = true → ∃ i : Nat, P v = i ∧ Calls Try.prog 25 #[.pointer (some ⟨hb, 0, none⟩), .int .i64 i] ((w.setCell ⟨ab, v, none⟩ (.int .i64 (bmp (A v) b))).drew) fun e w' => e = .returned (.tuple #[]) ∧ Heap w' hb ob pb ab n (updI A v (bmp (A v) b)) In ∧ Fr (Bk hb ob pb ab) w w' := fun ht => by
    obtain ⟨i, hi, hp, ho⟩ := hG.link.pla v h1 h2 ((hG.inn v h1 h2).1 ht)
    refine ⟨i, hp, (rise_any hM1 hG.link hG.le (by omega) hi (bump_mid hG hz.1 hi ho)).mono ?_⟩
    rintro e w' ⟨rfl, O', P', a1, a2, a3, a4, a5⟩
    exact ⟨rfl, ⟨hn, m, O', P', a1, Good.sifted (O := O) hact hG.inn hG.num a2 a3 a4⟩, hF1.trans a5⟩
  have hhas : Calls Try.prog 21 #[.pointer (some ⟨hb, 0, none⟩), .int .i64 v] ((w.setCell ⟨ab, v, none⟩ (.int .i64 (bmp (A v) b))).drew) fun e w' => e = .returned (.bool (In v)) ∧ (w.setCell ⟨ab, v, none⟩ (.int .i64 (bmp (A v) b))).drew = w' := by
    have hh := has_core hb pb n v (P v) ((w.setCell ⟨ab, v, none⟩ (.int .i64 (bmp (A v) b))).drew) (by omega) hM1.c1 (fun _ => hM1.cp h2)
    rw [isV_nat.2 ⟨h1, h2⟩, ← hG.in_iff h1 h2] at hh
    exact hh
  have c2 := hM.c2
  have cx := hM.ca h2
  have fx := hM.ac.frozen v
  have d1 : (w.setCell ⟨ab, v, none⟩ (.int .i64 (bmp (A v) b))).cell? ⟨hb, 1, none⟩ = some (.slice (some ⟨pb, 0, none⟩) (n + 1) (n + 1)) := hM1.c1
  have d2 : (w.setCell ⟨ab, v, none⟩ (.int .i64 (bmp (A v) b))).cell? ⟨pb, v, none⟩ = some (.int .i64 (P v)) := hM1.cp h2
  have hlt : (v : Int) < (n : Int) + 1 := by omega
  have HR := Lib.hid hrise
  have HH := Lib.hid hhas
  have HV := Lib.hid hvv
  have HH1 := Lib.hid hH1
  have HF1 := Lib.hid hF1
  have hz1 : bmp (A v) b = bmp (A v) b := rfl
  clear hrise hhas hvv hH1 hF1 hM1 hM hact hG hz1
  obtain ⟨hx0, hx1⟩ := hx
  have hdz : (b ≤ 1152921504606846976 - A v ∧ bmp (A v) b = A v + b) ∨ (1152921504606846976 - A v < b ∧ bmp (A v) b = A v + (1152921504606846976 - A v)) := by unfold bmp; split <;> omega
  generalize hAv : A v = x at *
  clear hAv
  generalize bmp x b = z at *
  rcases hdz with ⟨hc, rfl⟩ | ⟨hc, rfl⟩
  all_goals
    cases hIn : In v
    · rw [hIn] at HH
      have HE := Lib.hid (HH1.out hIn)
      clear HR hIn HH1
      go_enter Try.func15, Try.ntmps15
      go_wp2_with fail
      refine HV.out.mono ?_
      rintro e w' ⟨rfl, rfl⟩
      go_wp2_with fail
      go_region
      go_wp2_with fail
      refine HH.out.mono ?_
      rintro e w' ⟨rfl, rfl⟩
      go_wp2_with fail
      go_ret
      exact ⟨rfl, HE.out, HF1.out⟩
    · rw [hIn] at HH
      obtain ⟨i, hi, hC⟩ := HR.out hIn
      rw [hi] at d2
      have HC := Lib.hid hC
      clear HR hIn HH1 hi hC
      go_enter Try.func15, Try.ntmps15
      go_wp2_with fail
      refine HV.out.mono ?_
      rintro e w' ⟨rfl, rfl⟩
      go_wp2_with fail
      go_region
      go_wp2_with fail
      refine HH.out.mono ?_
      rintro e w' ⟨rfl, rfl⟩
      go_wp2_with fail
      refine HC.out.mono ?_
      rintro e w' ⟨rfl, hH⟩
      have HE := Lib.hid hH
      clear hH
      go_wp2_with fail
      go_ret
      exact ⟨rfl, HE.out⟩
end Go.Proofs.Ytbhbokcgkhgljaa
