/- The answers' heap in memory (two lists): contracts of is, Put, Next, Bump, Halve, Len, act. -/
import Derived.Test.YtbhbokcgkhgljaaM
namespace Go.Proofs.Ytbhbokcgkhgljaa
open Go.RowKit Go.Lib

def rhF (ai aa : Option Addr) (ci ca n : Nat) : Nat → Value := fun i => if i = 0 then .slice ai n ci else .slice aa n ca
/-- The answers' heap: block rb its head; ib, jb its two lists (where it has a variable). -/
structure Rf (w : World) (rb ib jb : Nat) (ai aa : Option Addr) (ci ca n : Nat) (In : Nat → Bool) (A : Nat → Int) : Prop where
  hd : w.rowIs rb 40 2 (rhF ai aa ci ca n)
  le : n ≤ 1000000
  act : ∀ v, v ≤ n → 0 ≤ A v ∧ A v ≤ 1152921504606846976
  li : n = 0 ∨ (ai = some ⟨ib, 0, none⟩ ∧ aa = some ⟨jb, 0, none⟩ ∧ rb ≠ ib ∧ rb ≠ jb ∧ ib ≠ jb ∧ n ≤ ci ∧ n ≤ ca ∧
    (∃ F, w.rowIs ib 4 ci F ∧ ∀ j, j < n → F j = .bool (In (j + 1))) ∧ (∃ F, w.rowIs jb 2 ca F ∧ ∀ j, j < n → F j = .int .i64 (A (j + 1))))
def Rk (ib jb : Nat) (k : Nat) : Prop := k = ib ∨ k = jb

section
variable {w : World} {rb ib jb ci ca n : Nat} {ai aa : Option Addr} {In : Nat → Bool} {A : Nat → Int}
theorem Rf.c0 (h : Rf w rb ib jb ai aa ci ca n In A) : w.cell? ⟨rb, 0, none⟩ = some (.slice ai n ci) := h.hd.cell (i := 0) (by omega)
theorem Rf.c1 (h : Rf w rb ib jb ai aa ci ca n In A) : w.cell? ⟨rb, 1, none⟩ = some (.slice aa n ca) := h.hd.cell (i := 1) (by omega)
theorem Rf.at (h : Rf w rb ib jb ai aa ci ca n In A) {j : Nat} (hj : j < n) : ai = some ⟨ib, 0, none⟩ ∧ aa = some ⟨jb, 0, none⟩ ∧ w.cell? ⟨ib, j, none⟩ = some (.bool (In (j + 1))) ∧ w.cell? ⟨jb, j, none⟩ = some (.int .i64 (A (j + 1))) ∧ w.frozen? ⟨ib, j, none⟩ = false ∧ w.frozen? ⟨jb, j, none⟩ = false := by
  rcases h.li with h0 | ⟨h1, h2, _, _, _, h3, h4, ⟨F, hF, he⟩, ⟨G, hG, hg⟩⟩
  · omega
  · exact ⟨h1, h2, by rw [hF.cell (by omega), he j hj], by rw [hG.cell (by omega), hg j hj], hF.frozen j, hG.frozen j⟩
theorem Rf.fr (h : Rf w rb ib jb ai aa ci ca n In A) {w' : World} {B : Nat → Prop} (hf : Fr B w w') (h1 : ¬ B rb) (h2 : ¬ B ib) (h3 : ¬ B jb) : Rf w' rb ib jb ai aa ci ca n In A := by
  refine ⟨hf.rowIs h.hd h1, h.le, h.act, ?_⟩
  rcases h.li with h0 | ⟨a1, a2, a3, a4, a5, a6, a7, ⟨F, hF, he⟩, ⟨G, hG, hg⟩⟩
  · exact .inl h0
  · exact .inr ⟨a1, a2, a3, a4, a5, a6, a7, ⟨F, hf.rowIs hF h2, he⟩, ⟨G, hf.rowIs hG h3, hg⟩⟩
theorem Rf.drew (h : Rf w rb ib jb ai aa ci ca n In A) : Rf w.drew rb ib jb ai aa ci ca n In A := ⟨h.hd, h.le, h.act, h.li⟩
theorem Rf.setI (h : Rf w rb ib jb ai aa ci ca n In A) {j : Nat} (hj : j < n) (b : Bool) : Rf (w.setCell ⟨ib, j, none⟩ (.bool b)) rb ib jb ai aa ci ca n (upd In (j + 1) b) A ∧ Fr (Rk ib jb) w (w.setCell ⟨ib, j, none⟩ (.bool b)) := by
  rcases h.li with h0 | ⟨a1, a2, a3, a4, a5, a6, a7, ⟨F, hF, he⟩, ⟨G, hG, hg⟩⟩
  · omega
  · refine ⟨⟨h.hd.setOther (a := ⟨ib, j, none⟩) a3 _, h.le, h.act, .inr ⟨a1, a2, a3, a4, a5, a6, a7, ⟨_, hF.set j _, fun i hi => ?_⟩, ⟨G, hG.setOther (a := ⟨ib, j, none⟩) (Ne.symm a5) _, hg⟩⟩⟩, (Fr.refl _ w).set (.inl rfl) _⟩
    by_cases e : i = j
    · subst e; rw [upd_same]; simp
    · rw [upd_other _ _ (by omega), ← he i hi]; simp [e]
theorem Rf.setA (h : Rf w rb ib jb ai aa ci ca n In A) {j : Nat} (hj : j < n) (x : Int) (hx : 0 ≤ x ∧ x ≤ 1152921504606846976) : Rf (w.setCell ⟨jb, j, none⟩ (.int .i64 x)) rb ib jb ai aa ci ca n In (updI A (j + 1) x) ∧ Fr (Rk ib jb) w (w.setCell ⟨jb, j, none⟩ (.int .i64 x)) := by
  rcases h.li with h0 | ⟨a1, a2, a3, a4, a5, a6, a7, ⟨F, hF, he⟩, ⟨G, hG, hg⟩⟩
  · omega
  · refine ⟨⟨h.hd.setOther (a := ⟨jb, j, none⟩) a4 _, h.le, fun v hv => ?_, .inr ⟨a1, a2, a3, a4, a5, a6, a7, ⟨F, hF.setOther (a := ⟨jb, j, none⟩) a5 _, he⟩, ⟨_, hG.set j _, fun i hi => ?_⟩⟩⟩, (Fr.refl _ w).set (.inr rfl) _⟩
    · unfold updI; split
      · exact hx
      · exact h.act v hv
    · by_cases e : i = j
      · subst e; rw [updI_same]; simp
      · rw [updI_other _ _ (by omega), ← hg i hi]; simp [e]
theorem Rf.congr (h : Rf w rb ib jb ai aa ci ca n In A) {In' : Nat → Bool} {A' : Nat → Int} (h1 : ∀ v, 1 ≤ v → v ≤ n → In v = In' v) (h2 : ∀ v, 1 ≤ v → v ≤ n → A v = A' v) (h3 : ∀ v, v ≤ n → 0 ≤ A' v ∧ A' v ≤ 1152921504606846976) : Rf w rb ib jb ai aa ci ca n In' A' := by
  refine ⟨h.hd, h.le, h3, ?_⟩
  rcases h.li with h0 | ⟨a1, a2, a3, a4, a5, a6, a7, ⟨F, hF, he⟩, ⟨G, hG, hg⟩⟩
  · exact .inl h0
  · exact .inr ⟨a1, a2, a3, a4, a5, a6, a7, ⟨F, hF, fun j hj => by rw [he j hj, h1 (j + 1) (by omega) (by omega)]⟩, ⟨G, hG, fun j hj => by rw [hg j hj, h2 (j + 1) (by omega) (by omega)]⟩⟩
end

theorem is_core (rb n ci : Nat) (ai : Option Addr) (v : Int) (w : World) (hn : n ≤ 1000000) (c0 : w.cell? ⟨rb, 0, none⟩ = some (.slice ai n ci)) :
    Calls Try.prog 26 #[.pointer (some ⟨rb, 0, none⟩), .int .i64 v] w fun e w' => e = .returned (.bool (isV n v)) ∧ w = w' := by
  by_cases h1 : 1 ≤ v
  · have hd : isV n v = decide (v ≤ (n : Int)) := by unfold isV; rw [decide_eq_decide]; omega
    have HD := Lib.hid hd; clear hd
    go_enter Try.func26, Try.ntmps26
    go_wp2
    go_ret
    exact ⟨ret_bool HD.out.symm, rfl⟩
  · have hd : isV n v = false := by simp [isV, h1]
    have HD := Lib.hid hd; clear hd
    have hd2 : decide (1 ≤ v) = false := by simpa using h1
    go_enter Try.func26, Try.ntmps26
    go_wp2
    go_ret
    exact ⟨ret_bool HD.out.symm, rfl⟩

section
variable {w : World} {rb ib jb ci ca n : Nat} {ai aa : Option Addr} {In : Nat → Bool} {A : Nat → Int}

theorem refPut_out (h : Rf w rb ib jb ai aa ci ca n In A) (v : Int) (hv : isV n v = false) : Calls Try.prog 12 #[.pointer (some ⟨rb, 0, none⟩), .int .i64 v] w fun e w' => e = .returned (.bool false) ∧ w = w' := by
  have hi := is_core rb n ci ai v w h.le h.c0
  rw [hv] at hi
  have HI := Lib.hid hi
  clear hi h hv
  go_enter Try.func12, Try.ntmps12
  go_wp2_with fail
  refine HI.out.mono ?_
  rintro e w' ⟨rfl, rfl⟩
  go_wp2_with fail
  go_ret
  exact ⟨rfl, rfl⟩
theorem refPut_in (h : Rf w rb ib jb ai aa ci ca n In A) (u : Nat) (hu : u < n) :
    Calls Try.prog 12 #[.pointer (some ⟨rb, 0, none⟩), .int .i64 ((u : Int) + 1)] w fun e w' => e = .returned (.bool (!In (u + 1))) ∧ Rf w' rb ib jb ai aa ci ca n (if In (u + 1) then In else upd In (u + 1) true) A ∧ Fr (Rk ib jb) w w' := by
  have hn := h.le
  have hi := is_core rb n ci ai ((u : Int) + 1) w h.le h.c0
  rw [isV_iff.2 (by omega)] at hi
  have HI := Lib.hid hi
  have c0 := h.c0
  obtain ⟨rfl, -, cu, -, fu, -⟩ := h.at hu
  have HS := Lib.hid (h.setI hu true)
  have HR := Lib.hid h
  have hui : (u : Int) < (n : Int) := by omega
  clear hi h
  cases hb : In (u + 1)
  · rw [hb] at cu
    clear hb
    go_enter Try.func12, Try.ntmps12
    go_wp2_with fail
    refine HI.out.mono ?_
    rintro e w' ⟨rfl, rfl⟩
    go_wp2_with fail
    go_ret
    exact ⟨rfl, HS.out⟩
  · rw [hb] at cu
    clear hb
    go_enter Try.func12, Try.ntmps12
    go_wp2_with fail
    refine HI.out.mono ?_
    rintro e w' ⟨rfl, rfl⟩
    go_wp2_with fail
    go_ret
    exact ⟨rfl, HR.out, Fr.refl _ _⟩

theorem refBump_no (h : Rf w rb ib jb ai aa ci ca n In A) (v b : Int) (hv : isV n v = false ∨ b < 0) : Calls Try.prog 16 #[.pointer (some ⟨rb, 0, none⟩), .int .i64 v, .int .i64 b] w fun e w' => e = .returned (.bool false) ∧ w = w' := by
  have hi := is_core rb n ci ai v w h.le h.c0
  cases hb2 : isV n v
  · rw [hb2] at hi
    have HI := Lib.hid hi
    clear hi h hv hb2
    go_enter Try.func16, Try.ntmps16
    go_wp2_with fail
    refine HI.out.mono ?_
    rintro e w' ⟨rfl, rfl⟩
    go_wp2_with fail
    go_ret
    exact ⟨rfl, rfl⟩
  · have hlt : b < 0 := by rw [hb2] at hv; simpa using hv
    rw [hb2] at hi
    have HI := Lib.hid hi
    clear hi h hv hb2
    go_enter Try.func16, Try.ntmps16
    go_wp2_with fail
    refine HI.out.mono ?_
    rintro e w' ⟨rfl, rfl⟩
    go_wp2_with fail
    go_ret
    exact ⟨rfl, rfl⟩
theorem refBump_yes (h : Rf w rb ib jb ai aa ci ca n In A) (u : Nat) (b : Int) (hu : u < n) (hb0 : 0 ≤ b) (hb1 : b ≤ 9223372036854775807) :
    Calls Try.prog 16 #[.pointer (some ⟨rb, 0, none⟩), .int .i64 ((u : Int) + 1), .int .i64 b] w fun e w' => e = .returned (.bool true) ∧ Rf w' rb ib jb ai aa ci ca n In (updI A (u + 1) (bmp (A (u + 1)) b)) ∧ Fr (Rk ib jb) w w' := by
  have hn := h.le
  have hi := is_core rb n ci ai ((u : Int) + 1) w h.le h.c0
  rw [isV_iff.2 (by omega)] at hi
  have HI := Lib.hid hi
  have c1 := h.c1
  obtain ⟨-, rfl, -, cu, -, fu⟩ := h.at hu
  have hx := h.act (u + 1) (by omega)
  have hz := bmp_bd hx hb0
  have HS := Lib.hid (h.setA hu (bmp (A (u + 1)) b) hz.2)
  have hui : (u : Int) < (n : Int) := by omega
  have hdz : (b ≤ 1152921504606846976 - A (u + 1) ∧ bmp (A (u + 1)) b = A (u + 1) + b) ∨ (1152921504606846976 - A (u + 1) < b ∧ bmp (A (u + 1)) b = 1152921504606846976) := by unfold bmp; split <;> omega
  clear hi h hz
  obtain ⟨hx0, hx1⟩ := hx
  generalize hAv : A (u + 1) = x at cu hx0 hx1 hdz HS
  clear hAv
  rcases hdz with ⟨hc, he⟩ | ⟨hc, he⟩
  · rw [he] at HS ⊢
    clear he
    go_enter Try.func16, Try.ntmps16
    go_wp2_with fail
    refine HI.out.mono ?_
    rintro e w' ⟨rfl, rfl⟩
    go_wp2_with fail
    go_region
    go_wp2_with fail
    go_ret
    exact ⟨rfl, HS.out.1.drew, HS.out.2.drew⟩
  · rw [he] at HS ⊢
    clear he
    go_enter Try.func16, Try.ntmps16
    go_wp2_with fail
    refine HI.out.mono ?_
    rintro e w' ⟨rfl, rfl⟩
    go_wp2_with fail
    go_ret
    exact ⟨rfl, HS.out⟩

set_option maxHeartbeats 1000000 in
theorem refLen (h : Rf w rb ib jb ai aa ci ca n In A) : Calls Try.prog 20 #[.pointer (some ⟨rb, 0, none⟩)] w fun e w' => e = .returned (.int .i64 (cnt In n)) ∧ w = w' := by
  have hn := h.le
  have c0 := h.c0
  have HR := Lib.hid h
  clear h
  go_enter Try.func20, Try.ntmps20
  go_wp2_with fail
  go_loop [3, 4] (fun x y => ∃ k : Nat, k ≤ n ∧ y = .int .i64 k ∧ x = .int .i64 (cnt In k)) (fun _ y => n - (intOf y).toNat)
  case atStart => exact ⟨0, Nat.zero_le _, rfl, rfl⟩
  case round =>
    obtain ⟨k, hk, rfl, rfl⟩ := hrel
    have hle := cnt_le In k
    by_cases hlt : k < n
    · obtain ⟨rfl, -, cu, -, -, -⟩ := HR.out.at hlt
      have HE := Lib.hid (show cnt In (k + 1) = cnt In k + if In (k + 1) then 1 else 0 from rfl)
      generalize cnt In k = q at *
      cases hb : In (k + 1)
      · rw [hb] at cu HE
        clear hb
        go_wp2_with fail
        go_round
        case rel => exact ⟨k + 1, by omega, by go_num, by rw [HE.out]; rfl⟩
        case measure => simp [intOf]; omega
      · rw [hb] at cu HE
        clear hb
        go_wp2_with fail
        go_round
        case rel => exact ⟨k + 1, by omega, by go_num, by rw [HE.out]; go_num⟩
        case measure => simp [intOf]; omega
    · obtain rfl : k = n := by omega
      go_wp2_with fail
      go_ret
      exact ⟨rfl, rfl⟩

/-- An activity, 0 of what is no variable. -/
def acF (n : Nat) (A : Nat → Int) (v : Int) : Int := if isV n v then A v.toNat else 0
theorem refAct (h : Rf w rb ib jb ai aa ci ca n In A) (v : Int) : Calls Try.prog 23 #[.pointer (some ⟨rb, 0, none⟩), .int .i64 v] w fun e w' => e = .returned (.int .i64 (acF n A v)) ∧ w = w' := by
  have hn := h.le
  have c1 := h.c1
  by_cases h1 : 1 ≤ v
  · by_cases h2 : v ≤ n
    · obtain ⟨u, rfl⟩ : ∃ u : Nat, v = (u : Int) + 1 := ⟨(v - 1).toNat, by omega⟩
      have hu : u < n := by omega
      obtain ⟨-, rfl, -, cu, -, -⟩ := h.at hu
      have HE := Lib.hid (show acF n A ((u : Int) + 1) = A (u + 1) from by
        unfold acF; rw [if_pos (isV_iff.2 (by omega)), show ((u : Int) + 1).toNat = u + 1 from by omega])
      have hui : (u : Int) < (n : Int) := by omega
      clear h
      go_enter Try.func23, Try.ntmps23
      go_wp2_with fail
      go_ret
      exact ⟨ret_int HE.out.symm, rfl⟩
    · have HE := Lib.hid (show acF n A v = 0 from by unfold acF; rw [if_neg (by rw [isV_iff]; omega)])
      have h2i : (n : Int) < v := by omega
      clear h
      go_enter Try.func23, Try.ntmps23
      go_wp2_with fail
      go_ret
      exact ⟨ret_int HE.out.symm, rfl⟩
  · have HE := Lib.hid (show acF n A v = 0 from by unfold acF; rw [if_neg (by rw [isV_iff]; omega)])
    have h1i : v < 1 := by omega
    clear h
    go_enter Try.func23, Try.ntmps23
    go_wp2_with fail
    go_ret
    exact ⟨ret_int HE.out.symm, rfl⟩

set_option maxHeartbeats 1000000 in
theorem refHalve (h : Rf w rb ib jb ai aa ci ca n In A) : Calls Try.prog 18 #[.pointer (some ⟨rb, 0, none⟩)] w fun e w' => e = .returned (.tuple #[]) ∧ Rf w' rb ib jb ai aa ci ca n In (fun v => A v / 2) ∧ Fr (Rk ib jb) w w' := by
  have hn := h.le
  have HA := Lib.hid h.act
  have H0 := Lib.hid (show Rf w rb ib jb ai aa ci ca n In (halfA A 1) ∧ Fr (Rk ib jb) w w from ⟨h.congr (fun _ _ _ => rfl) (fun v h1 _ => by unfold halfA; rw [if_neg (by omega)]) (fun v hv => by have := h.act v hv; unfold halfA; split <;> omega), Fr.refl _ _⟩)
  clear h
  go_enter Try.func18, Try.ntmps18
  go_wp2_with fail
  go_loopw [2] (fun x wr => ∃ k : Nat, k ≤ n ∧ x = .int .i64 k ∧ Hid (Rf wr rb ib jb ai aa ci ca n In (halfA A (k + 1)) ∧ Fr (Rk ib jb) w wr)) (fun x _ => n - (intOf x).toNat)
  case atStart => exact ⟨0, Nat.zero_le _, rfl, H0⟩
  case round =>
    obtain ⟨k, hk, rfl, HJ⟩ := hrel
    clear H0
    have c1 := HJ.out.1.c1
    by_cases hlt : k < n
    · obtain ⟨-, rfl, -, cu, -, fu⟩ := HJ.out.1.at hlt
      have e0 : halfA A (k + 1) (k + 1) = A (k + 1) := by simp [halfA]
      rw [e0] at cu
      obtain ⟨x0, x1⟩ := HA.out (k + 1) (by omega)
      have HN := Lib.hid (show Rf (wr.setCell ⟨jb, k, none⟩ (.int .i64 (A (k + 1) / 2))) rb ib jb ai (some ⟨jb, 0, none⟩) ci ca n In (halfA A (k + 1 + 1)) ∧ Fr (Rk ib jb) w (wr.setCell ⟨jb, k, none⟩ (.int .i64 (A (k + 1) / 2))) from by
        obtain ⟨a, b⟩ := HJ.out.1.setA hlt (A (k + 1) / 2) (by omega)
        rw [halfA_step] at a
        exact ⟨a, HJ.out.2.trans b⟩)
      have hlti : (k : Int) < (n : Int) := by omega
      clear HJ e0
      generalize A (k + 1) = y at *
      go_wp2_with fail
      go_region
      go_wp2_with fail
      go_roundw
      case rel => exact ⟨k + 1, by omega, by go_num, Lib.hid ⟨HN.out.1.drew, HN.out.2.drew⟩⟩
      case measure => simp [intOf]; omega
    · obtain rfl : k = n := by omega
      have HE := Lib.hid (show Rf wr rb ib jb ai aa ci ca k In (fun v => A v / 2) from HJ.out.1.congr (fun _ _ _ => rfl) (fun v _ h2 => by unfold halfA; rw [if_pos (by omega)]) (fun v hv => by have := HA.out v hv; show 0 ≤ A v / 2 ∧ A v / 2 ≤ _; omega))
      go_wp2_with fail
      go_end0
      exact ⟨rfl, HE.out, HJ.out.2⟩
end

/-- The best so far among the first k. -/
def Best (A : Nat → Int) (In : Nat → Bool) (k : Nat) (y : Int) : Prop :=
  (y = -1 ∧ ∀ j, j < k → In (j + 1) = false) ∨ ∃ b : Nat, y = b ∧ b < k ∧ In (b + 1) = true ∧ ∀ j, j < k → In (j + 1) = true → ¬ bef A (j + 1) (b + 1)
theorem Best.miss {A : Nat → Int} {In : Nat → Bool} {k : Nat} {y : Int} (h : Best A In k y) (hk : In (k + 1) = false) : Best A In (k + 1) y := by
  rcases h with ⟨h1, h2⟩ | ⟨b, h1, h2, h3, h4⟩
  · exact .inl ⟨h1, fun j hj => by
      by_cases e : j = k
      · subst e; exact hk
      · exact h2 j (by omega)⟩
  · exact .inr ⟨b, h1, by omega, h3, fun j hj hin => by
      by_cases e : j = k
      · subst e; rw [hk] at hin; cases hin
      · exact h4 j (by omega) hin⟩
theorem Best.first {A : Nat → Int} {In : Nat → Bool} {k : Nat} {y : Int} (h : Best A In k y) (hk : In (k + 1) = true) (hy : y < 0) : Best A In (k + 1) k := by
  rcases h with ⟨h1, h2⟩ | ⟨b, h1, _⟩
  · exact .inr ⟨k, rfl, by omega, hk, fun j hj hin => by
      by_cases e : j = k
      · subst e; exact bef_irrefl _ _
      · rw [h2 j (by omega)] at hin; cases hin⟩
  · omega
theorem Best.more {A : Nat → Int} {In : Nat → Bool} {k b : Nat} (h : Best A In k b) (hk : In (k + 1) = true) (hb : A (b + 1) < A (k + 1)) : Best A In (k + 1) k := by
  rcases h with ⟨h1, h2⟩ | ⟨b', h1, h2, h3, h4⟩
  · omega
  · obtain rfl : b = b' := by omega
    exact .inr ⟨k, rfl, by omega, hk, fun j hj hin => by
      by_cases e : j = k
      · subst e; exact bef_irrefl _ _
      · have := h4 j (by omega) hin
        unfold bef at *
        omega⟩
theorem Best.less {A : Nat → Int} {In : Nat → Bool} {k b : Nat} (h : Best A In k b) (hb : ¬ A (b + 1) < A (k + 1)) : Best A In (k + 1) b := by
  rcases h with ⟨h1, h2⟩ | ⟨b', h1, h2, h3, h4⟩
  · omega
  · obtain rfl : b = b' := by omega
    exact .inr ⟨b, rfl, by omega, h3, fun j hj hin => by
      by_cases e : j = k
      · subst e; unfold bef; omega
      · exact h4 j (by omega) hin⟩
theorem Best.none {A : Nat → Int} {In : Nat → Bool} {n : Nat} {y : Int} (h : Best A In n y) (hy : y < 0) : cnt In n = 0 := by
  rcases h with ⟨h1, h2⟩ | ⟨b, h1, _⟩
  · rw [cnt_congr (q := fun _ => false) fun v hv1 hv2 => by obtain ⟨j, rfl⟩ : ∃ j, v = j + 1 := ⟨v - 1, by omega⟩; exact h2 j (by omega)]
    clear h2
    induction n with
    | zero => rfl
    | succ n ih => simp only [cnt]; rw [ih]; rfl
  · omega
theorem Best.some {A : Nat → Int} {In : Nat → Bool} {n b : Nat} (h : Best A In n b) : b < n ∧ IsNext n A In (b + 1) := by
  rcases h with ⟨h1, h2⟩ | ⟨b', h1, h2, h3, h4⟩
  · omega
  · obtain rfl : b = b' := by omega
    exact ⟨h2, by omega, by omega, h3, fun u hu1 hu2 hin => by
      obtain ⟨j, rfl⟩ : ∃ j, u = j + 1 := ⟨u - 1, by omega⟩
      exact h4 j (by omega) hin⟩

def RnPost (w : World) (rb ib jb : Nat) (ai aa : Option Addr) (ci ca n : Nat) (In : Nat → Bool) (A : Nat → Int) (e : Ending) (w' : World) : Prop :=
  (cnt In n = 0 ∧ e = .returned (.tuple #[.int .i64 0, .bool false]) ∧ Rf w' rb ib jb ai aa ci ca n In A ∧ Fr (Rk ib jb) w w') ∨
  ∃ v, IsNext n A In v ∧ e = .returned (.tuple #[.int .i64 v, .bool true]) ∧ Rf w' rb ib jb ai aa ci ca n (upd In v false) A ∧ Fr (Rk ib jb) w w'

set_option maxHeartbeats 4000000 in
theorem refNext {w : World} {rb ib jb ci ca n : Nat} {ai aa : Option Addr} {In : Nat → Bool} {A : Nat → Int} (h : Rf w rb ib jb ai aa ci ca n In A) :
    Calls Try.prog 14 #[.pointer (some ⟨rb, 0, none⟩)] w (RnPost w rb ib jb ai aa ci ca n In A) := by
  have hn := h.le
  have H0 := Lib.hid (show Rf w rb ib jb ai aa ci ca n In A ∧ Fr (Rk ib jb) w w from ⟨h, Fr.refl _ _⟩)
  clear h
  go_enter Try.func14, Try.ntmps14
  go_wp2_with fail
  go_loopw [4, 5] (fun x z wr => ∃ (y : Int) (k : Nat), k ≤ n ∧ -1 ≤ y ∧ y < n ∧ z = .int .i64 k ∧ x = .int .i64 y ∧ Hid (Best A In k y) ∧ Hid (Rf wr rb ib jb ai aa ci ca n In A ∧ Fr (Rk ib jb) w wr)) (fun _ z _ => n - (intOf z).toNat)
  case atStart => exact ⟨-1, 0, Nat.zero_le _, by omega, by omega, rfl, rfl, Lib.hid (.inl ⟨rfl, fun j hj => by omega⟩), H0⟩
  case round =>
    obtain ⟨y, k, hk, hy0, hy1, rfl, rfl, HB, HJ⟩ := hrel
    clear H0
    have c0 := HJ.out.1.c0
    have c1 := HJ.out.1.c1
    by_cases hlt : k < n
    · obtain ⟨rfl, rfl, cu, cx, -, -⟩ := HJ.out.1.at hlt
      have hlti : (k : Int) < (n : Int) := by omega
      have HD := Lib.hid (show ∀ q, Rf (wr.drewN q) rb ib jb (some ⟨ib, 0, none⟩) (some ⟨jb, 0, none⟩) ci ca n In A ∧ Fr (Rk ib jb) w (wr.drewN q) from fun q => ⟨⟨HJ.out.1.hd, HJ.out.1.le, HJ.out.1.act, HJ.out.1.li⟩, HJ.out.2.drewN q⟩)
      cases hb : In (k + 1)
      · rw [hb] at cu
        have HN := Lib.hid (HB.out.miss hb)
        clear hb HB HJ cx
        go_wp2_with fail
        go_quiet (fail)
        go_wp2_with fail
        go_roundw
        case rel => exact ⟨y, k + 1, by omega, hy0, hy1, by go_num, rfl, HN, HD.out _⟩
        case measure => simp [intOf]; omega
      · rw [hb] at cu
        by_cases hy : y < 0
        · have HN := Lib.hid (HB.out.first hb hy)
          clear hb HB HJ cx
          go_wp2_with fail
          go_quiet (fail)
          go_wp2_with fail
          go_roundw
          case rel => exact ⟨k, k + 1, by omega, by omega, by omega, by go_num, rfl, HN, HD.out _⟩
          case measure => simp [intOf]; omega
        · obtain ⟨b, rfl⟩ : ∃ b : Nat, y = b := ⟨y.toNat, by omega⟩
          obtain ⟨-, -, -, cb, -, -⟩ := HJ.out.1.at (j := b) (by omega)
          have hyd : decide ((b : Int) < 0) = false := by simp
          by_cases hc : A (b + 1) < A (k + 1)
          · have HN := Lib.hid (HB.out.more hb hc)
            clear hb HB HJ hy
            generalize A (b + 1) = z1 at *
            generalize A (k + 1) = z2 at *
            go_wp2_with fail
            go_quiet (fail)
            go_wp2_with fail
            go_roundw
            case rel => exact ⟨k, k + 1, by omega, by omega, by omega, by go_num, rfl, HN, HD.out _⟩
            case measure => simp [intOf]; omega
          · have HN := Lib.hid (HB.out.less hc)
            clear hb HB HJ hy
            generalize A (b + 1) = z1 at *
            generalize A (k + 1) = z2 at *
            go_wp2_with fail
            go_quiet (fail)
            go_wp2_with fail
            go_roundw
            case rel => exact ⟨b, k + 1, by omega, by omega, by omega, by go_num, rfl, HN, HD.out _⟩
            case measure => simp [intOf]; omega
    · obtain rfl : k = n := by omega
      by_cases hy : y < 0
      · have HE := Lib.hid (show RnPost w rb ib jb ai aa ci ca k In A (.returned (.tuple #[.int .i64 0, .bool false])) wr from .inl ⟨HB.out.none hy, rfl, HJ.out⟩)
        clear HB HJ c1
        go_wp2_with fail
        go_ret2
        exact HE.out
      · obtain ⟨b, rfl⟩ : ∃ b : Nat, y = b := ⟨y.toNat, by omega⟩
        obtain ⟨hb, hx⟩ := HB.out.some
        obtain ⟨rfl, -, cb, -, fb, -⟩ := HJ.out.1.at hb
        have hbi : (b : Int) < (k : Int) := by omega
        have HE := Lib.hid (show RnPost w rb ib jb (some ⟨ib, 0, none⟩) aa ci ca k In A (.returned (.tuple #[.int .i64 ((b : Int) + 1), .bool true])) (wr.setCell ⟨ib, b, none⟩ (.bool false)) from .inr ⟨b + 1, hx, rfl, (HJ.out.1.setI hb false).1, HJ.out.2.trans (HJ.out.1.setI hb false).2⟩)
        clear HB HJ c1 hx hy
        go_wp2_with fail
        go_ret2
        exact HE.out
end Go.Proofs.Ytbhbokcgkhgljaa
