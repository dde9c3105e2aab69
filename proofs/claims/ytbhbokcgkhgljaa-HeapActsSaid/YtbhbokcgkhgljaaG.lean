/- A heap as a set of variables with activities: contracts of Halve, New. -/
import Derived.Test.YtbhbokcgkhgljaaF
import Derived.Deep.DeepCutAuto
namespace Go.Proofs.Ytbhbokcgkhgljaa
open Go.RowKit Go.Lib

def halfA (A : Nat → Int) (k : Nat) : Nat → Int := fun v => if v < k then A v / 2 else A v
theorem halfA_zero (A : Nat → Int) : halfA A 0 = A := by funext v; simp [halfA]
theorem halfA_step (A : Nat → Int) (k : Nat) : updI (halfA A k) k (A k / 2) = halfA A (k + 1) := by
  funext v
  unfold updI halfA
  by_cases e : v = k
  · subst e; simp
  · rw [if_neg e]
    by_cases h : v < k
    · rw [if_pos h, if_pos (by omega)]
    · rw [if_neg h, if_neg (by omega)]

set_option maxHeartbeats 4000000 in
theorem halve_any {w : World} {hb ob pb ab n : Nat} {A : Nat → Int} {In : Nat → Bool} (h : Heap w hb ob pb ab n A In) :
    Calls Try.prog 17 #[.pointer (some ⟨hb, 0, none⟩)] w fun e w' => e = .returned (.tuple #[]) ∧ Heap w' hb ob pb ab n (fun v => A v / 2) In ∧ Fr (Bk hb ob pb ab) w w' := by
  obtain ⟨hn, m, O, P, hM, hG⟩ := h
  have hmn := hG.le
  have H0 := Lib.hid (show Mem w hb ob pb ab n m O P (halfA A 0) ∧ Fr (Bk hb ob pb ab) w w from ⟨by rw [halfA_zero]; exact hM, Fr.refl _ _⟩)
  have HA := Lib.hid hG.act
  have HG := Lib.hid hG
  have c2 := hM.c2
  clear hM hG
  go_enter Try.func17, Try.ntmps17
  go_wp2_with fail
  go_loopw [11] (fun x wr => ∃ k : Nat, k ≤ n + 1 ∧ x = .int .i64 k ∧ Hid (Mem wr hb ob pb ab n m O P (halfA A k) ∧ Fr (Bk hb ob pb ab) w wr)) (fun x _ => n + 1 - (intOf x).toNat)
  case atStart => exact ⟨0, Nat.zero_le _, rfl, H0⟩
  case round =>
    obtain ⟨k, hk, rfl, HJ⟩ := hrel
    clear H0 c2
    by_cases hlt : k < n + 1
    · have d2 := HJ.out.1.c2
      have dk := HJ.out.1.ca (j := k) (by omega)
      have fk := HJ.out.1.ac.frozen k
      have e0 : halfA A k k = A k := by simp [halfA]
      rw [e0] at dk
      obtain ⟨x0, x1⟩ := HA.out k (by omega)
      have HN := Lib.hid (show Mem (wr.setCell ⟨ab, k, none⟩ (.int .i64 (A k / 2))) hb ob pb ab n m O P (halfA A (k + 1)) ∧ Fr (Bk hb ob pb ab) w (wr.setCell ⟨ab, k, none⟩ (.int .i64 (A k / 2))) from by
        obtain ⟨a, b⟩ := HJ.out.1.bump k (A k / 2)
        rw [halfA_step] at a
        exact ⟨⟨a.hd, a.od, a.pl, a.ac, a.ne⟩, HJ.out.2.trans ⟨b.os, b.tape, b.output, b.size, b.block⟩⟩)
      have hlti : (k : Int) < (n : Int) + 1 := by omega
      clear HJ e0
      generalize A k = y at *
      go_wp2_with fail
      go_roundw
      case rel => exact ⟨k + 1, by omega, by go_num, HN⟩
      case measure => simp [intOf]; omega
    · obtain rfl : k = n + 1 := by omega
      have d0 := HJ.out.1.c0
      have H1 := Lib.hid (show ∃ O' P', Mem wr hb ob pb ab n m O' P' (fun v => A v / 2) ∧ Link n m O' P' ∧ (∀ v, P' v = -1 ↔ P v = -1) ∧ Up (fun v => A v / 2) O' (m / 2) m ∧ Fr (Bk hb ob pb ab) w wr from
        ⟨O, P, HJ.out.1.congr (fun _ _ => rfl) (fun _ _ => rfl) (fun j hj => by unfold halfA; rw [if_pos (by omega)]), HG.out.link, fun _ => Iff.rfl, up_start _ _ _, HJ.out.2⟩)
      clear HJ
      go_wp2_with fail
      clear d0
      go_loopw [3] (fun x w2 => ∃ (y : Int) (k : Nat), k ≤ m / 2 ∧ y + 1 = k ∧ x = .int .i64 y ∧ Hid (∃ O' P', Mem w2 hb ob pb ab n m O' P' (fun v => A v / 2) ∧ Link n m O' P' ∧ (∀ v, P' v = -1 ↔ P v = -1) ∧ Up (fun v => A v / 2) O' k m ∧ Fr (Bk hb ob pb ab) w w2)) (fun x _ => (intOf x + 1).toNat)
      case atStart => exact ⟨(m : Int) / 2 - 1, m / 2, Nat.le_refl _, by omega, by go_num, H1⟩
      case round =>
        obtain ⟨y, k, hk2, hy, rfl, HJ⟩ := hrel
        clear H1
        by_cases h0 : k = 0
        · subst h0
          obtain rfl : y = -1 := by omega
          go_wp2_with fail
          go_end0
          obtain ⟨O', P', a1, a2, a3, a4, a5⟩ := HJ.out
          exact ⟨rfl, ⟨hn, m, O', P', a1, Good.sifted (O := O) (fun v hv => by have := HA.out v hv; omega) HG.out.inn HG.out.num a2 a3 a4⟩, a5⟩
        · obtain ⟨j, rfl⟩ : ∃ j, k = j + 1 := ⟨k - 1, by omega⟩
          obtain rfl : y = (j : Int) := by omega
          have HC := Lib.hid (show Calls Try.prog 28 #[.pointer (some ⟨hb, 0, none⟩), .int .i64 j] wr fun e w' => e = .returned (.tuple #[]) ∧ (∃ O' P', Mem w' hb ob pb ab n m O' P' (fun v => A v / 2) ∧ Link n m O' P' ∧ (∀ v, P' v = -1 ↔ P v = -1) ∧ Up (fun v => A v / 2) O' j m ∧ Fr (Bk hb ob pb ab) w w') from by
            obtain ⟨O', P', a1, a2, a3, a4, a5⟩ := HJ.out
            refine (sink_core a1 a2 hmn (by omega) (i := j) (lo := j) (by omega) (Nat.le_refl _) (sink_start a4)).mono ?_
            rintro e w' ⟨rfl, O2, P2, b1, b2, b3, b4, b5⟩
            exact ⟨rfl, O2, P2, b1, b2, fun v => (b3 v).trans (a3 v), b4, a5.trans b5⟩)
          clear HJ hy h0
          go_wp2_with fail
          refine HC.out.mono ?_
          rintro e w3 ⟨rfl, hH⟩
          have HH := Lib.hid hH; clear hH
          go_wp2_with fail
          go_roundw
          case rel => first | exact ⟨(j : Int) - 1, j, by omega, by omega, by go_num, HH⟩ | ((repeat apply Exists.intro); exact ⟨⟨(j : Int) - 1, j, by omega, by omega, by go_num, HH⟩, rfl⟩)
          case measure => simp [intOf]

theorem info2 : (Try.prog.info? 2).map (fun i => (i.zero, i.size, i.bytes)) = some (some (.int .i64 0), 1, 8) := by kernel_rfl

theorem new_arg (n : Int) (w : World) (hn : n < 0 ∨ 100000 < n) : Calls Try.prog 9 #[.int .i64 n] w fun e w' => e = .returned (.tuple #[.pointer none, .int .i64 2]) ∧ w = w' := by
  by_cases h : n < 0
  · go_enter Try.func9, Try.ntmps9
    go_wp2
    go_ret2
    exact ⟨rfl, rfl⟩
  · have h2 : 100000 < n := by omega
    have h3 : decide (n < 0) = false := by simpa using h
    go_enter Try.func9, Try.ntmps9
    go_wp2
    go_ret2
    exact ⟨rfl, rfl⟩

def nP (k : Nat) : Nat → Int := fun j => if j ≤ k then ((j - 1 : Nat) : Int) else 0
def nO (k : Nat) : Nat → Nat := fun j => if j < k then j + 1 else 0
theorem nP_step (k : Nat) : updI (nP k) (k + 1) k = nP (k + 1) := by
  funext v
  unfold updI nP
  by_cases e : v = k + 1
  · subst e; simp
  · rw [if_neg e]
    by_cases h : v ≤ k
    · rw [if_pos h, if_pos (by omega)]
    · rw [if_neg h, if_neg (by omega)]
theorem nO_step (k : Nat) : updO (nO k) k (k + 1) = nO (k + 1) := by
  funext v
  unfold updO nO
  by_cases e : v = k
  · subst e; simp
  · rw [if_neg e]
    by_cases h : v < k
    · rw [if_pos h, if_pos (by omega)]
    · rw [if_neg h, if_neg (by omega)]
theorem good_n (n : Nat) : Good n n (nO n) (nP n) (fun _ => 0) (fun _ => true) := by
  refine ⟨⟨fun i hi => ?_, fun v h1 h2 _ => ?_⟩, fun j hj h0 _ => ?_, fun v _ => by omega, fun v h1 h2 => ?_, by rw [cnt_all]⟩
  · unfold nO nP; rw [if_pos hi, if_pos (by omega)]; exact ⟨by omega, by omega, by simp⟩
  · exact ⟨v - 1, by omega, by unfold nP; rw [if_pos h2], by unfold nO; rw [if_pos (by omega)]; omega⟩
  · have := par_lt h0; unfold bef nO; rw [if_pos hj, if_pos (by omega)]; simp only []; omega
  · unfold nP; rw [if_pos h2]; simp

/-- A heap that is being made: k variables are laid. -/
def NewAt (w wr : World) (hb ob pb ab n k : Nat) : Prop := Mem wr hb ob pb ab n n (nO k) (nP k) (fun _ => 0) ∧ (w.heap.size ≤ hb ∧ w.heap.size ≤ ob ∧ w.heap.size ≤ pb ∧ w.heap.size ≤ ab) ∧ Below w.heap.size w wr

theorem newAt_start {w : World} {hb ob pb ab n : Nat} {wr : World} (h : wr.rowIs hb 48 3 (hdF ob pb ab n n)) (o : wr.rowIs ob 3 n fun _ => .int .i64 0) (p : wr.rowIs pb 3 (n + 1) fun _ => .int .i64 0) (a : wr.rowIs ab 2 (n + 1) fun _ => .int .i64 0)
    (hw : Below w.heap.size w wr) (hne : hb ≠ ob ∧ hb ≠ pb ∧ hb ≠ ab ∧ ob ≠ pb ∧ ob ≠ ab ∧ pb ≠ ab) (hge : w.heap.size ≤ hb ∧ w.heap.size ≤ ob ∧ w.heap.size ≤ pb ∧ w.heap.size ≤ ab) : NewAt w wr hb ob pb ab n 0 :=
  ⟨⟨h, ⟨_, o, fun j hj => by simp [nO]⟩, p.congr fun j hj => by
    unfold nP
    split
    · have : j = 0 := by omega
      subst this; rfl
    · rfl, a, hne⟩, hge, hw⟩
theorem made_at (w : World) (S : Nat) (hS : w.heap.size = S) (z : Value) (n : Nat) (t : TypeId) : (w.alloc (.cells (madeCells #[z] n) t)).rowIs S t n fun _ => z := by
  subst hS; exact World.rowIs_made w z n t
theorem pos1 (w : World) (z : Value) (n : Nat) (t : TypeId) (Y Z H : Obj) : (((((w.alloc (.cells (madeCells #[z] n) t)).alloc Y).alloc Z).alloc H).drew).rowIs w.heap.size t n fun _ => z :=
  ((((World.rowIs_made w z n t).alloc Y).alloc Z).alloc H).drew
theorem pos2 (w : World) (z : Value) (n : Nat) (t : TypeId) (X Z H : Obj) : (((((w.alloc X).alloc (.cells (madeCells #[z] n) t)).alloc Z).alloc H).drew).rowIs (w.heap.size + 1) t n fun _ => z :=
  (((made_at (w.alloc X) _ (by simp) z n t).alloc Z).alloc H).drew
theorem pos3 (w : World) (z : Value) (n : Nat) (t : TypeId) (X Y H : Obj) : (((((w.alloc X).alloc Y).alloc (.cells (madeCells #[z] n) t)).alloc H).drew).rowIs (w.heap.size + 1 + 1) t n fun _ => z :=
  ((made_at ((w.alloc X).alloc Y) _ (by simp) z n t).alloc H).drew
theorem posH (w : World) (n o p a : Nat) (X Y Z : Obj) : (((((w.alloc X).alloc Y).alloc Z).alloc (.cells #[.slice (some ⟨o, 0, none⟩) n n, .slice (some ⟨p, 0, none⟩) (n + 1) (n + 1), .slice (some ⟨a, 0, none⟩) (n + 1) (n + 1)] 48)).drew).rowIs (w.heap.size + 1 + 1 + 1) 48 3 (hdF o p a n n) := by
  have h := World.rowIs_alloc (((w.alloc X).alloc Y).alloc Z) #[.slice (some ⟨o, 0, none⟩) n n, .slice (some ⟨p, 0, none⟩) (n + 1) (n + 1), .slice (some ⟨a, 0, none⟩) (n + 1) (n + 1)] 48 (hdF o p a n n) (fun i hi => by
    match i, hi with
    | 0, _ => rfl
    | 1, _ => rfl
    | 2, _ => rfl)
  simp only [World.size_alloc] at h
  exact h.drew
theorem below4 (w : World) (X Y Z H : Obj) : Below w.heap.size w ((((w.alloc X).alloc Y).alloc Z).alloc H).drew :=
  (((((Below.refl _ w).alloc (Nat.le_refl _) X).alloc (by simp) Y).alloc (by simp; omega) Z).alloc (by simp; omega) H).drew

theorem newAt_step {w wr : World} {hb ob pb ab n k : Nat} (h : NewAt w wr hb ob pb ab n k) (hk : k < n) : NewAt w ((wr.setCell ⟨ob, k, none⟩ (.int .i64 ((k : Int) + 1))).setCell ⟨pb, k + 1, none⟩ (.int .i64 k)) hb ob pb ab n (k + 1) := by
  obtain ⟨hM, hge, hw⟩ := h
  obtain ⟨n1, n2, n3, n4, n5, n6⟩ := hM.ne
  refine ⟨⟨(hM.hd.setOther (a := ⟨ob, k, none⟩) n1 _).setOther (a := ⟨pb, k + 1, none⟩) n2 _, ?_, ?_, (hM.ac.setOther (a := ⟨ob, k, none⟩) (Ne.symm n5) _).setOther (a := ⟨pb, k + 1, none⟩) (Ne.symm n6) _, hM.ne⟩, hge, (hw.setCell (p := ⟨ob, k, none⟩) hge.2.1 _).setCell (p := ⟨pb, k + 1, none⟩) hge.2.2.1 _⟩
  · obtain ⟨F, hF, he⟩ := hM.od
    refine ⟨_, (hF.set k _).setOther (a := ⟨pb, k + 1, none⟩) n4 _, fun j hj => ?_⟩
    rw [← nO_step]
    unfold updO
    split
    · rfl
    · exact he j hj
  · refine ((hM.pl.setOther (a := ⟨ob, k, none⟩) (Ne.symm n4) _).set (k + 1) _).congr fun j hj => ?_
    rw [← nP_step]
    unfold updI
    split <;> rfl

set_option maxHeartbeats 8000000 in
theorem new_any (n : Nat) (hn : n ≤ 100000) (w : World) : Calls Try.prog 9 #[.int .i64 n] w fun e w' => ∃ hb ob pb ab, e = .returned (.tuple #[.pointer (some ⟨hb, 0, none⟩), .int .i64 0]) ∧
    (w.heap.size ≤ hb ∧ w.heap.size ≤ ob ∧ w.heap.size ≤ pb ∧ w.heap.size ≤ ab) ∧ Heap w' hb ob pb ab n (fun _ => 0) (fun _ => true) ∧ Below w.heap.size w w' := by
  have hmk1 := fun w => run_make_row' (P := Try.prog) 46 3 (.int .i64 0) 8 Try.underlying46 infoInt rfl .i64 .i64 n (by omega) (by omega) w
  have hmk2 := fun w => run_make_row' (P := Try.prog) 46 3 (.int .i64 0) 8 Try.underlying46 infoInt rfl .i64 .i64 (n + 1) (by omega) (by omega) w
  have hmk3 := fun w => run_make_row' (P := Try.prog) 38 2 (.int .i64 0) 8 Try.underlying38 info2 rfl .i64 .i64 (n + 1) (by omega) (by omega) w
  have ec : ((n + 1 : Nat) : Int) = (n : Int) + 1 := by omega
  simp only [ec] at hmk2 hmk3
  have hd : decide ((n : Int) < 0) = false := by simp
  clear ec
  go_enter Try.func9, Try.ntmps9
  go_wp2
  go_cut [4] (fun s wc => ∃ hb ob pb ab, s = .pointer (some ⟨hb, 0, none⟩) ∧ NewAt w wc hb ob pb ab n 0)
  case first =>
    go_region
    all_goals (go_wp2_with fail; go_meet)
    all_goals
      case rel => exact ⟨_, _, _, _, rfl, newAt_start (posH _ _ _ _ _ _ _ _) (by first | exact pos1 _ _ _ _ _ _ _ | exact pos2 _ _ _ _ _ _ _ | exact pos3 _ _ _ _ _ _ _) (by first | exact pos1 _ _ _ _ _ _ _ | exact pos2 _ _ _ _ _ _ _ | exact pos3 _ _ _ _ _ _ _) (by first | exact pos1 _ _ _ _ _ _ _ | exact pos2 _ _ _ _ _ _ _ | exact pos3 _ _ _ _ _ _ _) (below4 _ _ _ _ _) (by omega) (by omega)⟩
  case rest =>
    obtain ⟨hb, ob, pb, ab, rfl, hN⟩ := hcut
    have c0 := hN.1.c0
    have H0 := Lib.hid hN
    clear hN hmk1 hmk2 hmk3
    go_wp2_with fail
    go_loopw [27] (fun x wr => ∃ k : Nat, k ≤ n ∧ x = .int .i64 k ∧ Hid (NewAt w wr hb ob pb ab n k)) (fun x _ => n - (intOf x).toNat)
    case atStart => exact ⟨0, Nat.zero_le _, rfl, H0⟩
    case round =>
      obtain ⟨k, hk, rfl, HJ⟩ := hrel
      clear H0 c0
      by_cases hlt : k < n
      · have HS := Lib.hid (newAt_step HJ.out hlt)
        obtain ⟨n1, n2, n3, n4, n5, n6⟩ := HJ.out.1.ne
        have d0 := HJ.out.1.c0
        have dk := HJ.out.1.co (j := k) hlt (Nat.le_refl _)
        have fk := HJ.out.1.fo k
        have e1 : (wr.setCell ⟨ob, k, none⟩ (.int .i64 ((k : Int) + 1))).cell? ⟨hb, 1, none⟩ = some (.slice (some ⟨pb, 0, none⟩) (n + 1) (n + 1)) := (HJ.out.1.hd.setOther (a := ⟨ob, k, none⟩) n1 _).cell (i := 1) (by omega)
        have ek := (HJ.out.1.pl.setOther (a := ⟨ob, k, none⟩) (Ne.symm n4) (.int .i64 ((k : Int) + 1))).cell (i := k + 1) (by omega)
        have gk := HJ.out.1.pl.frozen (k + 1)
        have hti : (k : Int) + 1 < (n : Int) + 1 := by omega
        have htn : ((k : Int) + 1).toNat = k + 1 := by omega
        clear HJ
        go_wp2_with fail
        go_roundw
        case rel => exact ⟨k + 1, by omega, by go_num, HS⟩
        case measure => simp [intOf]; omega
      · obtain rfl : k = n := by omega
        have HE := Lib.hid (show Heap wr hb ob pb ab k (fun _ => 0) (fun _ => true) from ⟨hn, k, _, _, HJ.out.1, good_n k⟩)
        have HE2 := Lib.hid HJ.out.2
        clear HJ
        go_wp2_with fail
        go_ret2
        exact ⟨hb, ob, pb, ab, rfl, HE2.out.1, HE.out, HE2.out.2⟩
end Go.Proofs.Ytbhbokcgkhgljaa
