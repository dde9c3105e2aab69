/- The walk of HeapActs. -/
import Derived.Test.YtbhbokcgkhgljaaP
import Derived.Deep.RegionWith
import Derived.Deep.DeepCutAuto
import Derived.Deep.CutBlock
namespace Go.Proofs.Ytbhbokcgkhgljaa
open Go.RowKit Go.Lib

/-- A list of acts in memory: three cells each. -/
def Acts (w : World) (a : Option Addr) (n : Nat) (K V B : Nat → Int) : Prop :=
  n = 0 ∨ ∃ b off, a = some ⟨b, off, none⟩ ∧ b < w.heap.size ∧ ∀ j, j < n → w.cell? ⟨b, off + j * 3, none⟩ = some (.int .i64 (K j)) ∧ w.cell? ⟨b, off + j * 3 + 1, none⟩ = some (.int .i64 (V j)) ∧ w.cell? ⟨b, off + j * 3 + 2, none⟩ = some (.int .i64 (B j))
theorem Acts.at {w : World} {a : Option Addr} {n : Nat} {K V B : Nat → Int} (h : Acts w a n K V B) {j : Nat} (hj : j < n) : ∃ b off, a = some ⟨b, off, none⟩ ∧ ∀ w', Below w.heap.size w w' → w'.cell? ⟨b, off + j * 3, none⟩ = some (.int .i64 (K j)) ∧ w'.cell? ⟨b, off + j * 3 + 1, none⟩ = some (.int .i64 (V j)) ∧ w'.cell? ⟨b, off + j * 3 + 2, none⟩ = some (.int .i64 (B j)) := by
  rcases h with h | ⟨b, off, ha, hlt, hc⟩
  · omega
  · refine ⟨b, off, ha, fun w' hb => ?_⟩
    obtain ⟨h1, h2, h3⟩ := hc j hj
    exact ⟨by rw [← h1]; exact hb.cell (p := ⟨b, off + j * 3, none⟩) hlt, by rw [← h2]; exact hb.cell (p := ⟨b, off + j * 3 + 1, none⟩) hlt, by rw [← h3]; exact hb.cell (p := ⟨b, off + j * 3 + 2, none⟩) hlt⟩

set_option maxRecDepth 100000 in
theorem acts_long (n : Int) (a : Option Addr) (k c : Nat) (w : World) (hk : 80 < k) (hm : k ≤ 9223372036854775807) : Calls Try.prog 3 #[.int .i64 n, .slice a k c] w (LawPost w) := by
  have HA := Lib.hid awake_any
  go_enter Try.func3, Try.ntmps3
  go_wp2_with fail
  refine (HA.out w).mono ?_
  rintro e w1 ⟨rfl, hb1⟩
  go_wp2_with fail
  refine (HA.out w1).mono ?_
  rintro e w2 ⟨rfl, hb2⟩
  go_wp2_with fail
  go_ret
  exact ⟨rfl, hb1.trans (hb2.mono hb1.size)⟩
set_option maxRecDepth 100000 in
theorem acts_mid (n : Int) (a : Option Addr) (k c : Nat) (w : World) (hk : k ≤ 80) (h1 : 60 < n) (h2 : n ≤ 100000) : Calls Try.prog 3 #[.int .i64 n, .slice a k c] w (LawPost w) := by
  have HA := Lib.hid awake_any
  go_enter Try.func3, Try.ntmps3
  go_wp2_with fail
  refine (HA.out w).mono ?_
  rintro e w1 ⟨rfl, hb1⟩
  go_wp2_with fail
  refine (HA.out w1).mono ?_
  rintro e w2 ⟨rfl, hb2⟩
  go_wp2_with fail
  go_ret
  exact ⟨rfl, hb1.trans (hb2.mono hb1.size)⟩
set_option maxRecDepth 100000 in
theorem acts_arg (n : Int) (a : Option Addr) (k c : Nat) (w : World) (hk : k ≤ 80) (hn : n < 0 ∨ 100000 < n) : Calls Try.prog 3 #[.int .i64 n, .slice a k c] w (LawPost w) := by
  have HA := Lib.hid awake_any
  have HN := Lib.hid (fun w => new_arg n w hn)
  rcases hn with hn | hn
  · have hd : decide (60 < n) = false := by simp; omega
    go_enter Try.func3, Try.ntmps3
    go_wp2_with fail
    refine (HA.out w).mono ?_
    rintro e w1 ⟨rfl, hb1⟩
    go_wp2_with fail
    refine (HN.out w1).mono ?_
    rintro e w2 ⟨rfl, rfl⟩
    go_wp2_with fail
    go_ret
    exact ⟨rfl, hb1⟩
  · have hd : 60 < n := by omega
    have hd2 : decide (n < 0) = false := by simp; omega
    go_enter Try.func3, Try.ntmps3
    go_wp2_with fail
    refine (HA.out w).mono ?_
    rintro e w1 ⟨rfl, hb1⟩
    go_wp2_with fail
    refine (HN.out w1).mono ?_
    rintro e w2 ⟨rfl, rfl⟩
    go_wp2_with fail
    go_ret
    exact ⟨rfl, hb1⟩

set_option maxHeartbeats 20000000 in
set_option maxRecDepth 100000 in
theorem acts_walk (n : Nat) (a : Option Addr) (k c : Nat) (K V B : Nat → Int) (w : World) (hk : k ≤ 80) (hn : n ≤ 60) (h : Acts w a k K V B) (hB : ∀ j, j < k → B j ≤ 9223372036854775807) : Calls Try.prog 3 #[.int .i64 n, .slice a k c] w (LawPost w) := by
  have HA := Lib.hid (awake_any w)
  have HN := Lib.hid (fun w1 hb1 => hs_new n (by omega) w w1 hb1)
  have HR := Lib.hid (fun w1 => refNew n (by omega) w1)
  have HH := Lib.hid h
  have HB := Lib.hid hB
  have hd : decide (60 < (n : Int)) = false := by simp; omega
  have hd2 : decide ((n : Int) < 0) = false := by simp
  clear h hB
  go_enter Try.func3, Try.ntmps3
  go_wp2_with fail
  refine HA.out.mono ?_
  rintro e w1 ⟨rfl, hb1⟩
  have HN1 := Lib.hid (HN.out w1 hb1)
  clear hb1
  go_wp2_with fail
  refine HN1.out.mono ?_
  rintro e w2 ⟨hb, ob, pb, ab, rfl, hs⟩
  have HS := Lib.hid hs
  clear hs HN1
  go_wp2_with fail
  refine (HR.out w2).mono ?_
  rintro e w3 ⟨rb, ib, jb, ai, aa, ci, ca, rfl, hrf, hge, hlt, hbel⟩
  have H0 := Lib.hid (show Bo w w2.heap.size w3 hb ob pb ab n rb ib jb ai aa ci ca (fun _ => true) (fun _ => 0) (fun _ => true) (fun _ => 0) from ⟨HS.out.below hbel, hrf, hge, hlt⟩)
  generalize w2.heap.size = T at H0
  clear hrf hge hlt hbel HS
  go_wp2_with fail
  go_loopw [8] (fun x wr => ∃ (j : Nat) (In : Nat → Bool) (A : Nat → Int), j ≤ k ∧ x = .int .i64 j ∧ Hid (Bo w T wr hb ob pb ab n rb ib jb ai aa ci ca In A In A)) (fun x _ => k - (intOf x).toNat)
  case atStart => exact ⟨0, _, _, Nat.zero_le _, rfl, H0⟩
  case round =>
    obtain ⟨j, In, A, hj, rfl, HJ⟩ := hrel
    clear H0
    by_cases hlt : j < k
    · obtain ⟨b, off, rfl, hc⟩ := HH.out.at hlt
      obtain ⟨ck, cv, cb⟩ := hc wr HJ.out.hs.bel
      have hBj := HB.out j hlt
      have hji : (j : Int) < (k : Int) := by omega
      clear hc
      generalize K j = x at ck
      generalize V j = v at cv
      generalize B j = y at cb hBj
      have hTs := HJ.out.hs.top
      obtain ⟨l1, l2, l3⟩ := HJ.out.lt
      have HBo := Lib.hid (HJ.out.below ((Below.refl _ wr).alloc (Nat.le_refl _) (.cells #[.int .i64 x, .int .i64 v, .int .i64 y] 31)))
      have HQ := Lib.hid (show ∀ w2, Fr (Zn T ib jb) ((wr.alloc (.cells #[.int .i64 x, .int .i64 v, .int .i64 y] 31)).drew) w2 → w2.cell? ⟨wr.heap.size, 1, none⟩ = some (.int .i64 v) ∧ w2.cell? ⟨wr.heap.size, 2, none⟩ = some (.int .i64 y) from fun w2 hf => by
        have hq := hf.block wr.heap.size (by simp) (fun e => by rcases e with e | e | e <;> omega)
        exact ⟨(World.cell?_of_block (a := ⟨wr.heap.size, 1, none⟩) hq).trans (World.cell?_alloc_new wr #[.int .i64 x, .int .i64 v, .int .i64 y] 31 1), (World.cell?_of_block (a := ⟨wr.heap.size, 2, none⟩) hq).trans (World.cell?_alloc_new wr #[.int .i64 x, .int .i64 v, .int .i64 y] 31 2)⟩)
      have HBd := Lib.hid (show Bo w T ((wr.alloc (.cells #[.int .i64 x, .int .i64 v, .int .i64 y] 31)).drew) hb ob pb ab n rb ib jb ai aa ci ca In A In A from ⟨⟨HBo.out.hs.heap.drewN 1, ⟨HBo.out.hs.bel.os, HBo.out.hs.bel.tape, HBo.out.hs.bel.output, HBo.out.hs.bel.size, HBo.out.hs.bel.block⟩, HBo.out.hs.ge, HBo.out.hs.lt, HBo.out.hs.top⟩, HBo.out.rf.drew, HBo.out.ge, HBo.out.lt⟩)
      clear HJ l1 l2 l3 hTs
      go_upto_block 2 with fail
      go_cut [10] (fun s wc => s = .bool true ∧ ∃ In' A', Hid (Bo w T wc hb ob pb ab n rb ib jb ai aa ci ca In' A' In' A'))
      case first =>
        by_cases hx0 : x = 0
        · subst hx0
          have hP := HBd.out.putH v
          have HR2 := Lib.hid (show ∀ w2, Bo w T w2 hb ob pb ab n rb ib jb ai aa ci ca (pIn n In v) A In A → Calls Try.prog 12 #[.pointer (some ⟨rb, 0, none⟩), .int .i64 v] w2 fun e w' => e = .returned (.bool (isV n v && !In v.toNat)) ∧ Bo w T w' hb ob pb ab n rb ib jb ai aa ci ca (pIn n In v) A (pIn n In v) A ∧ Fr (Zn T ib jb) w2 w' from fun w2 h2 => h2.putR v)
          generalize (isV n v && !In v.toNat) = d at hP HR2
          have HP := Lib.hid (show Calls Try.prog 11 #[.pointer (some ⟨hb, 0, none⟩), .int .i64 v] ((wr.alloc (.cells #[.int .i64 0, .int .i64 v, .int .i64 y] 31)).drew) fun e w' => e = .returned (.bool d) ∧ Bo w T w' hb ob pb ab n rb ib jb ai aa ci ca (pIn n In v) A In A ∧ w'.cell? ⟨wr.heap.size, 1, none⟩ = some (.int .i64 v) ∧ w'.cell? ⟨wr.heap.size, 2, none⟩ = some (.int .i64 y) from hP.mono fun e w' ⟨h1, h2, h3⟩ => ⟨h1, h2, HQ.out w' h3⟩)
          clear hP
          go_wp2_with fail
          go_region_with (first | (go_at_call 11; refine HP.out.mono ?_; rintro e w2 ⟨rfl, hb2, cv2, cy2⟩) | (go_at_call 12; refine (HR2.out _ (by assumption)).mono ?_; rintro e w3 ⟨rfl, hb3, _⟩))
          all_goals
            go_wp2_with fail
            go_meet
            case rel => exact ⟨rfl, _, _, Lib.hid hb3⟩
        · have hx0' : (x == 0) = false := by simpa using hx0
          by_cases hx1 : x = 1
          · subst hx1
            clear hx0 hx0'
            by_cases hc0 : cnt In n = 0
            · have HP := Lib.hid (HBo.out.next0H hc0)
              have HR2 := Lib.hid (show ∀ w2, Bo w T w2 hb ob pb ab n rb ib jb ai aa ci ca In A In A → Calls Try.prog 14 #[.pointer (some ⟨rb, 0, none⟩)] w2 fun e w' => e = .returned (.tuple #[.int .i64 0, .bool false]) ∧ Bo w T w' hb ob pb ab n rb ib jb ai aa ci ca In A In A ∧ Fr (Zn T ib jb) w2 w' from fun w2 h2 => h2.next0R hc0)
              clear hc0
              go_wp2_with fail
              refine HP.out.mono ?_
              rintro e w2 ⟨rfl, hb2, _⟩
              have HC := Lib.hid (HR2.out _ hb2)
              clear hb2
              go_wp2_with fail
              refine HC.out.mono ?_
              rintro e w3 ⟨rfl, hb3, _⟩
              have HB3 := Lib.hid hb3
              clear hb3
              go_wp2_with fail
              go_meet
              case rel => exact ⟨rfl, _, _, HB3⟩
            · obtain ⟨q, hq⟩ := HBo.out.isNext (by omega)
              have HP := Lib.hid (HBo.out.nextH hq)
              have HR2 := Lib.hid (show ∀ w2, Bo w T w2 hb ob pb ab n rb ib jb ai aa ci ca (upd In q false) A In A → Calls Try.prog 14 #[.pointer (some ⟨rb, 0, none⟩)] w2 fun e w' => e = .returned (.tuple #[.int .i64 q, .bool true]) ∧ Bo w T w' hb ob pb ab n rb ib jb ai aa ci ca (upd In q false) A (upd In q false) A ∧ Fr (Zn T ib jb) w2 w' from fun w2 h2 => h2.nextR hq)
              clear hc0 hq
              go_wp2_with fail
              refine HP.out.mono ?_
              rintro e w2 ⟨rfl, hb2, _⟩
              have HC := Lib.hid (HR2.out _ hb2)
              clear hb2
              go_wp2_with fail
              refine HC.out.mono ?_
              rintro e w3 ⟨rfl, hb3, _⟩
              have HB3 := Lib.hid hb3
              clear hb3
              go_wp2_with fail
              go_meet
              case rel => exact ⟨rfl, _, _, HB3⟩
          · have hx1' : (x == 1) = false := by simpa using hx1
            by_cases hx2 : x = 2
            · subst hx2
              clear hx0 hx0' hx1 hx1'
              have hP := HBd.out.bumpH v y hBj
              have HR2 := Lib.hid (show ∀ w2, Bo w T w2 hb ob pb ab n rb ib jb ai aa ci ca In (bA n A v y) In A → Calls Try.prog 16 #[.pointer (some ⟨rb, 0, none⟩), .int .i64 v, .int .i64 y] w2 fun e w' => e = .returned (.bool (isV n v && decide (0 ≤ y))) ∧ Bo w T w' hb ob pb ab n rb ib jb ai aa ci ca In (bA n A v y) In (bA n A v y) ∧ Fr (Zn T ib jb) w2 w' from fun w2 h2 => h2.bumpR v y hBj)
              generalize (isV n v && decide (0 ≤ y)) = d at hP HR2
              have HP := Lib.hid (show Calls Try.prog 15 #[.pointer (some ⟨hb, 0, none⟩), .int .i64 v, .int .i64 y] ((wr.alloc (.cells #[.int .i64 2, .int .i64 v, .int .i64 y] 31)).drew) fun e w' => e = .returned (.bool d) ∧ Bo w T w' hb ob pb ab n rb ib jb ai aa ci ca In (bA n A v y) In A ∧ w'.cell? ⟨wr.heap.size, 1, none⟩ = some (.int .i64 v) ∧ w'.cell? ⟨wr.heap.size, 2, none⟩ = some (.int .i64 y) from hP.mono fun e w' ⟨h1, h2, h3⟩ => ⟨h1, h2, HQ.out w' h3⟩)
              clear hP
              go_wp2_with fail
              go_region_with (first | (go_at_call 15; refine HP.out.mono ?_; rintro e w2 ⟨rfl, hb2, cv2, cy2⟩) | (go_at_call 16; refine (HR2.out _ (by assumption)).mono ?_; rintro e w3 ⟨rfl, hb3, _⟩))
              all_goals
                go_wp2_with fail
                go_meet
                case rel => exact ⟨rfl, _, _, Lib.hid hb3⟩
            · have hx2' : (x == 2) = false := by simpa using hx2
              by_cases hx3 : x = 3
              · subst hx3
                clear hx0 hx0' hx1 hx1' hx2 hx2'
                have HP := Lib.hid HBo.out.halveH
                have HR2 := Lib.hid (show ∀ w2, Bo w T w2 hb ob pb ab n rb ib jb ai aa ci ca In (fun v => A v / 2) In A → Calls Try.prog 18 #[.pointer (some ⟨rb, 0, none⟩)] w2 fun e w' => e = .returned (.tuple #[]) ∧ Bo w T w' hb ob pb ab n rb ib jb ai aa ci ca In (fun v => A v / 2) In (fun v => A v / 2) ∧ Fr (Zn T ib jb) w2 w' from fun w2 h2 => h2.halveR)
                go_wp2_with fail
                refine HP.out.mono ?_
                rintro e w2 ⟨rfl, hb2, _⟩
                have HC := Lib.hid (HR2.out _ hb2)
                clear hb2
                go_wp2_with fail
                refine HC.out.mono ?_
                rintro e w3 ⟨rfl, hb3, _⟩
                have HB3 := Lib.hid hb3
                clear hb3
                go_wp2_with fail
                go_meet
                case rel => exact ⟨rfl, _, _, HB3⟩
              · have hx3' : (x == 3) = false := by simpa using hx3
                clear hx0 hx1 hx2 hx3
                go_wp2_with fail
                go_meet
                case rel => exact ⟨rfl, _, _, HBo⟩
      case rest =>
        obtain ⟨rfl, In2, A2, HX⟩ := hcut
        have HL1 := Lib.hid HX.out.hs.len
        have HL2 := Lib.hid (refLen HX.out.rf)
        have hr0 := HX.out.rf.c0
        clear HBo HQ HBd ck cv cb
        go_wp2_with fail
        refine HL1.out.mono ?_
        rintro e w4 ⟨rfl, rfl⟩
        go_wp2_with fail
        refine HL2.out.mono ?_
        rintro e w4 ⟨rfl, rfl⟩
        go_wp2_with fail
        go_loopw [15] (fun z w5 => ∃ i : Nat, i ≤ n + 2 ∧ z = .int .i64 i ∧ w5 = wc) (fun z _ => n + 2 - (intOf z).toNat)
        case atStart => exact ⟨0, Nat.zero_le _, rfl, rfl⟩
        case round =>
          obtain ⟨i, hi, rfl, rfl⟩ := hrel
          by_cases hi1 : i ≤ n + 1
          · by_cases hi0 : i = 0
            · subst hi0
              have h1 := HX.out.hs.has 0
              have h2 := HX.out.hs.activity 0
              have h3 := refAct HX.out.rf 0
              have hv : isV n 0 = false := by simp [isV]
              rw [hv, Bool.false_and] at h1
              rw [hv, if_neg (by simp)] at h2
              rw [show acF n A2 0 = 0 from by unfold acF; rw [hv, if_neg (by simp)]] at h3
              have H1 := Lib.hid h1
              have H2 := Lib.hid h2
              have H3 := Lib.hid h3
              clear h1 h2 h3 hv
              go_wp2_with fail
              refine H1.out.mono ?_
              rintro e w4 ⟨rfl, rfl⟩
              go_wp2_with fail
              refine H2.out.mono ?_
              rintro e w4 ⟨rfl, rfl⟩
              go_wp2_with fail
              refine H3.out.mono ?_
              rintro e w4 ⟨rfl, rfl⟩
              go_wp2_with fail
              go_roundw
              case rel => first | exact ⟨1, by omega, by go_num, by trivial⟩ | ((repeat apply Exists.intro); exact ⟨⟨1, by omega, by go_num, by trivial⟩, rfl⟩)
              case measure => first | (simp [intOf]; omega) | simp [intOf]
            · obtain ⟨u, rfl⟩ : ∃ u, i = u + 1 := ⟨i - 1, by omega⟩
              by_cases hu : u < n
              · have h1 := HX.out.hs.has ((u : Int) + 1)
                have h2 := HX.out.hs.activity ((u : Int) + 1)
                have h3 := refAct HX.out.rf ((u : Int) + 1)
                have hv : isV n ((u : Int) + 1) = true := isV_iff.2 (by omega)
                have ht : ((u : Int) + 1).toNat = u + 1 := by omega
                rw [hv, Bool.true_and, ht] at h1
                rw [hv, if_pos rfl, ht] at h2
                rw [show acF n A2 ((u : Int) + 1) = A2 (u + 1) from by unfold acF; rw [hv, if_pos rfl, ht]] at h3
                obtain ⟨rfl, -, cu, -, -, -⟩ := HX.out.rf.at hu
                generalize In2 (u + 1) = d at h1 cu
                generalize A2 (u + 1) = z at h2 h3
                have H1 := Lib.hid h1
                have H2 := Lib.hid h2
                have H3 := Lib.hid h3
                have hun : (u : Int) + 1 ≤ (n : Int) := by omega
                have hun2 : (u : Int) < (n : Int) := by omega
                clear h1 h2 h3 hv ht
                go_wp2_with fail
                refine H1.out.mono ?_
                rintro e w4 ⟨rfl, rfl⟩
                go_wp2_with fail
                refine H2.out.mono ?_
                rintro e w4 ⟨rfl, rfl⟩
                go_wp2_with fail
                refine H3.out.mono ?_
                rintro e w4 ⟨rfl, rfl⟩
                go_wp2_with fail
                go_roundw
                case rel => first | exact ⟨u + 1 + 1, by omega, by go_num, by trivial⟩ | ((repeat apply Exists.intro); exact ⟨⟨u + 1 + 1, by omega, by go_num, by trivial⟩, rfl⟩)
                case measure => simp [intOf]; omega
              · obtain rfl : u = n := by omega
                have h1 := HX.out.hs.has ((u : Int) + 1)
                have h2 := HX.out.hs.activity ((u : Int) + 1)
                have h3 := refAct HX.out.rf ((u : Int) + 1)
                have hv : isV u ((u : Int) + 1) = false := by simp [isV]; omega
                rw [hv, Bool.false_and] at h1
                rw [hv, if_neg (by simp)] at h2
                rw [show acF u A2 ((u : Int) + 1) = 0 from by unfold acF; rw [hv, if_neg (by simp)]] at h3
                have H1 := Lib.hid h1
                have H2 := Lib.hid h2
                have H3 := Lib.hid h3
                have hdd : decide ((u : Int) + 1 ≤ (u : Int)) = false := by simp; omega
                clear h1 h2 h3 hv
                go_wp2_with fail
                refine H1.out.mono ?_
                rintro e w4 ⟨rfl, rfl⟩
                go_wp2_with fail
                refine H2.out.mono ?_
                rintro e w4 ⟨rfl, rfl⟩
                go_wp2_with fail
                refine H3.out.mono ?_
                rintro e w4 ⟨rfl, rfl⟩
                go_wp2_with fail
                go_roundw
                case rel => first | exact ⟨u + 1 + 1, by omega, by go_num, by trivial⟩ | ((repeat apply Exists.intro); exact ⟨⟨u + 1 + 1, by omega, by go_num, by trivial⟩, rfl⟩)
                case measure => simp [intOf]; omega
          · obtain rfl : i = n + 2 := by omega
            go_wp2_with fail
            go_roundw
            case rel => first | exact ⟨j + 1, _, _, by omega, by go_num, HX⟩ | ((repeat apply Exists.intro); exact ⟨⟨j + 1, _, _, by omega, by go_num, HX⟩, rfl⟩)
            case measure => simp [intOf]; omega
    · have HE := Lib.hid HJ.out.hs.bel
      go_wp2_with fail
      go_ret
      exact ⟨rfl, HE.out⟩
end Go.Proofs.Ytbhbokcgkhgljaa
