/- Contracts: Eval. -/
import Derived.Test.YtpniffcojmlboaaS
import Derived.Deep.RegionWith
import Derived.StillTailTactics
namespace Go.Proofs.Ytpniffcojmlboaa
open Go.RowKit Go.Lib Go.Maps
set_option maxRecDepth 100000

/-- A list of bools in memory. -/
def HasB (w : World) (a : Option Addr) (n : Nat) (f : Nat → Bool) : Prop :=
  n = 0 ∨ ∃ b off, a = some ⟨b, off, none⟩ ∧ b < w.heap.size ∧ ∀ j, j < n → w.cell? ⟨b, off + j, none⟩ = some (.bool (f j))
theorem HasB.below {w w' : World} {a : Option Addr} {n : Nat} {f : Nat → Bool} (h : HasB w a n f) (hb : Below w.heap.size w w') : HasB w' a n f := by
  rcases h with h | ⟨b, off, ha, hlt, hc⟩
  · exact .inl h
  · exact .inr ⟨b, off, ha, Nat.lt_of_lt_of_le hlt hb.size, fun j hj => by rw [← hc j hj]; exact hb.cell (p := ⟨b, off + j, none⟩) hlt⟩
theorem HasE.below {w w' : World} {B : Nat → Prop} {a : Option Addr} {n : Nat} {g : Nat → Nat} (h : HasE w B a n g) (hb : Below w.heap.size w w') : HasE w' B a n g := by
  rcases h with h | ⟨b, off, ha, hlt, hB, hc⟩
  · exact .inl h
  · exact .inr ⟨b, off, ha, Nat.lt_of_lt_of_le hlt hb.size, hB, fun j hj => by rw [← hc j hj]; exact hb.cell (p := ⟨b, off + j, none⟩) hlt⟩
theorem make_bools (n : Nat) (hn : n ≤ 1000000) (w : World) : (Instr.makeSlice 23 (.int .i64 ((n : Nat) : Int)) (.int .i64 ((n : Nat) : Int))).run Try.prog w = .ok (.slice (some ⟨w.heap.size, 0, none⟩) n n) (w.alloc (.cells (madeCells #[.bool false] n) 4)) :=
  run_make_row' 23 4 (.bool false) 1 Try.underlying23 (by kernel_rfl) rfl .i64 .i64 n (by omega) (by omega) w
/-- What the model says. -/
def mdl (g : Nat → Bool) (m i : Nat) : Bool := decide (i < m) && g i
theorem ew_start (w : World) (G n : Nat) : Ew w (((w.alloc (.cells #[.pointer (some ⟨G, 0, none⟩)] 25)).alloc (.cells (madeCells #[.bool false] n) 4)).alloc (.cells #[.slice (some ⟨w.heap.size + 1, 0, none⟩) n n] 23)) G n (fun _ => false) := by
  refine ⟨(((Below.refl _ w).alloc (Nat.le_refl _) _).alloc (by simp) _).alloc (by simp; omega) _, ?_, ?_, by simp, ?_⟩
  · rw [World.cell?_of_block (w := w.alloc (.cells #[.pointer (some ⟨G, 0, none⟩)] 25)) (by rw [Below.heap_alloc _ _ _ (by simp; omega), Below.heap_alloc _ _ _ (by simp)])]
    simp
  · have := one_new ((w.alloc (.cells #[.pointer (some ⟨G, 0, none⟩)] 25)).alloc (.cells (madeCells #[.bool false] n) 4)) (.slice (some ⟨w.heap.size + 1, 0, none⟩) n n) 23 0 _ rfl
    simpa [Addr.add] using this
  · have r := World.rowIs_made (w.alloc (.cells #[.pointer (some ⟨G, 0, none⟩)] 25)) (.bool false) n 4
    simp only [World.size_alloc] at r
    exact r.of_block (Below.heap_alloc _ _ _ (by simp))
section
variable {w : World} {G M : Nat} {v iv : Value} {s : Gr}
set_option maxHeartbeats 4000000 in
/-- Eval -/
theorem eval_any (h : Gm w G M v iv s) (hn : s.n ≤ 100000) {a1 : Option Addr} {m c1 : Nat} {gm : Nat → Bool} (hm : HasB w a1 m gm) (hm2 : m ≤ 1000000) {a2 : Option Addr} {n c2 : Nat} {g : Nat → Nat} (he : HasE w (fun _ => False) a2 n g) (hg : ∀ j, j < n → g j < 2 * (s.n + 1)) (hn2 : n ≤ 1000000) :
    Calls Try.prog 16 #[.pointer (some ⟨G, 0, none⟩), .slice a1 m c1, .slice a2 n c2] w fun e w' => ∃ a c, e = .returned (.slice a n c) ∧ Hid (Frs 4 w w' (.slice a n c) n (fun j => .bool (val (mdl gm m) s (g j)))) := by
  have H := Lib.hid h
  have HB := Lib.hid hm
  have HE := Lib.hid he
  have HG := Lib.hid hg
  have hmk : ∀ W : World, (Instr.makeSlice 23 (.int .i64 ((s.n : Int) + 1)) (.int .i64 ((s.n : Int) + 1))).run Try.prog W = .ok (.slice (some ⟨W.heap.size, 0, none⟩) (s.n + 1) (s.n + 1)) (W.alloc (.cells (madeCells #[.bool false] (s.n + 1)) 4)) := fun W => make_bools (s.n + 1) (by omega) W
  have hmk2 := fun W => make_bools n hn2 W
  have HN := Lib.hid (fun W (hb : Below w.heap.size w W) => nodes_any (h.below hb) hn)
  have HI := Lib.hid (fun W (hb : Below w.heap.size w W) => inputs_any (h.below hb) hn)
  have HN1 := Lib.hid (HN.out (w.alloc (.cells #[.pointer (some ⟨G, 0, none⟩)] 25)) ((Below.refl _ w).alloc (Nat.le_refl _) _))
  have hb3 : Below w.heap.size w (((w.alloc (.cells #[.pointer (some ⟨G, 0, none⟩)] 25)).alloc (.cells (madeCells #[.bool false] (s.n + 1)) 4)).alloc (.cells #[.slice (some ⟨w.heap.size + 1, 0, none⟩) (s.n + 1) (s.n + 1)] 23)) :=
    (((Below.refl _ w).alloc (Nat.le_refl _) _).alloc (by simp) _).alloc (by simp; omega) _
  have HI1 := Lib.hid (HI.out _ hb3)
  have hE0 := ew_start w G (s.n + 1)
  have hz : (((w.alloc (.cells #[.pointer (some ⟨G, 0, none⟩)] 25)).alloc (.cells (madeCells #[.bool false] (s.n + 1)) 4)).alloc (.cells #[.slice (some ⟨w.heap.size + 1, 0, none⟩) (s.n + 1) (s.n + 1)] 23)).heap.size = w.heap.size + 3 := by simp
  obtain ⟨P3, hP3⟩ : ∃ P3 : (a : Option Addr) → Nat → World → Prop, P3 = fun a c w4 => Frs 3 (((w.alloc (.cells #[.pointer (some ⟨G, 0, none⟩)] 25)).alloc (.cells (madeCells #[.bool false] (s.n + 1)) 4)).alloc (.cells #[.slice (some ⟨w.heap.size + 1, 0, none⟩) (s.n + 1) (s.n + 1)] 23)) w4 (.slice a (cnt s.L s.n) c) (cnt s.L s.n) (inV s) := ⟨_, rfl⟩
  have H3 := Lib.hid (show ∀ a c w4, P3 a c w4 → Ew w w4 G (s.n + 1) (vin (mdl gm m) s.L 0) ∧ Sl w4 3 1 (.slice a (cnt s.L s.n) c) (cnt s.L s.n) (inV s) ∧ ∀ b, (Value.slice a (cnt s.L s.n) c).ownBlock = some b → b ≠ w.heap.size + 1 from fun a c w4 hF => by
    rw [hP3] at hF
    refine ⟨?_, hF.own, fun b e => by have := hF.new b e; omega⟩
    have h0 : (fun j => vin (mdl gm m) s.L 0 j) = fun _ => false := funext fun j => vin_zero _ _ _
    rw [show vin (mdl gm m) s.L 0 = fun _ => false from h0]
    exact hE0.then hF.bel)
  have HI2 := Lib.hid (show Calls Try.prog 20 #[.pointer (some ⟨G, 0, none⟩)] (((w.alloc (.cells #[.pointer (some ⟨G, 0, none⟩)] 25)).alloc (.cells (madeCells #[.bool false] (s.n + 1)) 4)).alloc (.cells #[.slice (some ⟨w.heap.size + 1, 0, none⟩) (s.n + 1) (s.n + 1)] 23)) fun e w' => ∃ a c, e = .returned (.slice a (cnt s.L s.n) c) ∧ P3 a c w' by rw [hP3]; exact HI1.out.mono fun e w' ⟨a, c, he, hf⟩ => ⟨a, c, he, hf.out⟩)
  clear h hm he hg hb3 HI1 hE0 hz hP3
  have hcn := cnt_le s.L s.n
  go_enter Try.func16, Try.ntmps16
  go_wp2_with (first
    | (go_at_call 30; refine HN1.out.mono ?_; rintro e w' ⟨rfl, rfl⟩)
    | (go_at_call 20; refine HI2.out.mono ?_; rintro e w4 ⟨a3, c3, rfl, hF3⟩; obtain ⟨x1, x2, x3⟩ := H3.out _ _ _ hF3; have HW4 := Lib.hid x1; have HS4 := Lib.hid x2; have HNE := Lib.hid x3; clear x1 x2 x3 hF3))
  go_loopw [25] (fun i wr => ∃ k : Nat, k ≤ cnt s.L s.n ∧ i = .int .i64 k ∧ Hid (Ew w wr G (s.n + 1) (vin (mdl gm m) s.L k)) ∧ Hid (Sl wr 3 1 (.slice a3 (cnt s.L s.n) c3) (cnt s.L s.n) (inV s))) (fun i _ => cnt s.L s.n - (intOf i).toNat)
  case atStart => exact ⟨0, Nat.zero_le _, rfl, HW4, HS4⟩
  case round =>
    obtain ⟨k, hk, rfl, HW, HS⟩ := hrel
    by_cases hlt : k < cnt s.L s.n
    · have hltI : (k : Int) < ((cnt s.L s.n : Nat) : Int) := by omega
      obtain ⟨hN1, _, _⟩ := nin_is hlt
      obtain ⟨J, hJ⟩ : ∃ J, J = nin s.L s.n k + 1 := ⟨_, rfl⟩
      obtain ⟨g3, cc, e3, _, _, hg3⟩ := HS.out.pos (by omega)
      injection e3 with e3 _ e4
      subst e3 e4
      have x3 := HS.out.cell (j := k) (by omega)
      rw [show inV s k = .int .i64 (2 * J : Nat) by unfold inV; rw [hJ]] at x3
      have hvs : ∀ j, vin (mdl gm m) s.L (k + 1) j = if j = J then mdl gm m k else vin (mdl gm m) s.L k j := fun j => by rw [vin_succ hlt, hJ]
      have hJn : J ≤ s.n := by omega
      have cB := HW.out.cB
      have cv := HW.out.row.cell (i := J) (by omega)
      have fz := HW.out.row.frozen J
      have HV := Lib.hid hvs
      have q1 : Int.tdiv ((2 * J : Nat) : Int) 2 = (J : Int) := by rw [Int.tdiv_eq_ediv_of_nonneg (by omega)]; omega
      have q2 : ((2 * J : Nat) : Int) / 2 = (J : Int) := by omega
      have HNX := Lib.hid (HNE.out g3 rfl)
      clear hvs hN1 hJ
      generalize (2 * J) = E at *
      by_cases hkm : k < m
      · have hkI : (k : Int) < (m : Int) := by omega
        have hmd : mdl gm m k = gm k := by unfold mdl; simp [hkm]
        have HMD := Lib.hid hmd
        rcases (HB.out.below HW.out.bel) with e | ⟨b1, o1, rfl, hb1, hc1⟩
        · omega
        have xm := hc1 k hkm
        clear hc1 hmd
        have HWX := Lib.hid (HW.out.then (w' := wr.drew) ((Below.refl _ wr).drew))
        have HWN := Lib.hid (HWX.out.set J (gm k) (f' := vin (mdl gm m) s.L (k + 1)) fun j _ => by rw [HV.out j, HMD.out])
        have HSN := Lib.hid (show Sl (wr.drew.setCell ⟨w.heap.size + 1, J, none⟩ (.bool (gm k))) 3 1 (.slice (some ⟨g3, 0, none⟩) (cnt s.L s.n) c3) (cnt s.L s.n) (inV s) from HS.out.of_block fun b e => Below.heap_setCell _ _ _ _ fun e2 => HNE.out b e e2)
        generalize gm k = x at *
        go_wp2
        go_region
        all_goals
          go_wp2
          go_roundw
          case rel => exact ⟨k + 1, by omega, by go_num, HWN, HSN⟩
          case measure => simp [intOf]; omega
      · have hkI : ¬ (k : Int) < (m : Int) := by omega
        have hkD : decide ((k : Int) < (m : Int)) = false := by simpa using hkm
        have hmd : mdl gm m k = false := by unfold mdl; simp [hkm]
        have HMD := Lib.hid hmd
        clear hmd
        have HWX := Lib.hid (HW.out.then (w' := wr.drew) ((Below.refl _ wr).drew))
        have HWN := Lib.hid (HWX.out.set J false (f' := vin (mdl gm m) s.L (k + 1)) fun j _ => by rw [HV.out j, HMD.out])
        have HSN := Lib.hid (show Sl (wr.drew.setCell ⟨w.heap.size + 1, J, none⟩ (.bool false)) 3 1 (.slice (some ⟨g3, 0, none⟩) (cnt s.L s.n) c3) (cnt s.L s.n) (inV s) from HS.out.of_block fun b e => Below.heap_setCell _ _ _ _ fun e2 => HNE.out b e e2)
        go_wp2
        go_region
        all_goals
          go_wp2
          go_roundw
          case rel => exact ⟨k + 1, by omega, by go_num, HWN, HSN⟩
          case measure => simp [intOf]; omega
    · obtain rfl : k = cnt s.L s.n := by omega
      have hltI : ¬ ((cnt s.L s.n : Nat) : Int) < ((cnt s.L s.n : Nat) : Int) := by omega
      clear hlt
      have cB := HW.out.cB
      have HW0 := Lib.hid (show Ew w wr G (s.n + 1) (vand (tab (mdl gm m) s.L s.n) s.L 0) from HW.out.congr fun j hj => (vin_all (by omega)).symm)
      clear HS HS4 HNE HW4
      go_wp2
      go_loopw [47] (fun i wr => ∃ k : Nat, k ≤ s.n + 1 ∧ i = .int .i64 k ∧ Hid (Ew w wr G (s.n + 1) (vand (tab (mdl gm m) s.L s.n) s.L k))) (fun i _ => s.n + 1 - (intOf i).toNat)
      case atStart => exact ⟨0, Nat.zero_le _, rfl, HW0⟩
      case round =>
        obtain ⟨k, hk, rfl, HW⟩ := hrel
        have cP := HW.out.cP
        by_cases hlt : k < s.n + 1
        · have hltI : (k : Int) < (s.n : Int) + 1 := by omega
          have HND := Lib.hid (node_any (H.out.below HW.out.bel) hn k (by omega))
          have HNX := Lib.hid (fun W (hb : Below wr.heap.size wr W) => HW.out.then hb)
          cases hnd : ndO s k with
          | none =>
            rw [hnd, show ndT none = .tuple #[.int .i64 0, .int .i64 0, .bool false] from rfl] at HND
            have HNO := Lib.hid (fun j => vand_no (I := mdl gm m) hnd (by omega) j)
            clear hnd
            go_wp2_with (go_at_call 21; refine HND.out.mono ?_; rintro e w6 ⟨rfl, hb6⟩; have HB6 := Lib.hid hb6; clear hb6)
            go_roundw
            case rel => exact ⟨k + 1, by omega, by go_num, Lib.hid ((HNX.out _ HB6.out).congr fun j _ => HNO.out j)⟩
            case measure => simp [intOf]; omega
          | some p =>
            obtain ⟨a, b⟩ := p
            rw [hnd, show ndT (some (a, b)) = .tuple #[.int .i64 a, .int .i64 b, .bool true] from rfl] at HND
            obtain ⟨hk1, hk2, ha, hb, hT⟩ := ndO_some (I := mdl gm m) H.out.ok hnd
            have HT := Lib.hid hT
            have Ha := Lib.hid (show a < 2 * (s.n + 1) by omega)
            have Hb := Lib.hid (show b < 2 * (s.n + 1) by omega)
            have HS := Lib.hid (fun j => vand_succ (I := mdl gm m) (s := s) k j)
            clear hnd hT ha hb
            have h00 := vand_zero (I := mdl gm m) (s := s) k
            obtain ⟨f, hf⟩ : ∃ f, f = vand (tab (mdl gm m) s.L s.n) s.L k := ⟨_, rfl⟩
            rw [← hf] at HNX HT HS h00
            have HVAL := Lib.hid (fun W (E : Ew w W G (s.n + 1) f) (x : Nat) (hx : x < 2 * (s.n + 1)) => value_any (H.out.below E.bel) hn E.cP E.cB (fun j hj => E.row.cell (by omega)) h00 x hx)
            obtain ⟨R, hR⟩ : ∃ R, R = ed f := ⟨_, rfl⟩
            rw [← hR] at HT HVAL
            have HVAL2 := Lib.hid (show ∀ W, Ew w W G (s.n + 1) f → ∀ x, x < 2 * (s.n + 1) → Calls Try.prog 35 #[.int .i64 x, .pointer (some ⟨w.heap.size, 0, none⟩), .pointer (some ⟨w.heap.size + 1 + 1, 0, none⟩)] W.drew fun e w' => e = .returned (.bool (R x)) ∧ w' = W.drew from fun W E x hx => (HVAL.out W.drew (E.then (Below.refl _ W).drew) x hx).mono fun e w' ⟨h1, h2⟩ => ⟨h1, h2.symm⟩)
            have HEND := Lib.hid (show ∀ W, Ew w W G (s.n + 1) f → Ew w (W.drew.setCell ⟨w.heap.size + 1, k, none⟩ (.bool (R a && R b))) G (s.n + 1) (vand (tab (mdl gm m) s.L s.n) s.L (k + 1)) from fun W E => (E.then (Below.refl _ W).drew).set k _ fun j _ => by rw [HS.out j, HT.out])
            clear hf hR h00 HVAL
            have HVa := Lib.hid (fun W E => HVAL2.out W E a Ha.out)
            have HVb := Lib.hid (fun W E => HVAL2.out W E b Hb.out)
            generalize R a = ra at *
            generalize R b = rb at *
            cases ra
            · rw [Bool.false_and] at HEND
              go_wp2_with (go_at_call 21; refine HND.out.mono ?_; rintro e w6 ⟨rfl, hb6⟩; have HB6 := Lib.hid hb6; clear hb6; have HW6 := Lib.hid (HNX.out _ HB6.out); have HV := Lib.hid (HVa.out _ HW6.out); have cB6 := HW6.out.cB; have cv6 := HW6.out.row.cell hlt; have fz6 := HW6.out.row.frozen k; have HE6 := Lib.hid (HEND.out _ HW6.out))
              go_still_tail 11, (by kernel_rfl)
              still_call HV.out
              repeat still_step
              refine wpStill_nil ?_
              change wpList _ _ _ _ _ w6.drew
              go_wp2
              go_roundw
              case rel => exact ⟨k + 1, by omega, by go_num, HE6⟩
              case measure => simp [intOf]; omega
            · rw [Bool.true_and] at HEND
              go_wp2_with (go_at_call 21; refine HND.out.mono ?_; rintro e w6 ⟨rfl, hb6⟩; have HB6 := Lib.hid hb6; clear hb6; have HW6 := Lib.hid (HNX.out _ HB6.out); have HV := Lib.hid (HVa.out _ HW6.out); have HX := Lib.hid (HVb.out _ HW6.out); have cB6 := HW6.out.cB; have cv6 := HW6.out.row.cell hlt; have fz6 := HW6.out.row.frozen k; have HE6 := Lib.hid (HEND.out _ HW6.out))
              go_still_tail 11, (by kernel_rfl)
              still_call HV.out
              repeat still_step
              still_call HX.out
              repeat still_step
              refine wpStill_nil ?_
              change wpList _ _ _ _ _ w6.drew
              go_wp2
              go_roundw
              case rel => exact ⟨k + 1, by omega, by go_num, HE6⟩
              case measure => simp [intOf]; omega
        · obtain rfl : k = s.n + 1 := by omega
          have hltI : ¬ ((s.n + 1 : Nat) : Int) < (s.n : Int) + 1 := by omega
          have HW9 := Lib.hid (show Ew w wr G (s.n + 1) (tab (mdl gm m) s.L s.n) from HW.out.congr fun j hj => (vand_all (by omega)).symm)
          have hb9 : w.heap.size + 3 ≤ wr.heap.size := HW.out.lt
          have HA := Lib.hid (HW9.out.then ((Below.refl _ wr).alloc (Nat.le_refl _) (.cells (madeCells #[.bool false] n) 4)))
          have HR0 := Lib.hid (show (wr.alloc (.cells (madeCells #[.bool false] n) 4)).rowIs wr.heap.size 4 n (fun j => .bool (decide (j < 0) && val (mdl gm m) s (g j))) from World.rowIs.congr (World.rowIs_made wr (.bool false) n 4) fun j _ => by simp)
          clear hlt cP HW HW9 HW0
          go_wp2
          generalize wr.heap.size = b9 at *
          go_loopw [75] (fun i wr => ∃ k : Nat, k ≤ n ∧ i = .int .i64 k ∧ Hid (Ew w wr G (s.n + 1) (tab (mdl gm m) s.L s.n)) ∧ Hid (wr.rowIs b9 4 n (fun j => .bool (decide (j < k) && val (mdl gm m) s (g j))))) (fun i _ => n - (intOf i).toNat)
          case atStart => exact ⟨0, Nat.zero_le _, rfl, HA, HR0⟩
          case round =>
            obtain ⟨k, hk, rfl, HW, HR⟩ := hrel
            by_cases hlt : k < n
            · have hltI : (k : Int) < (n : Int) := by omega
              rcases HE.out.below HW.out.bel with e | ⟨b2, o2, rfl, hb2, _, hc2⟩
              · omega
              have xe := hc2 k hlt
              have HV := Lib.hid (value_any (H.out.below HW.out.bel) hn HW.out.cP HW.out.cB (fun j hj => HW.out.row.cell (by omega)) (tab_zero _) (g k) (HG.out k hlt))
              have cr := HR.out.cell hlt
              have fr := HR.out.frozen k
              have HWN := Lib.hid (HW.out.setOther (p := ⟨b9, k, none⟩) hb9 (.bool (ed (tab (mdl gm m) s.L s.n) (g k))))
              have HRN := Lib.hid (show (wr.setCell ⟨b9, k, none⟩ (.bool (ed (tab (mdl gm m) s.L s.n) (g k)))).rowIs b9 4 n (fun j => .bool (decide (j < k + 1) && val (mdl gm m) s (g j))) from World.rowIs.congr (HR.out.set k (.bool (ed (tab (mdl gm m) s.L s.n) (g k)))) fun j hj => by
                by_cases e : j = k
                · subst e; simp [val]
                · rw [if_neg e]
                  by_cases e2 : j < k
                  · simp [e2, show j < k + 1 by omega]
                  · simp [e2, show ¬ j < k + 1 by omega])
              clear hc2
              generalize ed (tab (mdl gm m) s.L s.n) (g k) = x at *
              go_wp2_with (go_at_call 35; refine HV.out.mono ?_; rintro e w' ⟨rfl, rfl⟩)
              go_roundw
              case rel => exact ⟨k + 1, by omega, by go_num, HWN, HRN⟩
              case measure => simp [intOf]; omega
            · obtain rfl : k = n := by omega
              have hltI : ¬ (k : Int) < (k : Int) := by omega
              clear hlt
              go_wp2
              go_ret
              refine ⟨_, _, rfl, Lib.hid ⟨.inr ⟨b9, k, _, rfl, Nat.le_refl _, by unfold maxLen; omega, by rw [Nat.mul_one]; exact HR.out, fun j hj => by simp [show j < k by omega]⟩, HW.out.bel, fun b e => by injection e with e; simp at e; omega⟩⟩
end
end Go.Proofs.Ytpniffcojmlboaa
