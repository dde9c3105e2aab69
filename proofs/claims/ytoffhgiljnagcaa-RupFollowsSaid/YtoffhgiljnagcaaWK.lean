/- Contracts: settle, where no clause is gone. -/
import Derived.Test.YtoffhgiljnagcaaG
import Derived.Deep.DeepCutAuto
namespace Go.Proofs.Ytoffhgiljnagcaa
open Go.RowKit Go.Lib Go.Maps

theorem new_one (w : World) (K : Nat) : (w.alloc (.cells #[.pointer (some ⟨K, 0, none⟩)] 44)).cell? ⟨w.heap.size, 0, none⟩ = some (.pointer (some ⟨K, 0, none⟩)) := by simp
set_option maxHeartbeats 1000000 in
set_option maxRecDepth 100000 in
theorem settle1_any {K M : Nat} {w : World} {L : Tag → Value} {s : St} (h : Mem w K M L s) {bx a : Nat} (hbx : w.cell? ⟨bx, 0, none⟩ = some (.pointer (some ⟨K, 0, none⟩))) (ha : a < s.nc) (hnc : s.nc ≤ 100000000) :
    Calls Try.prog 74 #[.int .i32 a, .pointer (some ⟨bx, 0, none⟩)] w fun e w' => e = .returned (.bool (s.gone a)) ∧ w = w' := by
  obtain ⟨gc, cc, hL1, _⟩ := (h.row .cls).pos (show 0 < s.nc by omega)
  replace hL1 : L .cls = .slice (some ⟨gc, 0, none⟩) s.nc cc := hL1
  have c1 : w.cell? ⟨K, 1, none⟩ = some (.slice (some ⟨gc, 0, none⟩) s.nc cc) := (h.c 1 (by omega)).trans (congrArg some hL1)
  have x1 : w.cell? ⟨gc, a * 2 + 1, none⟩ = some (.bool (s.gone a)) := (h.rc hL1 (show a * 2 + 1 < s.nc * 2 by omega)).trans (by
    show some (if (a * 2 + 1) % 2 = 0 then _ else Value.bool (s.gone ((a * 2 + 1) / 2))) = _
    rw [if_neg (by omega), show (a * 2 + 1) / 2 = a by omega])
  have ha1 : (a : Int) < (s.nc : Int) := by omega
  clear h hL1
  generalize s.gone a = g at *
  go_enter Try.func74, Try.ntmps74
  go_wp2
  go_ret
  exact ⟨rfl, rfl⟩

set_option maxHeartbeats 1000000 in
set_option maxRecDepth 100000 in
theorem index_none {K M : Nat} {w : World} {L : Tag → Value} {s : St} (h : Mem w K M L s) {bx : Nat} (hbx : w.cell? ⟨bx, 0, none⟩ = some (.pointer (some ⟨K, 0, none⟩))) (hC : St.Cls s) (hg : s.NoGone) (hnc : s.nc ≤ 100000000) {al : Option Addr} {c : Nat} (hL : L .sho = .slice al s.ns c) :
    Calls Try.prog 90 #[.slice al s.ns c, .func (.func 74) #[] #[.pointer (some ⟨bx, 0, none⟩)]] w fun e w' => e = .returned (.int .i64 (-1)) ∧ w = w' := by
  have hns := hC.s_le
  have H1 := Lib.hid (show ∀ j, j < s.ns → Calls Try.prog 74 #[.int .i32 (s.sh j), .pointer (some ⟨bx, 0, none⟩)] w fun e w' => e = .returned (.bool false) ∧ w = w' from fun j hj => by
    have := settle1_any h hbx (hC.s_ok j hj).2.1 hnc
    rw [hg _ (hC.s_ok j hj).2.1] at this
    exact this)
  have HC := Lib.hid (show ∀ j, j < s.ns → ∃ g, al = some ⟨g, 0, none⟩ ∧ w.cell? ⟨g, j, none⟩ = some (.int .i32 (s.sh j)) from fun j hj => by
    obtain ⟨g, c', e, _⟩ := (h.row .sho).pos (show 0 < s.ns by omega)
    have e2 := e
    rw [hL] at e
    injection e with e3
    exact ⟨g, e3, h.rc e2 (show j < s.ns * 1 by omega)⟩)
  clear h hbx hL hg hC
  go_enter Try.func90, Try.ntmps90
  go_wp2_with fail
  go_loopw [8] (fun i wr => wr = w ∧ ∃ t : Nat, t ≤ s.ns ∧ i = .int .i64 t) (fun i _ => s.ns - (intOf i).toNat)
  case atStart => exact ⟨rfl, 0, Nat.zero_le _, rfl⟩
  case round =>
    obtain ⟨rfl, t, ht, rfl⟩ := hrel
    by_cases hlt : t < s.ns
    · obtain ⟨g, rfl, xc⟩ := HC.out t hlt
      have HCL := Lib.hid (H1.out t hlt)
      have hltI : (t : Int) < (s.ns : Int) := by omega
      go_wp2_with (go_at_call 74; refine HCL.out.mono ?_; rintro e w1 ⟨rfl, rfl⟩)
      go_roundw
      case rel => exact ⟨trivial, t + 1, by omega, by go_num⟩
      case measure => simp [intOf]; omega
    · have hq : ¬ (t : Int) < (s.ns : Int) := by omega
      go_wp2
      go_ret
      exact ⟨rfl, rfl⟩

set_option maxHeartbeats 1000000 in
set_option maxRecDepth 100000 in
theorem delete_none {K M : Nat} {w : World} {L : Tag → Value} {s : St} (h : Mem w K M L s) {bx : Nat} (hbx : w.cell? ⟨bx, 0, none⟩ = some (.pointer (some ⟨K, 0, none⟩))) (hC : St.Cls s) (hg : s.NoGone) (hnc : s.nc ≤ 100000000) {al : Option Addr} {c : Nat} (hL : L .sho = .slice al s.ns c) :
    Calls Try.prog 73 #[.slice al s.ns c, .func (.func 74) #[] #[.pointer (some ⟨bx, 0, none⟩)]] w fun e w' => e = .returned (.slice al s.ns c) ∧ w = w' := by
  have HI := Lib.hid (index_none h hbx hC hg hnc hL)
  clear h hbx hL hg hC
  go_enter Try.func73, Try.ntmps73
  go_wp2_with (go_at_call 90; refine HI.out.mono ?_; rintro e w1 ⟨rfl, rfl⟩)
  go_ret
  exact ⟨rfl, rfl⟩

/-- What settle hands back. -/
structure SetOut (K M : Nat) (w : World) (L : Tag → Value) (s : St) (w' : World) (L' : Tag → Value) (s' : St) : Prop where
  tn : Tn K M w L w' L' s'
  inv : St.Inv s'
  settled : s'.settled = true
  core : St.Core s s'
  nvq : s'.nv = s.nv

set_option maxHeartbeats 4000000 in
set_option maxRecDepth 100000 in
theorem settle_any {K M : Nat} {w : World} {L : Tag → Value} {s : St} (h : Mem w K M L s) (hI : St.Inv s) (hg : s.NoGone) (hnv : s.nv ≤ 100000000) (hnc : s.nc ≤ 100000000) :
    Calls Try.prog 54 #[.pointer (some ⟨K, 0, none⟩)] w fun e w' => e = .returned (.tuple #[]) ∧ ∃ L' s', SetOut K M w L s w' L' s' := by
  have c8 : w.cell? ⟨K, 8, none⟩ = some (.bool s.settled) := h.c 8 (by omega)
  have hK := h.hd.lt
  have fK := h.fk
  have HB := Lib.hid (new_one w K)
  cases hst : s.settled
  · rw [hst] at c8
    have T0 := h.stSettled true
    have T1 := T0.trans (T0.mem.tnAlloc (.cells #[.pointer (some ⟨K, 0, none⟩)] 44))
    have hBK := hI.base.keeps true s.broken
    have hfit : Fit' (s.Keeps true s.broken) := hBK.fit hnv
    have hret := retreat_any (m := 0) T1.mem hfit hBK.tra.t_lt (Nat.zero_le _)
    rw [show ((0 : Nat) : Int) = 0 from rfl] at hret
    have hnb : ¬ Bl K M L w.heap.size := fun e => by have := h.lt e; omega
    have hSI := St.SI.start hI.base
    have hcore : St.Core s ((s.Keeps true 0).cut 0) := St.core_keeps s true 0 0
    have hng := hg.core hcore
    -- behind retreat
    have haft : ∀ (w2 : World) (L2 : Tag → Value), Tn K M ((w.setCell ⟨K, 8, none⟩ (.bool true)).alloc (.cells #[.pointer (some ⟨K, 0, none⟩)] 44)) L w2 L2 ((s.Keeps true s.broken).cut 0) →
        w2.cell? ⟨w.heap.size, 0, none⟩ = some (.pointer (some ⟨K, 0, none⟩)) ∧ (∀ j, w2.frozen? ⟨K, j, none⟩ = false) ∧ (∃ u, w2.cell? ⟨K, 9, none⟩ = some u) ∧ ¬ Bl K M L2 w.heap.size ∧ w.heap.size < w2.heap.size ∧
        Tn K M w L (w2.setCell ⟨K, 9, none⟩ (.int .i32 (0 : Nat))) L2 ((s.Keeps true 0).cut 0) := by
      intro w2 L2 T
      obtain ⟨k1, k2, k3, k4⟩ := T.side (b := w.heap.size) (by simp) hnb
      refine ⟨(k1 0).trans (by have := new_one (w.setCell ⟨K, 8, none⟩ (.bool true)) K; rw [World.size_setCell] at this; exact this), T.mem.fk, ⟨_, T.mem.c 9 (by omega)⟩, k4, k3, T1.trans (T.trans (T.mem.stBroken 0))⟩
    have HR := Lib.hid hret
    have HA := Lib.hid haft
    have HSI := Lib.hid (And.intro hSI (And.intro hcore (And.intro hng (And.intro hnv hnc))))
    have hne8 : ¬ w.heap.size = K := by omega
    clear T0 T1 hBK hfit hret haft hSI hcore hng hnb hI hg h
    go_enter Try.func54, Try.ntmps54
    go_wp2_with (go_at_call 57; refine HR.out.mono ?_; rintro e w2 ⟨rfl, L2, T⟩; obtain ⟨b1, b2, ⟨b3, b4⟩, b5, b6, T2⟩ := HA.out w2 L2 T; have HT2 := Lib.hid (And.intro T2 b5); clear T T2 b5)
    generalize hW3 : w2.setCell ⟨K, 9, none⟩ (.int .i32 0) = W3
    have hm3 : Mem W3 K M L2 ((s.Keeps true 0).cut 0) := by rw [← hW3]; exact HT2.out.1.mem
    have hT3 : Tn K M w L W3 L2 ((s.Keeps true 0).cut 0) := by rw [← hW3]; exact HT2.out.1
    have hbx3 : W3.cell? ⟨w.heap.size, 0, none⟩ = some (.pointer (some ⟨K, 0, none⟩)) := by
      rw [← hW3]
      refine (World.cell?_setCell_other _ _ _ _ fun e => ?_).trans b1
      injection e with e1; omega
    have hsz3 : w.heap.size < W3.heap.size := by rw [← hW3]; simpa using b6
    obtain ⟨hSI, hcore, hng, hnv', hnc'⟩ := HSI.out
    obtain ⟨al, cl, hL2, _, _⟩ := (hm3.row .sho).shape
    replace hL2 : L2 .sho = .slice al s.ns cl := hL2
    have c2 : W3.cell? ⟨K, 2, none⟩ = some (.slice al s.ns cl) := (hm3.c 2 (by omega)).trans (congrArg some hL2)
    have f3 := hm3.fk
    have hdel : ∀ q, Calls Try.prog 73 #[.slice al s.ns cl, .func (.func 74) #[] #[.pointer (some ⟨w.heap.size, 0, none⟩)]] (W3.drewN q) fun e w' => e = .returned (.slice al s.ns cl) ∧ W3.drewN q = w' := fun q => delete_none (hm3.drewN q) (bx := w.heap.size) hbx3 hSI.base.cls hng hnc hL2
    have HDL := Lib.hid hdel
    have hT4 : Tn K M w L (W3.setCell ⟨K, 2, none⟩ (.slice al s.ns cl)) L2 ((s.Keeps true 0).cut 0) := hT3.trans (hm3.head 2 _ _ (by
      intro j hj
      by_cases e : j = 2
      · subst e; rw [if_pos rfl]; exact hL2.symm
      · rw [if_neg e]) ⟨rfl, rfl, rfl⟩ fun t => ⟨rfl, fun _ => rfl⟩)
    have hns := hSI.base.cls.s_le
    have HL2 := Lib.hid hL2
    have HS0 := Lib.hid (show ∀ W : World, W.heap = (W3.setCell ⟨K, 2, none⟩ (.slice al s.ns cl)).heap → W.os = W3.os → W.tape = W3.tape → W.output = W3.output → Tn K M w L W L2 ((s.Keeps true 0).cut 0) ∧ St.SI ((s.Keeps true 0).cut 0) ((s.Keeps true 0).cut 0) 0 ∧ W.cell? ⟨w.heap.size, 0, none⟩ = some (.pointer (some ⟨K, 0, none⟩)) ∧ ¬ Bl K M L2 w.heap.size ∧ w.heap.size < W.heap.size ∧ L2 .sho = .slice al s.ns cl from fun W e1 e2 e3 e4 => by
      refine ⟨hT4.same e1 e2 e3 e4, hSI, ?_, HT2.out.2, by rw [e1]; simpa using hsz3, hL2⟩
      rw [show W.cell? ⟨w.heap.size, 0, none⟩ = (W3.setCell ⟨K, 2, none⟩ (.slice al s.ns cl)).cell? ⟨w.heap.size, 0, none⟩ by unfold World.cell?; rw [e1]]
      refine (World.cell?_setCell_other _ _ _ _ fun e => ?_).trans hbx3
      injection e with e1; omega)
    have hns2 : s.ns ≤ s.nc := hns
    clear hm3 hT3 hdel hT4 hns hSI hcore hng hnv' hnc' hW3 HT2 HB HR HA b1 b2 b3 b4 b6 c8 hL2 hst
    go_cut [22] (fun v wc => v = .slice al s.ns cl ∧ Hid (Tn K M w L wc L2 ((s.Keeps true 0).cut 0) ∧ St.SI ((s.Keeps true 0).cut 0) ((s.Keeps true 0).cut 0) 0 ∧ wc.cell? ⟨w.heap.size, 0, none⟩ = some (.pointer (some ⟨K, 0, none⟩)) ∧ ¬ Bl K M L2 w.heap.size ∧ w.heap.size < wc.heap.size ∧ L2 .sho = .slice al s.ns cl))
    case first =>
      go_region_with (go_at_call 73; refine (HDL.out _).mono ?_; rintro e w' ⟨rfl, rfl⟩)
      all_goals (go_wp2_with fail; go_meet)
      all_goals
        case rel => exact ⟨rfl, Lib.hid (HS0.out _ rfl rfl rfl rfl)⟩
    case rest =>
      obtain ⟨rfl, HQ⟩ := hcut
      have c2' : wc.cell? ⟨K, 2, none⟩ = some (.slice al s.ns cl) := (HQ.out.1.mem.c 2 (by omega)).trans (congrArg some HQ.out.2.2.2.2.2)
      have bx' := HQ.out.2.2.1
      have H0 := Lib.hid (show ∃ L1 s1, Tn K M w L wc L1 s1 ∧ St.SI ((s.Keeps true 0).cut 0) s1 0 ∧ ¬ Bl K M L1 w.heap.size ∧ w.heap.size < wc.heap.size ∧ L1 .sho = .slice al s.ns cl from ⟨L2, _, HQ.out.1, HQ.out.2.1, HQ.out.2.2.2.1, HQ.out.2.2.2.2.1, HQ.out.2.2.2.2.2⟩)
      clear HQ HS0 HDL c2 hbx3 f3 hsz3 HL2
      go_wp2
      go_loopw [30] (fun v wr => ∃ j : Nat, j ≤ s.ns ∧ v = .int .i64 j ∧ wr.cell? ⟨w.heap.size, 0, none⟩ = some (.pointer (some ⟨K, 0, none⟩)) ∧ Hid (∃ L1 s1, Tn K M w L wr L1 s1 ∧ St.SI ((s.Keeps true 0).cut 0) s1 j ∧ ¬ Bl K M L1 w.heap.size ∧ w.heap.size < wr.heap.size ∧ L1 .sho = .slice al s.ns cl)) (fun v _ => s.ns - (intOf v).toNat)
      case atStart => exact ⟨0, Nat.zero_le _, rfl, bx', H0⟩
      case round =>
        obtain ⟨j, hj, rfl, bxr, HR⟩ := hrel
        clear H0 c2' bx'
        obtain ⟨L1, s1, hT, hS, hnb, hsz, hLs⟩ := HR.out
        have hns1 : s1.ns = s.ns := hS.ns
        have hnv1 : s1.nv = s.nv := hS.nvq
        have hnc1 : s1.nc = s.nc := hS.core.nc
        obtain ⟨hSI0, hcore, hng, _, _⟩ := HSI.out
        have hng1 : s1.NoGone := hng.core hS.core
        by_cases hlt : j < s.ns
        · have hltI : (j : Int) < (s.ns : Int) := by omega
          have hm := hT.mem
          obtain ⟨g, c', e, _⟩ := (hm.row .sho).pos (show 0 < s1.ns by omega)
          have e2 := e
          rw [hLs] at e2
          injection e2 with e3 e4 e5
          subst e3
          have xj : wr.cell? ⟨g, j, none⟩ = some (.int .i32 (s1.sh j)) := hm.rc e (show j < s1.ns * 1 by omega)
          obtain ⟨a1, a2, a3⟩ := hS.base.cls.s_ok j (by omega)
          have hap := apply_any hm (hS.base.fit (by omega)) a2 (by omega) (by omega) (fun i hi => hS.base.cls.c_lt _ i a2 hi) hS.base.tra.v_rng
          have HAP := Lib.hid hap
          have hnext : ∀ (w3 : World) (L3 : Tag → Value), (∀ t, t ≠ .tra → L3 t = L1 t) → Tn K M wr L1 w3 L3 (s1.app (s1.sh j)) → w3.cell? ⟨w.heap.size, 0, none⟩ = some (.pointer (some ⟨K, 0, none⟩)) ∧ Hid (∃ L1 s1, Tn K M w L w3 L1 s1 ∧ St.SI ((s.Keeps true 0).cut 0) s1 (j + 1) ∧ ¬ Bl K M L1 w.heap.size ∧ w.heap.size < w3.heap.size ∧ L1 .sho = .slice (some ⟨g, 0, none⟩) s.ns cl) := fun w3 L3 h3 T => by
            obtain ⟨k1, k2, k3, k4⟩ := T.side hsz hnb
            exact ⟨(k1 0).trans bxr, Lib.hid ⟨L3, _, hT.trans T, hS.step (by omega) hng1, k4, k3, (h3 _ (by intro e; cases e)).trans hLs⟩⟩
          have HNX := Lib.hid hnext
          clear hap hnext hm e e4 e5 a1 a2 a3 hT hS hnb hsz hLs hSI0 hcore hng hng1 hns1 hnv1 hnc1
          go_wp2_with (go_at_call 52; refine HAP.out.mono ?_; rintro e w3 ⟨rfl, L3, h3, T⟩; obtain ⟨bx3, H3⟩ := HNX.out w3 L3 h3 T; clear T h3)
          go_roundw
          case rel => exact ⟨j + 1, by omega, by go_num, bx3, H3⟩
          case measure => simp [intOf]; omega
        · have hq : ¬ (j : Int) < (s.ns : Int) := by omega
          obtain rfl : j = s1.ns := by omega
          have hfin := finish_any hT.mem hS.fin (by omega) (by omega)
          have HF := Lib.hid hfin
          have HFO := Lib.hid (show ∀ w3 L3 s3, FinOut K M wr L1 s1 w3 L3 s3 → SetOut K M w L s w3 L3 s3 from fun w3 L3 s3 h => ⟨hT.trans h.tn, ⟨h.base, fun _ => h.ok⟩, h.settled.trans hS.settled, (hcore.trans hS.core).trans h.core, h.nvq.trans hnv1⟩)
          clear hfin hT hS hnb hsz hLs hSI0 hcore hng hng1 hnv1 hnc1
          rw [← hns1] at hq
          go_wp2_with (go_at_call 53; refine HF.out.mono ?_; rintro e w3 ⟨rfl, L3, s3, hO⟩; have HO := Lib.hid (HFO.out w3 L3 s3 hO); clear hO)
          go_end0
          exact ⟨rfl, L3, s3, HO.out⟩
  · rw [hst] at c8
    have HO := Lib.hid (show SetOut K M w L s (w.alloc (.cells #[.pointer (some ⟨K, 0, none⟩)] 44)) L s from ⟨h.tnAlloc _, hI, hst, .refl s, rfl⟩)
    clear h hI hg
    go_enter Try.func54, Try.ntmps54
    go_wp2
    refine bodyPost_ret (results_none rfl _ _ _) rfl ?_
    exact ⟨rfl, _, _, HO.out⟩
end Go.Proofs.Ytoffhgiljnagcaa
