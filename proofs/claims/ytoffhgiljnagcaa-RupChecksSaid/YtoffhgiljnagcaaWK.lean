/- Contracts: settle. -/
import Derived.Test.YtoffhgiljnagcaaG
import Derived.Deep.DeepCutAuto
namespace Go.Proofs.Ytoffhgiljnagcaa
open Go.RowKit Go.Lib Go.Maps

theorem new_one (w : World) (K : Nat) : (w.alloc (.cells #[.pointer (some ⟨K, 0, none⟩)] 44)).cell? ⟨w.heap.size, 0, none⟩ = some (.pointer (some ⟨K, 0, none⟩)) := by simp
set_option maxHeartbeats 1000000 in
set_option maxRecDepth 100000 in
theorem settle1_any {K M : Nat} {w : World} {L : Tag → Value} {s : St} (h : Mem w K M L s) {bx a : Nat} (hbx : w.cell? ⟨bx, 0, none⟩ = some (.pointer (some ⟨K, 0, none⟩))) (ha : a < s.nc) (hnc : s.nc ≤ 100000000) :
    Calls Try.prog 74 #[.int .i32 a, .pointer (some ⟨bx, 0, none⟩)] w fun e w' => e = .returned (.bool (s.gone a)) ∧ w = w' := by
  obtain ⟨gc, cc, hL1, _⟩ := (h.row .cls).pos (show 0 < s.nc by omega)
  replace hL1 : L .cls = .slice (some ⟨gc, 0, none⟩) s.nc cc := hL1
  have c1 : w.cell? ⟨K, 1, none⟩ = some (.slice (some ⟨gc, 0, none⟩) s.nc cc) := (h.c 1 (by omega)).trans (congrArg some hL1)
  have x1 : w.cell? ⟨gc, a * 2 + 1, none⟩ = some (.bool (s.gone a)) := (h.rc hL1 (show a * 2 + 1 < s.nc * 2 by omega)).trans (by
    show some (if (a * 2 + 1) % 2 = 0 then _ else Value.bool (s.gone ((a * 2 + 1) / 2))) = _
    rw [if_neg (by omega), show (a * 2 + 1) / 2 = a by omega])
  have ha1 : (a : Int) < (s.nc : Int) := by omega
  clear h hL1
  generalize s.gone a = g at *
  go_enter Try.func74, Try.ntmps74
  go_wp2
  go_ret
  exact ⟨rfl, rfl⟩

set_option maxHeartbeats 1000000 in
set_option maxRecDepth 100000 in
theorem index_any {K M : Nat} {w : World} {L : Tag → Value} {s : St} (h : Mem w K M L s) {bx : Nat} (hbx : w.cell? ⟨bx, 0, none⟩ = some (.pointer (some ⟨K, 0, none⟩))) (hC : St.Cls s) (hnc : s.nc ≤ 100000000) {al : Option Addr} {c : Nat} (hL : L .sho = .slice al s.ns c) :
    Calls Try.prog 90 #[.slice al s.ns c, .func (.func 74) #[] #[.pointer (some ⟨bx, 0, none⟩)]] w fun e w' => ∃ r : Int, e = .returned (.int .i64 r) ∧ w = w' ∧ Hid ((r = -1 ∧ ∀ u, u < s.ns → s.gone (s.sh u) = false) ∨ ∃ i : Nat, r = i ∧ i < s.ns ∧ s.gone (s.sh i) = true ∧ ∀ u, u < i → s.gone (s.sh u) = false) := by
  have hns := hC.s_le
  have H1 := Lib.hid (show ∀ j, j < s.ns → Calls Try.prog 74 #[.int .i32 (s.sh j), .pointer (some ⟨bx, 0, none⟩)] w fun e w' => e = .returned (.bool (s.gone (s.sh j))) ∧ w = w' from fun j hj =>
    settle1_any h hbx (hC.s_ok j hj).2.1 hnc)
  have HC := Lib.hid (show ∀ j, j < s.ns → ∃ g, al = some ⟨g, 0, none⟩ ∧ w.cell? ⟨g, j, none⟩ = some (.int .i32 (s.sh j)) from fun j hj => by
    obtain ⟨g, c', e, _⟩ := (h.row .sho).pos (show 0 < s.ns by omega)
    have e2 := e
    rw [hL] at e
    injection e with e3
    exact ⟨g, e3, h.rc e2 (show j < s.ns * 1 by omega)⟩)
  clear h hbx hL hC
  go_enter Try.func90, Try.ntmps90
  go_wp2_with fail
  go_loopw [8, 5] (fun i _ wr => wr = w ∧ ∃ t : Nat, t ≤ s.ns ∧ i = .int .i64 t ∧ Hid (∀ u, u < t → s.gone (s.sh u) = false)) (fun i _ _ => s.ns - (intOf i).toNat)
  case atStart => exact ⟨rfl, 0, Nat.zero_le _, rfl, Lib.hid fun u hu => absurd hu (Nat.not_lt_zero _)⟩
  case round =>
    obtain ⟨rfl, t, ht, rfl, HT⟩ := hrel
    by_cases hlt : t < s.ns
    · obtain ⟨g, rfl, xc⟩ := HC.out t hlt
      have hcl := H1.out t hlt
      have hltI : (t : Int) < (s.ns : Int) := by omega
      cases hg : s.gone (s.sh t)
      · rw [hg] at hcl
        have HCL := Lib.hid hcl
        have HT' := Lib.hid (show ∀ u, u < t + 1 → s.gone (s.sh u) = false from fun u hu => by
          by_cases e : u = t
          · subst e; exact hg
          · exact HT.out u (by omega))
        clear hcl hg
        go_wp2_with (go_at_call 74; refine HCL.out.mono ?_; rintro e w1 ⟨rfl, rfl⟩)
        go_roundw
        case rel => exact ⟨trivial, t + 1, by omega, by go_num, HT'⟩
        case measure => simp [intOf]; omega
      · rw [hg] at hcl
        have HCL := Lib.hid hcl
        have HG := Lib.hid hg
        clear hcl hg
        go_wp2_with (go_at_call 74; refine HCL.out.mono ?_; rintro e w1 ⟨rfl, rfl⟩)
        go_ret
        exact ⟨t, rfl, rfl, Lib.hid (.inr ⟨t, rfl, hlt, HG.out, HT.out⟩)⟩
    · have hq : ¬ (t : Int) < (s.ns : Int) := by omega
      obtain rfl : t = s.ns := by omega
      go_wp2
      go_ret
      exact ⟨-1, rfl, rfl, Lib.hid (.inl ⟨rfl, HT.out⟩)⟩

/-- What the deletion hands back. -/
def DelOut (K M : Nat) (w : World) (L : Tag → Value) (s : St) (al : Option Addr) (c : Nat) (e : Ending) (w' : World) : Prop :=
  ∃ (m : Nat) (σ : Nat → Nat), e = .returned (.slice al m c) ∧ Hid (s.KeptE σ m ∧ Tn K M w L w' L { s with sh := σ })

set_option maxHeartbeats 4000000 in
set_option maxRecDepth 100000 in
theorem delete_any {K M : Nat} {w : World} {L : Tag → Value} {s : St} (h : Mem w K M L s) {bx : Nat} (hbx : w.cell? ⟨bx, 0, none⟩ = some (.pointer (some ⟨K, 0, none⟩))) (hbl : bx < w.heap.size) (hnb : ¬ Bl K M L bx) (hC : St.Cls s) (hnc : s.nc ≤ 100000000) {al : Option Addr} {c : Nat} (hL : L .sho = .slice al s.ns c) :
    Calls Try.prog 73 #[.slice al s.ns c, .func (.func 74) #[] #[.pointer (some ⟨bx, 0, none⟩)]] w (DelOut K M w L s al c) := by
  have HI := Lib.hid (index_any h hbx hC hnc hL)
  have hns := hC.s_le
  have HN := Lib.hid (And.intro h.refl (And.intro hbx (And.intro hbl (And.intro hnb (And.intro hC hL)))))
  clear h hbx hL hC hbl hnb
  go_enter Try.func73, Try.ntmps73
  go_wp2_with (go_at_call 90; refine HI.out.mono ?_; rintro e w1 ⟨r, rfl, rfl, HR⟩; clear HI; rcases HR.out with ⟨rfl, hno⟩ | ⟨i, rfl, hi, hg, hn⟩)
  · have HK := Lib.hid (St.KeptE.none hno)
    clear hno HR
    go_wp2
    go_ret
    exact ⟨s.ns, s.sh, rfl, Lib.hid ⟨HK.out, HN.out.1⟩⟩
  · obtain ⟨T0, hbx, hbl, hnb, hC, hL⟩ := HN.out
    obtain ⟨g, c', e, _⟩ := (T0.mem.row .sho).pos (show 0 < s.ns by omega)
    have e2 := e
    rw [hL] at e2
    injection e2 with e3 e4 e5
    subst e3
    have HK := Lib.hid (St.Kept.start hi hg hn)
    have hne1 : ((i : Int) == -1) = false := beq_eq_false_iff_ne.2 (by omega)
    have hnc' : s.ns ≤ c := by
      rcases T0.mem.row .sho with ⟨e, h0⟩ | ⟨g', c2, F, e, h2, _⟩
      · have : s.ns = 0 := h0
        omega
      · rw [hL] at e; cases e; exact h2
    clear hg hn HR T0 hbx hbl hnb hC hL e e4 e5
    go_wp2
    go_loopw [5, 6, 7] (fun vi vj _ wr => ∃ (i j : Nat) (σ : Nat → Nat), j ≤ s.ns ∧ vi = .int .i64 i ∧ vj = .int .i64 j ∧ Hid (s.Kept σ i j ∧ Tn K M w L wr L { s with sh := σ })) (fun _ vj _ _ => s.ns - (intOf vj).toNat)
    case atStart => exact ⟨i, i + 1, s.sh, hi, rfl, by go_num, Lib.hid ⟨HK.out, HN.out.1⟩⟩
    case round =>
      clear HK hne1 hi
      obtain ⟨i, j, σ, hj, rfl, rfl, HQ⟩ := hrel
      have hij := HQ.out.1.lt
      obtain ⟨_, hbx, hbl, hnb, hC, hL⟩ := HN.out
      by_cases hlt : j < s.ns
      · have hltI : (j : Int) < (s.ns : Int) := by omega
        have hm := HQ.out.2.mem
        have xj : wr.cell? ⟨g, j, none⟩ = some (.int .i32 (s.sh j)) := by
          have := hm.rc (t := .sho) hL (j := j) (show j < s.ns * 1 by omega)
          rw [this]
          show some (Value.int .i32 (σ j)) = _
          rw [HQ.out.1.rest j (Nat.le_refl _)]
        have xi := hm.rc (t := .sho) hL (j := i) (show i < s.ns * 1 by omega)
        have fi := hm.fz (t := .sho) hL i
        have hb2 : wr.cell? ⟨bx, 0, none⟩ = some (.pointer (some ⟨K, 0, none⟩)) := ((HQ.out.2.side hbl hnb).1 0).trans hbx
        have hcl : Calls Try.prog 74 #[.int .i32 (s.sh j), .pointer (some ⟨bx, 0, none⟩)] wr fun e w' => e = .returned (.bool (s.gone (s.sh j))) ∧ wr = w' := settle1_any hm hb2 (hC.s_ok j hlt).2.1 hnc
        clear hm hb2 hbx hbl hnb hC
        cases hg : s.gone (s.sh j)
        · have HK2 := Lib.hid (HQ.out.1.keep hlt hg)
          have HT2 := Lib.hid (HQ.out.2.trans (HQ.out.2.mem.stSh hL i (s.sh j)))
          rw [hg] at hcl
          have HCL := Lib.hid hcl
          clear hcl hg hL
          go_wp2_with (go_at_call 74; refine HCL.out.mono ?_; rintro e w1 ⟨rfl, rfl⟩)
          go_roundw
          case rel => (repeat apply Exists.intro); exact ⟨⟨i + 1, j + 1, _, by omega, by go_num, by go_num, Lib.hid ⟨HK2.out, HT2.out⟩⟩, rfl⟩
          case measure => simp [intOf]; omega
        · have HK2 := Lib.hid (HQ.out.1.skip hlt hg)
          rw [hg] at hcl
          have HCL := Lib.hid hcl
          clear hcl hg hL
          go_wp2_with (go_at_call 74; refine HCL.out.mono ?_; rintro e w1 ⟨rfl, rfl⟩)
          go_roundw
          case rel => (repeat apply Exists.intro); exact ⟨⟨i, j + 1, σ, by omega, rfl, by go_num, Lib.hid ⟨HK2.out, HQ.out.2⟩⟩, rfl⟩
          case measure => simp [intOf]; omega
      · obtain rfl : j = s.ns := by omega
        have hltI : ¬ (s.ns : Int) < (s.ns : Int) := by omega
        have hm := HQ.out.2.mem
        have hcl : ∀ ty, (Builtin.clear_ #[62] ty #[.slice (some ⟨g, i, none⟩) (s.ns - i) (c - i)]).run Try.prog wr = .ok (.tuple #[]) (wr.setCells g i (List.replicate (s.ns - i) (.int .i32 0))) := fun ty =>
          Lib.run_clear_slice wr _ _ ty _ Try.underlying62 (fun w => by kernel_rfl) rfl rfl g i _ _ (by omega) (fun t ht => by rw [hm.rc (t := .sho) hL (j := i + t) (show i + t < s.ns * 1 by omega)]; rfl) (fun t _ => hm.fz (t := .sho) hL (i + t))
        obtain ⟨σ2, h1, h2⟩ := Mem.clrSh hL (s.ns - i) i _ _ hm
        have HO := Lib.hid (And.intro (HQ.out.1.fin h1) (HQ.out.2.trans h2))
        clear hm hbx hbl hnb hC hL h1 h2 hlt
        go_wp2
        go_ret
        exact ⟨i, σ2, rfl, HO⟩

/-- What settle hands back. -/
structure SetOut (K M : Nat) (w : World) (L : Tag → Value) (s : St) (w' : World) (L' : Tag → Value) (s' : St) : Prop where
  tn : Tn K M w L w' L' s'
  inv : St.Inv s'
  settled : s'.settled = true
  core : St.Core s s'
  nvq : s'.nv = s.nv

set_option maxHeartbeats 4000000 in
set_option maxRecDepth 100000 in
theorem settle_any {K M : Nat} {w : World} {L : Tag → Value} {s : St} (h : Mem w K M L s) (hI : St.Inv s) (hnv : s.nv ≤ 100000000) (hnc : s.nc ≤ 100000000) :
    Calls Try.prog 54 #[.pointer (some ⟨K, 0, none⟩)] w fun e w' => e = .returned (.tuple #[]) ∧ ∃ L' s', SetOut K M w L s w' L' s' := by
  have c8 : w.cell? ⟨K, 8, none⟩ = some (.bool s.settled) := h.c 8 (by omega)
  have hK := h.hd.lt
  have fK := h.fk
  have HB := Lib.hid (new_one w K)
  cases hst : s.settled
  · rw [hst] at c8
    have T0 := h.stSettled true
    have T1 := T0.trans (T0.mem.tnAlloc (.cells #[.pointer (some ⟨K, 0, none⟩)] 44))
    have hBK := hI.base.keeps true s.broken
    have hfit : Fit' (s.Keeps true s.broken) := hBK.fit hnv
    have hret := retreat_any (m := 0) T1.mem hfit hBK.tra.t_lt (Nat.zero_le _)
    rw [show ((0 : Nat) : Int) = 0 from rfl] at hret
    have hnb : ¬ Bl K M L w.heap.size := fun e => by have := h.lt e; omega
    have hB0 : St.Base ((s.Keeps true 0).cut 0) St.All := (hI.base.keeps true 0).cut (Nat.zero_le _)
    have hSL := fun σ m => St.SI.startL hI.base (σ := σ) (m := m)
    -- behind retreat
    have haft : ∀ (w2 : World) (L2 : Tag → Value), Tn K M ((w.setCell ⟨K, 8, none⟩ (.bool true)).alloc (.cells #[.pointer (some ⟨K, 0, none⟩)] 44)) L w2 L2 ((s.Keeps true s.broken).cut 0) →
        w2.cell? ⟨w.heap.size, 0, none⟩ = some (.pointer (some ⟨K, 0, none⟩)) ∧ (∀ j, w2.frozen? ⟨K, j, none⟩ = false) ∧ (∃ u, w2.cell? ⟨K, 9, none⟩ = some u) ∧ ¬ Bl K M L2 w.heap.size ∧ w.heap.size < w2.heap.size ∧
        Tn K M w L (w2.setCell ⟨K, 9, none⟩ (.int .i32 (0 : Nat))) L2 ((s.Keeps true 0).cut 0) := by
      intro w2 L2 T
      obtain ⟨k1, k2, k3, k4⟩ := T.side (b := w.heap.size) (by simp) hnb
      refine ⟨(k1 0).trans (by have := new_one (w.setCell ⟨K, 8, none⟩ (.bool true)) K; rw [World.size_setCell] at this; exact this), T.mem.fk, ⟨_, T.mem.c 9 (by omega)⟩, k4, k3, T1.trans (T.trans (T.mem.stBroken 0))⟩
    have HR := Lib.hid hret
    have HA := Lib.hid haft
    have HSI := Lib.hid (And.intro hB0 (And.intro hSL (And.intro hnv hnc)))
    have hne8 : ¬ w.heap.size = K := by omega
    clear T0 T1 hBK hfit hret haft hB0 hSL hnb hI h
    go_enter Try.func54, Try.ntmps54
    go_wp2_with (go_at_call 57; refine HR.out.mono ?_; rintro e w2 ⟨rfl, L2, T⟩; obtain ⟨b1, b2, ⟨b3, b4⟩, b5, b6, T2⟩ := HA.out w2 L2 T; have HT2 := Lib.hid (And.intro T2 b5); clear T T2 b5)
    generalize hW3 : w2.setCell ⟨K, 9, none⟩ (.int .i32 0) = W3
    have hm3 : Mem W3 K M L2 ((s.Keeps true 0).cut 0) := by rw [← hW3]; exact HT2.out.1.mem
    have hT3 : Tn K M w L W3 L2 ((s.Keeps true 0).cut 0) := by rw [← hW3]; exact HT2.out.1
    have hbx3 : W3.cell? ⟨w.heap.size, 0, none⟩ = some (.pointer (some ⟨K, 0, none⟩)) := by
      rw [← hW3]
      refine (World.cell?_setCell_other _ _ _ _ fun e => ?_).trans b1
      injection e with e1; omega
    have hsz3 : w.heap.size < W3.heap.size := by rw [← hW3]; simpa using b6
    obtain ⟨hB0, hSL, hnv', hnc'⟩ := HSI.out
    obtain ⟨al, cl, hL2, _, _⟩ := (hm3.row .sho).shape
    replace hL2 : L2 .sho = .slice al s.ns cl := hL2
    have c2 : W3.cell? ⟨K, 2, none⟩ = some (.slice al s.ns cl) := (hm3.c 2 (by omega)).trans (congrArg some hL2)
    have f3 := hm3.fk
    have hnone : al = none → s.ns = 0 ∧ cl = 0 := by
      rcases hm3.row .sho with ⟨e, h0⟩ | ⟨g', c2, F, e, h2, _⟩
      · rw [hL2] at e; injection e with e1 e2 e3; exact fun _ => ⟨e2, e3⟩
      · rw [hL2] at e; injection e with e1 e2 e3; intro e4; rw [e4] at e1; cases e1
    have hdel : ∀ q, Calls Try.prog 73 #[.slice al s.ns cl, .func (.func 74) #[] #[.pointer (some ⟨w.heap.size, 0, none⟩)]] (W3.drewN q) fun e w' => ∃ (m : Nat) (σ : Nat → Nat), e = .returned (.slice al m cl) ∧ (∀ j, w'.frozen? ⟨K, j, none⟩ = false) ∧ (∃ u, w'.cell? ⟨K, 2, none⟩ = some u) ∧ w'.cell? ⟨w.heap.size, 0, none⟩ = some (.pointer (some ⟨K, 0, none⟩)) ∧ Hid (((s.Keeps true 0).cut 0).KeptE σ m ∧ Tn K M w L w' L2 { ((s.Keeps true 0).cut 0) with sh := σ } ∧ w'.cell? ⟨w.heap.size, 0, none⟩ = some (.pointer (some ⟨K, 0, none⟩)) ∧ w.heap.size < w'.heap.size) := fun q =>
      (delete_any (hm3.drewN q) (bx := w.heap.size) hbx3 hsz3 HT2.out.2 hB0.cls hnc' hL2).mono fun e w' ⟨m, σ, he, HD⟩ => by
        have hsd := HD.out.2.side (b := w.heap.size) hsz3 HT2.out.2
        exact ⟨m, σ, he, HD.out.2.mem.fk, ⟨_, HD.out.2.mem.c 2 (by omega)⟩, (hsd.1 0).trans hbx3, Lib.hid ⟨HD.out.1, hT3.trans ((hm3.refl.drewN q).trans HD.out.2), (hsd.1 0).trans hbx3, hsd.2.2.1⟩⟩
    have HDL := Lib.hid hdel
    have HS0 := Lib.hid (show ∀ (w' : World) (m : Nat) (σ : Nat → Nat), Hid (((s.Keeps true 0).cut 0).KeptE σ m ∧ Tn K M w L w' L2 { ((s.Keeps true 0).cut 0) with sh := σ } ∧ w'.cell? ⟨w.heap.size, 0, none⟩ = some (.pointer (some ⟨K, 0, none⟩)) ∧ w.heap.size < w'.heap.size) → ∀ W : World, W.heap = (w'.setCell ⟨K, 2, none⟩ (.slice al m cl)).heap → W.os = w'.os → W.tape = w'.tape → W.output = w'.output →
        Tn K M w L W (up L2 .sho (.slice al m cl)) (((s.Keeps true 0).cut 0).left σ m) ∧ St.SI (((s.Keeps true 0).cut 0).left σ m) (((s.Keeps true 0).cut 0).left σ m) 0 ∧ W.cell? ⟨w.heap.size, 0, none⟩ = some (.pointer (some ⟨K, 0, none⟩)) ∧ ¬ Bl K M (up L2 .sho (.slice al m cl)) w.heap.size ∧ w.heap.size < W.heap.size ∧ up L2 .sho (.slice al m cl) .sho = .slice al m cl ∧ ((s.Keeps true 0).cut 0).KeptE σ m from fun w' m σ HD W e1 e2 e3 e4 => by
      obtain ⟨d1, d2, d3, d4⟩ := HD.out
      have T5 := d2.mem.cutSho hL2 (show m ≤ s.ns from d1.le) (fun e => by have := d1.le; obtain ⟨h0, h1⟩ := hnone e; exact ⟨by have : m ≤ s.ns := d1.le; omega, h1⟩)
      have hnb5 : ¬ Bl K M (up L2 .sho (.slice al m cl)) w.heap.size := fun hb => by
        rcases T5.gr _ hb with e | e
        · exact HT2.out.2 e
        · omega
      refine ⟨(d2.trans T5).same e1 e2 e3 e4, hSL σ m d1, ?_, hnb5, by rw [e1]; simpa using d4, up_same _ _ _, d1⟩
      rw [show W.cell? ⟨w.heap.size, 0, none⟩ = (w'.setCell ⟨K, 2, none⟩ (.slice al m cl)).cell? ⟨w.heap.size, 0, none⟩ by unfold World.cell?; rw [e1]]
      refine (World.cell?_setCell_other _ _ _ _ fun e => ?_).trans d3
      injection e with e1; omega)
    have hns := hB0.cls.s_le
    have HL2 := Lib.hid hL2
    have hns2 : s.ns ≤ s.nc := hns
    clear hm3 hT3 hdel hns hB0 hSL hnv' hnc' hW3 HT2 HB HR HA b1 b2 b3 b4 b6 c8 hL2 hst hnone
    go_cut [22] (fun v wc => ∃ (m : Nat) (σ : Nat → Nat) (L3 : Tag → Value), v = .slice al m cl ∧ Hid (Tn K M w L wc L3 (((s.Keeps true 0).cut 0).left σ m) ∧ St.SI (((s.Keeps true 0).cut 0).left σ m) (((s.Keeps true 0).cut 0).left σ m) 0 ∧ wc.cell? ⟨w.heap.size, 0, none⟩ = some (.pointer (some ⟨K, 0, none⟩)) ∧ ¬ Bl K M L3 w.heap.size ∧ w.heap.size < wc.heap.size ∧ L3 .sho = .slice al m cl ∧ ((s.Keeps true 0).cut 0).KeptE σ m))
    case first =>
      go_region_with (go_at_call 73; refine (HDL.out _).mono ?_; rintro e w' ⟨m, σ, rfl, f4, ⟨u4, c4⟩, bx4, HD⟩)
      all_goals (go_wp2_with fail; go_meet)
      all_goals
        case rel => exact ⟨m, σ, _, rfl, Lib.hid (HS0.out _ m σ HD _ rfl rfl rfl rfl)⟩
    case rest =>
      obtain ⟨m, σ, L3, rfl, HQ⟩ := hcut
      have c2' : wc.cell? ⟨K, 2, none⟩ = some (.slice al m cl) := (HQ.out.1.mem.c 2 (by omega)).trans (congrArg some HQ.out.2.2.2.2.2.1)
      have bx' := HQ.out.2.2.1
      have HKE := Lib.hid HQ.out.2.2.2.2.2.2
      have hms : m ≤ s.ns := HKE.out.le
      have H0 := Lib.hid (show ∃ L1 s1, Tn K M w L wc L1 s1 ∧ St.SI (((s.Keeps true 0).cut 0).left σ m) s1 0 ∧ ¬ Bl K M L1 w.heap.size ∧ w.heap.size < wc.heap.size ∧ L1 .sho = .slice al m cl from ⟨L3, _, HQ.out.1, HQ.out.2.1, HQ.out.2.2.2.1, HQ.out.2.2.2.2.1, HQ.out.2.2.2.2.2.1⟩)
      clear HQ HS0 HDL c2 hbx3 f3 hsz3 HL2
      go_wp2
      go_loopw [30] (fun v wr => ∃ j : Nat, j ≤ m ∧ v = .int .i64 j ∧ wr.cell? ⟨w.heap.size, 0, none⟩ = some (.pointer (some ⟨K, 0, none⟩)) ∧ Hid (∃ L1 s1, Tn K M w L wr L1 s1 ∧ St.SI (((s.Keeps true 0).cut 0).left σ m) s1 j ∧ ¬ Bl K M L1 w.heap.size ∧ w.heap.size < wr.heap.size ∧ L1 .sho = .slice al m cl)) (fun v _ => m - (intOf v).toNat)
      case atStart => exact ⟨0, Nat.zero_le _, rfl, bx', H0⟩
      case round =>
        obtain ⟨j, hj, rfl, bxr, HR⟩ := hrel
        clear H0 c2' bx'
        obtain ⟨L1, s1, hT, hS, hnb, hsz, hLs⟩ := HR.out
        have hns1 : s1.ns = m := hS.ns
        have hnv1 : s1.nv = s.nv := hS.nvq
        have hnc1 : s1.nc = s.nc := hS.core.nc
        obtain ⟨_, _, _, _⟩ := HSI.out
        have hcore : St.Core s (((s.Keeps true 0).cut 0).left σ m) := St.core_left s true 0 0 σ m
        by_cases hlt : j < m
        · have hltI : (j : Int) < (m : Int) := by omega
          have hm := hT.mem
          obtain ⟨g, c', e, _⟩ := (hm.row .sho).pos (show 0 < s1.ns by omega)
          have e2 := e
          rw [hLs] at e2
          injection e2 with e3 e4 e5
          subst e3
          have xj : wr.cell? ⟨g, j, none⟩ = some (.int .i32 (s1.sh j)) := hm.rc e (show j < s1.ns * 1 by omega)
          obtain ⟨a1, a2, a3⟩ := hS.base.cls.s_ok j (by omega)
          have hgj : s1.gone (s1.sh j) = false := by
            rw [hS.core.gone, hS.sh]
            exact (HKE.out.in' j hlt).1
          have hap := apply_any hm (hS.base.fit (by omega)) a2 (by omega) (by omega) (fun i hi => hS.base.cls.c_lt _ i a2 hi) hS.base.tra.v_rng
          have HAP := Lib.hid hap
          have hnext : ∀ (w3 : World) (L3 : Tag → Value), (∀ t, t ≠ .tra → L3 t = L1 t) → Tn K M wr L1 w3 L3 (s1.app (s1.sh j)) → w3.cell? ⟨w.heap.size, 0, none⟩ = some (.pointer (some ⟨K, 0, none⟩)) ∧ Hid (∃ L1 s1, Tn K M w L w3 L1 s1 ∧ St.SI (((s.Keeps true 0).cut 0).left σ m) s1 (j + 1) ∧ ¬ Bl K M L1 w.heap.size ∧ w.heap.size < w3.heap.size ∧ L1 .sho = .slice (some ⟨g, 0, none⟩) m cl) := fun w3 L3 h3 T => by
            obtain ⟨k1, k2, k3, k4⟩ := T.side hsz hnb
            exact ⟨(k1 0).trans bxr, Lib.hid ⟨L3, _, hT.trans T, hS.step (by omega) hgj, k4, k3, (h3 _ (by intro e; cases e)).trans hLs⟩⟩
          have HNX := Lib.hid hnext
          clear hap hnext hm e e4 e5 a1 a2 a3 hT hS hnb hsz hLs hcore hns1 hnv1 hnc1 hgj
          go_wp2_with (go_at_call 52; refine HAP.out.mono ?_; rintro e w3 ⟨rfl, L3, h3, T⟩; obtain ⟨bx3, H3⟩ := HNX.out w3 L3 h3 T; clear T h3)
          go_roundw
          case rel => exact ⟨j + 1, by omega, by go_num, bx3, H3⟩
          case measure => simp [intOf]; omega
        · have hq : ¬ (j : Int) < (m : Int) := by omega
          obtain rfl : j = s1.ns := by omega
          have hfin := finish_any hT.mem hS.fin (by omega) (by omega)
          have HF := Lib.hid hfin
          have HFO := Lib.hid (show ∀ w3 L3 s3, FinOut K M wr L1 s1 w3 L3 s3 → SetOut K M w L s w3 L3 s3 from fun w3 L3 s3 h => ⟨hT.trans h.tn, ⟨h.base, fun _ => h.ok⟩, h.settled.trans hS.settled, (hcore.trans hS.core).trans h.core, h.nvq.trans hnv1⟩)
          clear hfin hT hS hnb hsz hLs hcore hnv1 hnc1
          go_wp2_with (go_at_call 53; refine HF.out.mono ?_; rintro e w3 ⟨rfl, L3, s3, hO⟩; have HO := Lib.hid (HFO.out w3 L3 s3 hO); clear hO)
          go_end0
          exact ⟨rfl, L3, s3, HO.out⟩
  · rw [hst] at c8
    have HO := Lib.hid (show SetOut K M w L s (w.alloc (.cells #[.pointer (some ⟨K, 0, none⟩)] 44)) L s from ⟨h.tnAlloc _, hI, hst, .refl s, rfl⟩)
    clear h hI
    go_enter Try.func54, Try.ntmps54
    go_wp2
    refine bodyPost_ret (results_none rfl _ _ _) rfl ?_
    exact ⟨rfl, _, _, HO.out⟩
end Go.Proofs.Ytoffhgiljnagcaa
