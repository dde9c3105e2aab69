/- Contracts: release. -/
import Derived.Test.YtoffhgiljnagcaaWB
import Derived.Test.YtoffhgiljnagcaaWC
namespace Go.Proofs.Ytoffhgiljnagcaa
open Go.RowKit Go.Lib Go.Maps

/-- What release may do. -/
def RelPost (s : St) (a l : Nat) (b : Bool) (s' : St) : Prop :=
  (s.gone a = true ∧ b = true ∧ s' = s) ∨
  (s.gone a = false ∧ ∃ s1, (s1 = s ∨ s1 = s.swp a) ∧ s1.lt a 1 = l ∧
    ((b = false ∧ s' = s1 ∧ (s.val (s1.lt a 0) = 1 ∨ ∀ i, 2 ≤ i → i < s.ln a → s.val (s1.lt a i) = -1)) ∨
     (b = true ∧ ∃ i, 2 ≤ i ∧ i < s.ln a ∧ s.val (s1.lt a i) ≠ -1 ∧ s' = (s1.mov a i).ent (s1.lt a i) a (s1.lt a 0))))

set_option maxHeartbeats 2000000 in
set_option maxRecDepth 100000 in
theorem release_gone {K M : Nat} {w : World} {L : Tag → Value} {s : St} (h : Mem w K M L s) {a l : Nat} (ha : a < s.nc) (hnc : s.nc ≤ 100000000) (hg : s.gone a = true) :
    Calls Try.prog 91 #[.pointer (some ⟨K, 0, none⟩), .int .i32 a, .int .i32 l] w fun e w' => e = .returned (.bool true) ∧ Tn K M w L w' L s := by
  obtain ⟨gc, cc, hL1, hc1, hc2, _⟩ := (h.row .cls).pos (show 0 < s.nc by omega)
  replace hL1 : L .cls = .slice (some ⟨gc, 0, none⟩) s.nc cc := hL1
  obtain ⟨al, cl, hLl, _⟩ := (h.row (.cl a)).shape
  replace hLl : L (.cl a) = .slice al (s.ln a) cl := hLl
  have c1 : w.cell? ⟨K, 1, none⟩ = some (.slice (some ⟨gc, 0, none⟩) s.nc cc) := (h.c 1 (by omega)).trans (congrArg some hL1)
  have x0 : w.cell? ⟨gc, a * 2, none⟩ = some (.slice al (s.ln a) cl) := (h.rc hL1 (show a * 2 < s.nc * 2 by omega)).trans (by
    show some (if a * 2 % 2 = 0 then L (.cl (a * 2 / 2)) else _) = _
    rw [if_pos (by omega), show a * 2 / 2 = a by omega, hLl])
  have x1 : w.cell? ⟨gc, a * 2 + 1, none⟩ = some (.bool true) := (h.rc hL1 (show a * 2 + 1 < s.nc * 2 by omega)).trans (by
    show some (if (a * 2 + 1) % 2 = 0 then _ else Value.bool (s.gone ((a * 2 + 1) / 2))) = _
    rw [if_neg (by omega), show (a * 2 + 1) / 2 = a by omega, hg])
  have hK := h.hd.lt
  have ha1 : (a : Int) < (s.nc : Int) := by omega
  have HT := Lib.hid (fun o => h.tnAlloc o)
  clear h hL1 hLl hg
  go_enter Try.func91, Try.ntmps91
  go_wp2
  go_ret
  exact ⟨rfl, HT.out _⟩

/-- What release needs. -/
structure RelPre (s : St) (a l : Nat) : Prop where
  fit : Fit' s
  ew : s.ew = 2 * s.nv
  ha : a < s.nc
  nc : s.nc ≤ 100000000
  g : s.gone a = false
  h2 : 2 ≤ s.ln a
  hln : s.ln a ≤ 100000000
  hlt : ∀ i, i < s.ln a → s.lt a i < 2 * s.nv
  h01 : s.lt a 0 = l ∨ s.lt a 1 = l
  wn : ∀ p, p < 2 * s.nv → p ≠ l → s.wn p ≤ 100000000
  ne : ∀ i j, i < s.ln a → j < s.ln a → s.lt a i = s.lt a j → i = j

/-- Behind the first two's change of places. -/
structure Aft (s s1 : St) (a l : Nat) : Prop where
  or_ : s1 = s ∨ s1 = s.swp a
  one : s1.lt a 1 = l
  ln : s1.ln a = s.ln a
  val : s1.val = s.val
  ev : s1.ev = s.ev
  ew : s1.ew = s.ew
  wn : s1.wn = s.wn
  lt_ : ∀ i, i < s.ln a → s1.lt a i < 2 * s.nv
  ne : ∀ i, 2 ≤ i → i < s.ln a → s1.lt a i ≠ l
theorem Aft.mk' {s s1 : St} {a l : Nat} (h : RelPre s a l) (ho : s1 = s ∨ s1 = s.swp a) (h1 : s1.lt a 1 = l) : Aft s s1 a l := by
  have h2 := h.h2
  rcases ho with rfl | rfl
  · exact ⟨.inl rfl, h1, rfl, rfl, rfl, rfl, rfl, h.hlt, fun i hi hl e => by have := h.ne i 1 hl (by omega) (e.trans h1.symm); omega⟩
  · refine ⟨.inr rfl, h1, rfl, rfl, rfl, rfl, rfl, fun i hi => ?_, fun i hi hl e => ?_⟩
    · rw [St.swp_lt, if_pos rfl]; exact h.hlt _ (St.sw_lt hi h2)
    · have e1 : s.lt a i = s.lt a 0 := by
        have a1 : (s.swp a).lt a i = s.lt a i := by rw [St.swp_lt, if_pos rfl]; unfold St.sw; rw [if_neg (by omega), if_neg (by omega)]
        have a2 : (s.swp a).lt a 1 = s.lt a 0 := by rw [St.swp_lt, if_pos rfl]; rfl
        rw [← a1, ← a2, e, h1]
      have := h.ne i 0 hl (by omega) e1; omega

theorem swp_eq {s : St} {a l : Nat} (h : s.lt a 0 = l) : ({ s with lt := fun b j => if b = a ∧ j = 1 then l else if b = a ∧ j = 0 then s.lt a 1 else s.lt b j } : St) = s.swp a := by
  have e : (fun b j => if b = a ∧ j = 1 then l else if b = a ∧ j = 0 then s.lt a 1 else s.lt b j) = (s.swp a).lt := by
    funext b j
    rw [St.swp_lt]
    by_cases hb : b = a
    · subst hb
      rw [if_pos rfl]
      by_cases h1 : j = 1
      · subst h1; rw [if_pos ⟨rfl, rfl⟩, ← h]; rfl
      · rw [if_neg (fun e => h1 e.2)]
        by_cases h0 : j = 0
        · subst h0; rw [if_pos ⟨rfl, rfl⟩]; rfl
        · rw [if_neg (fun e => h0 e.2)]; unfold St.sw; rw [if_neg h0, if_neg h1]
    · rw [if_neg (fun e => hb e.1), if_neg (fun e => hb e.1), if_neg hb]
  show ({ s with lt := (fun b j => if b = a ∧ j = 1 then l else if b = a ∧ j = 0 then s.lt a 1 else s.lt b j) } : St) = _
  rw [e]; rfl
theorem mov_eq {s : St} {a i m l : Nat} (h : s.lt a 1 = l) (hm : s.lt a i = m) (hi : 2 ≤ i) : ({ s with lt := fun b j => if b = a ∧ j = i then l else if b = a ∧ j = 1 then m else s.lt b j } : St) = s.mov a i := by
  have e : (fun b j => if b = a ∧ j = i then l else if b = a ∧ j = 1 then m else s.lt b j) = (s.mov a i).lt := by
    funext b j
    rw [St.mov_lt]
    by_cases hb : b = a
    · subst hb
      rw [if_pos rfl]
      unfold St.mv
      by_cases h1 : j = i
      · subst h1; rw [if_pos ⟨rfl, rfl⟩, if_neg (by omega), if_pos rfl, h]
      · rw [if_neg (fun e => h1 e.2)]
        by_cases h0 : j = 1
        · subst h0; rw [if_pos ⟨rfl, rfl⟩, if_pos rfl, hm]
        · rw [if_neg (fun e => h0 e.2), if_neg h0, if_neg h1]
    · rw [if_neg (fun e => hb e.1), if_neg (fun e => hb e.1), if_neg hb]
  show ({ s with lt := (fun b j => if b = a ∧ j = i then l else if b = a ∧ j = 1 then m else s.lt b j) } : St) = _
  rw [e]; rfl

/-- What release hands back. -/
def RelOut (K M : Nat) (w : World) (L : Tag → Value) (s : St) (a l : Nat) (e : Ending) (w' : World) : Prop :=
  ∃ b s', e = .returned (.bool b) ∧ (∃ L', L' (.wl l) = L (.wl l) ∧ Tn K M w L w' L' s') ∧ RelPost s a l b s'

set_option maxHeartbeats 4000000 in
set_option maxRecDepth 100000 in
theorem release_there {K M : Nat} {w : World} {L : Tag → Value} {s : St} (h : Mem w K M L s) {a l : Nat} (hp : RelPre s a l) :
    Calls Try.prog 91 #[.pointer (some ⟨K, 0, none⟩), .int .i32 a, .int .i32 l] w (RelOut K M w L s a l) := by
  have h2 := hp.h2
  have ha := hp.ha
  have hg := hp.g
  have hnc := hp.nc
  have hev := hp.fit.ev
  obtain ⟨gc, cc, hL1, hc1, hc2, _⟩ := (h.row .cls).pos (show 0 < s.nc by omega)
  replace hL1 : L .cls = .slice (some ⟨gc, 0, none⟩) s.nc cc := hL1
  obtain ⟨gl, cl, hLl, _⟩ := (h.row (.cl a)).pos (show 0 < s.ln a by omega)
  replace hLl : L (.cl a) = .slice (some ⟨gl, 0, none⟩) (s.ln a) cl := hLl
  have hl0 := hp.hlt 0 (by omega)
  have hl1 := hp.hlt 1 (by omega)
  obtain ⟨gv, cv, hL4, _⟩ := (h.row .vals).pos (show 0 < s.ev by omega)
  replace hL4 : L .vals = .slice (some ⟨gv, 0, none⟩) s.ev cv := hL4
  have c1 : w.cell? ⟨K, 1, none⟩ = some (.slice (some ⟨gc, 0, none⟩) s.nc cc) := (h.c 1 (by omega)).trans (congrArg some hL1)
  have c4 : w.cell? ⟨K, 4, none⟩ = some (.slice (some ⟨gv, 0, none⟩) s.ev cv) := (h.c 4 (by omega)).trans (congrArg some hL4)
  have x0 : w.cell? ⟨gc, a * 2, none⟩ = some (.slice (some ⟨gl, 0, none⟩) (s.ln a) cl) := (h.rc hL1 (show a * 2 < s.nc * 2 by omega)).trans (by
    show some (if a * 2 % 2 = 0 then L (.cl (a * 2 / 2)) else _) = _
    rw [if_pos (by omega), show a * 2 / 2 = a by omega, hLl])
  have x1 : w.cell? ⟨gc, a * 2 + 1, none⟩ = some (.bool false) := (h.rc hL1 (show a * 2 + 1 < s.nc * 2 by omega)).trans (by
    show some (if (a * 2 + 1) % 2 = 0 then _ else Value.bool (s.gone ((a * 2 + 1) / 2))) = _
    rw [if_neg (by omega), show (a * 2 + 1) / 2 = a by omega, hg])
  have y0 : w.cell? ⟨gl, 0, none⟩ = some (.int .i32 (s.lt a 0)) := h.rc hLl (show 0 < s.ln a * 1 by omega)
  have y1 : w.cell? ⟨gl, 1, none⟩ = some (.int .i32 (s.lt a 1)) := h.rc hLl (show 1 < s.ln a * 1 by omega)
  have v0 : w.cell? ⟨gv, s.lt a 0, none⟩ = some (.int .i8 (s.val (s.lt a 0))) := h.rc hL4 (show s.lt a 0 < s.ev * 1 by omega)
  have v1 : w.cell? ⟨gv, s.lt a 1, none⟩ = some (.int .i8 (s.val (s.lt a 1))) := h.rc hL4 (show s.lt a 1 < s.ev * 1 by omega)
  have fl := h.fz hLl
  have hK := h.hd.lt
  have hgl := h.glt hLl
  have hgv := h.glt hL4
  have n1 := h.ne hLl
  have n2 := h.ne2 hLl hL4 (by intro e; cases e)
  have ha1 : (a : Int) < (s.nc : Int) := by omega
  have q0 : (s.lt a 0 : Int) < (s.ev : Int) := by omega
  have q1 : (s.lt a 1 : Int) < (s.ev : Int) := by omega
  have q2 : (0 : Int) < (s.ln a : Int) := by omega
  have q3 : (1 : Int) < (s.ln a : Int) := by omega
  have HL := Lib.hid (And.intro hL1 (And.intro hLl hL4))
  have HP := Lib.hid hp
  have HH := Lib.hid h
  clear h hp hL1 hLl hL4 hg
  have hcase : (s.lt a 0 = l ∧ Hid (∃ s1, Aft s s1 a l ∧ ∀ W, W.heap = (((w.setCell ⟨gl, 0, none⟩ (.int .i32 (s.lt a 1))).setCell ⟨gl, 1, none⟩ (.int .i32 l)).alloc (.cells #[.slice (some ⟨gl, 0, none⟩) (s.ln a) cl, .bool false] 75)).heap → W.os = w.os → W.tape = w.tape → W.output = w.output → Tn K M w L W L s1 ∧ W.cell? ⟨w.heap.size, 0, none⟩ = some (.slice (some ⟨gl, 0, none⟩) (s.ln a) cl))) ∨
      (s.lt a 0 ≠ l ∧ Hid (∃ s1, Aft s s1 a l ∧ ∀ W, W.heap = (w.alloc (.cells #[.slice (some ⟨gl, 0, none⟩) (s.ln a) cl, .bool false] 75)).heap → W.os = w.os → W.tape = w.tape → W.output = w.output → Tn K M w L W L s1 ∧ W.cell? ⟨w.heap.size, 0, none⟩ = some (.slice (some ⟨gl, 0, none⟩) (s.ln a) cl))) := by
    by_cases hsw : s.lt a 0 = l
    · refine .inl ⟨hsw, Lib.hid ⟨s.swp a, .mk' HP.out (.inr rfl) ?_, fun W e1 e2 e3 e4 => ⟨?_, (new_two _ _ e1 (by simp)).1⟩⟩⟩
      · rw [St.swp_lt, if_pos rfl]; exact hsw
      · have T1 := HH.out.stLt HL.out.2.1 0 (s.lt a 1)
        have T2 := T1.mem.stLt HL.out.2.1 1 l
        have T3 := T1.trans (T2.trans (T2.mem.tnAlloc (.cells #[.slice (some ⟨gl, 0, none⟩) (s.ln a) cl, .bool false] 75)))
        rw [← swp_eq hsw]
        exact T3.same e1 e2 e3 e4
    · exact .inr ⟨hsw, Lib.hid ⟨s, .mk' HP.out (.inl rfl) (HP.out.h01.resolve_left hsw), fun W e1 e2 e3 e4 => ⟨(HH.out.tnAlloc _).same e1 e2 e3 e4, (new_two _ _ e1 rfl).1⟩⟩⟩
  clear hl0 hl1 v0 v1 q0 q1 n2
  rcases hcase with ⟨hsw, HS⟩ | ⟨hsw, HS⟩
  · rw [hsw] at y0
    clear hsw
    go_enter Try.func91, Try.ntmps91
    go_wp2
    go_region
    go_wp2
    obtain ⟨s1, hs1, hT⟩ := HS.out
    obtain ⟨hW, hcb⟩ := hT (World.drew (World.alloc _ _)) rfl rfl rfl rfl
    generalize World.drew (World.alloc _ _) = W0 at hW hcb ⊢
    clear HS hT
    have hme := hW.mem
    have d4 := (hme.c 4 (by omega)).trans (congrArg some HL.out.2.2)
    have b0 : W0.cell? ⟨gl, 0, none⟩ = some (.int .i32 (s1.lt a 0)) := hme.rc HL.out.2.1 (show 0 < s1.ln a * 1 by rw [hs1.ln]; omega)
    have l0 := hs1.lt_ 0 (by omega)
    have u0 : W0.cell? ⟨gv, s1.lt a 0, none⟩ = some (.int .i8 (s.val (s1.lt a 0))) := (hme.rc HL.out.2.2 (show s1.lt a 0 < s1.ev * 1 by rw [hs1.ev]; omega)).trans (by rw [← hs1.val]; rfl)
    have q0 : (s1.lt a 0 : Int) < (s.ev : Int) := by omega
    have HS1 := Lib.hid hs1
    have HW := Lib.hid hW
    have HM := Lib.hid (show ∀ q, (W0.drewN q).cell? ⟨w.heap.size, 0, none⟩ = some (.slice (some ⟨gl, 0, none⟩) (s.ln a) cl) ∧ Tn K M w L (W0.drewN q) L s1 from fun q => ⟨hcb, hW.drewN q⟩)
    clear hme l0 hs1 hW c1 c4 x0 x1 y0 y1 fl hK hgl hgv n1
    by_cases hv : s.val (s1.lt a 0) = 1
    · rw [hv] at u0
      go_quiet (fail)
      go_wp2
      go_ret
      exact ⟨false, s1, rfl, ⟨L, rfl, (HM.out _).2⟩, .inr ⟨HP.out.g, s1, HS1.out.or_, HS1.out.one, .inl ⟨rfl, rfl, .inl hv⟩⟩⟩
    · have hvb : (s.val (s1.lt a 0) == (1 : Int)) = false := by simpa using hv
      go_quiet (fail)
      go_wp2
      clear b0 u0 hcb d4
      go_loopw [8] (fun v wr => ∃ i : Nat, 2 ≤ i ∧ i ≤ s.ln a ∧ v = .int .i64 i ∧ Hid ((∀ j, 2 ≤ j → j < i → s.val (s1.lt a j) = -1) ∧ Tn K M w L wr L s1 ∧ wr.cell? ⟨w.heap.size, 0, none⟩ = some (.slice (some ⟨gl, 0, none⟩) (s.ln a) cl))) (fun v _ => s.ln a - (intOf v).toNat)
      case atStart => exact ⟨2, Nat.le_refl _, h2, rfl, Lib.hid ⟨fun j h1 h2 => by omega, (HM.out _).2, (HM.out _).1⟩⟩
      case round =>
        obtain ⟨i, hi2, hin, rfl, HI⟩ := hrel
        have hcb := HI.out.2.2
        have hln := HP.out.hln
        by_cases hlt : i < s.ln a
        · have hltI : (i : Int) < (s.ln a : Int) := by omega
          have hme := HI.out.2.1.mem
          have d4 := (hme.c 4 (by omega)).trans (congrArg some HL.out.2.2)
          have li := HS1.out.lt_ i hlt
          have bi : wr.cell? ⟨gl, i, none⟩ = some (.int .i32 (s1.lt a i)) := hme.rc HL.out.2.1 (show i < s1.ln a * 1 by rw [HS1.out.ln]; omega)
          have ui : wr.cell? ⟨gv, s1.lt a i, none⟩ = some (.int .i8 (s.val (s1.lt a i))) := (hme.rc HL.out.2.2 (show s1.lt a i < s1.ev * 1 by rw [HS1.out.ev]; omega)).trans (by rw [← HS1.out.val]; rfl)
          have qi : (s1.lt a i : Int) < (s.ev : Int) := by omega
          by_cases hv1 : s.val (s1.lt a i) = -1
          · rw [hv1] at ui
            clear hme li
            go_wp2
            go_roundw
            case rel => exact ⟨i + 1, by omega, by omega, by go_num, Lib.hid ⟨fun j h1 h2 => by (rcases Nat.lt_or_ge j i with h3 | h3); exact HI.out.1 j h1 h3; (obtain rfl : j = i := by omega); exact hv1, HI.out.2.1, HI.out.2.2⟩⟩
            case measure => simp [intOf]; omega
          · have hvb1 : (s.val (s1.lt a i) != (-1 : Int)) = true := by simpa using hv1
            have b1 : wr.cell? ⟨gl, 1, none⟩ = some (.int .i32 (s1.lt a 1)) := hme.rc HL.out.2.1 (show 1 < s1.ln a * 1 by rw [HS1.out.ln]; omega)
            have b0 : wr.cell? ⟨gl, 0, none⟩ = some (.int .i32 (s1.lt a 0)) := hme.rc HL.out.2.1 (show 0 < s1.ln a * 1 by rw [HS1.out.ln]; omega)
            have fl := hme.fz HL.out.2.1
            have ncb : ¬ gl = w.heap.size := fun e => by have := HH.out.glt HL.out.2.1; omega
            have ncb2 : ¬ w.heap.size = gl := fun e => ncb e.symm
            have T1 := hme.stLt HL.out.2.1 1 (s1.lt a i)
            have T2 := (T1.trans (T1.mem.stLt HL.out.2.1 i l)).drewN 1
            have eM : ({ s1 with lt := fun b j => if b = a ∧ j = i then l else if b = a ∧ j = 1 then s1.lt a i else s1.lt b j } : St) = s1.mov a i := mov_eq HS1.out.one rfl hi2
            have T3 : Tn K M wr L (((wr.setCell ⟨gl, 1, none⟩ (.int .i32 (s1.lt a i))).setCell ⟨gl, i, none⟩ (.int .i32 l)).drewN 1) L (s1.mov a i) := by rw [← eM]; exact T2
            have HWt := Lib.hid (watch_any (a := a) (o := s1.lt a 0) T3.mem (p := s1.lt a i) (show s1.lt a i < s1.ew by rw [HS1.out.ew, HP.out.ew]; omega) (show s1.ew ≤ _ by rw [HS1.out.ew, HP.out.ew]; have := HP.out.fit.nv; omega) (show s1.wn _ ≤ _ by rw [HS1.out.wn]; have := HP.out.wn _ li (HS1.out.ne i hi2 hlt); omega))
            have HT3 := Lib.hid (HI.out.2.1.trans T3)
            clear T1 T2 T3 eM hme li
            have hi0 : ¬ i = 0 := by omega
            have hi0' : ¬ 0 = i := by omega
            have hi1 : ¬ i = 1 := by omega
            go_wp2
            go_region
            all_goals
              go_wp2_with (go_at_call 51; refine HWt.out.mono ?_; rintro e w' ⟨rfl, v, T⟩; have HT4 := Lib.hid T; clear T)
              go_ret
              exact ⟨true, _, rfl, ⟨_, up_other _ (fun e => by cases e; exact HS1.out.ne i hi2 hlt rfl), HT3.out.trans HT4.out⟩, .inr ⟨HP.out.g, s1, HS1.out.or_, HS1.out.one, .inr ⟨rfl, i, hi2, hlt, hv1, rfl⟩⟩⟩
        · obtain rfl : i = s.ln a := by omega
          have hz : ¬ ((s.ln a : Int) < (s.ln a : Int)) := by omega
          go_wp2
          go_ret
          exact ⟨false, s1, rfl, ⟨L, rfl, HI.out.2.1⟩, .inr ⟨HP.out.g, s1, HS1.out.or_, HS1.out.one, .inl ⟨rfl, rfl, .inr HI.out.1⟩⟩⟩
  · have hb : ((s.lt a 0 : Int) == (l : Int)) = false := by simpa using fun e => hsw (by omega)
    have hb2 : ¬ (s.lt a 0 : Int) = (l : Int) := by omega
    clear hsw
    go_enter Try.func91, Try.ntmps91
    go_wp2
    obtain ⟨s1, hs1, hT⟩ := HS.out
    obtain ⟨hW, hcb⟩ := hT _ rfl rfl rfl rfl
    generalize World.alloc w _ = W0 at hW hcb ⊢
    clear HS hT
    have hme := hW.mem
    have d4 := (hme.c 4 (by omega)).trans (congrArg some HL.out.2.2)
    have b0 : W0.cell? ⟨gl, 0, none⟩ = some (.int .i32 (s1.lt a 0)) := hme.rc HL.out.2.1 (show 0 < s1.ln a * 1 by rw [hs1.ln]; omega)
    have l0 := hs1.lt_ 0 (by omega)
    have u0 : W0.cell? ⟨gv, s1.lt a 0, none⟩ = some (.int .i8 (s.val (s1.lt a 0))) := (hme.rc HL.out.2.2 (show s1.lt a 0 < s1.ev * 1 by rw [hs1.ev]; omega)).trans (by rw [← hs1.val]; rfl)
    have q0 : (s1.lt a 0 : Int) < (s.ev : Int) := by omega
    have HS1 := Lib.hid hs1
    have HW := Lib.hid hW
    have HM := Lib.hid (show ∀ q, (W0.drewN q).cell? ⟨w.heap.size, 0, none⟩ = some (.slice (some ⟨gl, 0, none⟩) (s.ln a) cl) ∧ Tn K M w L (W0.drewN q) L s1 from fun q => ⟨hcb, hW.drewN q⟩)
    clear hme l0 hs1 hW c1 c4 x0 x1 y0 y1 fl hK hgl hgv n1
    by_cases hv : s.val (s1.lt a 0) = 1
    · rw [hv] at u0
      go_quiet (fail)
      go_wp2
      go_ret
      exact ⟨false, s1, rfl, ⟨L, rfl, (HM.out _).2⟩, .inr ⟨HP.out.g, s1, HS1.out.or_, HS1.out.one, .inl ⟨rfl, rfl, .inl hv⟩⟩⟩
    · have hvb : (s.val (s1.lt a 0) == (1 : Int)) = false := by simpa using hv
      go_quiet (fail)
      go_wp2
      clear b0 u0 hcb d4
      go_loopw [8] (fun v wr => ∃ i : Nat, 2 ≤ i ∧ i ≤ s.ln a ∧ v = .int .i64 i ∧ Hid ((∀ j, 2 ≤ j → j < i → s.val (s1.lt a j) = -1) ∧ Tn K M w L wr L s1 ∧ wr.cell? ⟨w.heap.size, 0, none⟩ = some (.slice (some ⟨gl, 0, none⟩) (s.ln a) cl))) (fun v _ => s.ln a - (intOf v).toNat)
      case atStart => exact ⟨2, Nat.le_refl _, h2, rfl, Lib.hid ⟨fun j h1 h2 => by omega, (HM.out _).2, (HM.out _).1⟩⟩
      case round =>
        obtain ⟨i, hi2, hin, rfl, HI⟩ := hrel
        have hcb := HI.out.2.2
        have hln := HP.out.hln
        by_cases hlt : i < s.ln a
        · have hltI : (i : Int) < (s.ln a : Int) := by omega
          have hme := HI.out.2.1.mem
          have d4 := (hme.c 4 (by omega)).trans (congrArg some HL.out.2.2)
          have li := HS1.out.lt_ i hlt
          have bi : wr.cell? ⟨gl, i, none⟩ = some (.int .i32 (s1.lt a i)) := hme.rc HL.out.2.1 (show i < s1.ln a * 1 by rw [HS1.out.ln]; omega)
          have ui : wr.cell? ⟨gv, s1.lt a i, none⟩ = some (.int .i8 (s.val (s1.lt a i))) := (hme.rc HL.out.2.2 (show s1.lt a i < s1.ev * 1 by rw [HS1.out.ev]; omega)).trans (by rw [← HS1.out.val]; rfl)
          have qi : (s1.lt a i : Int) < (s.ev : Int) := by omega
          by_cases hv1 : s.val (s1.lt a i) = -1
          · rw [hv1] at ui
            clear hme li
            go_wp2
            go_roundw
            case rel => exact ⟨i + 1, by omega, by omega, by go_num, Lib.hid ⟨fun j h1 h2 => by (rcases Nat.lt_or_ge j i with h3 | h3); exact HI.out.1 j h1 h3; (obtain rfl : j = i := by omega); exact hv1, HI.out.2.1, HI.out.2.2⟩⟩
            case measure => simp [intOf]; omega
          · have hvb1 : (s.val (s1.lt a i) != (-1 : Int)) = true := by simpa using hv1
            have b1 : wr.cell? ⟨gl, 1, none⟩ = some (.int .i32 (s1.lt a 1)) := hme.rc HL.out.2.1 (show 1 < s1.ln a * 1 by rw [HS1.out.ln]; omega)
            have b0 : wr.cell? ⟨gl, 0, none⟩ = some (.int .i32 (s1.lt a 0)) := hme.rc HL.out.2.1 (show 0 < s1.ln a * 1 by rw [HS1.out.ln]; omega)
            have fl := hme.fz HL.out.2.1
            have ncb : ¬ gl = w.heap.size := fun e => by have := HH.out.glt HL.out.2.1; omega
            have ncb2 : ¬ w.heap.size = gl := fun e => ncb e.symm
            have T1 := hme.stLt HL.out.2.1 1 (s1.lt a i)
            have T2 := (T1.trans (T1.mem.stLt HL.out.2.1 i l)).drewN 1
            have eM : ({ s1 with lt := fun b j => if b = a ∧ j = i then l else if b = a ∧ j = 1 then s1.lt a i else s1.lt b j } : St) = s1.mov a i := mov_eq HS1.out.one rfl hi2
            have T3 : Tn K M wr L (((wr.setCell ⟨gl, 1, none⟩ (.int .i32 (s1.lt a i))).setCell ⟨gl, i, none⟩ (.int .i32 l)).drewN 1) L (s1.mov a i) := by rw [← eM]; exact T2
            have HWt := Lib.hid (watch_any (a := a) (o := s1.lt a 0) T3.mem (p := s1.lt a i) (show s1.lt a i < s1.ew by rw [HS1.out.ew, HP.out.ew]; omega) (show s1.ew ≤ _ by rw [HS1.out.ew, HP.out.ew]; have := HP.out.fit.nv; omega) (show s1.wn _ ≤ _ by rw [HS1.out.wn]; have := HP.out.wn _ li (HS1.out.ne i hi2 hlt); omega))
            have HT3 := Lib.hid (HI.out.2.1.trans T3)
            clear T1 T2 T3 eM hme li
            have hi0 : ¬ i = 0 := by omega
            have hi0' : ¬ 0 = i := by omega
            have hi1 : ¬ i = 1 := by omega
            go_wp2
            go_region
            all_goals
              go_wp2_with (go_at_call 51; refine HWt.out.mono ?_; rintro e w' ⟨rfl, v, T⟩; have HT4 := Lib.hid T; clear T)
              go_ret
              exact ⟨true, _, rfl, ⟨_, up_other _ (fun e => by cases e; exact HS1.out.ne i hi2 hlt rfl), HT3.out.trans HT4.out⟩, .inr ⟨HP.out.g, s1, HS1.out.or_, HS1.out.one, .inr ⟨rfl, i, hi2, hlt, hv1, rfl⟩⟩⟩
        · obtain rfl : i = s.ln a := by omega
          have hz : ¬ ((s.ln a : Int) < (s.ln a : Int)) := by omega
          go_wp2
          go_ret
          exact ⟨false, s1, rfl, ⟨L, rfl, HI.out.2.1⟩, .inr ⟨HP.out.g, s1, HS1.out.or_, HS1.out.one, .inl ⟨rfl, rfl, .inr HI.out.1⟩⟩⟩
end Go.Proofs.Ytoffhgiljnagcaa
