/- Contracts: number. -/
import Derived.Test.YtoffhgiljnagcaaWA
import Derived.Maps.AppendAt
import Derived.Test.YtoffhgiljnagcaaRC
import Derived.Test.YtoffhgiljnagcaaZa
namespace Go.Proofs.Ytoffhgiljnagcaa
open Go.RowKit Go.Lib Go.Maps

/-- A new variable is numbered. -/
theorem Mem.mapPut {K M : Nat} {w w1 : World} {L : Tag → Value} {s : St} (h : Mem w K M L s) {D : DataW TypeId} (hD : w.ownsMap Try.prog 3 (plainElem Try.prog 3) M s.nv D) (hN : NumD s D) {v : Int}
    (hown : w1.ownsMap Try.prog 3 (plainElem Try.prog 3) M (s.nv + 1) (D.put (.int .i64 v) (.lit (.int .i64 s.nv)))) (hg : w.grownBy w1 (some M)) (hnew : ∀ n, n < s.nv → s.vr n ≠ v) :
    Tn K M w L w1 L { s with nv := s.nv + 1, vr := fun n => if n = s.nv then v else s.vr n } := by
  have hf : Fr (fun b => b = M) w w1 := (Fr.refl _ w).grown hg fun k hk _ => by cases hk; rfl
  have hTd : Tidy D := hD.tidy (int_keyed Try.underlying3)
  have hkl : WideAt.IsKeyLit (.int .i64 v) := by trivial
  have hno : has D (.int .i64 v) = false := by
    cases e : has D (.int .i64 v)
    · rfl
    · obtain ⟨n, hn, e2⟩ := (hN.1 v).1 e
      exact absurd e2 (hnew n hn)
  refine ⟨⟨(hf.rowIs h.hd h.km).congr fun j _ => rfl, ⟨_, hown, ?_, ?_, ?_⟩, fun t => ?_, h.farw, h.km, h.kb, h.mb, h.dj⟩, hf.weak fun k _ e => .inr (.inl e), fun b hb => .inl hb⟩
  · intro v'
    show _ ↔ ∃ n, n < s.nv + 1 ∧ (if n = s.nv then v else s.vr n) = v'
    by_cases e : v' = v
    · subst e
      rw [has_put_same hTd.isMap hkl]
      exact ⟨fun _ => ⟨s.nv, by omega, if_pos rfl⟩, fun _ => rfl⟩
    · rw [has_put_other (fun e2 => e (by injection e2)), hN.1]
      constructor
      · rintro ⟨n, hn, e2⟩; exact ⟨n, by omega, by rw [if_neg (by omega)]; exact e2⟩
      · rintro ⟨n, hn, e2⟩
        by_cases e3 : n = s.nv
        · rw [if_pos e3] at e2; exact absurd e2.symm e
        · rw [if_neg e3] at e2; exact ⟨n, by omega, e2⟩
  · intro n hn z
    have hn' : n < s.nv + 1 := hn
    show (D.put _ _).atKey (.int .i64 (if n = s.nv then v else s.vr n)) z = _
    by_cases e : n = s.nv
    · rw [if_pos e, atKey_put_same hTd.isMap hkl, e]
    · rw [if_neg e, atKey_put_other (fun e2 => hnew n (by omega) (by injection e2))]
      exact hN.2.1 n (by omega) z
  · rw [size_put hTd, hno, hN.2.2]; rfl
  · have h1 := (h.row t).of_block fun b hb => hf.block b ((h.row t).lt hb) (fun e => h.mb t (e ▸ hb))
    have hn : nOf { s with nv := s.nv + 1, vr := fun n => if n = s.nv then v else s.vr n } t = nOf s t := by cases t <;> rfl
    rw [hn]
    exact h1.congr fun j _ => by cases t <;> rfl

/-- What number hands back. -/
structure NumOut (K M : Nat) (w : World) (L : Tag → Value) (s : St) (l : Int) (w' : World) (p : Nat) (L' : Tag → Value) (s' : St) : Prop where
  tn : Tn K M w L w' L' s'
  st : (s' = s ∧ ∃ n, n < s.nv ∧ s.vr n = av l) ∨ ((∀ n, n < s.nv → s.vr n ≠ av l) ∧ s' = s.more (av l))
  lt : p < 2 * s'.nv
  ext : s'.ext p = l
def NumPost (K M : Nat) (w : World) (L : Tag → Value) (s : St) (l : Int) (e : Ending) (w' : World) : Prop := ∃ (p : Nat) (L' : Tag → Value) (s' : St), e = .returned (.int .i32 p) ∧ NumOut K M w L s l w' p L' s'
theorem ext_of {s : St} {l : Int} {n : Nat} (hn : n < s.nv) (h : s.vr n = av l) : s.ext (if l < 0 then 2 * n + 1 else 2 * n) = l ∧ (if l < 0 then 2 * n + 1 else 2 * n) < 2 * s.nv := by
  unfold av at h
  unfold St.ext
  by_cases e : l < 0
  · rw [if_pos e] at h
    rw [if_pos e, if_neg (by omega), show (2 * n + 1) / 2 = n by omega, h]
    omega
  · rw [if_neg e] at h
    rw [if_neg e, if_pos (by omega), show 2 * n / 2 = n by omega, h]
    omega
theorem wf_av {l : Int} (h1 : -100000 ≤ l) (h2 : l ≤ 100000) : (Lit.int .i64 (av l)).wf = true := by
  have e1 : IntKind.i64.min = -9223372036854775808 := by decide
  have e2 : IntKind.i64.max = 9223372036854775807 := by decide
  have h3 : -100000 ≤ av l ∧ av l ≤ 100000 := by unfold av; split <;> omega
  simp only [Lit.wf, e1, e2]
  simp
  omega
theorem zero3 (w : World) : (zeroValue 3).run Try.prog w = .ok (.int .i64 0) w := by
  kernel_rfl
theorem neg_even (n : Nat) : neg (2 * n) = 2 * n + 1 := by unfold neg; rw [if_pos (by omega)]
theorem negation_even (n : Nat) (hn : n < 400000000) (w : World) :
    Calls Try.prog 71 #[.int .i32 (2 * (n : Int))] w fun e w' => e = .returned (.int .i32 (2 * n + 1 : Nat)) ∧ w = w' := by
  have h := negation_any (2 * n) (by omega) w
  rw [neg_even, show ((2 * n : Nat) : Int) = 2 * (n : Int) by omega] at h
  exact h
theorem info97 : (Try.prog.info? 97).map (fun i => (i.zero, i.size, i.bytes)) = some (some (.slice none 0 0), 1, 24) := by kernel_rfl
theorem info95 : (Try.prog.info? 95).map (fun i => (i.zero, i.size, i.bytes)) = some (some (.int .i8 0), 1, 1) := by kernel_rfl
theorem info48 : (Try.prog.info? 48).map (fun i => (i.zero, i.size, i.bytes)) = some (some (.int .i32 0), 1, 4) := by kernel_rfl

set_option maxHeartbeats 4000000 in
set_option maxRecDepth 100000 in
theorem number_known {K M : Nat} {w : World} {L : Tag → Value} {s : St} (h : Mem w K M L s) {l : Int} (hl : lit l = true) (hnv : s.nv ≤ 100000000) {n : Nat} (hn : n < s.nv) (hvn : s.vr n = av l) :
    Calls Try.prog 49 #[.pointer (some ⟨K, 0, none⟩), .int .i64 l] w (NumPost K M w L s l) := by
  obtain ⟨hl0, hl1, hl2⟩ := lit_iff.1 hl
  obtain ⟨D, hD, hN⟩ := h.mp
  have hK : keyOf Try.prog 3 (.int .i64 (av l)) = some (.int .i64 (av l)) := keyOf_int_mk Try.underlying3 (wf_av hl1 hl2)
  have hhas : has D (.int .i64 (av l)) = true := (hN.1 _).2 ⟨n, hn, hvn⟩
  have hat := hN.2.1 n hn (.lit (.int .i64 0))
  rw [hvn] at hat
  have c0 : w.cell? ⟨K, 0, none⟩ = some (.map (some M)) := h.c 0 (by omega)
  obtain ⟨he1, he2⟩ := ext_of hn hvn
  by_cases hneg : l < 0
  · rw [if_pos hneg] at he1 he2
    have hav : av l = -l := if_pos hneg
    have hw : IntKind.i64.wrap (-l) = -l := IntWalk.i64_in _ (by omega)
    have hlm : l < -l := by omega
    have HN := Lib.hid (negation_even n (by omega))
    have HO := Lib.hid (show NumOut K M w L s l w (2 * n + 1) L s from ⟨h.refl, .inl ⟨rfl, n, hn, hvn⟩, he2, he1⟩)
    have HD := Lib.hid hD
    rw [hav] at hK hhas hat
    have hnn : (n : Int) < 100000000 := by omega
    clear h hD hN he1 he2 hvn hav hl
    go_enter Try.func49, Try.ntmps49
    go_wp2_with (at_lookup; refine wpList_lookup_own_ok_int _ rfl _ _ 60 rfl 3 3 .i64 (int_keyed Try.underlying3) Try.underlying60 Try.underlying3 (zero3 _) M s.nv D rfl HD.out _ _ rfl hK ?_; intro c hc _; rw [hhas]; obtain rfl : c = n := by (rw [hat] at hc; cases hc; rfl))
    go_wp2_with (go_at_call 71; refine (HN.out _).mono ?_; rintro e w' ⟨rfl, rfl⟩)
    go_ret
    exact ⟨2 * n + 1, L, s, rfl, HO.out⟩
  · rw [if_neg hneg] at he1 he2
    have hav : av l = l := if_neg hneg
    have hw : IntKind.i64.wrap (-l) = -l := IntWalk.i64_in _ (by omega)
    have hlm : ¬ l < -l := by omega
    have HO := Lib.hid (show NumOut K M w L s l w (2 * n) L s from ⟨h.refl, .inl ⟨rfl, n, hn, hvn⟩, he2, he1⟩)
    have HD := Lib.hid hD
    rw [hav] at hK hhas hat
    have hnn : (n : Int) < 100000000 := by omega
    clear h hD hN he1 he2 hvn hav hl
    go_enter Try.func49, Try.ntmps49
    go_wp2_with (at_lookup; refine wpList_lookup_own_ok_int _ rfl _ _ 60 rfl 3 3 .i64 (int_keyed Try.underlying3) Try.underlying60 Try.underlying3 (zero3 _) M s.nv D rfl HD.out _ _ rfl hK ?_; intro c hc _; rw [hhas]; obtain rfl : c = n := by (rw [hat] at hc; cases hc; rfl))
    go_ret
    exact ⟨2 * n, L, s, ret_int (by omega), HO.out⟩
/-- A step of number's: two elements more. -/
theorem app2 {K M : Nat} {w0 w1 : World} {L0 L : Tag → Value} {s : St} (T : Tn K M w0 L0 w1 L s) {τ : Tag} {i : Nat} {x : Value} {e : TypeId} {a : Option Addr} {n q : Nat} (he : tyOf τ = e) (hs : szOf τ = 1) (hn : nOf s τ = n) (hL : L τ = .slice a n q) (s' : St) (tmp : Obj)
    (hn' : nOf s' τ = n + 2) (hnew : ∀ v j, j < 2 → fOf (up L τ v) s' τ (n * 1 + j) = x) (hold : ∀ v j, j < n * 1 → fOf (up L τ v) s' τ j = fOf L s τ j)
    (ho : ∀ v t, t ≠ τ → nOf s' t = nOf s t ∧ ∀ j, j < nOf s t * szOf t → fOf L s t j = fOf (up L τ v) s' t j)
    (hhd : ∀ v j, j < 10 → (if j = i then v else hdF M L s j) = hdF M (up L τ v) s' j) (hnum : s'.nv = s.nv ∧ s'.vr = s.vr) (hw : ∀ v l, s'.ew ≤ l → up L τ v (.wl l) = .slice none 0 0) :
    (∀ W : World, W.heap = (w1.alloc tmp).heap → W.ownsRow 0 e 1 (.slice a n q) n (lst (fOf L s τ) (n * 1))) ∧
    ∀ (W : World) (v : Value) (w2 : World), w2.ownsRow 0 e 1 v (n + 2) (lst (fOf L s τ) (n * 1) ++ [x, x]) → W.grownBy w2 (Value.slice a n q).ownBlock → (v.ownBlock = (Value.slice a n q).ownBlock ∨ v.ownBlock = some W.heap.size) →
      W.heap = (w1.alloc tmp).heap → W.os = w1.os → W.tape = w1.tape → W.output = w1.output →
      (∃ av cv, v = .slice av (n + 2) cv) ∧ w2.rowIs K 67 10 (hdF M L s) ∧ Tn K M w0 L0 (w2.setCell ⟨K, i, none⟩ v) (up L τ v) s' := by
  subst he hn
  constructor
  · intro W hW
    have := ((T.mem.alloc tmp).row τ).owns
    rw [hL, hs] at this
    exact owns_heap this hW
  · intro W v w2 g1 g2 g3 e1 e2 e3 e4
    rw [← hL] at g2 g3
    have g2' := grown_same (w0 := w1.alloc tmp) g2 e1 e2 e3 e4
    rw [e1] at g3
    refine ⟨owns_shape g1, T.mem.app_head g2', T.trans (T.mem.app (news := [x, x]) (m := 2) s' (by rw [hs]; exact g1) g2' g3 hn' (fun j hj => ?_) (fun j hj => hold v j (by rw [hs] at hj; exact hj)) (ho v) (hhd v) hnum (hw v))⟩
    rw [hs] at hj ⊢
    rw [hnew v j hj]
    match j, hj with
    | 0, _ | 1, _ => rfl
namespace St
def more1 (s : St) (v : Int) : St := { s with nv := s.nv + 1, vr := fun n => if n = s.nv then v else s.vr n }
def more2 (s : St) (v : Int) : St := { s.more1 v with ew := s.ew + 2 }
def more3 (s : St) (v : Int) : St := { s.more2 v with ev := s.ev + 2, val := fun p => if p < s.ev then s.val p else 0 }
end St

set_option maxHeartbeats 8000000 in
set_option maxRecDepth 100000 in
theorem number_new {K M : Nat} {w : World} {L : Tag → Value} {s : St} (h : Mem w K M L s) {l : Int} (hl : lit l = true) (hnv : s.nv ≤ 100000000) (hlen : s.ew = 2 * s.nv ∧ s.ev = 2 * s.nv ∧ s.er = 2 * s.nv) (hno : ∀ n, n < s.nv → s.vr n ≠ av l) :
    Calls Try.prog 49 #[.pointer (some ⟨K, 0, none⟩), .int .i64 l] w (NumPost K M w L s l) := by
  obtain ⟨hl0, hl1, hl2⟩ := lit_iff.1 hl
  obtain ⟨D, hD, hN⟩ := h.mp
  have hK : keyOf Try.prog 3 (.int .i64 (av l)) = some (.int .i64 (av l)) := keyOf_int_mk Try.underlying3 (wf_av hl1 hl2)
  have hhas : has D (.int .i64 (av l)) = false := by
    cases e : has D (.int .i64 (av l))
    · rfl
    · obtain ⟨n, hn, e2⟩ := (hN.1 _).1 e
      exact absurd e2 (hno n hn)
  have hsz : ((Maps.size D : Nat) : Int) = s.nv := by rw [hN.2.2]
  have hel : plainElem (H := TypeId) Try.prog 3 (.int .i64 s.nv) = some (.lit (.int .i64 s.nv), []) := plainElem_int Try.underlying3 (by
    have e1 : IntKind.i64.min = -9223372036854775808 := by decide
    have e2 : IntKind.i64.max = 9223372036854775807 := by decide
    simp only [Lit.wf, e1, e2]; simp; omega)
  have c0 : w.cell? ⟨K, 0, none⟩ = some (.map (some M)) := h.c 0 (by omega)
  obtain ⟨a3, q3, hL3, _, _⟩ := (h.row .wts).shape
  obtain ⟨a4, q4, hL4, _, _⟩ := (h.row .vals).shape
  obtain ⟨a5, q5, hL5, _, _⟩ := (h.row .rsns).shape
  replace hL3 : L .wts = .slice a3 s.ew q3 := hL3
  replace hL4 : L .vals = .slice a4 s.ev q4 := hL4
  replace hL5 : L .rsns = .slice a5 s.er q5 := hL5
  obtain ⟨i3, hi3, hz3, hs3, hb3⟩ := info_parts info97
  obtain ⟨i4, hi4, hz4, hs4, hb4⟩ := info_parts info95
  obtain ⟨i5, hi5, hz5, hs5, hb5⟩ := info_parts info48
  have hnm : s.nv < maxLen := by unfold maxLen; omega
  have step1 : ∀ w1 : World, w1.ownsMap Try.prog 3 (plainElem Try.prog 3) M (s.nv + 1) (D.put (.int .i64 (av l)) (.lit (.int .i64 s.nv))) → w.grownBy w1 (some M) → w1.cell? ⟨K, 3, none⟩ = some (.slice a3 s.ew q3) ∧ Hid (Tn K M w L w1 L (s.more1 (av l))) := by
    intro w1 g1 g2
    have T := h.mapPut hD hN g1 g2 hno
    exact ⟨(T.mem.c 3 (by omega)).trans (congrArg some hL3), Lib.hid T⟩
  have farw := h.farw
  have step2 := fun (w1 : World) (T : Tn K M w L w1 L (s.more1 (av l))) => app2 (n := s.ew) (x := .slice none 0 0) (i := 3) T (τ := .wts) rfl rfl rfl hL3 (s.more2 (av l)) (.cells #[.slice none 0 0, .slice none 0 0] 97) rfl
    (fun v j hj => (up_other v (by intro e; cases e)).trans (farw _ (by omega))) (fun v j hj => up_other v (by intro e; cases e))
    (fun v t ht => ⟨by cases t <;> first | rfl | exact absurd rfl ht, fun j _ => by cases t <;> first | rfl | exact absurd rfl ht⟩)
    (fun v j hj => by
      match j, hj with
      | 0, _ | 1, _ | 2, _ | 3, _ | 4, _ | 5, _ | 6, _ | 7, _ | 8, _ | 9, _ => rfl) ⟨rfl, rfl⟩ (fun v l hl => (up_other v (by intro e; cases e)).trans (farw _ (by have : s.ew + 2 ≤ l := hl; omega)))
  have step3 := fun (v3 : Value) (w1 : World) (T : Tn K M w L w1 (up L .wts v3) (s.more2 (av l))) => app2 (n := s.ev) (x := .int .i8 0) (i := 4) T (τ := .vals) rfl rfl rfl hL4 (s.more3 (av l)) (.cells #[.int .i8 0, .int .i8 0] 95) rfl
    (fun v j hj => by
      show Value.int .i8 (if s.ev * 1 + j < s.ev then s.val (s.ev * 1 + j) else 0) = _
      rw [if_neg (by omega)])
    (fun v j hj => by
      show Value.int .i8 (if j < s.ev then s.val j else 0) = .int .i8 (s.val j)
      rw [if_pos (by have : j < s.ev * 1 := hj; omega)])
    (fun v t ht => ⟨by cases t <;> first | rfl | exact absurd rfl ht, fun j _ => by cases t <;> first | rfl | exact absurd rfl ht⟩)
    (fun v j hj => by
      match j, hj with
      | 0, _ | 1, _ | 2, _ | 3, _ | 4, _ | 5, _ | 6, _ | 7, _ | 8, _ | 9, _ => rfl) ⟨rfl, rfl⟩ (fun v l hl => (up_other v (by intro e; cases e)).trans ((up_other v3 (by intro e; cases e)).trans (farw _ (by have : s.ew + 2 ≤ l := hl; omega))))
  have step4 := fun (v3 v4 : Value) (w1 : World) (T : Tn K M w L w1 (up (up L .wts v3) .vals v4) (s.more3 (av l))) => app2 (n := s.er) (x := .int .i32 (0 : Nat)) (i := 5) T (τ := .rsns) rfl rfl rfl hL5 (s.more (av l)) (.cells #[.int .i32 0, .int .i32 0] 48) rfl
    (fun v j hj => by
      show Value.int .i32 ((if s.er * 1 + j < s.er then s.rsn (s.er * 1 + j) else 0 : Nat)) = _
      rw [if_neg (by omega)])
    (fun v j hj => by
      show Value.int .i32 ((if j < s.er then s.rsn j else 0 : Nat)) = .int .i32 (s.rsn j)
      rw [if_pos (by have : j < s.er * 1 := hj; omega)])
    (fun v t ht => ⟨by cases t <;> first | rfl | exact absurd rfl ht, fun j _ => by cases t <;> first | rfl | exact absurd rfl ht⟩)
    (fun v j hj => by
      match j, hj with
      | 0, _ | 1, _ | 2, _ | 3, _ | 4, _ | 5, _ | 6, _ | 7, _ | 8, _ | 9, _ => rfl) ⟨rfl, rfl⟩ (fun v l hl => (up_other v (by intro e; cases e)).trans ((up_other v4 (by intro e; cases e)).trans ((up_other v3 (by intro e; cases e)).trans (farw _ (by have : s.ew + 2 ≤ l := hl; omega)))))
  have HS1 := Lib.hid step1
  have HS2 := Lib.hid step2
  have HS3 := Lib.hid step3
  have HS4 := Lib.hid step4
  have HL := Lib.hid (And.intro hL4 hL5)
  have HD := Lib.hid hD
  have hew : s.ew ≤ 200000000 := by omega
  have hev : s.ev ≤ 200000000 := by omega
  have her : s.er ≤ 200000000 := by omega
  have hfin : ∀ w' L', Tn K M w L w' L' (s.more (av l)) → NumOut K M w L s l w' (if l < 0 then 2 * s.nv + 1 else 2 * s.nv) L' (s.more (av l)) := fun w' L' T => by
    have e := ext_of (s := s.more (av l)) (l := l) (n := s.nv) (Nat.lt_succ_self _) (if_pos rfl)
    exact ⟨T, .inr ⟨hno, rfl⟩, e.2, e.1⟩
  have f1 := h.fk
  by_cases hneg : l < 0
  · have hav : av l = -l := if_pos hneg
    have hw : IntKind.i64.wrap (-l) = -l := IntWalk.i64_in _ (by omega)
    have hlm : l < -l := by omega
    have HF := Lib.hid (show ∀ w' L', Tn K M w L w' L' (s.more (av l)) → NumOut K M w L s l w' (2 * s.nv + 1) L' (s.more (av l)) from fun w' L' T => by have := hfin w' L' T; rw [if_pos hneg] at this; exact this)
    have HN := Lib.hid (negation_even s.nv (by omega))
    rw [hav] at hK hhas HS1 HS2 HS3 HS4 HF
    clear step1 step2 step3 step4 hD h hN hno farw hL3 hL4 hL5 hlen hfin hl
    go_enter Try.func49, Try.ntmps49
    go_wp2_with (first
      | (at_lookup; refine wpList_lookup_own_ok_int _ rfl _ _ 60 rfl 3 3 .i64 (int_keyed Try.underlying3) Try.underlying60 Try.underlying3 (zero3 _) M s.nv D rfl HD.out _ _ rfl hK ?_; intro c hc _; rw [hhas])
      | (at_len; refine wpList_len_own _ rfl _ 60 rfl 3 3 Try.underlying60 _ M s.nv D rfl HD.out ?_; rw [hsz])
      | (at_mapUpdate; refine wpList_mapUpdate_own _ rfl _ _ _ 60 rfl 3 3 (int_keyed Try.underlying3) Try.underlying60 _ M s.nv D rfl HD.out hnm _ _ _ rfl rfl hK _ [] hel ?_; intro w1 g1 g2; obtain ⟨d3, T1⟩ := HS1.out w1 g1 g2; clear g1 g2)
      | (at_builtin; refine wpList_append_own_at _ rfl _ _ 63 rfl 0 97 i3 (.slice none 0 0) 1 24 Try.underlying63 hi3 hz3 hs3 hb3 rfl (by decide) (.slice a3 s.ew q3) s.ew (lst (fOf L s .wts) (s.ew * 1)) rfl ((HS2.out w1 T1.out).1 _ rfl) ⟨_, 0, none⟩ 2 2 [.slice none 0 0, .slice none 0 0] rfl rfl (two_at w1 _ rfl rfl) (by intro u hu; simp at hu; subst hu; rfl) (by unfold maxLen; omega) (by omega) (Nat.zero_le _) ?_; intro v2 w2 g1 g2 _ g3; obtain ⟨⟨av2, cv2, rfl⟩, d2, T2'⟩ := (HS2.out w1 T1.out).2 _ _ _ g1 g2 g3 rfl rfl rfl rfl; have f2 := d2.frozen 3; have k23 := d2.cell (i := 3) (by omega); have k24 : w2.cell? ⟨K, 4, none⟩ = some (.slice a4 s.ev q4) := (d2.cell (i := 4) (by omega)).trans (congrArg some HL.out.1); have T2 := Lib.hid T2'; clear d2 g1 g2 g3 T2' f1)
      | (at_builtin; refine wpList_append_own_at _ rfl _ _ 64 rfl 0 95 i4 (.int .i8 0) 1 1 Try.underlying64 hi4 hz4 hs4 hb4 rfl (by decide) (.slice a4 s.ev q4) s.ev (lst (fOf (up L .wts (.slice av2 (s.ew + 2) cv2)) (s.more2 (-l)) .vals) (s.ev * 1)) rfl ((HS3.out _ _ T2.out).1 _ rfl) ⟨_, 0, none⟩ 2 2 [.int .i8 0, .int .i8 0] rfl rfl (two_at (w2.setCell ⟨K, 3, none⟩ (.slice av2 (s.ew + 2) cv2)) _ rfl (by simp)) (by intro u hu; simp at hu; subst hu; rfl) (by unfold maxLen; omega) (by omega) (Nat.zero_le _) ?_; intro v3 w3 g1 g2 _ g3; obtain ⟨⟨av3, cv3, rfl⟩, d3', T3'⟩ := (HS3.out _ _ T2.out).2 _ _ _ g1 g2 g3 rfl rfl rfl rfl; have f3 := d3'.frozen 4; have k34 := d3'.cell (i := 4) (by omega); have k35 : w3.cell? ⟨K, 5, none⟩ = some (.slice a5 s.er q5) := (d3'.cell (i := 5) (by omega)).trans (congrArg some HL.out.2); have T3 := Lib.hid T3'; clear d3' g1 g2 g3 T3')
      | (at_builtin; refine wpList_append_own_at _ rfl _ _ 62 rfl 0 48 i5 (.int .i32 0) 1 4 Try.underlying62 hi5 hz5 hs5 hb5 rfl (by decide) (.slice a5 s.er q5) s.er (lst (fOf (up (up L .wts (.slice av2 (s.ew + 2) cv2)) .vals (.slice av3 (s.ev + 2) cv3)) (s.more3 (-l)) .rsns) (s.er * 1)) rfl ((HS4.out _ _ _ T3.out).1 _ rfl) ⟨_, 0, none⟩ 2 2 [.int .i32 0, .int .i32 0] rfl rfl (two_at (w3.setCell ⟨K, 4, none⟩ (.slice av3 (s.ev + 2) cv3)) _ rfl (by simp)) (by intro u hu; simp at hu; subst hu; rfl) (by unfold maxLen; omega) (by omega) (Nat.zero_le _) ?_; intro v4 w4 g1 g2 _ g3; obtain ⟨⟨av4, cv4, rfl⟩, d4', T4'⟩ := (HS4.out _ _ _ T3.out).2 _ _ _ g1 g2 g3 rfl rfl rfl rfl; have f4 := d4'.frozen 5; have k45 := d4'.cell (i := 5) (by omega); have T4 := Lib.hid T4'; clear d4' g1 g2 g3 T4')
      | (go_at_call 71; refine (HN.out _).mono ?_; rintro e w' ⟨rfl, rfl⟩))
    go_ret
    exact ⟨2 * s.nv + 1, _, s.more (-l), ret_int (by omega), HF.out _ _ T4.out⟩
  · have hav : av l = l := if_neg hneg
    have hw : IntKind.i64.wrap (-l) = -l := IntWalk.i64_in _ (by omega)
    have hlm : ¬ l < -l := by omega
    have HF := Lib.hid (show ∀ w' L', Tn K M w L w' L' (s.more (av l)) → NumOut K M w L s l w' (2 * s.nv) L' (s.more (av l)) from fun w' L' T => by have := hfin w' L' T; rw [if_neg hneg] at this; exact this)
    rw [hav] at hK hhas HS1 HS2 HS3 HS4 HF
    clear step1 step2 step3 step4 hD h hN hno farw hL3 hL4 hL5 hlen hfin hl
    go_enter Try.func49, Try.ntmps49
    go_wp2_with (first
      | (at_lookup; refine wpList_lookup_own_ok_int _ rfl _ _ 60 rfl 3 3 .i64 (int_keyed Try.underlying3) Try.underlying60 Try.underlying3 (zero3 _) M s.nv D rfl HD.out _ _ rfl hK ?_; intro c hc _; rw [hhas])
      | (at_len; refine wpList_len_own _ rfl _ 60 rfl 3 3 Try.underlying60 _ M s.nv D rfl HD.out ?_; rw [hsz])
      | (at_mapUpdate; refine wpList_mapUpdate_own _ rfl _ _ _ 60 rfl 3 3 (int_keyed Try.underlying3) Try.underlying60 _ M s.nv D rfl HD.out hnm _ _ _ rfl rfl hK _ [] hel ?_; intro w1 g1 g2; obtain ⟨d3, T1⟩ := HS1.out w1 g1 g2; clear g1 g2)
      | (at_builtin; refine wpList_append_own_at _ rfl _ _ 63 rfl 0 97 i3 (.slice none 0 0) 1 24 Try.underlying63 hi3 hz3 hs3 hb3 rfl (by decide) (.slice a3 s.ew q3) s.ew (lst (fOf L s .wts) (s.ew * 1)) rfl ((HS2.out w1 T1.out).1 _ rfl) ⟨_, 0, none⟩ 2 2 [.slice none 0 0, .slice none 0 0] rfl rfl (two_at w1 _ rfl rfl) (by intro u hu; simp at hu; subst hu; rfl) (by unfold maxLen; omega) (by omega) (Nat.zero_le _) ?_; intro v2 w2 g1 g2 _ g3; obtain ⟨⟨av2, cv2, rfl⟩, d2, T2'⟩ := (HS2.out w1 T1.out).2 _ _ _ g1 g2 g3 rfl rfl rfl rfl; have f2 := d2.frozen 3; have k23 := d2.cell (i := 3) (by omega); have k24 : w2.cell? ⟨K, 4, none⟩ = some (.slice a4 s.ev q4) := (d2.cell (i := 4) (by omega)).trans (congrArg some HL.out.1); have T2 := Lib.hid T2'; clear d2 g1 g2 g3 T2' f1)
      | (at_builtin; refine wpList_append_own_at _ rfl _ _ 64 rfl 0 95 i4 (.int .i8 0) 1 1 Try.underlying64 hi4 hz4 hs4 hb4 rfl (by decide) (.slice a4 s.ev q4) s.ev (lst (fOf (up L .wts (.slice av2 (s.ew + 2) cv2)) (s.more2 l) .vals) (s.ev * 1)) rfl ((HS3.out _ _ T2.out).1 _ rfl) ⟨_, 0, none⟩ 2 2 [.int .i8 0, .int .i8 0] rfl rfl (two_at (w2.setCell ⟨K, 3, none⟩ (.slice av2 (s.ew + 2) cv2)) _ rfl (by simp)) (by intro u hu; simp at hu; subst hu; rfl) (by unfold maxLen; omega) (by omega) (Nat.zero_le _) ?_; intro v3 w3 g1 g2 _ g3; obtain ⟨⟨av3, cv3, rfl⟩, d3', T3'⟩ := (HS3.out _ _ T2.out).2 _ _ _ g1 g2 g3 rfl rfl rfl rfl; have f3 := d3'.frozen 4; have k34 := d3'.cell (i := 4) (by omega); have k35 : w3.cell? ⟨K, 5, none⟩ = some (.slice a5 s.er q5) := (d3'.cell (i := 5) (by omega)).trans (congrArg some HL.out.2); have T3 := Lib.hid T3'; clear d3' g1 g2 g3 T3')
      | (at_builtin; refine wpList_append_own_at _ rfl _ _ 62 rfl 0 48 i5 (.int .i32 0) 1 4 Try.underlying62 hi5 hz5 hs5 hb5 rfl (by decide) (.slice a5 s.er q5) s.er (lst (fOf (up (up L .wts (.slice av2 (s.ew + 2) cv2)) .vals (.slice av3 (s.ev + 2) cv3)) (s.more3 l) .rsns) (s.er * 1)) rfl ((HS4.out _ _ _ T3.out).1 _ rfl) ⟨_, 0, none⟩ 2 2 [.int .i32 0, .int .i32 0] rfl rfl (two_at (w3.setCell ⟨K, 4, none⟩ (.slice av3 (s.ev + 2) cv3)) _ rfl (by simp)) (by intro u hu; simp at hu; subst hu; rfl) (by unfold maxLen; omega) (by omega) (Nat.zero_le _) ?_; intro v4 w4 g1 g2 _ g3; obtain ⟨⟨av4, cv4, rfl⟩, d4', T4'⟩ := (HS4.out _ _ _ T3.out).2 _ _ _ g1 g2 g3 rfl rfl rfl rfl; have f4 := d4'.frozen 5; have k45 := d4'.cell (i := 5) (by omega); have T4 := Lib.hid T4'; clear d4' g1 g2 g3 T4'))
    go_ret
    exact ⟨2 * s.nv, _, s.more l, ret_int (by omega), HF.out _ _ T4.out⟩
/-- number -/
theorem number_any {K M : Nat} {w : World} {L : Tag → Value} {s : St} (h : Mem w K M L s) {l : Int} (hl : lit l = true) (hnv : s.nv ≤ 100000000) (hlen : s.ew = 2 * s.nv ∧ s.ev = 2 * s.nv ∧ s.er = 2 * s.nv) :
    Calls Try.prog 49 #[.pointer (some ⟨K, 0, none⟩), .int .i64 l] w (NumPost K M w L s l) := by
  by_cases hx : ∃ n, n < s.nv ∧ s.vr n = av l
  · obtain ⟨n, hn, hv⟩ := hx
    exact number_known h hl hnv hn hv
  · exact number_new h hl hnv hlen fun n hn e => hx ⟨n, hn, e⟩
theorem Mem.wn0 {K M : Nat} {w : World} {L : Tag → Value} {s : St} (h : Mem w K M L s) (l : Nat) (hl : s.ew ≤ l) : s.wn l = 0 := by
  have h1 := h.row (.wl l)
  rw [h.farw l hl] at h1
  rcases h1 with ⟨_, e⟩ | ⟨g, c, F, e, _⟩
  · exact e
  · cases e
/-- number, with what is kept. -/
structure NumExt (s : St) (l : Int) (p : Nat) (s' : St) : Prop where
  base : St.Base s' St.All
  ext_ : St.Ext s s'
  nvle : s'.nv ≤ s.nv + 1
  lt : p < 2 * s'.nv
  is : s'.ext p = l
  done : s'.done = s.done
  ntq : s'.nt = s.nt
  fol : ∀ m d, s.Fol m d → s'.Fol m d
  rsn : ∀ so, s.Rsn so → s'.Rsn so
theorem NumOut.keeps {K M : Nat} {w w' : World} {L L' : Tag → Value} {s s' : St} {l : Int} {p : Nat} (h : NumOut K M w L s l w' p L' s') (hm : Mem w K M L s) (hB : St.Base s St.All) (hl : lit l = true) : NumExt s l p s' := by
  rcases h.st with ⟨rfl, _⟩ | ⟨hno, rfl⟩
  · exact ⟨hB, .refl _, Nat.le_succ _, h.lt, h.ext, rfl, rfl, fun _ _ h => h, fun _ h => h⟩
  · have hv : 0 < av l := by obtain ⟨h0, _, _⟩ := lit_iff.1 hl; unfold av; split <;> omega
    exact ⟨hB.more hv hno (fun l hl => hm.wn0 l hl), .more hB _, Nat.le_refl _, h.lt, h.ext, rfl, rfl, fun _ _ h => h, fun _ h => h.more hB _⟩
end Go.Proofs.Ytoffhgiljnagcaa
