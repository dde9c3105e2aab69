/- The contract of the answers' New. -/
import Derived.Test.YtbhbokcgkhgljaaN
namespace Go.Proofs.Ytbhbokcgkhgljaa
open Go.RowKit Go.Lib

theorem infoBool : (Try.prog.info? 4).map (fun i => (i.zero, i.size, i.bytes)) = some (some (.bool false), 1, 1) := by kernel_rfl

/-- Two owned rows of different types are two blocks. -/
theorem owns_apart {w : World} {B : Nat} {e e' : TypeId} {v v' : Value} {n n' : Nat} {xs xs' : List Value} (h : w.ownsRow B e 1 v n xs) (h' : w.ownsRow B e' 1 v' n' xs') (he : e ≠ e') : v.ownBlock = none ∨ v.ownBlock ≠ v'.ownBlock := by
  rcases h.2 with ⟨rfl, _⟩ | ⟨g, cap, cur, rfl, _, hg, _⟩
  · exact .inl rfl
  · refine .inr fun hh => ?_
    rcases h'.2 with ⟨rfl, _⟩ | ⟨g', cap', cur', rfl, _, hg', _⟩
    · simp [Value.ownBlock] at hh
    · simp [Value.ownBlock] at hh
      subst hh
      rw [hg] at hg'
      simp only [Option.some.injEq, Obj.cells.injEq] at hg'
      exact he hg'.2.1
theorem owns_set {w : World} {B : Nat} {e : TypeId} {v : Value} {n : Nat} {xs : List Value} (h : w.ownsRow B e 1 v n xs) {a : Addr} (ha : a.block < B) (u : Value) : (w.setCell a u).ownsRow B e 1 v n xs := ownsRow_setCell_below h ha u
theorem row_kept {w w' : World} {b : Nat} {t e : TypeId} {n m : Nat} {f : Nat → Value} {B : Nat} {v : Value} {xs : List Value} (h : w.rowIs b t n f) (hg : w.grownBy w' v.ownBlock) (ho : w.ownsRow B e 1 v m xs) (hb : b < B) : w'.rowIs b t n f :=
  h.of_block (hg.block b h.lt (fun e => by have := ho.lt b e.symm; omega))

/-- The answers' heap that is being made: k variables are laid. -/
structure Mk (w wr : World) (rb k : Nat) (iv av : Value) : Prop where
  ge : w.heap.size ≤ rb
  lt : rb < wr.heap.size
  hd : wr.rowIs rb 40 2 (fun i => if i = 0 then iv else av)
  oi : wr.ownsRow (rb + 1) 4 1 iv k (List.replicate k (.bool true))
  oa : wr.ownsRow (rb + 1) 2 1 av k (List.replicate k (.int .i64 0))
  bel : Below w.heap.size w wr
theorem rep_row {w : World} {B : Nat} {e : TypeId} {ao : Option Addr} {n c : Nat} {x : Value} (h : w.ownsRow B e 1 (.slice ao n c) n (List.replicate n x)) (hn : 0 < n) : ∃ b, ao = some ⟨b, 0, none⟩ ∧ B ≤ b ∧ b < w.heap.size ∧ n ≤ c ∧ ∃ F, w.rowIs b e c F ∧ ∀ j, j < n → F j = x := by
  rcases h.2 with ⟨_, h0⟩ | ⟨g, cap, cur, hv, hB, hg, hm, _, hs, ht⟩
  · omega
  · simp only [Value.slice.injEq] at hv
    obtain ⟨rfl, _, rfl⟩ := hv
    refine ⟨g, rfl, hB, (Array.getElem?_eq_some_iff.1 hg).1, hm, fun i => cur[i]?.getD (.int .i64 0), ⟨cur, hg, by omega, fun i hi => ?_⟩, fun j hj => ?_⟩
    · have : i < cur.size := by omega
      simp [this]
    · have e := congrArg (fun l => l[j]?) ht
      simp only [Nat.mul_one, List.getElem?_take, hj, if_true, Array.getElem?_toList, List.getElem?_replicate] at e
      show cur[j]?.getD _ = _
      rw [e]; rfl
theorem own_slice {w : World} {B : Nat} {e : TypeId} {v : Value} {n : Nat} {xs : List Value} (h : w.ownsRow B e 1 v n xs) : ∃ ao c, v = .slice ao n c := by
  rcases h.2 with ⟨rfl, rfl⟩ | ⟨g, cap, cur, rfl, _⟩
  · exact ⟨_, _, rfl⟩
  · exact ⟨_, _, rfl⟩
/-- What it is when it is made. -/
theorem Mk.done {w wr : World} {rb n : Nat} {iv av : Value} (h : Mk w wr rb n iv av) (hn : n ≤ 1000000) : ∃ ib jb ai aa ci ca, Rf wr rb ib jb ai aa ci ca n (fun _ => true) (fun _ => 0) ∧ (w.heap.size ≤ rb ∧ w.heap.size ≤ ib ∧ w.heap.size ≤ jb) ∧ (rb < wr.heap.size ∧ ib < wr.heap.size ∧ jb < wr.heap.size) := by
  obtain ⟨ge, lt, hd, oi, oa, bel⟩ := h
  have hap := owns_apart oi oa (by decide)
  obtain ⟨ai, ci, rfl⟩ := own_slice oi
  obtain ⟨aa, ca, rfl⟩ := own_slice oa
  by_cases h0 : n = 0
  · exact ⟨rb, rb, ai, aa, ci, ca, ⟨hd, hn, fun _ _ => by omega, .inl h0⟩, ⟨ge, ge, ge⟩, ⟨lt, lt, lt⟩⟩
  · obtain ⟨ib, rfl, hi1, hi2, hi3, F, hF, hFe⟩ := rep_row oi (by omega)
    obtain ⟨jb, rfl, hj1, hj2, hj3, G, hG, hGe⟩ := rep_row oa (by omega)
    refine ⟨ib, jb, _, _, ci, ca, ⟨hd, hn, fun _ _ => by omega, .inr ⟨rfl, rfl, by omega, by omega, ?_, hi3, hj3, ⟨F, hF, hFe⟩, ⟨G, hG, hGe⟩⟩⟩, ⟨by omega, by omega, by omega⟩, ⟨lt, hi2, hj2⟩⟩
    rcases hap with hap | hap
    · simp [Value.ownBlock] at hap
    · simpa [Value.ownBlock] using hap

set_option maxHeartbeats 4000000 in
theorem refNew (n : Nat) (hn : n ≤ 1000) (w : World) : Calls Try.prog 10 #[.int .i64 n] w fun e w' => ∃ rb ib jb ai aa ci ca, e = .returned (.pointer (some ⟨rb, 0, none⟩)) ∧
    Rf w' rb ib jb ai aa ci ca n (fun _ => true) (fun _ => 0) ∧ (w.heap.size ≤ rb ∧ w.heap.size ≤ ib ∧ w.heap.size ≤ jb) ∧ (rb < w'.heap.size ∧ ib < w'.heap.size ∧ jb < w'.heap.size) ∧ Below w.heap.size w w' := by
  obtain ⟨i0, hi, hz0, hz1, hz2⟩ := info_parts infoBool
  obtain ⟨i1, hj, hy0, hy1, hy2⟩ := info_parts info2
  have H0 := Lib.hid (show Mk w (w.alloc (.cells #[.slice none 0 0, .slice none 0 0] 40)) w.heap.size 0 (.slice none 0 0) (.slice none 0 0) from
    ⟨Nat.le_refl _, by simp, (World.rowIs_alloc w #[.slice none 0 0, .slice none 0 0] 40 (fun i => if i = 0 then .slice none 0 0 else .slice none 0 0) (fun i hi => by
      match i, hi with
      | 0, _ => rfl
      | 1, _ => rfl)), World.ownsRow_nil _ _ _ _, World.ownsRow_nil _ _ _ _, (Below.refl _ w).alloc (Nat.le_refl _) _⟩)
  go_enter Try.func10, Try.ntmps10
  go_wp2_with fail
  go_loopw [4] (fun x wr => ∃ (k : Nat) (iv av : Value), k ≤ n ∧ x = .int .i64 k ∧ Hid (Mk w wr w.heap.size k iv av)) (fun x _ => n - (intOf x).toNat)
  case atStart => exact ⟨0, _, _, Nat.zero_le _, rfl, H0⟩
  case round =>
    obtain ⟨k, iv, av, hk, rfl, HJ⟩ := hrel
    clear H0
    by_cases hlt : k < n
    · have hlti : (k : Int) < (n : Int) := by omega
      have c0 : wr.cell? ⟨w.heap.size, 0, none⟩ = some iv := HJ.out.hd.cell (i := 0) (by omega)
      have HO := Lib.hid (fun o => HJ.out.oi.alloc o)
      have hsz : w.heap.size + 1 ≤ wr.heap.size := HJ.out.lt
      have c0a : ∀ o, (wr.alloc o).cell? ⟨w.heap.size, 0, none⟩ = some iv := fun o => (HJ.out.hd.alloc o).cell (i := 0) (by omega)
      obtain ⟨ai, ci, rfl⟩ := own_slice HJ.out.oi
      go_wp2_with (first | (at_builtin; refine wpList_append_own _ rfl (.tmp 16) (.tmp 17) 37 rfl (w.heap.size + 1) 4 i0 (.bool false) 1 1 Try.underlying37 hi hz0 hz1 hz2 rfl (by decide) _ _ _ rfl (HO.out _) ⟨wr.heap.size, 0, none⟩ 1 1 [.bool true] rfl rfl ?c1 ?c2 ?c3 ?c4 ?c5 ?_) | fail)
      case c1 =>
        intro j u hj
        match j, hj with
        | 0, hj => simp at hj; subst hj; simp [Addr.add]
      case c2 => intro u hu; simp at hu; subst hu; rfl
      case c3 => unfold maxLen; omega
      case c4 => omega
      case c5 => simp; omega
      intro v' w2 hown hgrow _
      obtain ⟨ai', ci', hv'⟩ := own_slice hown
      rw [hv']
      rw [hv'] at hown
      clear hv'
      have hr2 : w2.rowIs w.heap.size 40 2 (fun i => if i = 0 then .slice ai k ci else av) := row_kept (HJ.out.hd.alloc _) hgrow (HO.out _) (by omega)
      have ha2 : w2.ownsRow (w.heap.size + 1) 2 1 av k (List.replicate k (.int .i64 0)) := (HJ.out.oa.alloc _).kept hgrow (by
        have := owns_apart (HJ.out.oa.alloc _) (HO.out (.cells #[.bool true] 4)) (by decide)
        exact this)
      have hb2 : Below w.heap.size w w2 := (HJ.out.bel.alloc HJ.out.bel.size _).grown hgrow (by simp; omega) (fun q hq => by have := ((HO.out (.cells #[.bool true] 4)).lt q hq).1; omega)
      have c2 : w2.cell? ⟨w.heap.size, 0, none⟩ = some (.slice ai k ci) := hr2.cell (i := 0) (by omega)
      have f2 := hr2.frozen 0
      have hr3 : (w2.setCell ⟨w.heap.size, 0, none⟩ (Value.slice ai' (k + 1) ci')).rowIs w.heap.size 40 2 (fun i => if i = 0 then (Value.slice ai' (k + 1) ci') else av) := (hr2.set 0 (Value.slice ai' (k + 1) ci')).congr fun j _ => by split <;> rfl
      have hs3 : w.heap.size + 1 ≤ w2.heap.size := hr2.lt
      have HI3 := Lib.hid (owns_set hown (a := ⟨w.heap.size, 0, none⟩) (Nat.lt_succ_self _) (Value.slice ai' (k + 1) ci'))
      have HA3 := Lib.hid (fun o => (owns_set ha2 (a := ⟨w.heap.size, 0, none⟩) (Nat.lt_succ_self _) (Value.slice ai' (k + 1) ci')).alloc o)
      have HA3' := Lib.hid (owns_set ha2 (a := ⟨w.heap.size, 0, none⟩) (Nat.lt_succ_self _) (Value.slice ai' (k + 1) ci'))
      have HB3 := Lib.hid (hb2.setCell (p := ⟨w.heap.size, 0, none⟩) (Nat.le_refl _) (Value.slice ai' (k + 1) ci'))
      have c3 : (w2.setCell ⟨w.heap.size, 0, none⟩ (Value.slice ai' (k + 1) ci')).cell? ⟨w.heap.size, 1, none⟩ = some av := hr3.cell (i := 1) (by omega)
      have HR3 := Lib.hid hr3
      clear hown hgrow hr2 ha2 hb2 hr3 HJ c0 c0a
      obtain ⟨aa, ca, rfl⟩ := own_slice HA3'.out
      go_wp2_with (first | (at_builtin; refine wpList_append_own _ rfl (.tmp 25) (.tmp 26) 38 rfl (w.heap.size + 1) 2 i1 (.int .i64 0) 1 8 Try.underlying38 hj hy0 hy1 hy2 rfl (by decide) _ _ _ rfl (HA3.out _) ⟨w2.heap.size, 0, none⟩ 1 1 [.int .i64 0] rfl rfl ?d1 ?d2 ?d3 ?d4 ?d5 ?_) | fail)
      case d1 =>
        intro j u hj
        match j, hj with
        | 0, hj =>
          simp at hj; subst hj
          have := World.cell?_alloc_new (w2.setCell ⟨w.heap.size, 0, none⟩ (.slice ai' (k + 1) ci')) #[.int .i64 0] 2 0
          simpa [Addr.add] using this
      case d2 => intro u hu; simp at hu; subst hu; rfl
      case d3 => unfold maxLen; omega
      case d4 => omega
      case d5 => simp; omega
      intro v2 w4 hown hgrow _
      obtain ⟨aa', ca', hv2⟩ := own_slice hown
      rw [hv2]
      rw [hv2] at hown
      clear hv2
      have hr4 : w4.rowIs w.heap.size 40 2 (fun i => if i = 0 then .slice ai' (k + 1) ci' else .slice aa k ca) := row_kept (HR3.out.alloc _) hgrow (HA3.out _) (by omega)
      have hi4 : w4.ownsRow (w.heap.size + 1) 4 1 (.slice ai' (k + 1) ci') (k + 1) (List.replicate k (.bool true) ++ [.bool true]) := (HI3.out.alloc _).kept hgrow (owns_apart (HI3.out.alloc _) (HA3.out (.cells #[.int .i64 0] 2)) (by decide))
      have hb4 : Below w.heap.size w w4 := (HB3.out.alloc (by simp; omega) _).grown hgrow (by simp; omega) (fun q hq => by have := ((HA3.out (.cells #[.int .i64 0] 2)).lt q hq).1; omega)
      have c4 : w4.cell? ⟨w.heap.size, 1, none⟩ = some (.slice aa k ca) := hr4.cell (i := 1) (by omega)
      have f4 := hr4.frozen 1
      have HM := Lib.hid (show Mk w (w4.setCell ⟨w.heap.size, 1, none⟩ (.slice aa' (k + 1) ca')) w.heap.size (k + 1) (.slice ai' (k + 1) ci') (.slice aa' (k + 1) ca') from by
        refine ⟨Nat.le_refl _, by simp; exact hr4.lt, (hr4.set 1 _).congr fun j hj => ?_, ?_, ?_, hb4.setCell (p := ⟨w.heap.size, 1, none⟩) (Nat.le_refl _) _⟩
        · by_cases e : j = 0
          · subst e; rfl
          · have : j = 1 := by omega
            subst this; rfl
        · rw [List.replicate_succ']; exact owns_set hi4 (a := ⟨w.heap.size, 1, none⟩) (Nat.lt_succ_self _) _
        · rw [List.replicate_succ']; exact owns_set hown (a := ⟨w.heap.size, 1, none⟩) (Nat.lt_succ_self _) _)
      clear hown hgrow hr4 hi4 hb4 HR3 HI3 HA3 HA3' HB3 c3
      go_wp2_with fail
      go_roundw
      case rel => first | exact ⟨k + 1, _, _, by omega, by go_num, HM⟩ | ((repeat apply Exists.intro); exact ⟨⟨k + 1, _, _, by omega, by go_num, HM⟩, rfl⟩)
      case measure => simp [intOf]; omega
    · obtain rfl : k = n := by omega
      obtain ⟨ib, jb, ai, aa, ci, ca, hR, hge, hl⟩ := HJ.out.done (by omega)
      have HE := Lib.hid (show Rf wr w.heap.size ib jb ai aa ci ca k (fun _ => true) (fun _ => 0) ∧ (w.heap.size ≤ w.heap.size ∧ w.heap.size ≤ ib ∧ w.heap.size ≤ jb) ∧ (w.heap.size < wr.heap.size ∧ ib < wr.heap.size ∧ jb < wr.heap.size) ∧ Below w.heap.size w wr from ⟨hR, hge, hl, HJ.out.bel⟩)
      clear hR hge hl HJ
      go_wp2_with fail
      go_ret
      exact ⟨_, ib, jb, ai, aa, ci, ca, rfl, HE.out⟩
end Go.Proofs.Ytbhbokcgkhgljaa
