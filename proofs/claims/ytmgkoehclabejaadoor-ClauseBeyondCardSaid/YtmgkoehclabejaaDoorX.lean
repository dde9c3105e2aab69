/- The walk of ClauseBeyond. -/
import Derived.Test.YtmgkoehclabejaaDoorU
import Derived.Test.YtmgkoehclabejaaDoorV
import Derived.Lib.OwnBridge
import Derived.Laws.AppendOwn
import Derived.Laws.AppendOwnNone
import Derived.OwnWalk
import Derived.Laws.IdiomCopy
namespace Go.Proofs.YtmgkoehclabejaaDoor
open Go.RowKit Go.Lib

theorem infoBool : (Tryd.prog.info? 4).map (fun i => (i.zero, i.size, i.bytes)) = some (some (.bool false), 1, 1) := by kernel_rfl

/-- A model that is three bools longer. -/
def gLong (g : Nat → Bool) (k : Nat) (j : Nat) : Bool := if j < k then g j else false
theorem isM_long {g : Nat → Bool} {k : Nat} {x : Int} (h : lit x = true) : isM (gLong g k) (k + 3) x = isM g k x := by
  have hp := av_pos h
  unfold isM gLong
  by_cases hk : av x ≤ k
  · rw [decide_eq_true hk, decide_eq_true (by omega), if_pos (by omega)]
  · rw [decide_eq_false hk, if_neg (by omega)]; simp
theorem hv_long {g : Nat → Bool} {k : Nat} {x : Int} : hv (gLong g k) (k + 3) x = hv g k x := by
  cases hl : lit x
  · rw [hv_not hl, hv_not hl]
  · unfold hv; rw [isM_long hl]
theorem allR_long (R : Nat → Row) (n : Nat) (g : Nat → Bool) (k : Nat) : allR R n (gLong g k) (k + 3) = allR R n g k := by
  unfold allR holdsF
  simp only [hv_long]
def bls (g : Nat → Bool) (k : Nat) : List Value := (List.range k).map fun j => .bool (g j)
theorem bls_length (g : Nat → Bool) (k : Nat) : (bls g k).length = k := by simp [bls]
theorem bls_long (g : Nat → Bool) (k : Nat) : bls g k ++ [.bool false, .bool false, .bool false] = bls (gLong g k) (k + 3) := by
  apply List.ext_getElem
  · simp [bls]
  · intro i h1 h2
    simp only [bls, List.length_map, List.length_range] at h2
    simp only [bls, List.getElem_map, List.getElem_range, gLong]
    by_cases hi : i < k
    · rw [List.getElem_append_left (by simpa using hi), if_pos hi]; simp
    · rw [List.getElem_append_right (by simpa using hi), if_neg hi]
      obtain ⟨d, rfl⟩ : ∃ d, i = k + d := ⟨i - k, by omega⟩
      have : d < 3 := by omega
      simp only [List.length_map, List.length_range, Nat.add_sub_cancel_left]
      match d, this with
      | 0, _ => rfl
      | 1, _ => rfl
      | 2, _ => rfl

theorem hasB_of_owns {w : World} {base n : Nat} {v : Value} {g : Nat → Bool} {k : Nat} (h : w.ownsRow base 4 1 v n (bls g k)) : ∃ a c, v = .slice a k c ∧ HasB w a k g := by
  have hk : k = n := by have := h.1; rw [bls_length] at this; omega
  subst hk
  rcases h.2 with ⟨hv, h0⟩ | ⟨gg, cap, cur, hv, _, hb, _⟩
  · exact ⟨none, 0, by rw [hv, h0], .inl h0⟩
  · refine ⟨some ⟨gg, 0, none⟩, cap, hv, ?_⟩
    by_cases h0 : k = 0
    · exact .inl h0
    · have hc := h.cells (g := gg) (by rw [hv]; rfl)
      have hlt : gg < w.heap.size := by
        rcases Nat.lt_or_ge gg w.heap.size with h' | h'
        · exact h'
        · rw [Array.getElem?_eq_none h'] at hb; cases hb
      refine .inr ⟨gg, 0, rfl, hlt, fun j hj => ?_⟩
      have := hc j (.bool (g j)) (by simp [bls, hj])
      rw [Go.WideShapes.add_plain] at this
      exact this
theorem owns_empty (W : World) (base : Nat) (hb : base ≤ W.heap.size) : (W.alloc (.cells #[] 4)).ownsRow base 4 1 (.slice (some ⟨W.heap.size, 0, none⟩) 0 0) 0 [] :=
  ⟨rfl, .inr ⟨W.heap.size, 0, #[], rfl, hb, by show (W.heap.push _)[W.heap.size]? = _; simp, Nat.le_refl _, Nat.zero_le _, rfl, rfl⟩⟩

structure BeyondIn (w : World) (cv : Value) (R : Nat → Row) (n : Nat) : Prop where
  c9 : ∀ W, Below w.heap.size w W → Calls Tryd.prog 9 #[] W fun e w' => e = .returned (.bool true) ∧ Below w.heap.size w w'
  c17 : ∀ W, Below w.heap.size w W → Calls Tryd.prog 17 #[cv, .int .i64 40, .int .i64 100000] W fun e w' => e = .returned (.bool (small R n 40)) ∧ W = w'
  c25 : small R n 40 = true → ∀ W a k c g, k ≤ 100 → HasB W a k g → Below w.heap.size w W → Calls Tryd.prog 25 #[cv, .slice a k c] W fun e w' => e = .returned (.bool (allR R n g k)) ∧ Below w.heap.size w w' ∧ Below W.heap.size W w'

theorem beyondIn (a : Option Addr) (n c : Nat) (R : Nat → Row) (w : World) (hT : Tab w) (hm : n ≤ 9223372036854775807) (hnc : n ≤ c) (hcm : c ≤ 9223372036854775807) (hR : ∀ j, j < n → (R j).n ≤ 9223372036854775807) (h : Rws w a n R) : BeyondIn w (.slice a n c) R n := by
  refine ⟨fun W => awake_later w W hT, fun W hb => small_any a n c R 40 100000 (Int.le_refl _) W hm (by omega) hnc hcm hR (h.below hb), fun hs W am k cm g hk hg hb => ?_⟩
  obtain ⟨h1, h2⟩ := small_iff.1 hs
  exact (all_any a n c R am k cm g W (by omega) (fun j hj => by have := h2 j hj; omega) (by omega) (h.below hb) hg).mono fun _ _ ⟨he, h3⟩ => ⟨he, hb.trans (h3.mono hb.size), h3⟩

set_option maxHeartbeats 1000000 in
theorem beyond_out (cv : Value) (am : Option Addr) (k cm : Nat) (R : Nat → Row) (n : Nat) (w : World) (H : BeyondIn w cv R n) (hk : k ≤ 9223372036854775807) (h : small R n 40 = false ∨ 40 < k) :
    Calls Tryd.prog 8 #[cv, .slice am k cm] w (LawPost w) := by
  obtain ⟨h9, h17, _⟩ := H
  have hb0 : Below w.heap.size w w := Below.refl _ _
  have H9 := Lib.hid h9; clear h9
  by_cases hs : small R n 40 = false
  · rw [hs] at h17
    have H17 := Lib.hid h17; clear h17 h hs
    go_enter Tryd.func8, Tryd.ntmps8
    go_wp2_with fail
    refine (H9.out _ hb0).mono ?_
    rintro e w1 ⟨rfl, hb1⟩
    go_wp2_with fail
    refine (H17.out _ hb1).mono ?_
    rintro e w2 ⟨rfl, rfl⟩
    go_wp2_with fail
    refine (H9.out _ hb1).mono ?_
    rintro e w2 ⟨rfl, hb2⟩
    go_wp2
    go_ret
    exact ⟨rfl, hb2⟩
  · have h40 : 40 < k := by
      rcases h with h | h
      · exact absurd h hs
      · exact h
    rw [Bool.not_eq_false] at hs
    rw [hs] at h17
    have H17 := Lib.hid h17; clear h17 h hs
    go_enter Tryd.func8, Tryd.ntmps8
    go_wp2_with fail
    refine (H9.out _ hb0).mono ?_
    rintro e w1 ⟨rfl, hb1⟩
    go_wp2_with fail
    refine (H17.out _ hb1).mono ?_
    rintro e w2 ⟨rfl, rfl⟩
    go_wp2_with fail
    refine (H9.out _ hb1).mono ?_
    rintro e w2 ⟨rfl, hb2⟩
    go_wp2
    go_ret
    exact ⟨rfl, hb2⟩

set_option maxHeartbeats 4000000 in
set_option maxRecDepth 100000 in
theorem beyond_some (cv : Value) (p : Addr) (k cm : Nat) (g : Nat → Bool) (R : Nat → Row) (n : Nat) (w : World) (H : BeyondIn w cv R n) (hk : k ≤ 40) (hs : small R n 40 = true) (hg : HasB w (some p) k g) :
    Calls Tryd.prog 8 #[cv, .slice (some p) k cm] w (LawPost w) := by
  obtain ⟨h9, h17, h25⟩ := H
  obtain ⟨i0, hi, hz0, hz1, hz2⟩ := info_parts infoBool
  have hb0 : Below w.heap.size w w := Below.refl _ _
  have h25' := h25 hs
  clear h25
  rw [hs] at h17
  have hA : ∀ W, Below w.heap.size w W → Calls Tryd.prog 25 #[cv, .slice (some p) k cm] W fun e w' => e = .returned (.bool (allR R n g k)) ∧ Below w.heap.size w w' ∧ Below W.heap.size W w' := fun W hb => h25' W (some p) k cm g (by omega) (hg.below hb) hb
  have hB : ∀ W W' a c, Below W.heap.size W W' → Below w.heap.size w W' → HasB W a (k + 3) (gLong g k) → Calls Tryd.prog 25 #[cv, .slice a (k + 3) c] W' fun e w' => e = .returned (.bool (allR R n g k)) ∧ Below w.heap.size w w' := fun W W' a c hbb hb hh => by
    have := h25' W' a (k + 3) c (gLong g k) (by omega) (hh.below hbb) hb
    rw [allR_long] at this
    exact this.mono fun _ _ ⟨he, h1, _⟩ => ⟨he, h1⟩
  clear h25'
  generalize allR R n g k = v at hA hB
  have hnews : ∀ W, Below w.heap.size w W → ∀ j u, (bls g k)[j]? = some u → W.cell? (p.add j) = some u := fun W hb j u hu => by
    rcases hg with rfl | ⟨b, off, hp, hlt, hc⟩
    · simp [bls] at hu
    · obtain rfl : p = ⟨b, off, none⟩ := by simpa using hp
      have hj : j < k := by
        rcases Nat.lt_or_ge j k with h | h
        · exact h
        · rw [List.getElem?_eq_none (by rw [bls_length]; exact h)] at hu; cases hu
      have e : u = .bool (g j) := by simpa [bls, hj] using hu.symm
      rw [e, Go.WideShapes.add_plain, ← hc j hj]
      exact hb.cell (p := ⟨b, off + j, none⟩) hlt
  have hone : ∀ u ∈ bls g k, u.oneCell' = true := fun u hu => by
    simp only [bls, List.mem_map] at hu
    obtain ⟨j, _, rfl⟩ := hu
    rfl
  have HNW := Lib.hid hnews; clear hnews
  have HON := Lib.hid hone; clear hone
  have hlong : ∀ W v', W.ownsRow w.heap.size 4 1 v' (k + 3) (bls g k ++ [.bool false, .bool false, .bool false]) → ∃ a c, v' = .slice a (k + 3) c ∧ HasB W a (k + 3) (gLong g k) := fun W v' ho => by
    rw [bls_long] at ho; exact hasB_of_owns ho
  have HLG := Lib.hid hlong; clear hlong
  have hbl := bls_length g k
  generalize bls g k = B at *
  have HA := Lib.hid hA; clear hA
  have HB := Lib.hid hB; clear hB
  have H9 := Lib.hid h9; clear h9
  have H17 := Lib.hid h17; clear h17
  have HBL := Lib.hid hbl; clear hbl
  clear hs hg
  go_enter Tryd.func8, Tryd.ntmps8
  go_wp2_with fail
  refine (H9.out _ hb0).mono ?_
  rintro e w1 ⟨rfl, hb1⟩
  go_wp2_with fail
  refine (H17.out _ hb1).mono ?_
  rintro e w2 ⟨rfl, rfl⟩
  have hb1a : Below w.heap.size w (w1.alloc (.cells #[] 4)) := hb1.alloc hb1.size _
  have ho0 := owns_empty w1 w.heap.size hb1.size
  have HO0 := Lib.hid ho0; clear ho0
  go_wp2_with (at_builtin; refine wpList_append_own _ rfl _ _ 23 rfl w.heap.size 4 i0 (.bool false) 1 1 Tryd.underlying23 hi hz0 hz1 hz2 rfl (by decide) _ _ _ rfl HO0.out p k cm B rfl ?cl ?c1 ?c2 ?c3 ?c4 ?c5 ?_)
  case cl => rw [HBL.out]; omega
  case c1 => exact HNW.out _ hb1a
  case c2 => exact HON.out
  case c3 => unfold maxLen; omega
  case c4 => omega
  case c5 => exact hb1a.size
  intro v1 w3 hown1 hgrow1 _
  have hb3 : Below w.heap.size w w3 := hb1a.grown hgrow1 hb1a.size (fun j hj => (HO0.out.lt j hj).1)
  clear hgrow1
  try simp only [Nat.zero_add, List.nil_append] at hown1
  go_wp2_with (at_builtin; refine wpList_append_own _ rfl _ _ 23 rfl w.heap.size 4 i0 (.bool false) 1 1 Tryd.underlying23 hi hz0 hz1 hz2 rfl (by decide) _ _ _ rfl (hown1.alloc _) ⟨w3.heap.size, 0, none⟩ 3 3 [.bool false, .bool false, .bool false] rfl rfl ?d1 ?d2 ?d3 ?d4 ?d5 ?_)
  case d1 =>
    intro j u hj
    match j, hj with
    | 0, hj => simp at hj; subst hj; simp [Addr.add]
    | 1, hj => simp at hj; subst hj; simp [Addr.add]
    | 2, hj => simp at hj; subst hj; simp [Addr.add]
  case d2 => intro u hu; simp at hu; subst hu; rfl
  case d3 => unfold maxLen; omega
  case d4 => omega
  case d5 => have := hb3.size; simp; omega
  intro v2 w4 hown2 hgrow2 _
  have hb4 : Below w.heap.size w w4 := (hb3.alloc hb3.size _).grown hgrow2 (by have := hb3.size; simp; omega) (fun j hj => (hown1.lt j hj).1)
  clear hgrow2 hown1
  obtain ⟨a', c', rfl, hh⟩ := HLG.out _ _ (by simpa using hown2)
  clear hown2
  have HHB := Lib.hid hh; clear hh
  go_wp2_with fail
  refine (HA.out _ hb4).mono ?_
  rintro e w5 ⟨rfl, hb5, hbb⟩
  have HBB := Lib.hid hbb; clear hbb
  go_wp2_with fail
  refine (HB.out _ _ _ _ HBB.out hb5 HHB.out).mono ?_
  rintro e w6 ⟨rfl, hb6⟩
  go_wp2
  all_goals
    go_ret
    exact ⟨ret_bool (by simp), hb6⟩

set_option maxHeartbeats 4000000 in
set_option maxRecDepth 100000 in
theorem beyond_none (cv : Value) (g : Nat → Bool) (R : Nat → Row) (n : Nat) (w : World) (H : BeyondIn w cv R n) (hs : small R n 40 = true) :
    Calls Tryd.prog 8 #[cv, .slice none 0 0] w (LawPost w) := by
  have hg : HasB w none 0 g := .inl rfl
  obtain ⟨h9, h17, h25⟩ := H
  obtain ⟨i0, hi, hz0, hz1, hz2⟩ := info_parts infoBool
  have hb0 : Below w.heap.size w w := Below.refl _ _
  have h25' := h25 hs
  clear h25
  rw [hs] at h17
  have hA : ∀ W, Below w.heap.size w W → Calls Tryd.prog 25 #[cv, .slice none 0 0] W fun e w' => e = .returned (.bool (allR R n g 0)) ∧ Below w.heap.size w w' ∧ Below W.heap.size W w' := fun W hb => h25' W none 0 0 g (by omega) (hg.below hb) hb
  have hB : ∀ W W' a c, Below W.heap.size W W' → Below w.heap.size w W' → HasB W a (0 + 3) (gLong g 0) → Calls Tryd.prog 25 #[cv, .slice a (0 + 3) c] W' fun e w' => e = .returned (.bool (allR R n g 0)) ∧ Below w.heap.size w w' := fun W W' a c hbb hb hh => by
    have := h25' W' a (0 + 3) c (gLong g 0) (by omega) (hh.below hbb) hb
    rw [allR_long] at this
    exact this.mono fun _ _ ⟨he, h1, _⟩ => ⟨he, h1⟩
  clear h25'
  generalize allR R n g 0 = v at hA hB
  have hlong : ∀ W v', W.ownsRow w.heap.size 4 1 v' (0 + 3) (bls g 0 ++ [.bool false, .bool false, .bool false]) → ∃ a c, v' = .slice a (0 + 3) c ∧ HasB W a (0 + 3) (gLong g 0) := fun W v' ho => by
    rw [bls_long] at ho; exact hasB_of_owns ho
  have HLG := Lib.hid hlong; clear hlong
  have hbl : bls g 0 = [] := rfl
  rw [hbl] at HLG
  have HA := Lib.hid hA; clear hA
  have HB := Lib.hid hB; clear hB
  have H9 := Lib.hid h9; clear h9
  have H17 := Lib.hid h17; clear h17
  have HBL := Lib.hid hbl; clear hbl
  clear hs hg
  go_enter Tryd.func8, Tryd.ntmps8
  go_wp2_with fail
  refine (H9.out _ hb0).mono ?_
  rintro e w1 ⟨rfl, hb1⟩
  go_wp2_with fail
  refine (H17.out _ hb1).mono ?_
  rintro e w2 ⟨rfl, rfl⟩
  have hb1a : Below w.heap.size w (w1.alloc (.cells #[] 4)) := hb1.alloc hb1.size _
  have ho0 := owns_empty w1 w.heap.size hb1.size
  have HO0 := Lib.hid ho0; clear ho0
  have hb3 : Below w.heap.size w (w1.alloc (.cells #[] 4)) := hb1a
  go_wp2_with (first | (at_builtin; refine wpList_append_own_none rfl _ _ 23 rfl w.heap.size 4 i0 1 Tryd.underlying23 hi _ _ _ rfl HO0.out rfl ?_) | (at_builtin; refine wpList_append_own _ rfl _ _ 23 rfl w.heap.size 4 i0 (.bool false) 1 1 Tryd.underlying23 hi hz0 hz1 hz2 rfl (by decide) _ _ _ rfl (HO0.out.alloc _) ⟨w1.heap.size + 1, 0, none⟩ 3 3 [.bool false, .bool false, .bool false] rfl rfl ?d1 ?d2 ?d3 ?d4 ?d5 ?_))
  case d1 =>
    intro j u hj
    match j, hj with
    | 0, hj => simp at hj; subst hj; simp [Addr.add]
    | 1, hj => simp at hj; subst hj; simp [Addr.add]
    | 2, hj => simp at hj; subst hj; simp [Addr.add]
  case d2 => intro u hu; simp at hu; subst hu; rfl
  case d3 => unfold maxLen; omega
  case d4 => omega
  case d5 => have := hb1.size; simp; omega
  intro v2 w4 hown2 hgrow2 _
  have hb4 : Below w.heap.size w w4 := (hb3.alloc hb3.size _).grown hgrow2 (by have := hb1.size; simp; omega) (fun j hj => (HO0.out.lt j hj).1)
  clear hgrow2
  obtain ⟨a', c', rfl, hh⟩ := HLG.out _ _ (by simpa using hown2)
  clear hown2
  have HHB := Lib.hid hh; clear hh
  go_wp2_with fail
  refine (HA.out _ hb4).mono ?_
  rintro e w5 ⟨rfl, hb5, hbb⟩
  have HBB := Lib.hid hbb; clear hbb
  go_wp2_with fail
  refine (HB.out _ _ _ _ HBB.out hb5 HHB.out).mono ?_
  rintro e w6 ⟨rfl, hb6⟩
  go_wp2
  all_goals
    go_ret
    exact ⟨ret_bool (by simp), hb6⟩

theorem lawBeyond_any (a am : Option Addr) (n c k cm : Nat) (R : Nat → Row) (g : Nat → Bool) (w : World) (hT : Tab w) (hm : n ≤ 9223372036854775807) (hk : k ≤ 9223372036854775807) (hnc : n ≤ c) (hcm : c ≤ 9223372036854775807) (hR : ∀ j, j < n → (R j).n ≤ 9223372036854775807) (h : Rws w a n R) (hg : HasB w am k g) (hnil : am = none → k = 0 ∧ cm = 0) :
    Calls Tryd.prog 8 #[.slice a n c, .slice am k cm] w (LawPost w) := by
  have H := beyondIn a n c R w hT hm hnc hcm hR h
  cases hs : small R n 40
  · exact beyond_out _ am k cm R n w H hk (.inl hs)
  · by_cases h40 : 40 < k
    · exact beyond_out _ am k cm R n w H hk (.inr h40)
    · cases am with
      | none => obtain ⟨rfl, rfl⟩ := hnil rfl; exact beyond_none _ g R n w H hs
      | some p => exact beyond_some _ p k cm g R n w H (by omega) hs hg
end Go.Proofs.YtmgkoehclabejaaDoor
