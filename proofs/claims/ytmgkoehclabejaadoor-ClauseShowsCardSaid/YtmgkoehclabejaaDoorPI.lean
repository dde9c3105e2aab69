/- Contracts: the head of a text (the program's). -/
import Derived.Test.YtmgkoehclabejaaDoorPH
import Derived.Test.YtmgkoehclabejaaDoorC
import Derived.OwnWalk
namespace Go.Proofs.YtmgkoehclabejaaDoor
open Go Go.RowKit Go.Lib

/-- Words in memory. -/
def Strs (w : World) (a : Option Addr) (L : List Wd) : Prop :=
  L = [] ∨ ∃ b off, a = some ⟨b, off, none⟩ ∧ b < w.heap.size ∧ ∀ j x, L[j]? = some x → w.cell? ⟨b, off + j, none⟩ = some (.string (bs x))
theorem Strs.below {w w' : World} {a : Option Addr} {L : List Wd} (h : Strs w a L) (hb : Below w.heap.size w w') : Strs w' a L := by
  rcases h with h | ⟨b, off, ha, hlt, hc⟩
  · exact .inl h
  · exact .inr ⟨b, off, ha, Nat.lt_of_lt_of_le hlt hb.size, fun j x hj => by rw [← hc j x hj]; exact hb.cell (p := ⟨b, off + j, none⟩) hlt⟩

theorem toList_loop (s : ByteArray) : ∀ (i : Nat) (r : List UInt8), ByteArray.toList.loop s i r = r.reverse ++ s.data.toList.drop i := by
  intro i r
  fun_induction ByteArray.toList.loop s i r with
  | case1 i r h ih =>
    have h' : i < s.data.toList.length := by rw [Array.length_toList]; exact h
    rw [ih, List.drop_eq_getElem_cons h']
    have : s.get! i = s.data.toList[i] := by
      unfold ByteArray.get!
      rw [Array.getElem_toList]
      exact getElem!_pos s.data i h
    simp [this]
  | case2 i r h => rw [List.drop_eq_nil_of_le (by rw [Array.length_toList]; exact Nat.le_of_not_lt h)]; simp
theorem bs_toList (l : List UInt8) : (bs l).toList = l := by
  unfold ByteArray.toList
  rw [toList_loop]
  simp [bs]
theorem bs_eq (l k : List UInt8) : ((bs l).toList == k) = decide (l = k) := by
  rw [bs_toList, Bool.eq_iff_iff]; simp

def HeadPost (L : List Wd) (w : World) (e : Ending) (w' : World) : Prop :=
  ∃ (p q : Int) (ok : Bool), e = .returned (.tuple #[.int .i64 p, .int .i64 q, .bool ok]) ∧ (headB L = if ok then some (p, q) else none) ∧ Below w.heap.size w w'
theorem headPost_of {L : List Wd} {w w' : World} {p q : Int} {ok : Bool} (h : headB L = if ok then some (p, q) else none) (hb : Below w.heap.size w w') : HeadPost L w (.returned (.tuple #[.int .i64 p, .int .i64 q, .bool ok])) w' := ⟨p, q, ok, rfl, h, hb⟩

set_option maxHeartbeats 2000000 in
theorem head_short (a : Option Addr) (c : Nat) (L : List Wd) (h : L.length < 4) (w : World) : Calls Tryd.prog 50 #[.slice a L.length c] w (HeadPost L w) := by
  have hn : headB L = none := by
    match L, h with
    | [], _ => rfl
    | [_], _ => rfl
    | [_, _], _ => rfl
    | [_, _, _], _ => rfl
  have hfin : HeadPost L w (.returned (.tuple #[.int .i64 0, .int .i64 0, .bool false])) w := headPost_of hn (Below.refl _ _)
  have HF := Lib.hid hfin; clear hfin hn
  go_enter Tryd.func50, Tryd.ntmps50
  go_wp2
  go_ret3
  exact HF.out

theorem headB_bad {x y z t : Wd} {L : List Wd} (h : ¬ (x = [112] ∧ y = [99, 110, 102])) : headB (x :: y :: z :: t :: L) = none := by
  simp only [headB]; rw [if_neg h]
theorem headB_good {x y z t : Wd} {L : List Wd} (h : x = [112] ∧ y = [99, 110, 102]) : headB (x :: y :: z :: t :: L) =
    if (numB z).isSome && (numB t).isSome then some ((numB z).getD 0, (numB t).getD 0) else none := by
  simp only [headB]; rw [if_pos h]
  cases numB z <;> cases numB t <;> rfl

set_option maxHeartbeats 2000000 in
theorem head_long (b off c n : Nat) (x y z t : Wd) (L : List Wd) (hz : z.length ≤ 1000000) (ht : t.length ≤ 1000000) (hn : 4 ≤ n) (hL : n ≤ 1000000) (w : World)
    (c0 : w.cell? ⟨b, off, none⟩ = some (.string (bs x))) (c1 : w.cell? ⟨b, off + 1, none⟩ = some (.string (bs y))) (c2 : w.cell? ⟨b, off + 2, none⟩ = some (.string (bs z))) (c3 : w.cell? ⟨b, off + 3, none⟩ = some (.string (bs t))) (hlt : b < w.heap.size) :
    Calls Tryd.prog 50 #[.slice (some ⟨b, off, none⟩) n c] w (HeadPost (x :: y :: z :: t :: L) w) := by
  have ex := bs_eq x [112]
  have ey := bs_eq y [99, 110, 102]
  by_cases hx : x = [112]
  · by_cases hy : y = [99, 110, 102]
    · have hg := headB_good (z := z) (t := t) (L := L) ⟨hx, hy⟩
      rw [decide_eq_true hx] at ex
      rw [decide_eq_true hy] at ey
      have n1 := fun w => number_any z hz w
      have n2 := fun w => number_any t ht w
      unfold numV at n1 n2
      have hfin : ∀ w' ok, ok = ((numB z).isSome && (numB t).isSome) → Below w.heap.size w w' → HeadPost (x :: y :: z :: t :: L) w (.returned (.tuple #[.int .i64 ((numB z).getD 0), .int .i64 ((numB t).getD 0), .bool ok])) w' := by
        rintro w' ok rfl hb; exact headPost_of hg hb
      clear hg
      generalize (numB z).getD 0 = p at *
      generalize (numB t).getD 0 = q at *
      generalize (numB z).isSome = u at *
      generalize (numB t).isSome = v at *
      have N1 := Lib.hid n1; clear n1
      have N2 := Lib.hid n2; clear n2
      have HF := Lib.hid hfin; clear hfin hx hy
      cases u
      · go_enter Tryd.func50, Tryd.ntmps50
        go_wp2_with fail
        refine (N1.out _).mono ?_
        rintro e w1 ⟨rfl, hb1⟩
        have c3' : w1.cell? ⟨b, off + 3, none⟩ = some (.string (bs t)) := by rw [← c3]; exact hb1.cell (p := ⟨b, off + 3, none⟩) hlt
        go_wp2_with fail
        refine (N2.out _).mono ?_
        rintro e w2 ⟨rfl, hb2⟩
        go_wp2
        go_ret3
        exact HF.out _ _ rfl (hb1.trans (hb2.mono hb1.size))
      · go_enter Tryd.func50, Tryd.ntmps50
        go_wp2_with fail
        refine (N1.out _).mono ?_
        rintro e w1 ⟨rfl, hb1⟩
        have c3' : w1.cell? ⟨b, off + 3, none⟩ = some (.string (bs t)) := by rw [← c3]; exact hb1.cell (p := ⟨b, off + 3, none⟩) hlt
        go_wp2_with fail
        refine (N2.out _).mono ?_
        rintro e w2 ⟨rfl, hb2⟩
        go_wp2
        go_ret3
        exact HF.out _ _ rfl (hb1.trans (hb2.mono hb1.size))
    · have hg := headB_bad (x := x) (y := y) (z := z) (t := t) (L := L) (fun h => hy h.2)
      rw [decide_eq_true hx] at ex
      rw [decide_eq_false hy] at ey
      have hfin : HeadPost (x :: y :: z :: t :: L) w (.returned (.tuple #[.int .i64 0, .int .i64 0, .bool false])) w := headPost_of hg (Below.refl _ _)
      have HF := Lib.hid hfin; clear hfin hg hx hy
      go_enter Tryd.func50, Tryd.ntmps50
      go_wp2
      go_ret3
      exact HF.out
  · have hg := headB_bad (x := x) (y := y) (z := z) (t := t) (L := L) (fun h => hx h.1)
    rw [decide_eq_false hx] at ex
    have hfin : HeadPost (x :: y :: z :: t :: L) w (.returned (.tuple #[.int .i64 0, .int .i64 0, .bool false])) w := headPost_of hg (Below.refl _ _)
    have HF := Lib.hid hfin; clear hfin hg hx ey
    go_enter Tryd.func50, Tryd.ntmps50
    go_wp2
    go_ret3
    exact HF.out

theorem head_any (a : Option Addr) (c : Nat) (L : List Wd) (hs : ∀ u ∈ L, u.length ≤ 1000000) (hL : L.length ≤ 1000000) (w : World) (h : Strs w a L) : Calls Tryd.prog 50 #[.slice a L.length c] w (HeadPost L w) := by
  by_cases h4 : L.length < 4
  · exact head_short a c L h4 w
  · match L, h4 with
    | x :: y :: z :: t :: L, _ =>
      rcases h with h | ⟨b, off, rfl, hlt, hc⟩
      · cases h
      · exact head_long b off c _ x y z t L (hs z (by simp)) (hs t (by simp)) (by simp) hL w (hc 0 x rfl) (hc 1 y rfl) (hc 2 z rfl) (hc 3 t rfl) hlt
    | [], h4 => exact absurd (by simp) h4
    | [_], h4 => exact absurd (by simp) h4
    | [_, _], h4 => exact absurd (by simp) h4
    | [_, _, _], h4 => exact absurd (by simp) h4
end Go.Proofs.YtmgkoehclabejaaDoor
