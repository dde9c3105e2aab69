/- Contracts: Place; Clone. -/
import Derived.Test.YtgikihbnafadjaaDoorG
namespace Go.Proofs.YtgikihbnafadjaaDoor
open Go Go.RowKit Go.Lib

theorem lastIdx_eq (l : Wd) : ∀ k, k ≤ l.length → Lib.lastIdx (bs l) 10 k = lastN l k
  | 0, _ => rfl
  | k + 1, h => by
    have hk : k < l.length := by omega
    have e : (bs l).data[k]! = l[k] := by
      show (l.toArray)[k]! = _
      simp [hk]
    unfold Lib.lastIdx
    rw [lastN_succ, lastIdx_eq l k (by omega), e, List.getElem?_eq_getElem hk]
    by_cases h2 : l[k] = 10
    · rw [if_pos (by rw [h2]; rfl), if_pos (by rw [h2])]
    · rw [if_neg (fun e => h2 (UInt8.toNat_inj.1 (by have : ((10 : UInt8).toNat : Int) = 10 := rfl; omega))), if_neg (fun e => h2 (Option.some.inj e))]
/-- Count, LastIndexByte of the text's beginning. -/
theorem count_any (l : Wd) (a : Nat) (ha : a ≤ l.length) (w : World) : Calls Tryd.prog 27 #[.string (bs (l.take a)), .string ⟨#[10]⟩] w fun e w' => e = .returned (.int .i64 (cntN l a)) ∧ w = w' := by
  have := Go.Proofs.Tryd.strings_Count_one (bs (l.take a)) 10 w
  rw [bs_data, Lib.countByte, cntN_take l a ha] at this
  exact this.mono fun e w' ⟨h, h2⟩ => ⟨h, h2.symm⟩
theorem last_any (l : Wd) (hl : l.length ≤ 100000) (a : Nat) (ha : a ≤ l.length) (w : World) : Calls Tryd.prog 28 #[.string (bs (l.take a)), .int .u8 10] w fun e w' => e = .returned (.int .i64 (lastN l a)) ∧ w = w' := by
  have hsz := bs_size (l.take a)
  rw [List.length_take, Nat.min_eq_left ha] at hsz
  have := Go.Proofs.Tryd.strings_LastIndexByte (bs (l.take a)) 10 (by omega) w
  rw [Lib.lastIndexByte, lastIdx_eq _ _ (by rw [hsz, List.length_take, Nat.min_eq_left ha]; exact Nat.le_refl _), hsz, lastN_take l a a (Nat.le_refl _)] at this
  exact this.mono fun e w' ⟨h, h2⟩ => ⟨h, h2.symm⟩
theorem cntN_le (l : Wd) : ∀ k, cntN l k ≤ k
  | 0 => Nat.le_refl _
  | k + 1 => by have := cntN_le l k; rw [cntN_succ]; split <;> omega
theorem take_ext {l : Wd} {n : Nat} : (bs l).extract 0 n = bs (l.take n) := by
  rw [bs_extract]; rfl

def PlacePost (l : Wd) (a : Nat) (w : World) (e : Ending) (w' : World) : Prop := e = .returned (.tuple #[.int .i64 (lineOf l a), .int .i64 (colOf l a)]) ∧ w = w'
theorem placePost_of {l : Wd} {a : Nat} {w : World} {x y : Int} (hx : x = lineOf l a) (hy : y = colOf l a) : PlacePost l a w (.returned (.tuple #[.int .i64 x, .int .i64 y])) w := by
  subst hx; subst hy; exact ⟨rfl, rfl⟩
set_option maxRecDepth 100000 in
set_option maxHeartbeats 4000000 in
/-- Place -/
theorem place_any (l : Wd) (hl : l.length ≤ 100000) (a : Int) (w : World) :
    Calls Tryd.prog 13 #[.string (bs l), .int .i64 a] w (PlacePost l (clamp l a) w) := by
  have hsz := bs_size l
  have hcl : clamp l a ≤ l.length := Nat.min_le_right _ _
  have hcl2 : clamp l a = min a.toNat l.length := rfl
  have HCL := Lib.hid hcl2; clear hcl2
  generalize clamp l a = m at *
  have HC := Lib.hid (count_any l m hcl w)
  have HL := Lib.hid (last_any l hl m hcl w)
  have hx : (bs l).extract 0 (min (max a 0) (l.length : Int)).toNat = bs (l.take m) := by rw [← take_ext]; congr 1; rw [HCL.out]; omega
  have hb1 := cntN_le l m
  have hb2 := lastN_ge l m
  have hszm := bs_size (l.take m)
  rw [List.length_take, Nat.min_eq_left hcl] at hszm
  have hfin : Hid (1 + ((cntN l m : Nat) : Int) = lineOf l m ∧ (m : Int) - lastN l m = colOf l m) := Lib.hid ⟨rfl, rfl⟩
  generalize cntN l m = c at *
  generalize lastN l m = d at *
  obtain ⟨hd1, hd2⟩ := hb2
  clear HCL
  go_enter Tryd.func13, Tryd.ntmps13
  go_wp2_with fail
  refine HC.out.mono ?_
  rintro e w2 ⟨rfl, hw2⟩
  have hw3 := hw2.symm; subst hw3; clear hw2
  go_wp2_with fail
  refine HL.out.mono ?_
  rintro e w2 ⟨rfl, hw2⟩
  have hw3 := hw2.symm; subst hw3; clear hw2
  go_wp2
  go_ret2
  exact placePost_of hfin.out.1 hfin.out.2

/-- Clone -/
theorem clone_any (s : ByteArray) (hs : s.size ≤ 100000) (w : World) : Calls Tryd.prog 21 #[.string s] w fun e w' => e = .returned (.string s) ∧ Below w.heap.size w w' := by
  have HC := Lib.hid (Go.Proofs.Tryd.stringslite_Clone s w (by omega))
  go_enter Tryd.func21, Tryd.ntmps21
  go_wp2_with fail
  refine HC.out.mono ?_
  rintro e w1 ⟨rfl, hb⟩
  go_wp2
  go_ret
  exact ⟨rfl, hb⟩
end Go.Proofs.YtgikihbnafadjaaDoor
