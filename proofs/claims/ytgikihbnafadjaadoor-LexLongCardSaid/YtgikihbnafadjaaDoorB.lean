/- Memory: strings, tables; contracts of the small functions. -/
import Derived.Test.YtgikihbnafadjaaDoorShelf
import Derived.Test.YtgikihbnafadjaaDoorMB
import Derived.WalkKit
import Derived.WalkSpells
import Derived.WalkLawsBesides
import Derived.Lib.Hide
import Derived.Deep.QuietTactic
import Derived.Deep.OwnRows
import Derived.BigQuiet
import Derived.BigRegion
import Derived.IntWalk
import Derived.Outline
import Derived.Below
import Derived.OwnWalk
import Derived.Maps.AppendAt
import Derived.Laws.AppendOwnNone
import Derived.Laws.IdiomStrings
import Derived.Laws.Rows
namespace Go.Proofs.YtgikihbnafadjaaDoor
open Go Go.RowKit Go.Lib

theorem ret_int {k : IntKind} {a b : Int} (h : a = b) : Ending.returned (.int k a) = .returned (.int k b) := by rw [h]
theorem ret_bool {a b : Bool} (h : a = b) : Ending.returned (.bool a) = .returned (.bool b) := by rw [h]
/-- A text in memory. -/
def bs (l : List UInt8) : ByteArray := ⟨l.toArray⟩
theorem bs_size (l : List UInt8) : (bs l).size = l.length := by simp [bs, ByteArray.size]
theorem bs_data (l : List UInt8) : (bs l).data.toList = l := by simp [bs]
theorem bs_at (l : Wd) (k : Nat) (h : k < l.length) (h' : k < (bs l).size) : (bs l)[k]'h' = l[k] := by
  show (l.toArray)[k]'(by simpa using h) = l[k]
  simp only [List.getElem_toArray]
  rfl
theorem u8_beq (c d : UInt8) : (((c.toNat : Nat) : Int) == ((d.toNat : Nat) : Int)) = (c == d) := by
  rw [Bool.eq_iff_iff]; simp only [beq_iff_eq]
  exact ⟨fun h => UInt8.toNat_inj.1 (by exact_mod_cast h), fun h => by rw [h]⟩
theorem toList_loop (s : ByteArray) : ∀ (i : Nat) (r : List UInt8), ByteArray.toList.loop s i r = r.reverse ++ s.data.toList.drop i := by
  intro i r
  fun_induction ByteArray.toList.loop s i r with
  | case1 i r h ih =>
    have h' : i < s.data.toList.length := by rw [Array.length_toList]; exact h
    rw [ih, List.drop_eq_getElem_cons h']
    have : s.get! i = s.data.toList[i] := by
      unfold ByteArray.get!
      rw [Array.getElem_toList]
      exact getElem!_pos s.data i h
    simp [this]
  | case2 i r h => rw [List.drop_eq_nil_of_le (by rw [Array.length_toList]; exact Nat.le_of_not_lt h)]; simp
theorem bs_toList (l : List UInt8) : (bs l).toList = l := by
  unfold ByteArray.toList
  rw [toList_loop]
  simp [bs]
theorem bs_eq (l k : List UInt8) : ((bs l).toList == k) = decide (l = k) := by
  rw [bs_toList, Bool.eq_iff_iff]; simp
theorem bs_append (a b : List UInt8) : bs a ++ bs b = bs (a ++ b) := by
  apply ByteArray.ext
  simp [bs]
/-- A part of a text. -/
theorem bs_extract (l : Wd) (i j : Nat) : (bs l).extract i j = bs ((l.drop i).take (j - i)) := by
  apply ByteArray.ext
  simp [bs]
theorem u8_eq (c : UInt8) : ((c.toNat : Int)).toNat.toUInt8 = c := by simp

/-- digit -/
theorem rdigit_any (c : UInt8) (w : World) : Calls Tryd.prog 26 #[.int .u8 (c.toNat : Int)] w fun e w' => e = .returned (.bool (isD c)) ∧ w = w' := by
  have e : isD c = (decide (48 ≤ c.toNat) && decide (c.toNat ≤ 57)) := rfl
  rw [e]; clear e
  generalize c.toNat = n
  by_cases h1 : 48 ≤ n
  · have g1 : (48 : Int) ≤ n := by omega
    by_cases h2 : n ≤ 57
    · have g2 : (n : Int) ≤ 57 := by omega
      go_enter Tryd.func26, Tryd.ntmps26
      go_wp2
      go_ret
      exact ⟨ret_bool (by simp [h1, h2]), rfl⟩
    · have g2 : ¬ (n : Int) ≤ 57 := by omega
      go_enter Tryd.func26, Tryd.ntmps26
      go_wp2
      go_ret
      exact ⟨ret_bool (by simp [h1, h2]), rfl⟩
  · have g1 : ¬ (48 : Int) ≤ n := by omega
    go_enter Tryd.func26, Tryd.ntmps26
    go_wp2
    go_ret
    exact ⟨ret_bool (by simp [h1]), rfl⟩
/-- letter -/
theorem rletter_any (c : UInt8) (w : World) : Calls Tryd.prog 24 #[.int .u8 (c.toNat : Int)] w fun e w' => e = .returned (.bool (isL c)) ∧ w = w' := by
  have e : isL c = ((decide (65 ≤ c.toNat) && decide (c.toNat ≤ 90)) || (decide (97 ≤ c.toNat) && decide (c.toNat ≤ 122))) := rfl
  rw [e]; clear e
  generalize c.toNat = n
  by_cases h1 : 65 ≤ n
  · by_cases h2 : n ≤ 90
    · have g1 : (65 : Int) ≤ n := by omega
      have g2 : (n : Int) ≤ 90 := by omega
      go_enter Tryd.func24, Tryd.ntmps24
      go_wp2
      go_ret
      exact ⟨ret_bool (by simp [h1, h2]), rfl⟩
    · have g1 : (65 : Int) ≤ n := by omega
      have g2 : ¬ (n : Int) ≤ 90 := by omega
      by_cases h3 : 97 ≤ n
      · have g3 : (97 : Int) ≤ n := by omega
        by_cases h4 : n ≤ 122
        · have g4 : (n : Int) ≤ 122 := by omega
          go_enter Tryd.func24, Tryd.ntmps24
          go_wp2
          go_ret
          exact ⟨ret_bool (by simp [h1, h2, h3, h4]), rfl⟩
        · have g4 : ¬ (n : Int) ≤ 122 := by omega
          go_enter Tryd.func24, Tryd.ntmps24
          go_wp2
          go_ret
          exact ⟨ret_bool (by simp [h1, h2, h3, h4]), rfl⟩
      · have g3 : ¬ (97 : Int) ≤ n := by omega
        go_enter Tryd.func24, Tryd.ntmps24
        go_wp2
        go_ret
        exact ⟨ret_bool (by simp [h1, h2, h3]), rfl⟩
  · have g1 : ¬ (65 : Int) ≤ n := by omega
    have g3 : ¬ (97 : Int) ≤ n := by omega
    have h3 : ¬ 97 ≤ n := by omega
    go_enter Tryd.func24, Tryd.ntmps24
    go_wp2
    go_ret
    exact ⟨ret_bool (by simp [h1, h3]), rfl⟩
/-- word -/
theorem rword_any (c : UInt8) (w : World) : Calls Tryd.prog 25 #[.int .u8 (c.toNat : Int)] w fun e w' => e = .returned (.bool (isW c)) ∧ w = w' := by
  have HL := Lib.hid (rletter_any c)
  have HD := Lib.hid (rdigit_any c)
  have e5 := u8_beq c 95
  have e : isW c = (isL c || isD c || c == 95) := rfl
  rw [e]; clear e
  generalize isL c = p at *
  generalize isD c = q at *
  generalize (c == 95) = r at *
  generalize c.toNat = n at *
  have e6 : ((n : Int) == 95) = r := e5
  clear e5
  cases p
  · cases q
    · go_enter Tryd.func25, Tryd.ntmps25
      go_wp2_with fail
      refine (HL.out _).mono ?_
      rintro e w1 ⟨rfl, rfl⟩
      go_wp2_with fail
      refine (HD.out _).mono ?_
      rintro e w1 ⟨rfl, rfl⟩
      go_wp2
      go_ret
      exact ⟨ret_bool (by simp [e6]), rfl⟩
    · go_enter Tryd.func25, Tryd.ntmps25
      go_wp2_with fail
      refine (HL.out _).mono ?_
      rintro e w1 ⟨rfl, rfl⟩
      go_wp2_with fail
      refine (HD.out _).mono ?_
      rintro e w1 ⟨rfl, rfl⟩
      go_wp2
      go_ret
      exact ⟨ret_bool (by simp), rfl⟩
  · go_enter Tryd.func25, Tryd.ntmps25
    go_wp2_with fail
    refine (HL.out _).mono ?_
    rintro e w1 ⟨rfl, rfl⟩
    go_wp2
    go_ret
    exact ⟨ret_bool (by simp), rfl⟩
/-- has -/
theorem rhas_any (l : Wd) (hl : l.length ≤ 100000) (c : UInt8) (w : World) : Calls Tryd.prog 22 #[.string (bs l), .int .u8 (c.toNat : Int)] w fun e w' => e = .returned (.bool (l.contains c)) ∧ w = w' := by
  have hsz := bs_size l
  go_enter Tryd.func22, Tryd.ntmps22
  go_wp2
  go_loop [5] (fun i => ∃ k : Nat, k ≤ l.length ∧ i = .int .i64 k ∧ Hid (∀ j (h : j < l.length), j < k → l[j] ≠ c)) (fun i => l.length - (Lib.intOf i).toNat)
  case atStart => exact ⟨0, Nat.zero_le _, rfl, Lib.hid fun j h h0 => absurd h0 (Nat.not_lt_zero _)⟩
  case round =>
    obtain ⟨k, hk, rfl, hn⟩ := hrel
    by_cases hlt : k < l.length
    · have hg := bs_at l k hlt (by rw [hsz]; exact hlt)
      have hb := u8_beq l[k] c
      by_cases he : l[k] = c
      · rw [show (l[k] == c) = true by simpa using he] at hb
        have HE := Lib.hid he; clear he
        go_wp2
        go_ret
        exact ⟨ret_bool (by simp; exact HE.out ▸ List.getElem_mem hlt), rfl⟩
      · rw [show (l[k] == c) = false by simpa using he] at hb
        have HE := Lib.hid he; clear he
        go_wp2
        go_round
        case rel => exact ⟨k + 1, by omega, by go_num, Lib.hid fun j hj hj2 => by
          by_cases e : j = k
          · subst e; exact HE.out
          · exact hn.out j hj (by omega)⟩
        case measure => simp [Lib.intOf]; omega
    · go_wp2
      go_ret
      refine ⟨ret_bool (Eq.symm (decide_eq_false fun hm => ?_)), rfl⟩
      obtain ⟨j, hj, e⟩ := List.getElem_of_mem hm
      exact hn.out j hj (by omega) e
/-- two -/
theorem rtwo_any (l : Wd) (hl : l.length ≤ 100000) (i : Nat) (hi : i ≤ l.length) (w : World) : Calls Tryd.prog 23 #[.string (bs l), .int .i64 i] w fun e w' => e = .returned (.string (bs (if i + 2 ≤ l.length then (l.drop i).take 2 else []))) ∧ w = w' := by
  have hsz := bs_size l
  by_cases h : i + 2 ≤ l.length
  · rw [if_pos h]
    go_enter Tryd.func23, Tryd.ntmps23
    go_wp2
    go_ret
    exact ⟨by rw [bs_extract, Nat.add_sub_cancel_left]; rfl, rfl⟩
  · rw [if_neg h]
    go_enter Tryd.func23, Tryd.ntmps23
    go_wp2
    go_ret
    exact ⟨rfl, rfl⟩
end Go.Proofs.YtgikihbnafadjaaDoor
