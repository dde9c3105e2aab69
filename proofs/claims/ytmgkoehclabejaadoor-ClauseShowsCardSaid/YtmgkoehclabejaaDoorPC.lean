/- The iterator of strings.SplitSeq at one byte: it hands out the lines. -/
import Derived.Test.YtmgkoehclabejaaDoorRF
import Derived.Test.YtmgkoehclabejaaDoorPA
import Derived.Test.YtmgkoehclabejaaDoorA
import Derived.RangeFuncNested
import Derived.RangeFuncBound
import Derived.RangeFuncCalls
import Derived.RangeFuncLeaves
import Derived.Shelf.Abstract
import Derived.Shelf.RegionOpen
import Derived.WalkKit
import Derived.OwnWalkIn
import Derived.TacticsInMore
import Derived.LoopNIn
import Derived.LoopIn
import Derived.Lib.Bytealg
namespace Go.Proofs.YtmgkoehclabejaaDoor
open Go Go.RowKit Go.Shelf Go.Lib

/-- A string of these bytes. -/
def bs (l : List UInt8) : ByteArray := ⟨l.toArray⟩
theorem bs_size (l : List UInt8) : (bs l).size = l.length := by simp [bs, ByteArray.size]
theorem bs_list (l : List UInt8) : (bs l).data.toList = l := by simp [bs]
theorem bs_extract (l : List UInt8) (a b : Nat) : (bs l).extract a b = bs ((l.drop a).take (b - a)) := by
  apply ByteArray.ext
  rw [ByteArray.data_extract]
  simp [bs, List.extract]
theorem bs_of (s : ByteArray) : bs s.data.toList = s := by cases s; simp [bs]

theorem idx_none (l : List UInt8) (h : (10 : UInt8) ∉ l) : indexByte l 10 = -1 := by
  induction l with
  | nil => rfl
  | cons c l ih =>
    have h1 : (c == 10) = false := by simpa using fun e => h (by simp [e])
    have h2 := ih (fun e => h (by simp [e]))
    simp [indexByte, h1, h2]
theorem idx_some (l : List UInt8) (h : (10 : UInt8) ∈ l) : indexByte l 10 = ((l.takeWhile (· != 10)).length : Int) := by
  induction l with
  | nil => simp at h
  | cons c l ih =>
    by_cases hc : c = 10
    · subst hc; simp [indexByte]
    · have h1 : (c == 10) = false := by simpa using hc
      have h2 := ih (by simpa [Ne.symm hc] using h)
      have h3 : (c != 10) = true := by simpa using hc
      simp only [indexByte, h1, Bool.false_eq_true, ↓reduceIte, h2, List.takeWhile_cons, h3]
      rw [if_neg (by simp only [beq_iff_eq]; omega)]
      simp
theorem line_len (l : List UInt8) (h : (10 : UInt8) ∈ l) : (l.takeWhile (· != 10)).length + 1 ≤ l.length := by
  have := congrArg List.length (split10 l h)
  simp only [List.length_append, List.length_cons] at this
  omega
theorem line_take (l : List UInt8) (h : (10 : UInt8) ∈ l) : l.take (l.takeWhile (· != 10)).length = l.takeWhile (· != 10) := by
  have hs := split10 l h
  generalize l.takeWhile (· != 10) = x at *
  generalize (l.dropWhile (· != 10)).drop 1 = y at hs
  subst hs
  simp
theorem line_drop (l : List UInt8) (h : (10 : UInt8) ∈ l) : l.drop ((l.takeWhile (· != 10)).length + 1) = (l.dropWhile (· != 10)).drop 1 := by
  have hs := split10 l h
  generalize l.takeWhile (· != 10) = x at *
  generalize (l.dropWhile (· != 10)).drop 1 = y at *
  subst hs
  rw [List.drop_append]
  simp

/-- The length of the string in a cell. -/
def lenAt (w : World) (b : Nat) : Nat := match w.cell? ⟨b, 0, none⟩ with | some (.string s) => s.size | _ => 0
theorem lenAt_eq {w : World} {b : Nat} {s : ByteArray} (h : w.cell? ⟨b, 0, none⟩ = some (.string s)) : lenAt w b = s.size := by simp [lenAt, h]

attribute [local go_sem] Oper.semAt_some

theorem boxed_of {W W1 : World} {b : Nat} {t : TypeId} {v : Value} (h : W.heap[b]? = W1.heap[b]?) (hb : Boxed W1 b t v) : Boxed W b t v := h.trans hb

set_option maxRecDepth 100000 in
set_option maxHeartbeats 2000000 in
theorem lines_hands (hIdx : ∀ l w, Calls Tryd.prog 93 #[.string (bs l), .string ⟨#[10]⟩] w fun e w' => e = .returned (.int .i64 (indexByte l 10)) ∧ w' = w)
    (n : Nat) (bp be bv : Nat) (l : List UInt8) (hl : l.length ≤ 1000000) (w : World) (h1 : be ≠ bp) (h2 : be ≠ bv)
    (cp : Boxed w bp 9 (.string ⟨#[10]⟩)) (ce : Boxed w be 9 (.string (bs l))) (cv : Boxed w bv 3 (.int .i64 0)) :
    HandsOut Fence.wide n Tryd.prog 91 #[.pointer (some ⟨bp, 0, none⟩), .pointer (some ⟨be, 0, none⟩), .pointer (some ⟨bv, 0, none⟩)] (fun x : List UInt8 => #[Value.string (bs x)]) be [bp, be, bv] (linesF l.length l) w := by
  intro lp J W hW hJ0 hY hJs
  have cp0 := boxed_of (hW bp (by simp)) cp
  have ce0 := boxed_of (hW be (by simp)) ce
  have cv0 := boxed_of (hW bv (by simp)) cv
  clear cp ce cv hW
  refine callsIn_of_wp Tryd.func91 rfl trivial ?_ rfl
  simp only [Tryd.ntmps91, List.size_toArray, List.length_cons, List.length_nil, Nat.reduceAdd, Nat.reduceSub, Array.replicate_succ, Array.replicate_zero, List.push_toArray, List.append_toArray, List.nil_append, List.cons_append]
  have cpc := cp0.cell
  gi_wp2
  gi_loopw [7, 8] (fun _ _ wr => ∃ (pre : List (List UInt8)) (rest : List UInt8) (k : Nat), pre ++ linesF k rest = linesF l.length l ∧ rest.length ≤ k ∧ rest.length ≤ 1000000 ∧
      Boxed wr bp 9 (.string ⟨#[10]⟩) ∧ Boxed wr be 9 (.string (bs rest)) ∧ Boxed wr bv 3 (.int .i64 0) ∧ J pre wr) (fun _ _ wr => lenAt wr be)
  case atStart => exact ⟨[], l, l.length, rfl, Nat.le_refl _, hl, cp0, ce0, cv0, hJ0⟩
  case round =>
    obtain ⟨pre, rest, k, hpre, hk, hrl, cp, ce, cv, hJ⟩ := hrel
    have cpc := cp.cell
    have cec := ce.cell
    have cvc := cv.cell
    have cef := ce.frozen
    by_cases h10 : (10 : UInt8) ∈ rest
    · obtain ⟨k', rfl⟩ : ∃ k', k = k' + 1 := ⟨k - 1, by have := List.length_pos_of_mem h10; omega⟩
      have hlen := line_len rest h10
      have hix := hIdx rest
      rw [idx_some rest h10] at hix
      have hfr : (bs rest).extract 0 (rest.takeWhile (· != 10)).length = bs (rest.takeWhile (· != 10)) := by
        rw [bs_extract]; simp [line_take rest h10]
      have hdr : (bs rest).extract ((rest.takeWhile (· != 10)).length + 1) rest.length = bs ((rest.dropWhile (· != 10)).drop 1) := by
        rw [bs_extract, line_drop rest h10, List.take_of_length_le (by have := congrArg List.length (split10 rest h10); simp only [List.length_append, List.length_cons] at this; omega)]
      have hnl : ((rest.dropWhile (· != 10)).drop 1).length < rest.length := by have := congrArg List.length (split10 rest h10); simp only [List.length_append, List.length_cons] at this; omega
      rw [linesF, if_pos h10] at hpre
      have hpx : pre ++ [rest.takeWhile (· != 10)] <+: linesF l.length l := ⟨_, by rw [← hpre, List.append_assoc, List.singleton_append]⟩
      obtain ⟨fn, tmps, assign, body, hy, hR⟩ := hY pre _ wr hpx hJ
      have hsz := bs_size rest
      generalize rest.takeWhile (· != 10) = line at *
      generalize (rest.dropWhile (· != 10)).drop 1 = rest' at *
      have HIX := Lib.hid hix; clear hix
      have HPRE := Lib.hid hpre; clear hpre
      gi_wp2
      refine ⟨trivial, (fun h => by cases h), (callsIn_wide.2 (HIX.out _)).mono ?_⟩
      rintro e w' ⟨rfl, rfl⟩
      gi_wp2
      refine ⟨(fun h => by cases h), hR.mono ?_⟩
      rintro e W3 ⟨rfl, hJ3, hks⟩
      have cp3 := boxed_of (hks bp (by simp)) cp
      have ce3 := boxed_of (hks be (by simp)) ce
      have cv3 := boxed_of (hks bv (by simp)) cv
      have cpc3 := cp3.cell
      have cec3 := ce3.cell
      have cef3 := ce3.frozen
      have hml := lenAt_eq ce.cell
      have HML := Lib.hid hml
      clear cpc cec cvc cef cp ce cv hJ hR hml
      gi_wp2
      go_roundw
      case rel => exact ⟨pre ++ [line], rest', k', by rw [← HPRE.out]; simp, by omega, by omega, cp3.kept (grownBy_setCell' _ _ _) (by simpa using h1.symm), ce3.set _, cv3.kept (grownBy_setCell' _ _ _) (by simpa using h2.symm), hJs _ _ _ hJ3⟩
      case measure => rw [lenAt_eq (ce3.set _).cell, HML.out, bs_size, bs_size]; exact hnl
    · have hix := hIdx rest
      rw [idx_none rest h10] at hix
      have hln : linesF k rest = [rest] := by
        cases k with
        | zero => rfl
        | succ k => rw [linesF, if_neg h10]
      rw [hln] at hpre
      obtain ⟨fn, tmps, assign, body, hy, hR⟩ := hY pre _ wr ⟨[], by rw [List.append_nil, hpre]⟩ hJ
      rw [hpre] at hR
      have HIX := Lib.hid hix; clear hix
      have HPRE := Lib.hid hpre; clear hpre
      gi_wp2
      refine ⟨trivial, (fun h => by cases h), (callsIn_wide.2 (HIX.out _)).mono ?_⟩
      rintro e w' ⟨rfl, rfl⟩
      gi_wp2
      refine ⟨(fun h => by cases h), hR.mono ?_⟩
      rintro e W3 ⟨rfl, hJ3, hks⟩
      gi_wp2
      go_end0
      exact ⟨⟨_, rfl⟩, hJ3⟩
end Go.Proofs.YtmgkoehclabejaaDoor
