/- Contract: a number of a text (the answers'). -/
import Derived.Test.YtmgkoehclabejaaDoorPN
namespace Go.Proofs.YtmgkoehclabejaaDoor
open Go Go.RowKit Go.Lib

theorem numR_minus_none {l : List UInt8} (h : l.head? = some 45) (hx : numB (l.drop 1) = none) : numR l = none := by unfold numR; rw [if_pos h, hx]
theorem numR_minus_zero {l : List UInt8} (h : l.head? = some 45) (hx : numB (l.drop 1) = some 0) : numR l = none := by unfold numR; rw [if_pos h, hx]; rfl
theorem numR_minus_some {l : List UInt8} (h : l.head? = some 45) {x : Int} (hx : numB (l.drop 1) = some x) (h0 : x ≠ 0) : numR l = some (-x) := by unfold numR; rw [if_pos h, hx]; dsimp only; rw [if_pos h0]
theorem numR_plain {l : List UInt8} (h : l.head? ≠ some 45) : numR l = numB l := by unfold numR; rw [if_neg h]
theorem numB_bad {l : List UInt8} {k : Nat} (hk : k < l.length) (hd : isDig l[k] = false) : numB l = none := by
  unfold numB
  rw [if_pos]
  refine .inr (.inr ?_)
  rw [← Bool.not_eq_true, List.all_eq_true]
  exact fun h => by have := h _ (List.getElem_mem hk); rw [hd] at this; cases this
theorem numB_long {l : List UInt8} (h : 6 < l.length) : numB l = none := by unfold numB; rw [if_pos (.inr (.inl h))]
theorem numB_empty {l : List UInt8} (h : l.length = 0) : numB l = none := by unfold numB; rw [if_pos (.inl (List.length_eq_zero_iff.1 h))]
theorem numB_all {l : List UInt8} (h0 : l.length ≠ 0) (h6 : l.length ≤ 6) (h : l.all isDig = true) : numB l = some (valD l) := by
  unfold numB
  rw [if_neg]
  have : l ≠ [] := fun e => h0 (by simp [e])
  simp only [this, h, false_or, Bool.true_eq_false, or_false]; omega
def NumPost (o : Option Int) (w : World) (e : Ending) (w' : World) : Prop := e = .returned (numV o) ∧ w' = w

set_option maxRecDepth 100000 in
set_option maxHeartbeats 4000000 in
theorem refNumber_minus (l : List UInt8) (h : l.head? = some 45) (hl : l.length ≤ 1000000) (w : World) : Calls Tryd.prog 53 #[.string (bs l)] w (NumPost (numR l) w) := by
  have h0 : 0 < l.length := by cases l <;> simp at h ⊢
  have hg0 : (bs l)[0]'(by rw [bs_size]; exact h0) = 45 := by
    rw [bs_at l 0 h0 _]
    cases l with
    | nil => simp at h0
    | cons c l => show c = 45; simpa using h
  have hnone : numB (l.drop 1) = none → numR l = none := numR_minus_none h
  have hzero : numB (l.drop 1) = some 0 → numR l = none := numR_minus_zero h
  have hsome : ∀ x, numB (l.drop 1) = some x → x ≠ 0 → numR l = some (-x) := fun x hx h0 => numR_minus_some h hx h0
  have hfr : (bs l).extract 1 l.length = bs (l.drop 1) := by
    rw [bs_extract, List.take_of_length_le (by simp)]
  have hlr : (l.drop 1).length ≤ 1000000 := by simp; omega
  have hsz := bs_size l
  have hpos : (0 : Int) < (l.length : Int) := by omega
  have hone : (1 : Int) ≤ (l.length : Int) := by omega
  have hsr := bs_size (l.drop 1)
  generalize l.drop 1 = r at *
  have HNONE := Lib.hid hnone
  have HZERO := Lib.hid hzero
  have HSOME := Lib.hid hsome
  clear hnone hzero hsome h
  go_enter Tryd.func53, Tryd.ntmps53
  go_wp2
  go_loopw [5, 6] (fun s5 i wr => ∃ k : Nat, k ≤ r.length ∧ k ≤ 6 ∧ i = .int .i64 k ∧ s5 = .int .i64 (valD (r.take k)) ∧ Hid ((r.take k).all isDig = true) ∧ wr = w) (fun _ i _ => r.length - (intOf i).toNat)
  case atStart => exact ⟨0, Nat.zero_le _, Nat.zero_le _, rfl, rfl, Lib.hid rfl, rfl⟩
  case round =>
    obtain ⟨k, hk, hk6, rfl, rfl, hd, rfl⟩ := hrel
    have hv := valD_small (l := r.take k) (by simp; omega) hd.out
    by_cases hlt : k < r.length
    · have hgx : (bs r)[k]'(by rw [bs_size]; exact hlt) = r[k] := bs_at r k hlt _
      have hlt' : (k : Int) < (r.length : Int) := by omega
      by_cases hdig : isDig r[k] = true
      · by_cases h6 : k = 6
        · have hn := HNONE.out (numB_long (by omega))
          have HN := Lib.hid hn
          have hd2 : 48 ≤ r[k].toNat ∧ r[k].toNat ≤ 57 := by simpa [isDig] using hdig
          obtain ⟨hd3, hd4⟩ := hd2
          have hd5 : (48 : Int) ≤ (r[k].toNat : Int) := by omega
          have hd6 : (r[k].toNat : Int) ≤ 57 := by omega
          subst h6
          clear hn hd hdig hd3 hd4
          generalize r[6] = c at *
          generalize valD (r.take 6) = n at *
          go_wp2
          go_ret2
          exact ⟨by rw [HN.out]; rfl, rfl⟩
        · have htk : r.take (k + 1) = r.take k ++ [r[k]] := by rw [List.take_add_one, List.getElem?_eq_getElem hlt]; rfl
          have hnv : valD (r.take (k + 1)) = 10 * valD (r.take k) + ((r[k].toNat : Int) - 48) := by rw [htk, valD_snoc]
          have hna : (r.take (k + 1)).all isDig = true := by rw [htk, List.all_append, hd.out]; simp [hdig]
          have HNA := Lib.hid hna
          have HNV := Lib.hid hnv
          have hd2 : 48 ≤ r[k].toNat ∧ r[k].toNat ≤ 57 := by simpa [isDig] using hdig
          obtain ⟨hd3, hd4⟩ := hd2
          have hd5 : (48 : Int) ≤ (r[k].toNat : Int) := by omega
          have hd6 : (r[k].toNat : Int) ≤ 57 := by omega
          have hk7 : k + 1 ≤ 6 := by omega
          have hk8 : ((k : Int) == 6) = false := by rw [beq_eq_false_iff_ne]; omega
          clear hna hnv htk hd hdig hd3 hd4 h6
          generalize r[k] = c at *
          generalize valD (r.take k) = n at *
          go_wp2
          go_roundw
          case rel => exact ⟨k + 1, by omega, hk7, by go_num, by rw [HNV.out], HNA, by first | rfl | trivial⟩
          case measure => simp [intOf] <;> omega
      · have hn := HNONE.out (numB_bad hlt (Bool.eq_false_iff.2 hdig))
        have HN := Lib.hid hn
        have hd2 : r[k].toNat < 48 ∨ 57 < r[k].toNat := by
          simp only [isDig, Bool.and_eq_true, decide_eq_true_eq] at hdig; omega
        clear hn hd hdig
        generalize r[k] = c at *
        generalize valD (r.take k) = n at *
        rcases hd2 with hd2 | hd2
        · have hd5 : (c.toNat : Int) < 48 := by omega
          go_wp2
          go_ret2
          exact ⟨by rw [HN.out]; rfl, rfl⟩
        · have hd5 : (57 : Int) < (c.toNat : Int) := by omega
          go_wp2
          go_ret2
          exact ⟨by rw [HN.out]; rfl, rfl⟩
    · obtain rfl : k = r.length := by omega
      have hd' := hd.out
      rw [List.take_length] at hd' hv ⊢
      clear hd hlt
      by_cases h0 : r.length = 0
      · have hn := HNONE.out (numB_empty h0)
        have HN := Lib.hid hn
        clear hn hd'
        generalize valD r = n at *
        go_wp2
        go_ret2
        exact ⟨by rw [HN.out]; rfl, rfl⟩
      · by_cases hz : valD r = 0
        · have hn := HZERO.out (by rw [numB_all h0 hk6 hd', hz])
          have HN := Lib.hid hn
          have h0b : ((r.length : Int) == 0) = false := by rw [beq_eq_false_iff_ne]; omega
          clear hn hd'
          generalize valD r = n at *
          subst hz
          go_wp2
          go_ret2
          exact ⟨by rw [HN.out]; rfl, rfl⟩
        · have hn := HSOME.out _ (numB_all h0 hk6 hd') hz
          have HN := Lib.hid hn
          have h0b : ((r.length : Int) == 0) = false := by rw [beq_eq_false_iff_ne]; omega
          have hzb : (valD r == 0) = false := by rw [beq_eq_false_iff_ne]; exact hz
          clear hn hd' hz
          generalize valD r = n at *
          go_wp2
          go_ret2
          exact ⟨by rw [HN.out]; rfl, rfl⟩
set_option maxRecDepth 100000 in
set_option maxHeartbeats 4000000 in
theorem refNumber_plain (r : List UInt8) (h : r.head? ≠ some 45) (hl : r.length ≤ 1000000) (w : World) : Calls Tryd.prog 53 #[.string (bs r)] w (NumPost (numR r) w) := by
  have hnone : numB r = none → numR r = none := fun hx => by rw [numR_plain h, hx]
  have hsome : ∀ x, numB r = some x → numR r = some x := fun x hx => by rw [numR_plain h, hx]
  have HNONE := Lib.hid hnone
  have HSOME := Lib.hid hsome
  have hsr := bs_size r
  clear hnone hsome
  by_cases hp : 0 < r.length
  · have hg0 : (bs r)[0]'(by rw [bs_size]; exact hp) = r[0] := bs_at r 0 hp _
    have hne : (((r[0]).toNat : Int) == 45) = false := by
      have hc : r[0] ≠ 45 := fun e => h (by rw [List.head?_eq_getElem?, List.getElem?_eq_getElem hp]; exact congrArg some e)
      have hb := u8_beq r[0] 45
      have hc' : (r[0] == (45 : UInt8)) = false := beq_eq_false_iff_ne.2 hc
      exact hb.trans hc'
    have hpos : (0 : Int) < (r.length : Int) := by omega
    generalize r[0] = c0 at *
    go_enter Tryd.func53, Tryd.ntmps53
    go_wp2
    go_loopw [5, 6] (fun s5 i wr => ∃ k : Nat, k ≤ r.length ∧ k ≤ 6 ∧ i = .int .i64 k ∧ s5 = .int .i64 (valD (r.take k)) ∧ Hid ((r.take k).all isDig = true) ∧ wr = w) (fun _ i _ => r.length - (intOf i).toNat)
    case atStart => exact ⟨0, Nat.zero_le _, Nat.zero_le _, rfl, rfl, Lib.hid rfl, rfl⟩
    case round =>
      obtain ⟨k, hk, hk6, rfl, rfl, hd, rfl⟩ := hrel
      have hv := valD_small (l := r.take k) (by simp; omega) hd.out
      by_cases hlt : k < r.length
      · have hgx : (bs r)[k]'(by rw [bs_size]; exact hlt) = r[k] := bs_at r k hlt _
        have hlt' : (k : Int) < (r.length : Int) := by omega
        by_cases hdig : isDig r[k] = true
        · by_cases h6 : k = 6
          · have hn := HNONE.out (numB_long (by omega))
            have HN := Lib.hid hn
            have hd2 : 48 ≤ r[k].toNat ∧ r[k].toNat ≤ 57 := by simpa [isDig] using hdig
            obtain ⟨hd3, hd4⟩ := hd2
            have hd5 : (48 : Int) ≤ (r[k].toNat : Int) := by omega
            have hd6 : (r[k].toNat : Int) ≤ 57 := by omega
            subst h6
            clear hn hd hdig hd3 hd4
            generalize r[6] = c at *
            generalize valD (r.take 6) = n at *
            go_wp2
            go_ret2
            exact ⟨by rw [HN.out]; rfl, rfl⟩
          · have htk : r.take (k + 1) = r.take k ++ [r[k]] := by rw [List.take_add_one, List.getElem?_eq_getElem hlt]; rfl
            have hnv : valD (r.take (k + 1)) = 10 * valD (r.take k) + ((r[k].toNat : Int) - 48) := by rw [htk, valD_snoc]
            have hna : (r.take (k + 1)).all isDig = true := by rw [htk, List.all_append, hd.out]; simp [hdig]
            have HNA := Lib.hid hna
            have HNV := Lib.hid hnv
            have hd2 : 48 ≤ r[k].toNat ∧ r[k].toNat ≤ 57 := by simpa [isDig] using hdig
            obtain ⟨hd3, hd4⟩ := hd2
            have hd5 : (48 : Int) ≤ (r[k].toNat : Int) := by omega
            have hd6 : (r[k].toNat : Int) ≤ 57 := by omega
            have hk7 : k + 1 ≤ 6 := by omega
            have hk8 : ((k : Int) == 6) = false := by rw [beq_eq_false_iff_ne]; omega
            clear hna hnv htk hd hdig hd3 hd4 h6
            generalize r[k] = c at *
            generalize valD (r.take k) = n at *
            go_wp2
            go_roundw
            case rel => exact ⟨k + 1, by omega, hk7, by go_num, by rw [HNV.out], HNA, by first | rfl | trivial⟩
            case measure => simp [intOf] <;> omega
        · have hn := HNONE.out (numB_bad hlt (Bool.eq_false_iff.2 hdig))
          have HN := Lib.hid hn
          have hd2 : r[k].toNat < 48 ∨ 57 < r[k].toNat := by
            simp only [isDig, Bool.and_eq_true, decide_eq_true_eq] at hdig; omega
          clear hn hd hdig
          generalize r[k] = c at *
          generalize valD (r.take k) = n at *
          rcases hd2 with hd2 | hd2
          · have hd5 : (c.toNat : Int) < 48 := by omega
            go_wp2
            go_ret2
            exact ⟨by rw [HN.out]; rfl, rfl⟩
          · have hd5 : (57 : Int) < (c.toNat : Int) := by omega
            go_wp2
            go_ret2
            exact ⟨by rw [HN.out]; rfl, rfl⟩
      · obtain rfl : k = r.length := by omega
        have hd' := hd.out
        rw [List.take_length] at hd' hv ⊢
        clear hd hlt
        by_cases h0 : r.length = 0
        · have hn := HNONE.out (numB_empty h0)
          have HN := Lib.hid hn
          clear hn hd'
          generalize valD r = n at *
          go_wp2
          go_ret2
          exact ⟨by rw [HN.out]; rfl, rfl⟩
        · have hn := HSOME.out _ (numB_all h0 hk6 hd')
          have HN := Lib.hid hn
          have h0b : ((r.length : Int) == 0) = false := by rw [beq_eq_false_iff_ne]; omega
          clear hn hd'
          generalize valD r = n at *
          go_wp2
          go_ret2
          exact ⟨by rw [HN.out]; rfl, rfl⟩
  · have hp0 : r.length = 0 := by omega
    obtain rfl : r = [] := List.length_eq_zero_iff.1 hp0
    have hn := HNONE.out (numB_empty rfl)
    have HN := Lib.hid hn
    clear hn
    go_enter Tryd.func53, Tryd.ntmps53
    go_wp2
    go_loopw [5, 6] (fun s5 i wr => s5 = .int .i64 0 ∧ i = .int .i64 0 ∧ wr = w) (fun _ _ _ => 0)
    case atStart => exact ⟨rfl, rfl, rfl⟩
    case round =>
      obtain ⟨rfl, rfl, rfl⟩ := hrel
      go_wp2
      go_ret2
      exact ⟨by rw [HN.out]; rfl, rfl⟩
theorem refNumber_any (l : List UInt8) (hl : l.length ≤ 1000000) (w : World) : Calls Tryd.prog 53 #[.string (bs l)] w (NumPost (numR l) w) := by
  by_cases h : l.head? = some 45
  · exact refNumber_minus l h hl w
  · exact refNumber_plain l h hl w
end Go.Proofs.YtmgkoehclabejaaDoor
