/- The answers' keywords, names, places. -/
import Derived.Test.YtgikihbnafadjaaDoorC
namespace Go.Proofs.YtgikihbnafadjaaDoor
open Go Go.RowKit Go.Lib

set_option maxRecDepth 100000 in
set_option maxHeartbeats 4000000 in
/-- The answers' Key -/
theorem rkey_any (l : Wd) (w : World) : Calls Tryd.prog 16 #[.string (bs l)] w fun e w' => e = .returned (.bool (isKey l)) ∧ Below w.heap.size w w' := by
  go_enter Tryd.func16, Tryd.ntmps16
  go_wp2
  go_loopw [4] (fun i wr => ∃ k : Nat, k ≤ 21 ∧ i = .int .i64 k ∧ Hid (∀ j, j < k → nth keywords j ≠ l) ∧ Hid (∀ j, j < 21 → wr.cell? ⟨w.heap.size, j, none⟩ = some (.string (bs (nth keywords j)))) ∧ Hid (Below w.heap.size w wr)) (fun i _ => 21 - (Lib.intOf i).toNat)
  case atStart =>
    refine ⟨0, Nat.zero_le _, rfl, Lib.hid fun j h0 => absurd h0 (Nat.not_lt_zero _), Lib.hid fun j hj => ?_, Lib.hid ((Below.refl _ _).alloc (Nat.le_refl _) _)⟩
    have hk : j < keywords.length := hj
    have e := strs_nth hk
    have := (World.rowIs_alloc w (strs keywords) 9 (fun i => ((strs keywords)[i]?).getD (.bool false)) (fun i hi => by simp [hi])).cell (i := j) (by rw [strs_size]; exact hj)
    rw [e] at this
    exact this
  case round =>
    obtain ⟨k, hk, rfl, hn, HC, HB⟩ := hrel
    by_cases hlt : k < 21
    · have hc := HC.out k hlt
      have hm := Lib.hid (nth_mem (L := keywords) hlt)
      obtain ⟨x, hxe⟩ : ∃ x, x = nth keywords k := ⟨_, rfl⟩
      have hq := bs_eq2 x l
      rw [← hxe] at hc hm
      have HX := Lib.hid hxe; clear hxe
      by_cases he : x = l
      · rw [decide_eq_true he] at hq
        have HE := Lib.hid he; clear he
        go_wp2
        go_ret
        exact ⟨ret_bool (by have := hm.out; rw [HE.out] at this; simpa [isKey] using this), HB.out⟩
      · rw [decide_eq_false he] at hq
        have HE := Lib.hid he; clear he
        go_wp2
        go_roundw
        case rel => exact ⟨k + 1, by omega, by go_num, Lib.hid fun j hj => by
          by_cases e : j = k
          · subst e; rw [← HX.out]; exact HE.out
          · exact hn.out j (by omega), HC, HB⟩
        case measure => simp [Lib.intOf]; omega
    · have hF : isKey l = false := not_mem fun j hj => hn.out j (by have : keywords.length = 21 := rfl; omega)
      have HF := Lib.hid hF; clear hF
      go_wp2
      go_ret
      exact ⟨ret_bool HF.out.symm, HB.out⟩

theorem hd_at {p : UInt8 → Bool} {l : Wd} (h : 0 < l.length) : hd p l = p (l[0]'h) := by
  cases l with
  | nil => simp at h
  | cons c l => rfl
theorem lastN_succ (l : Wd) (k : Nat) : lastN l (k + 1) = if l[k]? = some 10 then (k : Int) else lastN l k := rfl
/-- Is a text a name? -/
def isName (l : Wd) : Bool := decide (0 < l.length) && decide (l.length ≤ 12) && hd isL l && !isKey l && l.all isW
set_option maxRecDepth 100000 in
set_option maxHeartbeats 4000000 in
/-- The answers' Name -/
theorem rname_any (l : Wd) (hl : l.length ≤ 100000) (w : World) : Calls Tryd.prog 18 #[.string (bs l)] w fun e w' => e = .returned (.bool (isName l)) ∧ Below w.heap.size w w' := by
  have hsz := bs_size l
  have HK := Lib.hid (rkey_any l)
  have HW := Lib.hid rword_any
  by_cases h0 : l.length = 0
  · have hF : isName l = false := by simp [isName, h0]
    have HF := Lib.hid hF; clear hF
    go_enter Tryd.func18, Tryd.ntmps18
    go_wp2
    go_ret
    exact ⟨ret_bool HF.out.symm, Below.refl _ _⟩
  by_cases h12 : 12 < l.length
  · have hF : isName l = false := by simp [isName, show ¬ l.length ≤ 12 by omega]
    have HF := Lib.hid hF; clear hF
    have h12' : (12 : Int) < (l.length : Int) := by omega
    have h0' : ¬ ((l.length : Int) = 0) := by omega
    go_enter Tryd.func18, Tryd.ntmps18
    go_wp2
    go_ret
    exact ⟨ret_bool HF.out.symm, Below.refl _ _⟩
  have h12' : ¬ (12 : Int) < (l.length : Int) := by omega
  have h0' : ((l.length : Int) == 0) = false := by simp; exact fun e => h0 (by rw [e]; rfl)
  have hg := bs_at l 0 (by omega) (by rw [hsz]; omega)
  have hp : 0 < (bs l).size := by omega
  have hL := rletter_any l[0]
  have hhd : hd isL l = isL l[0] := hd_at _
  have hN : isName l = (isL l[0] && !isKey l && l.all isW) := by
    simp only [isName, hhd, show l.length ≤ 12 by omega, show 0 < l.length by omega, decide_true, Bool.true_and]
  rw [hN]
  clear hN hhd
  have HL := Lib.hid hL; clear hL
  generalize isKey l = kk at *
  cases hp1 : isL l[0] with
  | false =>
    rw [hp1] at HL
    go_enter Tryd.func18, Tryd.ntmps18
    go_wp2_with fail
    refine (HL.out _).mono ?_
    rintro e w1 ⟨rfl, rfl⟩
    go_wp2
    go_ret
    exact ⟨ret_bool (by simp), Below.refl _ _⟩
  | true =>
    rw [hp1] at HL
    cases kk with
    | true =>
      go_enter Tryd.func18, Tryd.ntmps18
      go_wp2_with fail
      refine (HL.out _).mono ?_
      rintro e w1 ⟨rfl, rfl⟩
      go_wp2_with fail
      refine (HK.out _).mono ?_
      rintro e w1 ⟨rfl, hb⟩
      go_wp2
      go_ret
      exact ⟨ret_bool (by simp), hb⟩
    | false =>
      go_enter Tryd.func18, Tryd.ntmps18
      go_wp2_with fail
      refine (HL.out _).mono ?_
      rintro e w1 ⟨rfl, rfl⟩
      go_wp2_with fail
      refine (HK.out _).mono ?_
      rintro e w1 ⟨rfl, hb⟩
      have HB := Lib.hid hb; clear hb
      go_wp2
      go_loop [3] (fun i => ∃ k : Nat, k ≤ l.length ∧ i = .int .i64 k ∧ Hid (∀ j (h : j < l.length), j < k → isW l[j] = true)) (fun i => l.length - (Lib.intOf i).toNat)
      case atStart => exact ⟨0, Nat.zero_le _, rfl, Lib.hid fun j h h0 => absurd h0 (Nat.not_lt_zero _)⟩
      case round =>
        obtain ⟨k, hk, rfl, hn⟩ := hrel
        by_cases hlt : k < l.length
        · have hg2 := bs_at l k hlt (by rw [hsz]; exact hlt)
          clear hg
          cases hq : isW l[k] with
          | true =>
            have H1 := Lib.hid (HW.out l[k]); rw [hq] at H1
            have HQ := Lib.hid hq; clear hq
            go_wp2_with fail
            refine (H1.out _).mono ?_
            rintro e w2 ⟨rfl, hw2⟩
            have hw3 := hw2.symm; subst hw3; clear hw2
            go_wp2
            go_round
            case rel => exact ⟨k + 1, by omega, by go_num, Lib.hid fun j hj hj2 => by
              by_cases e : j = k
              · subst e; exact HQ.out
              · exact hn.out j hj (by omega)⟩
            case measure => simp [Lib.intOf]; omega
          | false =>
            have H1 := Lib.hid (HW.out l[k]); rw [hq] at H1
            have hall : l.all isW = false := by
              rw [List.all_eq_false]
              exact ⟨l[k], List.getElem_mem hlt, by rw [hq]; simp⟩
            have HA := Lib.hid hall; clear hall hq
            go_wp2_with fail
            refine (H1.out _).mono ?_
            rintro e w2 ⟨rfl, rfl⟩
            go_wp2
            go_ret
            exact ⟨ret_bool (by rw [HA.out]; simp), HB.out⟩
        · have hall : l.all isW = true := by
            rw [List.all_eq_true]
            intro x hx
            obtain ⟨j, hj, rfl⟩ := List.getElem_of_mem hx
            exact hn.out j hj (by omega)
          have HA := Lib.hid hall; clear hall hg
          go_wp2
          go_ret
          exact ⟨ret_bool (by rw [HA.out]), HB.out⟩

/-- The place that counts. -/
def clamp (l : Wd) (at' : Int) : Nat := min at'.toNat l.length
/-- Line and column. -/
def lineOf (l : Wd) (a : Nat) : Int := 1 + cntN l a
def colOf (l : Wd) (a : Nat) : Int := (a : Int) - lastN l a
set_option maxRecDepth 100000 in
set_option maxHeartbeats 4000000 in
/-- The answers' Place -/
theorem rplace_any (l : Wd) (hl : l.length ≤ 100000) (a : Int) (ha : -9223372036854775808 ≤ a ∧ a ≤ 9223372036854775807) (w : World) :
    Calls Tryd.prog 14 #[.string (bs l), .int .i64 a] w fun e w' => e = .returned (.tuple #[.int .i64 (lineOf l (clamp l a)), .int .i64 (colOf l (clamp l a))]) ∧ w = w' := by
  have hsz := bs_size l
  obtain ⟨ha1, ha2⟩ := ha
  have hcl : ∀ k : Nat, k ≤ l.length → ((k : Int) ≤ a ∨ k = 0) → (a ≤ (k : Int) ∨ ¬ k < l.length) → clamp l a = k := by
    intro k h1 h2 h3; unfold clamp; omega
  have HCL := Lib.hid hcl; clear hcl
  go_enter Tryd.func14, Tryd.ntmps14
  go_wp2
  go_loop [6, 7, 8] (fun s6 s7 i => ∃ (k : Nat) (p q : Int), k ≤ l.length ∧ i = .int .i64 k ∧ s6 = .int .i64 p ∧ s7 = .int .i64 q ∧ Hid (p = lineOf l k ∧ q = colOf l k) ∧ ((k : Int) ≤ a ∨ k = 0) ∧ 0 ≤ p ∧ p ≤ 200000 ∧ 0 ≤ q ∧ q ≤ 200000) (fun _ _ i => l.length - (Lib.intOf i).toNat)
  case atStart => exact ⟨0, 1, 1, Nat.zero_le _, rfl, rfl, rfl, Lib.hid ⟨rfl, rfl⟩, .inr rfl, by decide, by decide, by decide, by decide⟩
  case round =>
    obtain ⟨k, p, q, hk, rfl, rfl, rfl, HP, hka, hp0, hp1, hq0, hq1⟩ := hrel
    by_cases h1 : (k : Int) < a
    · by_cases hlt : k < l.length
      · have hg := bs_at l k hlt (by rw [hsz]; exact hlt)
        have hb := u8_beq l[k] 10
        have hcn : lineOf l (k + 1) = (if l[k] = 10 then lineOf l k + 1 else lineOf l k) ∧ colOf l (k + 1) = (if l[k] = 10 then 1 else colOf l k + 1) := by
          unfold lineOf colOf
          rw [lastN_succ, cntN_succ, List.getElem?_eq_getElem hlt]
          by_cases e : l[k] = 10
          · have e2 : some l[k] = some 10 := by rw [e]
            rw [if_pos e2, if_pos e, if_pos e2, if_pos e]; omega
          · have e2 : ¬ some l[k] = some 10 := fun h => e (Option.some.inj h)
            rw [if_neg e2, if_neg e, if_neg e2, if_neg e]; omega
        have hbd : lineOf l (k + 1) ≤ 200000 ∧ colOf l (k + 1) ≤ 200000 ∧ 0 ≤ lineOf l (k + 1) ∧ 0 ≤ colOf l (k + 1) := by
          have h2 := lastN_ge l (k + 1)
          have h3 : cntN l (k + 1) ≤ k + 1 := by
            rw [← cntN_take l _ (by omega)]
            have := List.count_le_length (a := (10 : UInt8)) (l := l.take (k + 1))
            rw [List.length_take] at this; omega
          unfold lineOf colOf
          omega
        rw [← HP.out.1, ← HP.out.2] at hcn
        by_cases he : l[k] = 10
        · rw [show (l[k] == 10) = true by simpa using he] at hb
          rw [if_pos he, if_pos he] at hcn
          rw [hcn.1, hcn.2] at hbd
          have HN := Lib.hid hcn
          have HE := Lib.hid he; clear he hcn
          have hb2 : ((l[k].toNat : Int) == 10) = true := hb
          clear hb
          go_wp2
          go_round
          case rel => exact ⟨k + 1, p + 1, 1, by omega, by go_num, rfl, rfl, Lib.hid ⟨HN.out.1.symm, HN.out.2.symm⟩, by omega, by omega, by omega, by omega, by omega⟩
          case measure => simp [Lib.intOf]; omega
        · rw [show (l[k] == 10) = false by simpa using he] at hb
          rw [if_neg he, if_neg he] at hcn
          rw [hcn.1, hcn.2] at hbd
          have HN := Lib.hid hcn
          have HE := Lib.hid he; clear he hcn
          have hb2 : ((l[k].toNat : Int) == 10) = false := hb
          clear hb
          go_wp2
          go_round
          case rel => exact ⟨k + 1, p, q + 1, by omega, by go_num, rfl, rfl, Lib.hid ⟨HN.out.1.symm, HN.out.2.symm⟩, by omega, by omega, by omega, by omega, by omega⟩
          case measure => simp [Lib.intOf]; omega
      · have HC := Lib.hid (HCL.out k hk hka (.inr hlt))
        go_wp2
        go_ret2
        rw [HC.out, ← HP.out.1, ← HP.out.2]
        exact ⟨rfl, rfl⟩
    · have HC := Lib.hid (HCL.out k hk hka (.inl (by omega)))
      go_wp2
      go_ret2
      rw [HC.out, ← HP.out.1, ← HP.out.2]
      exact ⟨rfl, rfl⟩
end Go.Proofs.YtgikihbnafadjaaDoor
