/- Contracts: Holds, and the answer's. -/
import Derived.Test.YtoffhgiljnagcaaRD
import Derived.Outline
import Derived.WalkSmall
namespace Go.Proofs.Ytoffhgiljnagcaa
open Go.RowKit Go.Lib

/-- A slice of bools in memory. -/
def HasB (w : World) (a : Option Addr) (n : Nat) (f : Nat → Bool) : Prop :=
  n = 0 ∨ ∃ b off, a = some ⟨b, off, none⟩ ∧ b < w.heap.size ∧ ∀ j, j < n → w.cell? ⟨b, off + j, none⟩ = some (.bool (f j))
theorem HasB.below {w w' : World} {a : Option Addr} {n : Nat} {f : Nat → Bool} (h : HasB w a n f) (hb : Below w.heap.size w w') : HasB w' a n f := by
  rcases h with h | ⟨b, off, ha, hlt, hc⟩
  · exact .inl h
  · exact .inr ⟨b, off, ha, Nat.lt_of_lt_of_le hlt hb.size, fun j hj => by rw [← hc j hj]; exact hb.cell (p := ⟨b, off + j, none⟩) hlt⟩
theorem HasB.drewN {w : World} {a : Option Addr} {n : Nat} {f : Nat → Bool} (h : HasB w a n f) (q : Nat) : HasB (w.drewN q) a n f := h

/-- Is a literal true in a model? -/
def isM (g : Nat → Bool) (k : Nat) (x : Int) : Bool := decide (av x ≤ k) && g (av x - 1).toNat
def hv (g : Nat → Bool) (k : Nat) (x : Int) : Bool := lit x && (isM g k x == decide (0 < x))
theorem hv_not {g : Nat → Bool} {k : Nat} {x : Int} (h : lit x = false) : hv g k x = false := by unfold hv; rw [h]; rfl
theorem av_pos {x : Int} (h : lit x = true) : 1 ≤ av x ∧ av x ≤ 100000 := by
  have := lit_iff.1 h
  unfold av; split <;> omega

set_option maxHeartbeats 400000 in
theorem holds1_not (x : Int) (B : Nat) (g : Nat → Bool) (k : Nat) (w : World) (hl : lit x = false) :
    Calls Try.prog 62 #[.int .i64 x, .pointer (some ⟨B, 0, none⟩)] w fun e w' => e = .returned (.bool (hv g k x)) ∧ w = w' := by
  have h := fun W => literal_any x W
  rw [hl] at h
  have HL := Lib.hid h; clear h
  rw [hv_not hl]
  clear hl
  go_enter Try.func62, Try.ntmps62
  go_wp2_with (go_at_call 63; refine (HL.out _).mono ?_; rintro e w' ⟨rfl, rfl⟩)
  go_ret
  exact ⟨rfl, rfl⟩

set_option maxHeartbeats 400000 in
theorem holds1_lit (x : Int) (B : Nat) (a : Option Addr) (k c : Nat) (g : Nat → Bool) (w : World) (hl : lit x = true) (hk : k ≤ 140737488355328)
    (hB : w.cell? ⟨B, 0, none⟩ = some (.slice a k c)) (h : HasB w a k g) :
    Calls Try.prog 62 #[.int .i64 x, .pointer (some ⟨B, 0, none⟩)] w fun e w' => e = .returned (.bool (hv g k x)) ∧ w = w' := by
  have h1 := fun W => literal_any x W
  have h2 := fun W => variable_any x (lit_iff.1 hl).2.1 (lit_iff.1 hl).2.2 W
  obtain ⟨hp1, hp2⟩ := av_pos hl
  have hx := lit_iff.1 hl
  rw [hl] at h1
  have e : hv g k x = (isM g k x == decide (0 < x)) := by unfold hv; rw [hl]; rfl
  rw [e]
  unfold isM
  generalize av x = V at *
  have HL := Lib.hid h1; clear h1
  have HV := Lib.hid h2; clear h2
  clear hl e
  by_cases hv1 : V ≤ k
  · rcases h with h0 | ⟨b, off, rfl, _, hc⟩
    · omega
    · have hcell := hc (V - 1).toNat (by omega)
      clear hc
      obtain ⟨m, rfl⟩ : ∃ m : Nat, V = (m : Int) + 1 := ⟨(V - 1).toNat, by omega⟩
      have em : ((m : Int) + 1 - 1).toNat = m := by omega
      rw [em] at hcell ⊢
      have hd : decide ((m : Int) + 1 ≤ (k : Int)) = true := by simpa using hv1
      rw [hd]
      simp only [Bool.true_and]
      clear em hd
      generalize g m = y at hcell ⊢
      by_cases hx0 : 0 < x
      · rw [decide_eq_true hx0]
        cases y
        all_goals
          go_enter Try.func62, Try.ntmps62
          go_wp2_with (first | (go_at_call 63; refine (HL.out _).mono ?_; rintro e w' ⟨rfl, rfl⟩) | (go_at_call 64; refine (HV.out _).mono ?_; rintro e w' ⟨rfl, rfl⟩))
          go_ret
          exact ⟨ret_bool (by simp <;> omega), rfl⟩
      · rw [decide_eq_false hx0]
        cases y
        all_goals
          go_enter Try.func62, Try.ntmps62
          go_wp2_with (first | (go_at_call 63; refine (HL.out _).mono ?_; rintro e w' ⟨rfl, rfl⟩) | (go_at_call 64; refine (HV.out _).mono ?_; rintro e w' ⟨rfl, rfl⟩))
          go_ret
          exact ⟨ret_bool (by simp <;> omega), rfl⟩
  · rw [decide_eq_false hv1]
    simp only [Bool.false_and]
    by_cases hx0 : 0 < x
    · rw [decide_eq_true hx0]
      go_enter Try.func62, Try.ntmps62
      go_wp2_with (first | (go_at_call 63; refine (HL.out _).mono ?_; rintro e w' ⟨rfl, rfl⟩) | (go_at_call 64; refine (HV.out _).mono ?_; rintro e w' ⟨rfl, rfl⟩))
      go_ret
      exact ⟨ret_bool (by simp <;> omega), rfl⟩
    · rw [decide_eq_false hx0]
      go_enter Try.func62, Try.ntmps62
      go_wp2_with (first | (go_at_call 63; refine (HL.out _).mono ?_; rintro e w' ⟨rfl, rfl⟩) | (go_at_call 64; refine (HV.out _).mono ?_; rintro e w' ⟨rfl, rfl⟩))
      go_ret
      exact ⟨ret_bool (by simp <;> omega), rfl⟩

theorem holds1_any (x : Int) (B : Nat) (a : Option Addr) (k c : Nat) (g : Nat → Bool) (w : World) (hk : k ≤ 140737488355328)
    (hB : w.cell? ⟨B, 0, none⟩ = some (.slice a k c)) (h : HasB w a k g) :
    Calls Try.prog 62 #[.int .i64 x, .pointer (some ⟨B, 0, none⟩)] w fun e w' => e = .returned (.bool (hv g k x)) ∧ w = w' := by
  cases hl : lit x
  · exact holds1_not x B g k w hl
  · exact holds1_lit x B a k c g w hl hk hB h

/-- Does a clause hold? -/
def holdsF (f : Nat → Int) (n : Nat) (g : Nat → Bool) (k : Nat) : Bool := (List.range n).any fun j => hv g k (f j)
theorem holdsF_iff {f : Nat → Int} {n : Nat} {g : Nat → Bool} {k : Nat} : holdsF f n g k = true ↔ ∃ j, j < n ∧ hv g k (f j) = true := by simp [holdsF]
theorem holdsF_not {f : Nat → Int} {n : Nat} {g : Nat → Bool} {k : Nat} : holdsF f n g k = false ↔ ∀ j, j < n → hv g k (f j) = false := by simp [holdsF]
theorem any_hv (f : Nat → Int) (n : Nat) (g : Nat → Bool) (k : Nat) : (lof f n).any (hv g k) = holdsF f n g k := by
  rw [Bool.eq_iff_iff]; simp [lof, holdsF]

theorem holds_in (B : Nat) (a : Option Addr) (n c : Nat) (f : Nat → Int) (am : Option Addr) (k cm : Nat) (g : Nat → Bool) (w : World) (hm : n ≤ 140737488355328) (hk : k ≤ 140737488355328) (h : Has w a n f) (hB0 : B < w.heap.size)
    (hB : w.cell? ⟨B, 0, none⟩ = some (.slice am k cm)) (hg : HasB w am k g) :
    Calls Try.prog 39 #[.slice a n c, .func (.func 62) #[] #[.pointer (some ⟨B, 0, none⟩)]] w fun e w' => e = .returned (.bool (holdsF f n g k)) ∧ ∃ q, w' = w.drewN q := by
  rcases h with rfl | ⟨b, off, rfl, _, hc⟩
  · refine (Try.slices_ContainsFunc_empty_f39 (α := Int) a c _ w).mono ?_
    rintro e w' ⟨rfl, rfl⟩
    exact ⟨rfl, 0, rfl⟩
  · have := Try.slices_ContainsFunc_f39 (Value.int .i64) (hv g k) 62 #[.pointer (some ⟨B, 0, none⟩)] (enters_of Try.func62 (by kernel_rfl) rfl) b off n c (lof f n) w
      (fun W x hb => (holds1_any x B am k cm g W hk (by rw [← hB]; exact hb.cell (p := ⟨B, 0, none⟩) hB0) (hg.below hb)).mono fun _ _ ⟨he, hw⟩ => ⟨he, 0, hw.symm⟩)
      (by simp [lof]) (by omega) (fun j hj => by rw [lof_length] at hj; rw [lof_getElem! hj]; exact hc j hj)
    rw [List.take_of_length_le (by simp [lof]), any_hv] at this
    exact this

def HoldsPost (f : Nat → Int) (n : Nat) (g : Nat → Bool) (k : Nat) (w : World) (e : Ending) (w' : World) : Prop := e = .returned (.bool (holdsF f n g k)) ∧ Below w.heap.size w w'
set_option maxHeartbeats 400000 in
theorem holds_any (a : Option Addr) (n c : Nat) (f : Nat → Int) (am : Option Addr) (k cm : Nat) (g : Nat → Bool) (w : World) (hm : n ≤ 140737488355328) (hk : k ≤ 140737488355328) (h : Has w a n f) (hg : HasB w am k g) :
    Calls Try.prog 37 #[.slice a n c, .slice am k cm] w (HoldsPost f n g k w) := by
  have hin : Calls Try.prog 39 #[.slice a n c, .func (.func 62) #[] #[.pointer (some ⟨w.heap.size, 0, none⟩)]] (w.alloc (.cells #[.slice am k cm] 34)) fun e w' => e = .returned (.bool (holdsF f n g k)) ∧ ∃ q, w' = (w.alloc (.cells #[.slice am k cm] 34)).drewN q :=
    holds_in w.heap.size a n c f am k cm g _ hm hk (h.below ((Below.refl _ _).alloc (Nat.le_refl _) _)) (by simp) (by go_simp) (hg.below ((Below.refl _ _).alloc (Nat.le_refl _) _))
  have hfin : ∀ q, HoldsPost f n g k w (.returned (.bool (holdsF f n g k))) ((w.alloc (.cells #[.slice am k cm] 34)).drewN q) := fun q => ⟨rfl, below_drewN ((Below.refl _ _).alloc (Nat.le_refl _) _) q⟩
  generalize hv0 : holdsF f n g k = v at hin hfin
  have HF := Lib.hid hfin; clear hfin
  have HI := Lib.hid hin; clear hin h hg hv0
  go_enter Try.func37, Try.ntmps37
  go_wp2_with fail
  refine HI.out.mono ?_
  rintro e w' ⟨rfl, q, rfl⟩
  go_wp2
  go_ret
  exact HF.out q

set_option maxHeartbeats 400000 in
theorem abs_any (x : Int) (h1 : -100000 ≤ x) (h2 : x ≤ 100000) (w : World) :
    Calls Try.prog 27 #[.int .i64 x] w fun e w' => e = .returned (.int .i64 (av x)) ∧ w = w' := by
  go_enter Try.func27, Try.ntmps27
  go_wp2
  all_goals
    go_ret
    exact ⟨ret_int (by unfold av; omega), rfl⟩

def StepOf (x : Int) (V : Int) (k : Nat) (g : Nat → Bool) : Bool := (decide (V ≤ k) && g (V - 1).toNat) == decide (0 < x)
theorem hv_step {g : Nat → Bool} {k : Nat} {x : Int} (h : lit x = true) : hv g k x = StepOf x (av x) k g := by unfold hv StepOf isM; rw [h]; rfl

set_option maxHeartbeats 2000000 in
theorem refHolds_core (b off n c : Nat) (f : Nat → Int) (am : Option Addr) (k cm : Nat) (g : Nat → Bool) (w : World) (hm : n ≤ 140737488355328) (hk : k ≤ 140737488355328)
    (hc : ∀ j, j < n → w.cell? ⟨b, off + j, none⟩ = some (.int .i64 (f j))) (hg : HasB w am k g) :
    Calls Try.prog 18 #[.slice (some ⟨b, off, none⟩) n c, .slice am k cm] w fun e w' => e = .returned (.bool (holdsF f n g k)) ∧ w = w' := by
  have HG := Lib.hid hg; clear hg
  go_enter Try.func18, Try.ntmps18
  go_wp2
  go_loop [5] (fun i => ∃ t : Nat, t ≤ n ∧ i = .int .i64 t ∧ Hid (∀ j, j < t → hv g k (f j) = false)) (fun i => n - (intOf i).toNat)
  case atStart => exact ⟨0, Nat.zero_le _, rfl, Lib.hid fun _ h => absurd h (Nat.not_lt_zero _)⟩
  case round =>
    obtain ⟨t, ht, rfl, hn⟩ := hrel
    by_cases hlt : t < n
    · have hcell := hc t hlt
      clear hc
      have hnext : hv g k (f t) = false → Hid (∀ j, j < t + 1 → hv g k (f j) = false) := fun h0 => Lib.hid fun j hj => by
        by_cases e : j = t
        · subst e; exact h0
        · exact hn.out j (by omega)
      have hret : hv g k (f t) = true → holdsF f n g k = true := fun h0 => holdsF_iff.2 ⟨t, hlt, h0⟩
      have h1 := fun W => refLiteral_any (f t) W
      cases hl : lit (f t)
      · rw [hl] at h1
        have HN := hnext (hv_not hl)
        have HL := Lib.hid h1; clear h1 hl hnext hret
        go_wp2_with (go_at_call 26; refine (HL.out _).mono ?_; rintro e w' ⟨rfl, rfl⟩)
        go_round
        case rel => exact ⟨t + 1, by omega, by go_num, HN⟩
        case measure => simp [intOf]; omega
      · rw [hl] at h1
        have h2 := fun W => abs_any (f t) (lit_iff.1 hl).2.1 (lit_iff.1 hl).2.2 W
        rw [hv_step hl] at hnext hret
        obtain ⟨hp1, hp2⟩ := av_pos hl
        have hx := lit_iff.1 hl
        generalize av (f t) = V at *
        have HN := Lib.hid hnext; clear hnext
        have HT := Lib.hid hret; clear hret
        have HL := Lib.hid h1; clear h1
        have HV := Lib.hid h2; clear h2
        clear hl
        generalize f t = x at *
        by_cases hv1 : V ≤ k
        · rcases HG.out with h0 | ⟨b', off', rfl, _, hcc⟩
          · omega
          · have hcell2 := hcc (V - 1).toNat (by omega)
            clear hcc
            obtain ⟨m, rfl⟩ : ∃ m : Nat, V = (m : Int) + 1 := ⟨(V - 1).toNat, by omega⟩
            have em : ((m : Int) + 1 - 1).toNat = m := by omega
            rw [em] at hcell2
            have hst : StepOf x ((m : Int) + 1) k g = (g m == decide (0 < x)) := by unfold StepOf; rw [em, decide_eq_true hv1]; rfl
            rw [hst] at HN HT
            clear em hst
            generalize g m = y at hcell2 HN HT
            by_cases hx0 : 0 < x
            · have hxd : decide (0 < x) = true := decide_eq_true hx0
              rw [hxd] at HN HT
              cases y
              · go_wp2_with (first | (go_at_call 26; refine (HL.out _).mono ?_; rintro e w' ⟨rfl, rfl⟩) | (go_at_call 27; refine (HV.out _).mono ?_; rintro e w' ⟨rfl, rfl⟩))
                go_round
                case rel => exact ⟨t + 1, by omega, by go_num, HN.out rfl⟩
                case measure => simp [intOf]; omega
              · go_wp2_with (first | (go_at_call 26; refine (HL.out _).mono ?_; rintro e w' ⟨rfl, rfl⟩) | (go_at_call 27; refine (HV.out _).mono ?_; rintro e w' ⟨rfl, rfl⟩))
                go_ret
                exact ⟨ret_bool (HT.out rfl).symm, rfl⟩
            · have hxd : decide (0 < x) = false := decide_eq_false hx0
              rw [hxd] at HN HT
              cases y
              · go_wp2_with (first | (go_at_call 26; refine (HL.out _).mono ?_; rintro e w' ⟨rfl, rfl⟩) | (go_at_call 27; refine (HV.out _).mono ?_; rintro e w' ⟨rfl, rfl⟩))
                go_ret
                exact ⟨ret_bool (HT.out rfl).symm, rfl⟩
              · go_wp2_with (first | (go_at_call 26; refine (HL.out _).mono ?_; rintro e w' ⟨rfl, rfl⟩) | (go_at_call 27; refine (HV.out _).mono ?_; rintro e w' ⟨rfl, rfl⟩))
                go_round
                case rel => exact ⟨t + 1, by omega, by go_num, HN.out rfl⟩
                case measure => simp [intOf]; omega
        · have hst : StepOf x V k g = (false == decide (0 < x)) := by unfold StepOf; rw [decide_eq_false hv1]; rfl
          rw [hst] at HN HT
          clear hst
          by_cases hx0 : 0 < x
          · have hxd : decide (0 < x) = true := decide_eq_true hx0
            rw [hxd] at HN HT
            go_wp2_with (first | (go_at_call 26; refine (HL.out _).mono ?_; rintro e w' ⟨rfl, rfl⟩) | (go_at_call 27; refine (HV.out _).mono ?_; rintro e w' ⟨rfl, rfl⟩))
            go_round
            case rel => exact ⟨t + 1, by omega, by go_num, HN.out rfl⟩
            case measure => simp [intOf]; omega
          · have hxd : decide (0 < x) = false := decide_eq_false hx0
            rw [hxd] at HN HT
            go_wp2_with (first | (go_at_call 26; refine (HL.out _).mono ?_; rintro e w' ⟨rfl, rfl⟩) | (go_at_call 27; refine (HV.out _).mono ?_; rintro e w' ⟨rfl, rfl⟩))
            go_ret
            exact ⟨ret_bool (HT.out rfl).symm, rfl⟩
    · clear hc
      go_wp2
      go_ret
      exact ⟨ret_bool (holdsF_not.2 fun j hj => hn.out j (by omega)).symm, rfl⟩
theorem refHolds_zero (a : Option Addr) (c : Nat) (f : Nat → Int) (mv : Value) (k : Nat) (g : Nat → Bool) (w : World) :
    Calls Try.prog 18 #[.slice a 0 c, mv] w fun e w' => e = .returned (.bool (holdsF f 0 g k)) ∧ w = w' := by
  go_enter Try.func18, Try.ntmps18
  go_wp2
  go_loop [5] (fun i => i = .int .i64 0) (fun _ => 0)
  case atStart => rfl
  case round =>
    subst hrel
    go_wp2
    go_ret
    exact ⟨rfl, rfl⟩
theorem refHolds_any (a : Option Addr) (n c : Nat) (f : Nat → Int) (am : Option Addr) (k cm : Nat) (g : Nat → Bool) (w : World) (hm : n ≤ 140737488355328) (hk : k ≤ 140737488355328) (h : Has w a n f) (hg : HasB w am k g) :
    Calls Try.prog 18 #[.slice a n c, .slice am k cm] w fun e w' => e = .returned (.bool (holdsF f n g k)) ∧ w = w' := by
  rcases h with rfl | ⟨b, off, rfl, _, hc⟩
  · exact refHolds_zero a c f _ k g w
  · exact refHolds_core b off n c f am k cm g w hm hk hc hg
end Go.Proofs.Ytoffhgiljnagcaa
