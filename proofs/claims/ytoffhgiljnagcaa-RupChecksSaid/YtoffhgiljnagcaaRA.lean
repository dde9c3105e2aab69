/- Contracts of the small plain functions of package clause and of its answers. -/
import Derived.Test.YtoffhgiljnagcaaProg
import Derived.WalkKit
import Derived.WalkSpells
import Derived.Lib.Hide
import Derived.Deep.QuietTactic
import Derived.BigQuiet
import Derived.IntWalk
import Derived.Outline
import Derived.Below
namespace Go.Proofs.Ytoffhgiljnagcaa
open Go.RowKit Go.Lib

theorem ret_int {k : IntKind} {a b : Int} (h : a = b) : Ending.returned (.int k a) = .returned (.int k b) := by rw [h]
theorem ret_bool {a b : Bool} (h : a = b) : Ending.returned (.bool a) = .returned (.bool b) := by rw [h]

/-- Is a number a literal? -/
def lit (x : Int) : Bool := decide (x ≠ 0 ∧ -100000 ≤ x ∧ x ≤ 100000)
theorem lit_iff {x : Int} : lit x = true ↔ x ≠ 0 ∧ -100000 ≤ x ∧ x ≤ 100000 := by simp [lit]
theorem lit_not {x : Int} : lit x = false ↔ (x = 0 ∨ x < -100000 ∨ 100000 < x) := by
  simp only [lit, decide_eq_false_iff_not]; omega

set_option maxHeartbeats 400000 in
theorem literal_any (x : Int) (w : World) :
    Calls Try.prog 63 #[.int .i64 x] w fun e w' => e = .returned (.bool (lit x)) ∧ w = w' := by
  by_cases h0 : x = 0
  · subst h0
    go_enter Try.func63, Try.ntmps63
    go_wp2
    go_ret
    exact ⟨ret_bool (by simp [lit]), rfl⟩
  · by_cases h1 : -100000 ≤ x
    · by_cases h2 : x ≤ 100000
      · go_enter Try.func63, Try.ntmps63
        go_wp2
        go_ret
        exact ⟨ret_bool (by simp [lit, h0, h1, h2]), rfl⟩
      · go_enter Try.func63, Try.ntmps63
        go_wp2
        go_ret
        exact ⟨ret_bool (by simp [lit, h0, h1, h2]), rfl⟩
    · go_enter Try.func63, Try.ntmps63
      go_wp2
      go_ret
      exact ⟨ret_bool (by rw [lit_not.2 (by omega)]), rfl⟩

/-- The place of a literal in the order of normal forms. -/
def rk (x : Int) : Int := if 0 < x then 2 * x - 1 else -2 * x

set_option maxHeartbeats 400000 in
theorem rank_any (x : Int) (hx : -100000 ≤ x ∧ x ≤ 100000) (w : World) :
    Calls Try.prog 46 #[.int .i64 x] w fun e w' => e = .returned (.int .i64 (rk x)) ∧ w = w' := by
  obtain ⟨h1, h2⟩ := hx
  by_cases h : 0 < x
  · go_enter Try.func46, Try.ntmps46
    go_wp2
    go_ret
    exact ⟨ret_int (by unfold rk; split <;> omega), rfl⟩
  · go_enter Try.func46, Try.ntmps46
    go_wp2
    go_ret
    exact ⟨ret_int (by unfold rk; split <;> omega), rfl⟩

/-- Is x among the first n of f? -/
def inF (f : Nat → Int) (n : Nat) (x : Int) : Bool := (List.range n).any fun j => f j == x
theorem inF_iff {f : Nat → Int} {n : Nat} {x : Int} : inF f n x = true ↔ ∃ j, j < n ∧ f j = x := by
  simp [inF]
theorem inF_not {f : Nat → Int} {n : Nat} {x : Int} : inF f n x = false ↔ ∀ j, j < n → f j ≠ x := by
  simp [inF]

set_option maxHeartbeats 400000 in
theorem in_core (x : Int) (b off n c : Nat) (f : Nat → Int) (w : World) (hm : n ≤ 140737488355328)
    (hc : ∀ j, j < n → w.cell? ⟨b, off + j, none⟩ = some (.int .i64 (f j))) :
    Calls Try.prog 76 #[.int .i64 x, .slice (some ⟨b, off, none⟩) n c] w fun e w' => e = .returned (.bool (inF f n x)) ∧ w = w' := by
  go_enter Try.func76, Try.ntmps76
  go_wp2
  go_loop [5] (fun i => ∃ k : Nat, k ≤ n ∧ i = .int .i64 k ∧ Hid (∀ j, j < k → f j ≠ x)) (fun i => n - (intOf i).toNat)
  case atStart => exact ⟨0, Nat.zero_le _, rfl, Lib.hid fun _ h => absurd h (Nat.not_lt_zero _)⟩
  case round =>
    obtain ⟨k, hk, rfl, hn⟩ := hrel
    by_cases hlt : k < n
    · have hcell := hc k hlt
      clear hc
      by_cases he : f k = x
      · have hb : ((f k) == x) = true := by simpa using he
        have HE := Lib.hid he; clear he
        go_wp2
        go_ret
        exact ⟨ret_bool (inF_iff.2 ⟨k, hlt, HE.out⟩).symm, rfl⟩
      · have hb : ((f k) == x) = false := by simpa using he
        have HE := Lib.hid he; clear he
        go_wp2
        go_round
        case rel => exact ⟨k + 1, by omega, by go_num, Lib.hid fun j hj => by
          by_cases e : j = k
          · subst e; exact HE.out
          · exact hn.out j (by omega)⟩
        case measure => simp [intOf]; omega
    · clear hc
      go_wp2
      go_ret
      exact ⟨ret_bool (inF_not.2 fun j hj => hn.out j (by omega)).symm, rfl⟩

/-- Are two of f, side by side among the first n, each other's negation? -/
def oppF (f : Nat → Int) (n : Nat) : Bool := (List.range (n - 1)).any fun j => f (j + 1) == - f j
theorem oppF_iff {f : Nat → Int} {n : Nat} : oppF f n = true ↔ ∃ j, j + 1 < n ∧ f (j + 1) = - f j := by
  simp only [oppF, List.any_eq_true, List.mem_range, beq_iff_eq]
  exact ⟨fun ⟨j, h, e⟩ => ⟨j, by omega, e⟩, fun ⟨j, h, e⟩ => ⟨j, by omega, e⟩⟩
theorem oppF_not {f : Nat → Int} {n : Nat} : oppF f n = false ↔ ∀ j, j + 1 < n → f (j + 1) ≠ - f j := by
  rw [← Bool.not_eq_true, oppF_iff]
  exact ⟨fun h j hj e => h ⟨j, hj, e⟩, fun h ⟨j, hj, e⟩ => h j hj e⟩

def OppPost (f : Nat → Int) (n : Nat) (w : World) (e : Ending) (w' : World) : Prop := e = .returned (.bool (oppF f n)) ∧ ∃ q, w' = w.drewN q

set_option maxHeartbeats 800000 in
theorem opposed_core (b off n c : Nat) (f : Nat → Int) (w : World) (hm : n ≤ 140737488355328) (hf : ∀ j, j < n → -100000 ≤ f j ∧ f j ≤ 100000)
    (hc : ∀ j, j < n → w.cell? ⟨b, off + j, none⟩ = some (.int .i64 (f j))) :
    Calls Try.prog 48 #[.slice (some ⟨b, off, none⟩) n c] w (OppPost f n w) := by
  go_enter Try.func48, Try.ntmps48
  go_wp2
  go_loopw [3] (fun i wr => ∃ (k : Nat) (q : Nat), 1 ≤ k ∧ k ≤ n + 1 ∧ i = .int .i64 k ∧ wr = w.drewN q ∧ Hid (∀ j, j + 1 < k → j + 1 < n → f (j + 1) ≠ - f j)) (fun i _ => n + 1 - (intOf i).toNat)
  case atStart => exact ⟨1, 0, by omega, by omega, rfl, rfl, Lib.hid fun _ h => by omega⟩
  case round =>
    obtain ⟨k, q, hk1, hk, rfl, rfl, hn⟩ := hrel
    by_cases hlt : k < n
    · have hcell := hc k hlt
      have hcell2 := hc (k - 1) (by omega)
      have hf1 := hf k hlt
      have hf2 := hf (k - 1) (by omega)
      obtain ⟨m, rfl⟩ : ∃ m, k = m + 1 := ⟨k - 1, by omega⟩
      simp only [Nat.add_sub_cancel] at hcell2 hf2
      clear hc
      by_cases he : f (m + 1) = - f m
      · have hb : (f (m + 1) == - f m) = true := by simpa using he
        have HE := Lib.hid he; clear he
        go_wp2
        go_quiet (fail)
        go_wp2
        go_ret
        exact ⟨ret_bool (oppF_iff.2 ⟨m, hlt, HE.out⟩).symm, _, World.drewN_drewN _ _ _⟩
      · have hb : (f (m + 1) == - f m) = false := by simpa using he
        have HE := Lib.hid he; clear he
        go_wp2
        go_quiet (fail)
        go_wp2
        go_roundw
        case rel => exact ⟨m + 2, _, by omega, by omega, by go_num, rfl, Lib.hid fun j hj hn' => by
          by_cases e : j = m
          · subst e; exact HE.out
          · exact hn.out j (by omega) hn'⟩
        case measure => simp [intOf]; omega
    · clear hc
      go_wp2
      go_ret
      exact ⟨ret_bool (oppF_not.2 fun j hj => hn.out j (by omega) hj).symm, q, rfl⟩

/-- A slice of numbers in memory: none, or each in its cell. -/
def Has (w : World) (a : Option Addr) (n : Nat) (f : Nat → Int) : Prop :=
  n = 0 ∨ ∃ b off, a = some ⟨b, off, none⟩ ∧ b < w.heap.size ∧ ∀ j, j < n → w.cell? ⟨b, off + j, none⟩ = some (.int .i64 (f j))
theorem Has.below {w w' : World} {a : Option Addr} {n : Nat} {f : Nat → Int} (h : Has w a n f) (hb : Below w.heap.size w w') : Has w' a n f := by
  rcases h with h | ⟨b, off, ha, hlt, hc⟩
  · exact .inl h
  · exact .inr ⟨b, off, ha, Nat.lt_of_lt_of_le hlt hb.size, fun j hj => by rw [← hc j hj]; exact hb.cell (p := ⟨b, off + j, none⟩) hlt⟩
theorem Has.drewN {w : World} {a : Option Addr} {n : Nat} {f : Nat → Int} (h : Has w a n f) (q : Nat) : Has (w.drewN q) a n f := h

theorem in_zero (x : Int) (a : Option Addr) (c : Nat) (f : Nat → Int) (w : World) :
    Calls Try.prog 76 #[.int .i64 x, .slice a 0 c] w fun e w' => e = .returned (.bool (inF f 0 x)) ∧ w = w' := by
  go_enter Try.func76, Try.ntmps76
  go_wp2
  go_loop [5] (fun i => i = .int .i64 0) (fun _ => 0)
  case atStart => rfl
  case round =>
    subst hrel
    go_wp2
    go_ret
    exact ⟨rfl, rfl⟩
theorem in_any (x : Int) (a : Option Addr) (n c : Nat) (f : Nat → Int) (w : World) (hm : n ≤ 140737488355328) (h : Has w a n f) :
    Calls Try.prog 76 #[.int .i64 x, .slice a n c] w fun e w' => e = .returned (.bool (inF f n x)) ∧ w = w' := by
  rcases h with rfl | ⟨b, off, rfl, _, hc⟩
  · exact in_zero x a c f w
  · exact in_core x b off n c f w hm hc

def litF (f : Nat → Int) (n : Nat) : Bool := (List.range n).all fun j => lit (f j)
theorem litF_iff {f : Nat → Int} {n : Nat} : litF f n = true ↔ ∀ j, j < n → lit (f j) = true := by simp [litF]
theorem litF_not {f : Nat → Int} {n j : Nat} (hj : j < n) (h : lit (f j) = false) : litF f n = false := by
  rw [← Bool.not_eq_true, litF_iff]; intro hh; rw [hh j hj] at h; cases h

set_option maxHeartbeats 400000 in
theorem refLiteral_any (x : Int) (w : World) :
    Calls Try.prog 26 #[.int .i64 x] w fun e w' => e = .returned (.bool (lit x)) ∧ w = w' := by
  by_cases h0 : x = 0
  · subst h0
    go_enter Try.func26, Try.ntmps26
    go_wp2
    go_ret
    exact ⟨ret_bool (by simp [lit]), rfl⟩
  · by_cases h1 : -100000 ≤ x
    · by_cases h2 : x ≤ 100000
      · go_enter Try.func26, Try.ntmps26
        go_wp2
        go_ret
        exact ⟨ret_bool (by simp [lit, h0, h1, h2]), rfl⟩
      · go_enter Try.func26, Try.ntmps26
        go_wp2
        go_ret
        exact ⟨ret_bool (by simp [lit, h0, h1, h2]), rfl⟩
    · go_enter Try.func26, Try.ntmps26
      go_wp2
      go_ret
      exact ⟨ret_bool (by rw [lit_not.2 (by omega)]), rfl⟩

set_option maxHeartbeats 400000 in
theorem refRight_core (b off n c : Nat) (f : Nat → Int) (w : World) (hm : n ≤ 140737488355328)
    (hc : ∀ j, j < n → w.cell? ⟨b, off + j, none⟩ = some (.int .i64 (f j))) :
    Calls Try.prog 16 #[.slice (some ⟨b, off, none⟩) n c] w fun e w' => e = .returned (.bool (litF f n)) ∧ w = w' := by
  go_enter Try.func16, Try.ntmps16
  go_wp2
  go_loop [3] (fun i => ∃ k : Nat, k ≤ n ∧ i = .int .i64 k ∧ Hid (∀ j, j < k → lit (f j) = true)) (fun i => n - (intOf i).toNat)
  case atStart => exact ⟨0, Nat.zero_le _, rfl, Lib.hid fun _ h => absurd h (Nat.not_lt_zero _)⟩
  case round =>
    obtain ⟨k, hk, rfl, hn⟩ := hrel
    by_cases hlt : k < n
    · have hcell := hc k hlt
      clear hc
      have hl := fun w => refLiteral_any (f k) w
      have HL := Lib.hid hl; clear hl
      cases hb : lit (f k)
      · rw [hb] at HL
        have HB := Lib.hid hb; clear hb
        go_wp2_with (go_at_call 26; refine (HL.out _).mono ?_; rintro e w' ⟨rfl, rfl⟩)
        go_ret
        exact ⟨ret_bool (litF_not hlt HB.out).symm, rfl⟩
      · rw [hb] at HL
        have HB := Lib.hid hb; clear hb
        go_wp2_with (go_at_call 26; refine (HL.out _).mono ?_; rintro e w' ⟨rfl, rfl⟩)
        go_round
        case rel => exact ⟨k + 1, by omega, by go_num, Lib.hid fun j hj => by
          by_cases e : j = k
          · subst e; exact HB.out
          · exact hn.out j (by omega)⟩
        case measure => simp [intOf]; omega
    · clear hc
      go_wp2
      go_ret
      exact ⟨ret_bool (litF_iff.2 fun j hj => hn.out j (by omega)).symm, rfl⟩
theorem refRight_zero (a : Option Addr) (c : Nat) (f : Nat → Int) (w : World) :
    Calls Try.prog 16 #[.slice a 0 c] w fun e w' => e = .returned (.bool (litF f 0)) ∧ w = w' := by
  go_enter Try.func16, Try.ntmps16
  go_wp2
  go_loop [3] (fun i => i = .int .i64 0) (fun _ => 0)
  case atStart => rfl
  case round =>
    subst hrel
    go_wp2
    go_ret
    exact ⟨rfl, rfl⟩
theorem refRight_any (a : Option Addr) (n c : Nat) (f : Nat → Int) (w : World) (hm : n ≤ 140737488355328) (h : Has w a n f) :
    Calls Try.prog 16 #[.slice a n c] w fun e w' => e = .returned (.bool (litF f n)) ∧ w = w' := by
  rcases h with rfl | ⟨b, off, rfl, _, hc⟩
  · exact refRight_zero a c f w
  · exact refRight_core b off n c f w hm hc

def sameF (f g : Nat → Int) (n m : Nat) : Bool := decide (n = m) && (List.range n).all fun j => f j == g j
theorem sameF_iff {f g : Nat → Int} {n m : Nat} : sameF f g n m = true ↔ n = m ∧ ∀ j, j < n → f j = g j := by simp [sameF]
def SamePost (f g : Nat → Int) (n m : Nat) (w : World) (e : Ending) (w' : World) : Prop := e = .returned (.bool (sameF f g n m)) ∧ ∃ q, w' = w.drewN q
theorem sameF_not {f g : Nat → Int} {n j : Nat} (hj : j < n) (h : f j ≠ g j) : sameF f g n n = false := by
  rw [← Bool.not_eq_true, sameF_iff]; exact fun hh => h (hh.2 j hj)

set_option maxHeartbeats 800000 in
theorem ints_core (b off n c b' off' c' : Nat) (f g : Nat → Int) (w : World) (hm : n ≤ 140737488355328)
    (hc : ∀ j, j < n → w.cell? ⟨b, off + j, none⟩ = some (.int .i64 (f j)))
    (hc' : ∀ j, j < n → w.cell? ⟨b', off' + j, none⟩ = some (.int .i64 (g j))) :
    Calls Try.prog 79 #[.slice (some ⟨b, off, none⟩) n c, .slice (some ⟨b', off', none⟩) n c'] w (SamePost f g n n w) := by
  go_enter Try.func79, Try.ntmps79
  go_wp2
  go_loopw [5] (fun i wr => ∃ (k : Nat) (q : Nat), k ≤ n ∧ i = .int .i64 k ∧ wr = w.drewN q ∧ Hid (∀ j, j < k → f j = g j)) (fun i _ => n - (intOf i).toNat)
  case atStart => exact ⟨0, 0, by omega, rfl, rfl, Lib.hid fun _ h => by omega⟩
  case round =>
    obtain ⟨k, q, hk, rfl, rfl, hn⟩ := hrel
    by_cases hlt : k < n
    · have hcell := hc k hlt
      have hcell2 := hc' k hlt
      clear hc hc'
      by_cases he : f k = g k
      · have hb : (f k == g k) = true := by simpa using he
        have hb2 : (f k != g k) = false := by simpa using he
        have HE := Lib.hid he; clear he
        go_wp2
        go_quiet (fail)
        go_wp2
        go_roundw
        case rel => exact ⟨k + 1, _, by omega, by go_num, rfl, Lib.hid fun j hj => by
          by_cases e : j = k
          · subst e; exact HE.out
          · exact hn.out j (by omega)⟩
        case measure => simp [intOf]; omega
      · have hb : (f k == g k) = false := by simpa using he
        have hb2 : (f k != g k) = true := by simpa using he
        have HE := Lib.hid he; clear he
        go_wp2
        go_quiet (fail)
        go_wp2
        go_ret
        exact ⟨ret_bool (sameF_not hlt HE.out).symm, _, World.drewN_drewN _ _ _⟩
    · clear hc hc'
      go_wp2
      go_ret
      exact ⟨ret_bool (sameF_iff.2 ⟨rfl, fun j hj => hn.out j (by omega)⟩).symm, q, rfl⟩
theorem ints_zero (a a' : Option Addr) (c c' : Nat) (f g : Nat → Int) (w : World) :
    Calls Try.prog 79 #[.slice a 0 c, .slice a' 0 c'] w (SamePost f g 0 0 w) := by
  go_enter Try.func79, Try.ntmps79
  go_wp2
  go_loop [5] (fun i => i = .int .i64 0) (fun _ => 0)
  case atStart => rfl
  case round =>
    subst hrel
    go_wp2
    go_ret
    exact ⟨rfl, 0, rfl⟩
theorem ints_lens (a a' : Option Addr) (n m c c' : Nat) (f g : Nat → Int) (w : World) (h : n ≠ m) :
    Calls Try.prog 79 #[.slice a n c, .slice a' m c'] w (SamePost f g n m w) := by
  have hb : ((n : Int) != (m : Int)) = true := by simp; omega
  have hs : sameF f g n m = false := by simp [sameF, h]
  have HS := Lib.hid hs; clear hs h
  go_enter Try.func79, Try.ntmps79
  go_wp2
  go_ret
  exact ⟨ret_bool HS.out.symm, 0, rfl⟩
theorem ints_any (a a' : Option Addr) (n m c c' : Nat) (f g : Nat → Int) (w : World) (hm : n ≤ 140737488355328) (h : Has w a n f) (h' : Has w a' m g) :
    Calls Try.prog 79 #[.slice a n c, .slice a' m c'] w (SamePost f g n m w) := by
  by_cases e : n = m
  · subst e
    rcases h with rfl | ⟨b, off, rfl, _, hc⟩
    · exact ints_zero a a' c c' f g w
    · rcases h' with rfl | ⟨b', off', rfl, _, hc'⟩
      · exact ints_zero _ a' c c' f g w
      · exact ints_core b off n c b' off' c' f g w hm hc hc'
  · exact ints_lens a a' n m c c' f g w e
end Go.Proofs.Ytoffhgiljnagcaa
