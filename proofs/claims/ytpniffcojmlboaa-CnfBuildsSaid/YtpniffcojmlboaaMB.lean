/- Mathematics: the way down to what is needed. -/
import Derived.Test.YtpniffcojmlboaaMA
namespace Go.Proofs.Ytpniffcojmlboaa

def hin (V : List Nat) : List Nat → Bool
  | [] => false
  | x :: _ => decide (x ∈ V)
/-- So many rounds at most. -/
def mu (s : Gr) (V W : List Nat) : Nat := (s.n + 1 - V.length) * (2 * (s.n + 2)) + (if hin V W then s.n + 2 else 0) + (s.n + 1 - W.length)
structure Way (s : Gr) (Z st : St) (W : List Nat) (B : Nat) : Prop where
  fin : fin s st W = Z
  vs : Vs s st.1
  up : W.Pairwise (· < ·)
  le : ∀ x ∈ W, x ≤ s.n
  no : ∀ x ∈ W.tail, x ∉ st.1
  len : st.2.length ≤ B + 3 * st.1.length
variable {s : Gr} {Z st : St} {W r : List Nat} {B x a b : Nat}
theorem Way.short (h : Way s Z st W B) : W.length ≤ s.n + 1 := few (h.up.imp (fun k => Nat.ne_of_lt k)) fun x hx => by have := h.le x hx; omega
theorem Way.pop (h : Way s Z st (x :: r) B) (hx : x ∈ st.1) : Way s Z st r B ∧ mu s st.1 r < mu s st.1 (x :: r) := by
  have hs := h.short
  refine ⟨⟨by rw [← h.fin, fin_in hx], h.vs, (List.pairwise_cons.1 h.up).2, fun y hy => h.le y (List.mem_cons_of_mem _ hy), fun y hy => h.no y (List.mem_of_mem_tail hy), h.len⟩, ?_⟩
  have h1 : hin st.1 r = false := by
    cases r with
    | nil => rfl
    | cons y r => exact decide_eq_false (h.no y (by simp))
  have h2 : hin st.1 (x :: r) = true := decide_eq_true hx
  unfold mu
  rw [h1, h2]
  simp at hs ⊢
  omega
theorem Way.push (h : Way s Z st (x :: r) B) {y : Nat} (hx : x ∉ st.1) (hy : y ∉ st.1) (hl : y < x) (hf : Go.Proofs.Ytpniffcojmlboaa.fin s st (y :: x :: r) = Go.Proofs.Ytpniffcojmlboaa.fin s st (x :: r)) : Way s Z st (y :: x :: r) B ∧ mu s st.1 (y :: x :: r) < mu s st.1 (x :: r) := by
  have hw : Way s Z st (y :: x :: r) B := by
    refine ⟨by rw [hf, h.fin], h.vs, List.pairwise_cons.2 ⟨fun z hz => ?_, h.up⟩, fun z hz => ?_, fun z hz => ?_, h.len⟩
    · rcases List.mem_cons.1 hz with rfl | hz
      · exact hl
      · have := (List.pairwise_cons.1 h.up).1 z hz; omega
    · rcases List.mem_cons.1 hz with rfl | hz
      · have := h.le x (by simp); omega
      · exact h.le z hz
    · rcases List.mem_cons.1 hz with rfl | hz
      · exact hx
      · exact h.no z hz
  refine ⟨hw, ?_⟩
  have h1 : hin st.1 (y :: x :: r) = false := decide_eq_false hy
  have h2 : hin st.1 (x :: r) = false := decide_eq_false hx
  have hs := hw.short
  unfold mu
  rw [h1, h2]
  simp at hs ⊢
  omega
theorem Way.first (hs : s.Ok) (h : Way s Z st (x :: r) B) (hx : x ∉ st.1) (e : nd s x = some (a, b)) (hy : a / 2 ∉ st.1) : Way s Z st (a / 2 :: x :: r) B ∧ mu s st.1 (a / 2 :: x :: r) < mu s st.1 (x :: r) :=
  h.push hx hy (nd_lt hs (h.le x (by simp)) e).1 (fin_first hs (h.le x (by simp)) hx e)
theorem Way.second (hs : s.Ok) (h : Way s Z st (x :: r) B) (hx : x ∉ st.1) (e : nd s x = some (a, b)) (ha : a / 2 ∈ st.1) (hy : b / 2 ∉ st.1) : Way s Z st (b / 2 :: x :: r) B ∧ mu s st.1 (b / 2 :: x :: r) < mu s st.1 (x :: r) :=
  h.push hx hy (nd_lt hs (h.le x (by simp)) e).2.1 (fin_second hs (h.le x (by simp)) hx e ha)
theorem put_len (s : Gr) (st : St) (x : Nat) : (put s st x).2.length ≤ st.2.length + 3 := by
  cases e : nd s x with
  | none => simp [put, e]
  | some p => obtain ⟨a, b⟩ := p; simp [put, e, cls]
theorem Way.put (hs : s.Ok) (h : Way s Z st (x :: r) B) (hx : x ∉ st.1) (e : ∀ a b, nd s x = some (a, b) → a / 2 ∈ st.1 ∧ b / 2 ∈ st.1) : Way s Z (put s st x) (x :: r) B ∧ mu s (Go.Proofs.Ytpniffcojmlboaa.put s st x).1 (x :: r) < mu s st.1 (x :: r) := by
  have hv : Vs s (Go.Proofs.Ytpniffcojmlboaa.put s st x).1 := h.vs.put (h.le x (by simp)) hx
  have hl : (Go.Proofs.Ytpniffcojmlboaa.put s st x).1.length = st.1.length + 1 := by simp [Go.Proofs.Ytpniffcojmlboaa.put]
  refine ⟨⟨by rw [fin_put hs (h.le x (by simp)) hx e, h.fin], hv, h.up, h.le, fun y hy k => ?_, ?_⟩, ?_⟩
  · rcases List.mem_append.1 k with k | k
    · exact h.no y hy k
    · simp at k hy
      subst k
      have := (List.pairwise_cons.1 h.up).1 y hy
      omega
  · have := put_len s st x
    have := h.len
    omega
  · have h1 : hin (Go.Proofs.Ytpniffcojmlboaa.put s st x).1 (x :: r) = true := decide_eq_true (by simp [Go.Proofs.Ytpniffcojmlboaa.put])
    have h2 : hin st.1 (x :: r) = false := decide_eq_false hx
    have hf := hv.few
    unfold mu
    rw [h1, h2, hl]
    rw [hl] at hf
    obtain ⟨D, hD⟩ : ∃ D, s.n + 1 - st.1.length = D + 1 := ⟨s.n - st.1.length, by omega⟩
    rw [hD, show s.n + 1 - (st.1.length + 1) = D by omega, Nat.add_mul]
    simp only [if_true, Bool.false_eq_true, if_false]
    omega
/-- The way as it lies. -/
def wayN (W : List Nat) (j : Nat) : Nat := W.getD (W.length - 1 - j) 0
theorem wayN_top (x : Nat) (r : List Nat) : wayN (x :: r) r.length = x := by simp [wayN]
theorem wayN_old (x : Nat) (r : List Nat) {j : Nat} (hj : j < r.length) : wayN (x :: r) j = wayN r j := by
  unfold wayN
  rw [show (x :: r).length - 1 - j = (r.length - 1 - j) + 1 by simp; omega, List.getD_cons_succ]
theorem Way.start (hs : s.Ok) {V : List Nat} {ls : List (List Int)} (hV : Vs s V) (hx : x ≤ s.n) : Way s (need s (V, ls) x) (V, ls) [x] ls.length :=
  ⟨rfl, hV, by simp, fun y hy => by simp at hy; omega, fun y hy => by simp at hy, by simp⟩
end Go.Proofs.Ytpniffcojmlboaa
