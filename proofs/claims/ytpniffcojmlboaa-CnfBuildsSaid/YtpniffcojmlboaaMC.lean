/- Mathematics: the clauses say what the nodes are. -/
import Derived.Test.YtpniffcojmlboaaMB
namespace Go.Proofs.Ytpniffcojmlboaa

/-- A literal is true. -/
def hv (f : Nat → Bool) (n : Nat) (x : Int) : Bool := decide (x ≠ 0 ∧ -100000 ≤ x ∧ x ≤ 100000) && ((decide (x.natAbs ≤ n) && f (x.natAbs - 1)) == decide (0 < x))
def holds (f : Nat → Bool) (n : Nat) (c : List Int) : Bool := c.any (hv f n)
def allC (f : Nat → Bool) (n : Nat) (C : List (List Int)) : Bool := C.all (holds f n)
/-- What holds of variables and clauses. -/
structure MkI (s : Gr) (st : St) : Prop where
  vs : Vs s st.1
  c0 : [-1] ∈ st.2
  cl : ∀ n a b, n ∈ st.1 → nd s n = some (a, b) → a / 2 ∈ st.1 ∧ b / 2 ∈ st.1 ∧ [-(vr st.1 n : Int), lit st.1 a] ∈ st.2 ∧ [-(vr st.1 n : Int), lit st.1 b] ∈ st.2 ∧ [(vr st.1 n : Int), -lit st.1 a, -lit st.1 b] ∈ st.2
  only : ∀ c, c ∈ st.2 → c = [-1] ∨ ∃ n a b, n ∈ st.1 ∧ nd s n = some (a, b) ∧ a / 2 ∈ st.1 ∧ b / 2 ∈ st.1 ∧ (c = [-(vr st.1 n : Int), lit st.1 a] ∨ c = [-(vr st.1 n : Int), lit st.1 b] ∨ c = [(vr st.1 n : Int), -lit st.1 a, -lit st.1 b])
theorem MkI.start (s : Gr) : MkI s ([0], [[-1]]) := by
  refine ⟨⟨by simp, fun n hn => by simp at hn; omega, rfl⟩, by simp, fun n a b hn e => ?_, fun c hc => .inl (by simpa using hc)⟩
  simp at hn; subst hn
  simp [nd] at e
theorem MkI.put {s : Gr} {st : St} {n : Nat} (h : MkI s st) (hn : n ≤ s.n) (hN : n ∉ st.1) (hc : ∀ a b, nd s n = some (a, b) → a / 2 ∈ st.1 ∧ b / 2 ∈ st.1) : MkI s (put s st n) := by
  have hvs := h.vs.put hn hN
  have hmem : ∀ x, x ∈ st.1 → x ∈ st.1 ++ [n] := fun x hx => List.mem_append_left _ hx
  have hnew : ∀ a b, nd s n = some (a, b) → (Go.Proofs.Ytpniffcojmlboaa.put s st n).2 = st.2 ++ [[-(vr (st.1 ++ [n]) n : Int), lit (st.1 ++ [n]) a], [-(vr (st.1 ++ [n]) n : Int), lit (st.1 ++ [n]) b], [(vr (st.1 ++ [n]) n : Int), -lit (st.1 ++ [n]) a, -lit (st.1 ++ [n]) b]] := fun a b e => by
    obtain ⟨h1, h2⟩ := hc a b e
    rw [lit_app h1, lit_app h2, vr_new hN]
    simp [Go.Proofs.Ytpniffcojmlboaa.put, e, cls]
  have hold : ∀ c, c ∈ st.2 → c ∈ (Go.Proofs.Ytpniffcojmlboaa.put s st n).2 := fun c hc => List.mem_append_left _ hc
  refine ⟨hvs, hold _ h.c0, fun x a b hx e => ?_, fun c hcm => ?_⟩
  · by_cases ex : x = n
    · subst ex
      obtain ⟨h1, h2⟩ := hc a b e
      rw [hnew a b e]
      refine ⟨hmem _ h1, hmem _ h2, ?_, ?_, ?_⟩ <;> (refine List.mem_append_right _ ?_; simp [Go.Proofs.Ytpniffcojmlboaa.put])
    · have hx' : x ∈ st.1 := by
        rcases List.mem_append.1 hx with k | k
        · exact k
        · simp at k; exact absurd k ex
      obtain ⟨h1, h2, h3, h4, h5⟩ := h.cl x a b hx' e
      show a / 2 ∈ st.1 ++ [n] ∧ b / 2 ∈ st.1 ++ [n] ∧ [-(vr (st.1 ++ [n]) x : Int), lit (st.1 ++ [n]) a] ∈ _ ∧ [-(vr (st.1 ++ [n]) x : Int), lit (st.1 ++ [n]) b] ∈ _ ∧ [(vr (st.1 ++ [n]) x : Int), -lit (st.1 ++ [n]) a, -lit (st.1 ++ [n]) b] ∈ _
      rw [vr_app hx', lit_app h1, lit_app h2]
      exact ⟨hmem _ h1, hmem _ h2, hold _ h3, hold _ h4, hold _ h5⟩
  · show c = [-1] ∨ ∃ x a b, x ∈ st.1 ++ [n] ∧ nd s x = some (a, b) ∧ a / 2 ∈ st.1 ++ [n] ∧ b / 2 ∈ st.1 ++ [n] ∧ (c = [-(vr (st.1 ++ [n]) x : Int), lit (st.1 ++ [n]) a] ∨ c = [-(vr (st.1 ++ [n]) x : Int), lit (st.1 ++ [n]) b] ∨ c = [(vr (st.1 ++ [n]) x : Int), -lit (st.1 ++ [n]) a, -lit (st.1 ++ [n]) b])
    by_cases ho : c ∈ st.2
    · rcases h.only c ho with e | ⟨x, a, b, h1, h2, h3, h4, h5⟩
      · exact .inl e
      · refine .inr ⟨x, a, b, hmem _ h1, h2, hmem _ h3, hmem _ h4, ?_⟩
        rw [vr_app h1, lit_app h3, lit_app h4]
        exact h5
    · cases e : nd s n with
      | none => simp [Go.Proofs.Ytpniffcojmlboaa.put, e] at hcm; exact absurd hcm ho
      | some p =>
        obtain ⟨a, b⟩ := p
        obtain ⟨h1, h2⟩ := hc a b e
        rw [hnew a b e] at hcm
        rcases List.mem_append.1 hcm with k | k
        · exact absurd k ho
        · refine .inr ⟨n, a, b, by simp, e, hmem _ h1, hmem _ h2, ?_⟩
          simpa using k
theorem MkI.need {s : Gr} (hs : s.Ok) {st : St} (h : MkI s st) {n : Nat} (hn : n ≤ s.n) : MkI s (need s st n) :=
  (need_step hs (fun st => MkI s st) (fun _ _ h hn e hc => h.put hn e hc) n st hn h).1

/-- Values of the variables are those of the nodes. -/
structure Vals (V : List Nat) (tb f : Nat → Bool) : Prop where
  at' : ∀ i (h : i < V.length), f i = tb V[i]
  few : V.length ≤ 100000
theorem Vals.vr {V : List Nat} {tb f : Nat → Bool} (h : Vals V tb f) {n : Nat} (hn : n ∈ V) : hv f V.length (vr V n : Int) = tb n ∧ hv f V.length (-(vr V n : Int)) = !tb n := by
  have h1 := vr_pos.2 hn
  have h2 := vr_le V n
  have h3 := h.few
  have hi : V.idxOf n < V.length := List.idxOf_lt_length_of_mem hn
  have hf : f (Go.Proofs.Ytpniffcojmlboaa.vr V n - 1) = tb n := by
    unfold Go.Proofs.Ytpniffcojmlboaa.vr
    rw [if_pos hn, Nat.add_sub_cancel, h.at' _ hi, List.getElem_idxOf]
  generalize Go.Proofs.Ytpniffcojmlboaa.vr V n = q at *
  unfold hv
  rw [Int.natAbs_neg, Int.natAbs_natCast, hf, decide_eq_true (show (q : Int) ≠ 0 ∧ -100000 ≤ (q : Int) ∧ (q : Int) ≤ 100000 by omega), decide_eq_true (show -(q : Int) ≠ 0 ∧ -100000 ≤ -(q : Int) ∧ -(q : Int) ≤ 100000 by omega),
    decide_eq_true (show (0 : Int) < (q : Int) by omega), decide_eq_false (show ¬ (0 : Int) < -(q : Int) by omega), decide_eq_true h2]
  cases tb n <;> exact ⟨rfl, rfl⟩
theorem Vals.lit {V : List Nat} {tb f : Nat → Bool} (h : Vals V tb f) {e : Nat} (he : e / 2 ∈ V) : hv f V.length (lit V e) = ed tb e ∧ hv f V.length (-lit V e) = !ed tb e := by
  obtain ⟨h1, h2⟩ := h.vr he
  unfold Go.Proofs.Ytpniffcojmlboaa.lit ed
  by_cases k : e % 2 = 1
  · rw [if_pos k, Int.neg_neg, h1, h2, decide_eq_true k]
    cases tb (e / 2) <;> exact ⟨rfl, rfl⟩
  · rw [if_neg k, h1, h2, decide_eq_false k]
    cases tb (e / 2) <;> exact ⟨rfl, rfl⟩
theorem hv_one {f : Nat → Bool} {n : Nat} (hn : 0 < n) : hv f n (-1) = !f 0 := by
  unfold hv
  rw [decide_eq_true (by decide), show (-1 : Int).natAbs = 1 from rfl, decide_eq_true (show 1 ≤ n by omega), decide_eq_false (show ¬ (0 : Int) < -1 by decide)]
  cases f 0 <;> rfl
theorem nodup_inj {V : List Nat} (h : V.Nodup) {i j : Nat} (hi : i < V.length) (hj : j < V.length) (e : V[i] = V[j]) : i = j := by
  have h2 := List.pairwise_iff_getElem.1 h
  rcases Nat.lt_trichotomy i j with k | k | k
  · exact absurd e (h2 i j hi hj k)
  · exact k
  · exact absurd e.symm (h2 j i hj hi k)
/-- Each and is the and. -/
def Ands (s : Gr) (tb : Nat → Bool) : Prop := ∀ n a b, n ≤ s.n → nd s n = some (a, b) → tb n = (ed tb a && ed tb b)
theorem all_true {s : Gr} {st : St} {tb f : Nat → Bool} (h : MkI s st) (hv : Vals st.1 tb f) (h0 : tb 0 = false) (ha : Ands s tb) : allC f st.1.length st.2 = true := by
  have hpos : 0 < st.1.length := List.length_pos_of_mem h.vs.pos
  unfold allC
  rw [List.all_eq_true]
  intro c hc
  rcases h.only c hc with rfl | ⟨n, a, b, hn, e, h1, h2, hcc⟩
  · have hz : st.1[0] = 0 := by
      have := h.vs.zero
      rw [List.head?_eq_getElem?, List.getElem?_eq_getElem hpos] at this
      injection this
    have : f 0 = false := by rw [hv.at' 0 hpos, hz, h0]
    simp [holds, hv_one hpos, this]
  · have hand := ha n a b (h.vs.le n hn) e
    obtain ⟨v1, v2⟩ := hv.vr hn
    obtain ⟨a1, a2⟩ := hv.lit h1
    obtain ⟨b1, b2⟩ := hv.lit h2
    unfold holds
    rcases hcc with rfl | rfl | rfl
    · simp [v2, a1]; rw [hand]; cases ed tb a <;> cases ed tb b <;> simp
    · simp [v2, b1]; rw [hand]; cases ed tb a <;> cases ed tb b <;> simp
    · simp [v1, a2, b2]; rw [hand]; cases ed tb a <;> cases ed tb b <;> simp
/-- One is turned: node 0, or an and. -/
theorem all_false {s : Gr} {st : St} {tb f : Nat → Bool} (hs : s.Ok) (h : MkI s st) (hv : Vals st.1 tb f) (h0 : tb 0 = false) (ha : Ands s tb) {i : Nat} (hi : i < st.1.length) (hk : i = 0 ∨ (nd s st.1[i]).isSome = true) :
    allC (fun j => if j = i then !f j else f j) st.1.length st.2 = false := by
  have hpos : 0 < st.1.length := List.length_pos_of_mem h.vs.pos
  have hz : st.1[0] = 0 := by
    have := h.vs.zero
    rw [List.head?_eq_getElem?, List.getElem?_eq_getElem hpos] at this
    injection this
  obtain ⟨n, hn⟩ : ∃ n, n = st.1[i] := ⟨_, rfl⟩
  have hnm : n ∈ st.1 := by rw [hn]; exact List.getElem_mem hi
  have hv' : Vals st.1 (fun x => if x = n then !tb x else tb x) (fun j => if j = i then !f j else f j) := by
    refine ⟨fun j hj => ?_, hv.few⟩
    show (if j = i then !f j else f j) = (if st.1[j] = n then !tb st.1[j] else tb st.1[j])
    by_cases e : j = i
    · subst e; rw [if_pos rfl, if_pos hn.symm, hv.at' j hj]
    · rw [if_neg e, if_neg (fun k => e (nodup_inj h.vs.dis hj hi (k.trans hn))), hv.at' j hj]
  unfold allC
  rw [List.all_eq_false]
  rcases hk with rfl | hk
  · refine ⟨[-1], h.c0, ?_⟩
    have : f 0 = false := by rw [hv.at' 0 hpos, hz, h0]
    simp [holds, hv_one hpos, this]
  · rw [← hn] at hk
    cases e : nd s n with
    | none => rw [e] at hk; cases hk
    | some p =>
      obtain ⟨a, b⟩ := p
      obtain ⟨hla, hlb, _⟩ := nd_lt hs (h.vs.le n hnm) e
      obtain ⟨h1, h2, c1, c2, c3⟩ := h.cl n a b hnm e
      have hand := ha n a b (h.vs.le n hnm) e
      have ea : ∀ x, x / 2 < n → ed (fun x => if x = n then !tb x else tb x) x = ed tb x := fun x hx => by
        unfold ed
        show ((if x / 2 = n then _ else _) != _) = _
        rw [if_neg (by omega)]
      obtain ⟨v1, v2⟩ := hv'.vr hnm
      obtain ⟨a1, a2⟩ := hv'.lit h1
      obtain ⟨b1, b2⟩ := hv'.lit h2
      rw [ea a hla] at a1 a2
      rw [ea b hlb] at b1 b2
      simp only [if_true] at v1 v2
      rw [hand] at v1 v2
      cases xa : ed tb a
      · refine ⟨_, c1, ?_⟩
        rw [xa] at a1 v2
        simp [holds, a1, v2]
      · cases xb : ed tb b
        · refine ⟨_, c2, ?_⟩
          rw [xa, xb] at v2
          rw [xb] at b1
          simp [holds, b1, v2]
        · refine ⟨_, c3, ?_⟩
          rw [xa, xb] at v1
          rw [xa] at a2
          rw [xb] at b2
          simp [holds, a2, b2, v1]
end Go.Proofs.Ytpniffcojmlboaa
