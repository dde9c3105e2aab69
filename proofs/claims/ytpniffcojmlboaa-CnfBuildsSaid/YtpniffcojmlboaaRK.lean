/- A region that draws: what holds between its operations may hang on which have come up; quiet calls are taken first. -/
import Derived.Test.YtpniffcojmlboaaB
import Derived.OrdersHeld
import Derived.Deep.RegionHeld3
namespace Go.Proofs.Ytpniffcojmlboaa
open Go.RowKit Go.Lib Go.Maps
set_option maxRecDepth 100000

variable {P : Program} {ops : Array Oper} {Q : Exit → Act → World → Prop} {md : Region.Mode} {S : Array Bool → World → Prop}
def wpAnyK (P : Program) (md : Region.Mode) (ops : Array Oper) (Q : Exit → Act → World → Prop) (S : Array Bool → World → Prop) : Nat → Array Bool → Act → World → Prop
  | 0, listed, a, w => Region.ready md ops listed = [] ∧ Q .normal a w
  | fuel + 1, listed, a, w =>
    (Region.ready md ops listed = [] → Q .normal a w) ∧
    ∀ i ∈ Region.ready md ops listed, wpOp P ops Q i (fun a' w' => S (listed.setIfInBounds i true) w' ∧ wpAnyK P md ops Q S fuel (listed.setIfInBounds i true) a' w') a w
theorem wpAny_of_K : ∀ (fuel : Nat) (listed : Array Bool) (a : Act) (w : World), wpAnyK P md ops Q S fuel listed a w → wpAny P md ops Q fuel listed a w
  | 0, _, _, _, h => h
  | fuel + 1, _, _, _, h => ⟨h.1, fun i hi => wpOp_mono (fun a' w' h' => wpAny_of_K fuel _ a' w' h'.2) (h.2 i hi)⟩
/-- In state 'a' the operation reads as X, and is wanted. -/
def Reads (ops : Array Oper) (o : Oper) (X : Sem Next) (a : Act) : Prop := execOp a.eval o = X ∧ Region.wanted o (yielded ops a.tmps) = true
/-- In a world it leaves v in its temporary and does nothing else: by itself, or as a call. -/
def Leaves (P : Program) (X : Sem Next) (v : Value) (w : World) : Prop :=
  X.run P w = .ok (.value v) w ∨ ∃ f args, X.run P w = .ok (.enter f args) w ∧ Calls P f args w fun e w' => e = .returned v ∧ w = w'
theorem Reads.wpOp {i : Nat} {o : Oper} {X : Sem Next} {v : Value} {a : Act} (hi : ops[i]? = some o) (hy : Reads ops o X a) {K : Act → World → Prop} {w : World} (hl : Leaves P X v w) (h : K (a.put o.dst v) w) : wpOp P ops Q i K a w := by
  unfold Go.wpOp
  simp only [hi, hy.2, if_true, Oper.wp, hy.1]
  refine .inl ?_
  rcases hl with e | ⟨f, args, e, hc⟩
  · rw [e]; exact h
  · rw [e]
    refine Calls.mono hc ?_
    rintro e w' ⟨rfl, rfl⟩
    exact h
theorem wpOp_putK {j : Nat} {oi oj : Oper} {X : Sem Next} {v : Value} (hj : ops[j]? = some oj) (hap : oi.apart ops oj = true)
    (hsi : ∀ cs b, oi.op ≠ .select cs b) (hsj : ∀ cs b, oj.op ≠ .select cs b)
    (hQ : ∀ c a w, Q (.panic c) (a.put oi.dst v) w → Q (.panic c) a w) {K : Act → World → Prop} {a : Act} {w : World}
    (hy : Reads ops oi X a) (h : wpOp P ops Q j K (a.put oi.dst v) w) :
    wpOp P ops Q j (fun a' w' => Reads ops oi X a' ∧ K (a'.put oi.dst v) w') a w := by
  obtain ⟨h1, h2, h3⟩ := Oper.apart_spec hap
  have keep : ∀ (a : Act), Reads ops oi X a → ∀ u, Reads ops oi X (a.put oj.dst u) := fun a hy u =>
    ⟨(execOp_put oi hsi a oj.dst u h3).trans hy.1, (wanted_put oi a oj.dst u h3).trans hy.2⟩
  have keepD : ∀ d, Reads ops oi X { a with defers := d :: a.defers } := fun d => hy
  unfold wpOp at *
  simp only [hj] at *
  rw [wanted_put oj a oi.dst v h1] at h
  split
  · rename_i hw
    simp only [hw, if_true] at h
    rcases h with h | ⟨hasks, hlets⟩
    case inr => exact .inr ⟨by unfold Oper.asks at *; rw [execOp_put oj hsj a oi.dst v h1] at hasks; exact hasks, hlets⟩
    refine .inl ?_
    unfold Oper.wp at *
    rw [execOp_put oj hsj a oi.dst v h1] at h
    generalize (execOp a.eval oj).run P w = r at *
    cases r with
    | ok n w' =>
      cases n <;> simp only [Oper.upon] at h ⊢
      case value u => exact ⟨keep a hy u, by rw [← Act.put_comm a v u h2]; exact h⟩
      case skip => exact ⟨keep a hy _, by rw [← Act.put_comm a v undef h2]; exact h⟩
      case defer d =>
        refine ⟨keep _ (keepD d) _, ?_⟩
        rw [← Act.put_comm _ v undef h2, ← Act.put_defers]
        exact h
      case enter f args =>
        refine Calls.mono h fun e w'' he => ?_
        cases e with
        | returned u => exact ⟨keep a hy u, by rw [← Act.put_comm a v u h2]; exact he⟩
        | panicked c => exact hQ _ _ _ he
        | outgrown => exact he
      case row row args => exact Rows.mono h fun u w'' he => ⟨keep a hy u, by rw [← Act.put_comm a v u h2]; exact he⟩
    | halt x w' =>
      cases x <;> simp only [Oper.upon] at h ⊢
      case panic u => exact hQ _ _ _ h
  · rename_i hw
    simp only [hw] at h
    exact ⟨keep a hy _, by rw [← Act.put_comm a v undef h2]; exact h⟩
/-- An operation that may come up may be taken first, if it leaves v wherever S holds. -/
theorem wpAnyK_first {i : Nat} {oi : Oper} {X : Sem Next} {v : Value} (hi : ops[i]? = some oi) (hsel : ∀ (j : Nat) (o : Oper) cs b, ops[j]? = some o → o.op ≠ .select cs b)
    (hQ : ∀ c a w, Q (.panic c) (a.put oi.dst v) w → Q (.panic c) a w) (Good : Array Bool → Prop) (hG : ∀ l j, Good l → l.getD i true = false → j ∈ Region.ready md ops l → j ≠ i → Good (l.setIfInBounds j true))
    (hS : ∀ l w, Good l → S (l.setIfInBounds i true) w → Leaves P X v w) (hSm : ∀ l w, S (l.setIfInBounds i true) w → S l w) :
    ∀ (fuel : Nat) (listed : Array Bool) (a : Act) (w : World),
      (∀ j oj, ops[j]? = some oj → j ≠ i → listed.getD j true = false → (∀ e ∈ oj.after, Region.binds md e = true → e.on ≠ i) → oi.apart ops oj = true) →
      i ∈ Region.ready md ops listed → Good listed → Reads ops oi X a → S (listed.setIfInBounds i true) w →
      wpAnyK P md ops Q S fuel (listed.setIfInBounds i true) (a.put oi.dst v) w → wpAnyK P md ops Q S (fuel + 1) listed a w := by
  intro fuel
  induction fuel with
  | zero =>
    intro listed a w _ hr hg hy hs H
    refine ⟨fun h => (by rw [h] at hr; cases hr), fun j hj => ?_⟩
    by_cases hji : j = i
    · subst hji; exact hy.wpOp hi (hS _ _ hg hs) ⟨hs, H⟩
    · have := ready_mono hj hji
      rw [H.1] at this
      cases this
  | succ fuel ih =>
    intro listed a w hfree hr hg hy hs H
    refine ⟨fun h => (by rw [h] at hr; cases hr), fun j hj => ?_⟩
    by_cases hji : j = i
    · subst hji; exact hy.wpOp hi (hS _ _ hg hs) ⟨hs, H⟩
    · have h1 := H.2 j (ready_mono hj hji)
      obtain ⟨hjun, oj, hoj, hall⟩ := mem_ready.1 hj
      have hnot : ∀ e ∈ oj.after, Region.binds md e = true → e.on ≠ i := fun e he hb heq => by
        have h1 := hall e he hb
        have h0 := (mem_ready.1 hr).1
        rw [heq] at h1
        rcases Nat.lt_or_ge i listed.size with h' | h'
        · simp [h'] at h0 h1; rw [h0] at h1; cases h1
        · simp [Array.getElem?_eq_none h'] at h1
      have h2 := wpOp_putK hoj (hfree j oj hoj hji hjun hnot) (fun cs b => hsel i oi cs b hi) (fun cs b => hsel j oj cs b hoj) hQ hy h1
      have hfree' : ∀ k ok, ops[k]? = some ok → k ≠ i → (listed.setIfInBounds j true).getD k true = false →
          (∀ e ∈ ok.after, Region.binds md e = true → e.on ≠ i) → oi.apart ops ok = true := fun k ok hk hki hun hno => by
        refine hfree k ok hk hki ?_ hno
        by_cases hjk : j = k
        · subst hjk; exact hjun
        · rw [getD_set_ne true hjk] at hun; exact hun
      have hg' := hG listed j hg (mem_ready.1 hr).1 hj hji
      refine wpOp_mono (fun a' w' h3 => ?_) h2
      have hcomm : (listed.setIfInBounds i true).setIfInBounds j true = (listed.setIfInBounds j true).setIfInBounds i true := Array.setIfInBounds_comm _ _ (Ne.symm hji)
      obtain ⟨h31, h32, h33⟩ := h3
      rw [hcomm] at h32 h33
      exact ⟨hSm _ _ h32, ih (listed.setIfInBounds j true) a' w' hfree' (ready_mono hr (Ne.symm hji)) hg' h31 h32 h33⟩
/-- S0 holds till L has come up. -/
def Till (L : Nat) (S0 : World → Prop) (l : Array Bool) (w : World) : Prop := l.getD L true = false → S0 w
theorem Till.of {L : Nat} {S0 : World → Prop} {l : Array Bool} {w : World} (h : S0 w) : Till L S0 l w := fun _ => h
theorem Till.late {L : Nat} {S0 : World → Prop} {l : Array Bool} {w : World} (h : l.getD L true = true) : Till L S0 l w := fun k => by rw [h] at k; cases k
def waitsOn (md : Region.Mode) (ops : Array Oper) (x i : Nat) : Bool := match ops[x]? with | none => false | some o => o.after.any fun e => Region.binds md e && e.on == i
def waitsChain (md : Region.Mode) (ops : Array Oper) : Nat → List Nat → Bool
  | _, [] => true
  | i, x :: r => waitsOn md ops x i && waitsChain md ops x r
theorem getD_off {l : Array Bool} {i : Nat} (h : l.getD i true = false) : ¬ l.getD i false = true := fun k => by
  rcases Nat.lt_or_ge i l.size with h' | h'
  · simp [h'] at h k; rw [h] at k; cases k
  · simp [Array.getElem?_eq_none h'] at k
theorem chain_good : ∀ {c : List Nat} {i j : Nat} {l : Array Bool}, waitsChain md ops i c = true → (∀ x ∈ c, l.getD x true = false) → l.getD i true = false → j ∈ Region.ready md ops l → j ≠ i → j ∉ c
  | [], _, _, _, _, _, _, _, _ => by simp
  | x :: r, i, j, l, hc, hu, hi, hj, hji => by
    simp only [waitsChain, Bool.and_eq_true] at hc
    intro hm
    rcases List.mem_cons.1 hm with rfl | hm
    · obtain ⟨_, o, ho, hall⟩ := mem_ready.1 hj
      have h1 := hc.1
      simp only [waitsOn, ho] at h1
      obtain ⟨e, he, hb⟩ := Array.any_eq_true'.1 h1
      simp only [Bool.and_eq_true, beq_iff_eq] at hb
      have := hall e he hb.1
      rw [hb.2] at this
      exact getD_off hi this
    · have hx := hu x (by simp)
      by_cases e : j = x
      · subst e
        obtain ⟨_, o, ho, hall⟩ := mem_ready.1 hj
        have h1 := hc.1
        simp only [waitsOn, ho] at h1
        obtain ⟨e, he, hb⟩ := Array.any_eq_true'.1 h1
        simp only [Bool.and_eq_true, beq_iff_eq] at hb
        have := hall e he hb.1
        rw [hb.2] at this
        exact getD_off hi this
      · exact chain_good hc.2 (fun y hy => hu y (List.mem_cons_of_mem _ hy)) hx hj e hm
/-- Take a read, or a quiet call, first: what reads memory stands ahead of L by the chain c. -/
theorem wpAnyK_take {i L : Nat} {oi : Oper} {X : Sem Next} {v : Value} {S0 : World → Prop} {fuel : Nat} {listed : Array Bool} {a : Act} {w : World} (c : List Nat) (hi : ops[i]? = some oi) (hs : Region.noSelect ops = true) (hf : Region.free md ops listed i = true) (hr : (Region.ready md ops listed).contains i = true)
    (hQ : ∀ c a w, Q (.panic c) (a.put oi.dst v) w → Q (.panic c) a w) (hL : L ∈ c) (hiL : i ≠ L) (hc : waitsChain md ops i c = true) (hu : ∀ x ∈ c, listed.getD x true = false) (hy : Reads ops oi X a) (hl : ∀ w, S0 w → Leaves P X v w) (hw : S0 w)
    (h : wpAnyK P md ops Q (Till L S0) fuel (listed.setIfInBounds i true) (a.put oi.dst v) w) : wpAnyK P md ops Q (Till L S0) (fuel + 1) listed a w :=
  wpAnyK_first hi (Region.noSelect_spec hs) hQ (fun l => ∀ x ∈ c, l.getD x true = false) (fun l j hg h0 hj hji x hx => by
      have hne : j ≠ x := fun e => chain_good hc hg h0 hj hji (e ▸ hx)
      rw [getD_set_ne true hne]; exact hg x hx)
    (fun l w hg hT => hl w (hT (by rw [getD_set_ne true hiL]; exact hg L hL)))
    (fun l w hT k => hT (by rw [getD_set_ne true hiL]; exact k)) fuel listed a w (Region.free_spec hi hf) (by simpa using hr) hu hy (Till.of hw) h
/-- Take first what doesn't look at memory. -/
theorem wpAnyK_take0 {i L : Nat} {oi : Oper} {X : Sem Next} {v : Value} {S0 : World → Prop} {fuel : Nat} {listed : Array Bool} {a : Act} {w : World} (hi : ops[i]? = some oi) (hs : Region.noSelect ops = true) (hf : Region.free md ops listed i = true) (hr : (Region.ready md ops listed).contains i = true)
    (hQ : ∀ c a w, Q (.panic c) (a.put oi.dst v) w → Q (.panic c) a w) (hiL : i ≠ L) (hy : Reads ops oi X a) (hl : ∀ w, X.run P w = .ok (.value v) w) (hw : Till L S0 listed w)
    (h : wpAnyK P md ops Q (Till L S0) fuel (listed.setIfInBounds i true) (a.put oi.dst v) w) : wpAnyK P md ops Q (Till L S0) (fuel + 1) listed a w :=
  wpAnyK_first hi (Region.noSelect_spec hs) hQ (fun _ => True) (fun _ _ _ _ _ _ => trivial) (fun l w _ _ => .inl (hl w))
    (fun l w hT k => hT (by rw [getD_set_ne true hiL]; exact k)) fuel listed a w (Region.free_spec hi hf) (by simpa using hr) trivial hy (fun k => hw (by rw [getD_set_ne true hiL] at k; exact k)) h
def AllReadyK (P : Program) (md : Region.Mode) (ops : Array Oper) (Q : Exit → Act → World → Prop) (S : Array Bool → World → Prop) (fuel : Nat) (listed : Array Bool) (a : Act) (w : World) (rs : List Nat) : Prop :=
  ∀ i ∈ rs, wpOp P ops Q i (fun a' w' => S (listed.setIfInBounds i true) w' ∧ wpAnyK P md ops Q S fuel (listed.setIfInBounds i true) a' w') a w
theorem AllReadyK.nil {fuel : Nat} {listed : Array Bool} {a : Act} {w : World} : AllReadyK P md ops Q S fuel listed a w [] := fun _ h => by cases h
theorem AllReadyK.cons {fuel : Nat} {listed : Array Bool} {a : Act} {w : World} {i : Nat} {o : Oper} {rs : List Nat} (ho : ops[i]? = some o)
    (h : ∀ K' : Act → World → Prop, Shut (∀ a w, S (listed.setIfInBounds i true) w → wpAnyK P md ops Q S fuel (listed.setIfInBounds i true) a w → K' a w) → if Region.wanted o (yielded ops a.tmps) = true then Oper.wp P o a w K' Q else K' (a.put o.dst undef) w)
    (hs : AllReadyK P md ops Q S fuel listed a w rs) : AllReadyK P md ops Q S fuel listed a w (i :: rs) := fun j hj => by
  rcases List.mem_cons.1 hj with rfl | hj
  · exact wpOp_step ho (fun K' hK => h K' (fun a w hS hW => hK a w ⟨hS, hW⟩))
  · exact hs j hj
theorem wpAnyK_ready {rs : List Nat} {fuel : Nat} {listed : Array Bool} {a : Act} {w : World} (hr : Region.ready md ops listed = rs) (hne : rs ≠ []) (h : AllReadyK P md ops Q S fuel listed a w rs) : wpAnyK P md ops Q S (fuel + 1) listed a w :=
  ⟨fun h0 => absurd (hr ▸ h0) hne, hr ▸ h⟩
theorem wpAnyK_done {listed : Array Bool} {a : Act} {w : World} (hr : Region.ready md ops listed = []) (h : Q .normal a w) : ∀ fuel, wpAnyK P md ops Q S fuel listed a w
  | 0 => ⟨hr, h⟩
  | _ + 1 => ⟨fun _ => h, by rw [hr]; simp⟩
theorem wp_region_K {id : Nat} {a : Act} {w : World} (hm : P.follows .mixedOrders = true) (h : wpAnyK P .any ops Q S ops.size (Array.replicate ops.size false) a w.drew) : (Code.region id ops true).wp P Q a w :=
  wp_region_any hm (wpAny_of_K _ _ _ _ h)
end Go.Proofs.Ytpniffcojmlboaa
