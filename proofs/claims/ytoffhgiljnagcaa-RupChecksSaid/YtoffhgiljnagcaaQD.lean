/- Contracts: the clauses that are present: in memory; newPresent. -/
import Derived.Test.YtoffhgiljnagcaaZc
import Derived.Test.YtoffhgiljnagcaaWP
import Derived.Maps.OwnOps
import Derived.StringKeys
namespace Go.Proofs.Ytoffhgiljnagcaa
open Go.RowKit Go.Lib Go.Maps

/-- How a count and a place read. -/
def cpD (a b : Int) : DataW TypeId := .agg [.lit (.int .i64 a), .lit (.int .i32 b)]
def cpV (a b : Int) : Value := .agg #[.int .i64 a, .int .i32 b]
def cpR (v : Value) : Option (DataW TypeId × List MemPlace) :=
  match v with
  | .agg ⟨[.int .i64 a, .int .i32 b]⟩ => some (cpD a b, [])
  | _ => none
theorem cpR_mk (a b : Int) : cpR (cpV a b) = some (cpD a b, []) := rfl
theorem cpR_inv {v : Value} {a b : Int} {ps : List MemPlace} (h : cpR v = some (cpD a b, ps)) : v = cpV a b := by
  unfold cpR at h
  split at h
  · next x y =>
    injection h with h
    injection h with h1 h2
    unfold cpD at h1
    injection h1 with h1
    injection h1 with h1 h3
    injection h3 with h3 _
    injection h1 with h1
    injection h3 with h3
    injection h1 with _ h1
    injection h3 with _ h3
    subst h1 h3
    rfl
  · cases h
theorem zero87 (w : World) : (zeroValue 87).run Try.prog w = .ok (cpV 0 0) w := by
  kernel_rfl
/-- 'm[k]' at the operation. -/
theorem wpList_lookup_cp {P : Program} (w : World) {ops : Array Oper} {rest : List Oper} {o : Oper} {a : Act} {Q : Exit → Act → World → Prop}
    (hg : o.guard = none) (m x : Operand) (t k e : TypeId) (hop : o.op = Op.lookup t m x false) (K : Keyed P k) (ht : P.underlying t = some (.map k e)) (hz : (zeroValue e).run P w = .ok (cpV 0 0) w) (b n : Nat) (D : DataW TypeId)
    (hm : a.eval m = .map (some b)) (hown : w.ownsMap P k cpR b n D) (key : Value) (kl : Go.Lit) (hx : a.eval x = key) (hkey : keyOf P k key = some kl) (A B : Int) (hat : D.atKey kl (cpD 0 0) = cpD A B)
    (hK : wpList P ops Q rest (a.put o.dst (.agg #[.int .i64 A, .int .i32 B])) w) :
    wpList P ops Q (o :: rest) a w := by
  refine wpList_plain hg fun K' hK' => ?_
  obtain ⟨v, ps, hrun, hv⟩ := hown.lookup K ht hz (cpR_mk 0 0) hkey
  rw [hat] at hv
  obtain rfl := cpR_inv hv
  unfold Oper.wp
  simp [execOp, hop, hm, hx, hrun, Result.andThen]
  exact hK' _ _ hK

/-- What the map of copies says. -/
def NumC (D : DataW TypeId) (cnt pl : List Int → Nat) : Prop :=
  IsMap D ∧ ∀ F : List Int, (∀ x ∈ F, lit x = true) → D.atKey (.string (kb F)) (cpD 0 0) = cpD (cnt F) (pl F)
theorem NumC.start : NumC (.map []) (fun _ => 0) (fun _ => 0) := ⟨⟨[], rfl⟩, fun _ _ => rfl⟩
theorem NumC.put {D : DataW TypeId} {cnt pl : List Int → Nat} (h : NumC D cnt pl) {F : List Int} (hF : ∀ x ∈ F, lit x = true) (a b : Nat) :
    NumC (D.put (.string (kb F)) (cpD a b)) (fun G => if G = F then a else cnt G) (fun G => if G = F then b else pl G) := by
  refine ⟨h.1.put _ _, fun G hG => ?_⟩
  by_cases e : G = F
  · subst e
    rw [atKey_put_same h.1 (by trivial)]
    simp
  · rw [atKey_put_other (fun e2 => e (kb_inj hG hF (by injection e2)))]
    simp only [if_neg e]
    exact h.2 G hG
theorem key_lit {F : List Int} (h : F.length ≤ 1000000) : keyOf Try.prog 9 (.string ⟨(kb F).toArray⟩) = some (.string (kb F)) := by
  have := Go.WideMaps.keyOf_string_mk (k := 9) (P := Try.prog) Try.underlying9 (s := ⟨(kb F).toArray⟩) (by
    show (kb F).toArray.size ≤ maxLen
    rw [List.size_toArray, kb_length]; unfold maxLen; omega)
  rw [this]

/-- The struct with the clauses and their copies. -/
def prF (K Q : Nat) (j : Nat) : Value := if j = 0 then .pointer (some ⟨K, 0, none⟩) else .map (some Q)
structure PMem (w : World) (P Q K M m : Nat) (L : Tag → Value) (s : St) (cnt pl : List Int → Nat) : Prop where
  mem : Mem w K M L s
  pr : w.rowIs P 84 2 (prF K Q)
  mp : ∃ D, w.ownsMap (H := TypeId) Try.prog 9 cpR Q m D ∧ NumC D cnt pl
  pb : ¬ Bl K M L P
  qb : ¬ Bl K M L Q
  pq : P ≠ Q
theorem ownsCp_of_block {w w' : World} {b n : Nat} {D : DataW TypeId} (h : w.ownsMap Try.prog 9 cpR b n D) (e : w'.heap[b]? = w.heap[b]?) : w'.ownsMap Try.prog 9 cpR b n D := by
  obtain ⟨es, clock, hb, r⟩ := h
  exact ⟨es, clock, e.trans hb, r⟩
theorem PMem.below {w w' : World} {P Q K M m : Nat} {L : Tag → Value} {s : St} {cnt pl : List Int → Nat} (h : PMem w P Q K M m L s cnt pl) (hb : Below w.heap.size w w') : PMem w' P Q K M m L s cnt pl := by
  obtain ⟨D, h1, h2⟩ := h.mp
  have hf : Fr (fun _ => False) w w' := .of_below hb
  exact ⟨h.mem.keep hf fun _ _ h => h, hf.rowIs h.pr id, ⟨D, ownsCp_of_block h1 (hf.block _ h1.lt id), h2⟩, h.pb, h.qb, h.pq⟩
/-- The known clauses turn. -/
theorem PMem.tn {w w' : World} {P Q K M m : Nat} {L L' : Tag → Value} {s s' : St} {cnt pl : List Int → Nat} (h : PMem w P Q K M m L s cnt pl) (T : Tn K M w L w' L' s') : PMem w' P Q K M m L' s' cnt pl := by
  obtain ⟨D, h1, h2⟩ := h.mp
  refine ⟨T.mem, T.fr.rowIs h.pr h.pb, ⟨D, ownsCp_of_block h1 (T.fr.block _ h1.lt h.qb), h2⟩, fun hb => ?_, fun hb => ?_, h.pq⟩
  · rcases T.gr _ hb with e | e
    · exact h.pb e
    · have := h.pr.lt; omega
  · rcases T.gr _ hb with e | e
    · exact h.qb e
    · have := h1.lt; omega

set_option maxHeartbeats 1000000 in
theorem newPresent_any (w : World) : Calls Try.prog 29 #[] w fun e w' => ∃ P Q K M L, e = .returned (.pointer (some ⟨P, 0, none⟩)) ∧ PMem w' P Q K M 0 L St0 (fun _ => 0) (fun _ => 0) ∧ Below w.heap.size w w' ∧ (∀ b, Bl K M L b → w.heap.size ≤ b) ∧ w.heap.size ≤ P ∧ w.heap.size ≤ Q := by
  have hmm := @run_makeMap Try.prog
  have hfin : ∀ (w1 : World) (K M : Nat) (L : Tag → Value), Mem w1 K M L St0 → Below w.heap.size w w1 → (∀ b, Bl K M L b → w.heap.size ≤ b) →
      PMem ((w1.alloc (.map #[] 0)).alloc (.cells #[.pointer (some ⟨K, 0, none⟩), .map (some w1.heap.size)] 84)) (w1.heap.size + 1) w1.heap.size K M 0 L St0 (fun _ => 0) (fun _ => 0) ∧ Below w.heap.size w ((w1.alloc (.map #[] 0)).alloc (.cells #[.pointer (some ⟨K, 0, none⟩), .map (some w1.heap.size)] 84)) ∧ (∀ b, Bl K M L b → w.heap.size ≤ b) ∧ w.heap.size ≤ w1.heap.size := by
    intro w1 K M L hm hb hn
    have hb2 : Below w1.heap.size w1 ((w1.alloc (.map #[] 0)).alloc (.cells #[.pointer (some ⟨K, 0, none⟩), .map (some w1.heap.size)] 84)) := ((Below.refl _ w1).alloc (Nat.le_refl _) _).alloc (by simp) _
    refine ⟨⟨hm.keep (B := fun _ => False) (.of_below hb2) fun _ _ h => h, ?_, ⟨.map [], (World.ownsMap_made w1 Try.prog 9 cpR).alloc _, NumC.start⟩, fun h => ?_, fun h => ?_, by omega⟩, hb.trans (hb2.mono hb.size), hn, hb.size⟩
    · have h1 := World.rowIs_alloc (w1.alloc (.map #[] 0)) #[.pointer (some ⟨K, 0, none⟩), .map (some w1.heap.size)] 84 (prF K w1.heap.size) (fun i hi => by
        have hi' : i < 2 := hi
        match i, hi' with
        | 0, _ | 1, _ => rfl)
      rw [World.size_alloc] at h1
      exact h1
    · have := hm.lt h; omega
    · have := hm.lt h; omega
  have HF := Lib.hid hfin; clear hfin
  go_enter Try.func29, Try.ntmps29
  go_wp2_with (go_at_call 21; refine (newKnown_any _).mono ?_; rintro e w1 ⟨K, M, L, rfl, h1, h2, h3⟩; have HO := Lib.hid (HF.out w1 K M L h1 h2 h3); clear h1 h2 h3)
  go_ret
  exact ⟨_, _, K, M, L, rfl, HO.out.1, HO.out.2.1, HO.out.2.2.1, Nat.le_succ_of_le HO.out.2.2.2, HO.out.2.2.2⟩
end Go.Proofs.Ytoffhgiljnagcaa
