/- Joined: TA, TB, TC, TD, TE, TF. -/
import Derived.Test.YtoffhgiljnagcaaM
import Derived.Test.YtoffhgiljnagcaaRN
import Derived.Maps.AppendAt
import Derived.Laws.AppendOwnNone
import Derived.Test.YtoffhgiljnagcaaQL
import Derived.Test.YtoffhgiljnagcaaQJ
import Derived.Test.YtoffhgiljnagcaaRS
import Derived.Test.YtoffhgiljnagcaaQI
/- A slice of the law's own that grows by append: in memory; at the operation. -/
namespace Go.Proofs.Ytoffhgiljnagcaa
open Go.RowKit Go.Lib Go.Maps

/-- An operation whose guard is met is as one with none. -/
theorem wpList_unguard {P : Program} {ops : Array Oper} {Q : Exit → Act → World → Prop} {rest : List Oper} {o : Oper} {a : Act} {w : World}
    (hw : Region.wanted o (yielded ops a.tmps) = true) (h : wpList P ops Q ({ o with guard := none } :: rest) a w) : wpList P ops Q (o :: rest) a w := by
  have h2 : Region.wanted { o with guard := none } (yielded ops a.tmps) = true := rfl
  simp only [wpList, hw, h2, if_true] at h ⊢
  exact h
/-- What an element type is. -/
structure Elem (t e : TypeId) (bytes : Nat) : Prop where
  ht : Try.prog.underlying t = some (.slice e)
  info : ∃ i z, Try.prog.info? e = some i ∧ i.zero = some z ∧ i.size = 1 ∧ i.bytes = bytes ∧ z.cells.size = 1
theorem elem_of {t e : TypeId} {bytes : Nat} {z : Value} (ht : Try.prog.underlying t = some (.slice e)) (h : (Try.prog.info? e).map (fun i => (i.zero, i.size, i.bytes)) = some (some z, 1, bytes)) (hz : z.cells.size = 1) : Elem t e bytes := by
  obtain ⟨i, h1, h2, h3, h4⟩ := info_parts h
  exact ⟨ht, i, z, h1, h2, h3, h4, hz⟩
theorem elemInt : Elem 23 3 8 := elem_of Try.underlying23 (z := .int .i64 0) (by kernel_rfl) rfl
theorem elemRow : Elem 22 23 24 := elem_of Try.underlying22 (z := .slice none 0 0) (by kernel_rfl) rfl
theorem elemBool : Elem 34 4 1 := elem_of Try.underlying34 (z := .bool false) (by kernel_rfl) rfl

/-- One more behind. -/
def snV (F : Nat → Value) (n : Nat) (x : Value) (j : Nat) : Value := if j < n then F j else x
def catV (F : Nat → Value) (n : Nat) (G : Nat → Value) (j : Nat) : Value := if j < n then F j else G (j - n)
/-- It lies beyond what was there at W. -/
structure Frs (e : TypeId) (W w : World) (v : Value) (n : Nat) (F : Nat → Value) : Prop where
  own : Sl w e 1 v n F
  bel : Below W.heap.size W w
  new : ∀ b, v.ownBlock = some b → W.heap.size ≤ b
variable {a : Option Addr} {c : Nat} {e t : TypeId} {bytes : Nat} {W w w' : World} {v : Value} {n : Nat} {F : Nat → Value}
theorem Frs.congr (h : Frs e W w v n F) {F' : Nat → Value} (hf : ∀ j, j < n → F j = F' j) : Frs e W w v n F' :=
  ⟨h.own.congr fun j hj => hf j (by omega), h.bel, h.new⟩
theorem Frs.nil (hb : Below W.heap.size W w) (F : Nat → Value) : Frs e W w (.slice none 0 0) 0 F := ⟨Sl.nil, hb, fun b h => by cases h⟩
theorem Frs.then (h : Frs e W w v n F) (hb : Below w.heap.size w w') : Frs e W w' v n F :=
  ⟨h.own.of_block fun b e => hb.block b (h.own.lt e), h.bel.trans (hb.mono h.bel.size), h.new⟩
theorem Frs.made (hb : Below W.heap.size W w) (xs : Array Value) (F : Nat → Value) (hF : ∀ j, j < xs.size → xs[j]? = some (F j)) (hm : xs.size ≤ maxLen) : Frs e W (w.alloc (.cells xs e)) (.slice (some ⟨w.heap.size, 0, none⟩) xs.size xs.size) xs.size F := by
  refine ⟨.inr ⟨w.heap.size, xs.size, F, rfl, Nat.le_refl _, hm, ?_, fun _ _ => rfl⟩, hb.trans ((Below.refl W.heap.size w).alloc hb.size _), fun b e => ?_⟩
  · rw [Nat.mul_one]
    exact World.rowIs_alloc w xs e F (fun i hi => hF i hi)
  · cases e; exact hb.size

/-- The source of an append. -/
def Src (w : World) (a : Option Addr) (m c : Nat) (G : Nat → Value) : Prop :=
  (a = none ∧ m = 0 ∧ c = 0) ∨ ∃ ad, a = some ad ∧ ∀ j, j < m → w.cell? (ad.add j) = some (G j) ∧ (G j).oneCell' = true
theorem lst_get (G : Nat → Value) (m j : Nat) (u : Value) : (lst G m)[j]? = some u ↔ j < m ∧ G j = u := by
  simp only [lst, List.getElem?_map]
  by_cases h : j < m
  · simp [h]
  · simp [h]
theorem cat_eq (F G : Nat → Value) (n m : Nat) : ∀ j, j < (n + m) * 1 → (lst F (n * 1) ++ lst G m)[j]? = some (catV F n G j) := by
  intro j hj
  by_cases h : j < n
  · rw [List.getElem?_append_left (by simpa [lst] using h), catV, if_pos h]
    exact (lst_get _ _ _ _).2 ⟨by omega, rfl⟩
  · rw [List.getElem?_append_right (by simp [lst]; omega), catV, if_neg h]
    have : (lst F (n * 1)).length = n := by simp [lst]
    rw [this]
    exact (lst_get _ _ _ _).2 ⟨by omega, rfl⟩
theorem Frs.grown (h : Frs e W w v n F) {w0 w' : World} (h0 : Below W.heap.size W w0) (hs : w.heap.size ≤ w0.heap.size) {v' : Value} {m : Nat} {G : Nat → Value} (g1 : w'.ownsRow 0 e 1 v' (n + m) (lst F (n * 1) ++ lst G m)) (g2 : w0.grownBy w' v.ownBlock) (g3 : v'.ownBlock = v.ownBlock ∨ v'.ownBlock = some w0.heap.size) :
    Frs e W w' v' (n + m) (catV F n G) := by
  refine ⟨Sl.of_owns g1 (cat_eq F G n m), ?_, fun b hb => ?_⟩
  · have hf : Fr (fun b => v.ownBlock = some b) w0 w' := (Fr.refl _ w0).grown g2 (fun k e _ => e)
    exact h0.trans (hf.below h0.size fun b e => h.new b e)
  · rcases g3 with e | e
    · rw [e] at hb; exact h.new b hb
    · rw [e] at hb; cases hb; exact h0.size
/-- append of a slice, and what it leaves alone. -/
theorem Frs.appF (he : Elem t e bytes) (h : Hid (Frs e W w v n F)) {w0 : World} (h0 : Below w.heap.size w w0) {ao : Option Addr} {m c : Nat} {G : Nat → Value} (hsrc : Src w0 ao m c G) (h63 : n + m ≤ maxLen) (hbytes : (n + m) * bytes ≤ 140737488355328)
    {ops : Array Oper} {rest : List Oper} {o : Oper} {a : Act} {Q : Exit → Act → World → Prop} (hgd : o.guard = none) (s x : Operand)
    (ho : o.op = .call { callee := .builtin .append, args := #[s, x], argTypes := #[t, t] }) (hs : a.eval s = v) (hx : a.eval x = .slice ao m c)
    (k : ∀ a' c' w', Hid (Frs e W w' (.slice a' (n + m) c') (n + m) (catV F n G) ∧ Fr (fun b => v.ownBlock = some b) w0 w' ∧ ((Value.slice a' (n + m) c').ownBlock = v.ownBlock ∨ (Value.slice a' (n + m) c').ownBlock = some w0.heap.size)) → wpList Try.prog ops Q rest (a.put o.dst (.slice a' (n + m) c')) w') :
    wpList Try.prog ops Q (o :: rest) a w0 := by
  obtain ⟨i, z, hi, hz, hsz, hby, hzs⟩ := he.info
  have H0 : Frs e W w0 v n F := h.out.then h0
  have hown := H0.own.owns
  rcases hsrc with ⟨rfl, rfl, rfl⟩ | ⟨ad, rfl, hc⟩
  · obtain ⟨a', c', rfl, _⟩ := H0.own.shape
    refine wpList_append_own_none hgd s x t ho 0 e i 1 he.ht hi _ n _ hs hown hx (k a' c' w0 (Lib.hid ⟨H0.congr fun j hj => ?_, Fr.refl _ _, .inl rfl⟩))
    simp [catV, hj]
  · refine wpList_append_own_at _ hgd s x t ho 0 e i z 1 bytes he.ht hi hz hsz hby hzs (by decide) v n _ hs hown ad m c (lst G m) hx (by simp [lst]) (fun j u hj => ?_) (fun u hu => ?_) h63 hbytes (Nat.zero_le _) ?_
    · obtain ⟨hj1, rfl⟩ := (lst_get _ _ _ _).1 hj
      exact (hc j hj1).1
    · simp only [lst, List.mem_map, List.mem_range] at hu
      obtain ⟨j, hj, rfl⟩ := hu
      exact (hc j hj).2
    · intro v' w' g1 g2 _ g3
      have hF := Frs.grown H0 H0.bel (Nat.le_refl _) g1 g2 g3
      obtain ⟨a', c', rfl, _⟩ := hF.own.shape
      exact k a' c' w' (Lib.hid ⟨hF, (Fr.refl _ w0).grown g2 (fun k e _ => e), g3⟩)
/-- append of a slice. -/
theorem Frs.app (he : Elem t e bytes) (h : Hid (Frs e W w v n F)) {w0 : World} (h0 : Below w.heap.size w w0) {ao : Option Addr} {m c : Nat} {G : Nat → Value} (hsrc : Src w0 ao m c G) (h63 : n + m ≤ maxLen) (hbytes : (n + m) * bytes ≤ 140737488355328)
    {ops : Array Oper} {rest : List Oper} {o : Oper} {a : Act} {Q : Exit → Act → World → Prop} (hgd : o.guard = none) (s x : Operand)
    (ho : o.op = .call { callee := .builtin .append, args := #[s, x], argTypes := #[t, t] }) (hs : a.eval s = v) (hx : a.eval x = .slice ao m c)
    (k : ∀ a' c' w', Hid (Frs e W w' (.slice a' (n + m) c') (n + m) (catV F n G)) → wpList Try.prog ops Q rest (a.put o.dst (.slice a' (n + m) c')) w') :
    wpList Try.prog ops Q (o :: rest) a w0 :=
  Frs.appF he h h0 hsrc h63 hbytes hgd s x ho hs hx fun a' c' w' H => k a' c' w' (Lib.hid H.out.1)
/-- append to one that was made with one element. -/
theorem Frs.app11 (he : Elem t e bytes) {w1 : World} (hb : Below W.heap.size W w1) (u : Value) {ao : Option Addr} {m c : Nat} {G : Nat → Value} (hsrc : Src (w1.alloc (.cells #[u] e)) ao m c G) (h63 : 1 + m ≤ maxLen) (hbytes : (1 + m) * bytes ≤ 140737488355328)
    {ops : Array Oper} {rest : List Oper} {o : Oper} {a : Act} {Q : Exit → Act → World → Prop} (hgd : o.guard = none) (s x : Operand)
    (ho : o.op = .call { callee := .builtin .append, args := #[s, x], argTypes := #[t, t] }) (hs : a.eval s = .slice (some ⟨w1.heap.size, 0, none⟩) 1 1) (hx : a.eval x = .slice ao m c)
    (k : ∀ a' c' w', Hid (Frs e W w' (.slice a' (1 + m) c') (1 + m) (catV (fun _ => u) 1 G)) → wpList Try.prog ops Q rest (a.put o.dst (.slice a' (1 + m) c')) w') :
    wpList Try.prog ops Q (o :: rest) a (w1.alloc (.cells #[u] e)) := by
  have H := Lib.hid (Frs.made (e := e) hb #[u] (fun _ => u) (fun j hj => by
    obtain rfl : j = 0 := by simp at hj; omega
    rfl) (by unfold maxLen; simp))
  exact Frs.app he H (Below.refl _ _) hsrc h63 hbytes hgd s x ho hs hx k
/-- append to an empty one that was made. -/
theorem Frs.app0 (he : Elem t e bytes) {w1 : World} (hb : Below W.heap.size W w1) {ao : Option Addr} {m c : Nat} {G : Nat → Value} (hsrc : Src (w1.alloc (.cells #[] e)) ao m c G) (h63 : m ≤ maxLen) (hbytes : m * bytes ≤ 140737488355328)
    {ops : Array Oper} {rest : List Oper} {o : Oper} {a : Act} {Q : Exit → Act → World → Prop} (hgd : o.guard = none) (s x : Operand)
    (ho : o.op = .call { callee := .builtin .append, args := #[s, x], argTypes := #[t, t] }) (hs : a.eval s = .slice (some ⟨w1.heap.size, 0, none⟩) 0 0) (hx : a.eval x = .slice ao m c)
    (k : ∀ a' c' w', Hid (Frs e W w' (.slice a' m c') m G) → wpList Try.prog ops Q rest (a.put o.dst (.slice a' m c')) w') :
    wpList Try.prog ops Q (o :: rest) a (w1.alloc (.cells #[] e)) := by
  have H := Lib.hid (Frs.made (e := e) hb #[] (fun _ => .bool false) (fun j hj => absurd hj (Nat.not_lt_zero _)) (Nat.zero_le _))
  refine Frs.app he H (Below.refl _ _) hsrc (by simpa using h63) (by simpa using hbytes) hgd s x ho hs hx (fun a' c' w' H' => ?_)
  have H' := H'.out
  simp only [List.size_toArray, List.length_nil, Nat.zero_add] at H' ⊢
  exact k a' c' w' (Lib.hid (H'.congr fun j hj => by simp [catV]))
/-- append of one. -/
theorem Frs.app1 (he : Elem t e bytes) (h : Hid (Frs e W w v n F)) {w0 : World} (h0 : Below w.heap.size w w0) (u : Value) (hu : u.oneCell' = true) (h63 : n + 1 ≤ maxLen) (hbytes : (n + 1) * bytes ≤ 140737488355328)
    {ops : Array Oper} {rest : List Oper} {o : Oper} {a : Act} {Q : Exit → Act → World → Prop} (hgd : o.guard = none) (s x : Operand)
    (ho : o.op = .call { callee := .builtin .append, args := #[s, x], argTypes := #[t, t] }) (hs : a.eval s = v) (hx : a.eval x = .slice (some ⟨w0.heap.size, 0, none⟩) 1 1)
    (k : ∀ a' c' w', Hid (Frs e W w' (.slice a' (n + 1) c') (n + 1) (snV F n u)) → wpList Try.prog ops Q rest (a.put o.dst (.slice a' (n + 1) c')) w') :
    wpList Try.prog ops Q (o :: rest) a (w0.alloc (.cells #[u] e)) := by
  refine Frs.app (G := fun _ => u) he h (h0.alloc h0.size _) (.inr ⟨_, rfl, fun j hj => ⟨?_, hu⟩⟩) h63 hbytes hgd s x ho hs hx (fun a' c' w' H => k a' c' w' (Lib.hid (H.out.congr fun j hj => ?_)))
  · obtain rfl : j = 0 := by omega
    exact one_at w0 w0.heap.size rfl rfl 0 u rfl
  · simp [catV, snV]
theorem adr (b off j : Nat) : (⟨b, off, none⟩ : Addr).add j = ⟨b, off + j, none⟩ := by simp [Addr.add]
/-- What it is to readers. -/
theorem Frs.has (h : Frs 3 W w (.slice a n c) n F) {f : Nat → Int} (hf : ∀ j, j < n → F j = .int .i64 (f j)) : Has w a n f := by
  by_cases h0 : n = 0
  · exact .inl h0
  · obtain ⟨g, c', e, _, _, hlt⟩ := h.own.pos (by omega)
    cases e
    exact .inr ⟨g, 0, rfl, hlt, fun j hj => by rw [Nat.zero_add, h.own.cell (by omega), hf j hj]⟩
theorem Frs.hasB (h : Frs 4 W w (.slice a n c) n F) {f : Nat → Bool} (hf : ∀ j, j < n → F j = .bool (f j)) : HasB w a n f := by
  by_cases h0 : n = 0
  · exact .inl h0
  · obtain ⟨g, c', e, _, _, hlt⟩ := h.own.pos (by omega)
    cases e
    exact .inr ⟨g, 0, rfl, hlt, fun j hj => by rw [Nat.zero_add, h.own.cell (by omega), hf j hj]⟩
theorem Frs.rows (h : Frs 23 W w (.slice a n c) n F) {R : Nat → Row} (hf : ∀ j, j < n → F j = .slice (R j).a (R j).n (R j).c ∧ Has w (R j).a (R j).n (R j).f) : Rws w a n R := by
  by_cases h0 : n = 0
  · exact .inl h0
  · obtain ⟨g, c', e, _, _, hlt⟩ := h.own.pos (by omega)
    cases e
    exact .inr ⟨g, 0, rfl, hlt, fun j hj => ⟨by rw [Nat.zero_add, h.own.cell (by omega), (hf j hj).1], (hf j hj).2⟩⟩
theorem Has.src {w : World} {a : Option Addr} {n c : Nat} {f : Nat → Int} (h : Has w a n f) (hnil : a = none → n = 0 ∧ c = 0) : Src w a n c (fun j => .int .i64 (f j)) := by
  cases ha : a with
  | none => exact .inl ⟨rfl, hnil ha⟩
  | some ad =>
    refine .inr ⟨ad, rfl, fun j hj => ⟨?_, rfl⟩⟩
    rcases h with h0 | ⟨b, off, e, hlt, hc⟩
    · omega
    · rw [ha] at e; cases e
      rw [adr]; exact hc j hj
theorem Rws.src {w : World} {a : Option Addr} {n c : Nat} {R : Nat → Row} (h : Rws w a n R) (hnil : a = none → n = 0 ∧ c = 0) : Src w a n c (fun j => .slice (R j).a (R j).n (R j).c) := by
  cases ha : a with
  | none => exact .inl ⟨rfl, hnil ha⟩
  | some ad =>
    refine .inr ⟨ad, rfl, fun j hj => ⟨?_, rfl⟩⟩
    rcases h with h0 | ⟨b, off, e, hlt, hc⟩
    · omega
    · rw [ha] at e; cases e
      rw [adr]; exact (hc j hj).1
theorem Frs.src (h : Frs e W w (.slice a n c) n F) (h1 : ∀ j, j < n → (F j).oneCell' = true) : Src w a n c F := by
  rcases h.own with ⟨e, _⟩ | ⟨g, c', F', e, _, _, h4, h5⟩
  · cases e; exact .inl ⟨rfl, rfl, rfl⟩
  · cases e
    refine .inr ⟨_, rfl, fun j hj => ⟨?_, h1 j hj⟩⟩
    rw [adr, Nat.zero_add]; exact h.own.cell (j := j) (by omega)
theorem Frs.nilA (h : Frs e W w (.slice a n c) n F) : a = none → n = 0 ∧ c = 0 := by
  rcases h.own with ⟨e, _⟩ | ⟨g, c', F', e, _⟩
  · cases e; exact fun _ => ⟨rfl, rfl⟩
  · cases e; intro h; cases h
end Go.Proofs.Ytoffhgiljnagcaa
/- Contracts: the answers' Conflict, Follows. -/
namespace Go.Proofs.Ytoffhgiljnagcaa
open Go.RowKit Go.Lib
set_option maxRecDepth 100000

theorem lit_neg {x : Int} (h : lit x = true) : IntKind.i64.wrap (-x) = -x := by
  have := lit_iff.1 h
  exact IntWalk.i64_in (-x) (by omega)
/-- What a call says. -/
def ConPost (R : Nat → Row) (n : Nat) (so : Nat → Int) (m : Nat) (w : World) (e : Ending) (w' : World) : Prop :=
  ∃ b : Bool, e = .returned (.bool b) ∧ Hid (b = true ↔ Conf (RowC R n) (Has' so m)) ∧ Hid (Below w.heap.size w w')

theorem in_has {x : Int} {a : Option Addr} {n c : Nat} {f : Nat → Int} {w : World} (h : Hid (Has w a n f)) (hm : n ≤ 140737488355328) : Calls Try.prog 76 #[.int .i64 x, .slice a n c] w fun e w' => e = .returned (.bool (inF f n x)) ∧ w = w' :=
  in_any x a n c f w hm h.out
/-- The call within. -/
def ConRec (a0 : Option Addr) (n c0 : Nat) (R : Nat → Row) (so : Nat → Int) (m : Nat) (w : World) : Prop :=
  ∀ (a' : Option Addr) (c' : Nat) (so' : Nat → Int) (w' : World), Below w.heap.size w w' → Has w' a' (m + 1) so' → (a' = none → m + 1 = 0 ∧ c' = 0) → (∀ i, i < m + 1 → lit (so' i) = true) → outs (rowsL R n).flatten so' (m + 1) < outs (rowsL R n).flatten so m →
    Calls Try.prog 58 #[.slice a0 n c0, .slice a' (m + 1) c'] w' (ConPost R n so' (m + 1) w')
theorem snV_int (f : Nat → Int) (n : Nat) (x : Int) : ∀ j, snV (fun j => .int .i64 (f j)) n (.int .i64 x) j = .int .i64 (snF f n x j) := by
  intro j
  unfold snV snF
  split <;> rfl
theorem lit_in {R : Nat → Row} {n i j : Nat} (h : litR R n = true) (hi : i < n) (hj : j < (R i).n) : lit ((R i).f j) = true :=
  litF_iff.1 (litR_iff.1 h i hi) j hj
theorem con_end {R : Nat → Row} {n m i o : Nat} {so : Nat → Int} {last : Int} {h : Bool} {w w2 : World} (hb : Below w.heap.size w w2) (hi : i < n) (H : Opn so m (R i).f (R i).n o last h) (hh : h = false) (ho : o = 1) {e : Ending} {w3 : World} (hc : ConPost R n (snF so m last) (m + 1) w2 e w3) : ConPost R n so m w e w3 := by
  obtain ⟨b, h1, h2, h3⟩ := hc
  exact ⟨b, h1, Lib.hid (h2.out.trans (H.unit hi hh ho)), Lib.hid (hb.trans (h3.out.mono hb.size))⟩

set_option maxHeartbeats 8000000 in
theorem con_body (a0 : Option Addr) (n c0 : Nat) (R : Nat → Row) (hn : n ≤ 1000) (hl : litR R n = true) (hR : ∀ j, j < n → (R j).n ≤ 1000 ∧ (R j).n ≤ (R j).c ∧ (R j).c ≤ 9223372036854775807) (a1 : Option Addr) (m c1 : Nat) (so : Nat → Int) (w : World)
    (hm : m ≤ 2000000) (hs : ∀ i, i < m → lit (so i) = true) (hr : Rws w a0 n R) (ha : Has w a1 m so) (hnil : a1 = none → m = 0 ∧ c1 = 0) (hrec : ConRec a0 n c0 R so m w) :
    Calls Try.prog 58 #[.slice a0 n c0, .slice a1 m c1] w (ConPost R n so m w) := by
  have HIN := Lib.hid (fun x => in_any x a1 m c1 so w (by omega) ha)
  have HA := Lib.hid ha
  have HR := Lib.hid (And.intro hr hR)
  have HS := Lib.hid hs
  have HL := Lib.hid hl
  have HREC := Lib.hid hrec
  have HSRC := Lib.hid (fun (w' : World) (hb : Below w.heap.size w w') => (ha.below hb).src hnil)
  clear hr hR hs hl hrec hnil ha
  go_enter Try.func58, Try.ntmps58
  go_wp2
  go_loop [5] (fun v => ∃ i : Nat, i ≤ m ∧ v = .int .i64 i ∧ Hid (∀ j, j < i → ¬ Has' so m (-so j))) (fun v => m - (intOf v).toNat)
  case atStart => exact ⟨0, Nat.zero_le _, rfl, Lib.hid fun j h => absurd h (Nat.not_lt_zero _)⟩
  case round =>
    obtain ⟨i, hi, rfl, HI⟩ := hrel
    by_cases hlt : i < m
    · rcases HA.out with h0 | ⟨b, off, rfl, hb, hc⟩
      · omega
      have xc := hc i hlt
      have hw := lit_neg (HS.out i hlt)
      have HX := HIN.out (-so i)
      clear hc hb HIN HREC HSRC HR
      cases e : inF so m (-so i)
      · rw [e] at HX
        have HX := Lib.hid HX
        have HN := Lib.hid (show ∀ j, j < i + 1 → ¬ Has' so m (-so j) from fun j hj => by
          rcases lt_succ hj with h | rfl
          · exact HI.out j h
          · exact inF_no.1 e)
        clear e
        go_wp2_with (go_at_call 76; refine HX.out.mono ?_; rintro e w' ⟨rfl, rfl⟩)
        go_round
        case rel => exact ⟨i + 1, by omega, by go_num, HN⟩
        case measure => simp [intOf]; omega
      · rw [e] at HX
        have HX := Lib.hid HX
        have HE := Lib.hid (conf_clash (RowC R n) hlt (inF_has.1 e))
        clear e
        go_wp2_with (go_at_call 76; refine HX.out.mono ?_; rintro e w' ⟨rfl, rfl⟩)
        go_ret
        exact ⟨true, rfl, Lib.hid ⟨fun _ => HE.out, fun _ => rfl⟩, Lib.hid (Below.refl _ _)⟩
    · obtain rfl : i = m := by omega
      have hltI : ¬ (i : Int) < (i : Int) := by omega
      clear hlt
      go_wp2
      go_loop [6, 7, 8, 9, 10, 11] (fun v _ _ _ _ _ => ∃ t : Nat, t ≤ n ∧ v = .int .i64 t ∧ Hid (∀ j, j < t → Qui so i R j)) (fun v _ _ _ _ _ => n - (intOf v).toNat)
      case atStart => exact ⟨0, Nat.zero_le _, rfl, Lib.hid fun j h => absurd h (Nat.not_lt_zero _)⟩
      case round =>
        obtain ⟨t, ht, rfl, HQ⟩ := hrel
        by_cases hlt : t < n
        · rcases HR.out.1 with h0 | ⟨b, off, rfl, hb, hc⟩
          · omega
          obtain ⟨xc, hx⟩ := hc t hlt
          have HX := Lib.hid hx
          obtain ⟨hrn, hrc, hrm⟩ := HR.out.2 t hlt
          have HLI := Lib.hid (fun j (hj : j < (R t).n) => lit_in HL.out hlt hj)
          clear hc hb hx
          go_wp2
          go_loop [7, 8, 9, 10, 11] (fun o l h k _ => ∃ (q k' : Nat) (last : Int) (hh : Bool), k' ≤ (R t).n ∧ o = .int .i64 q ∧ l = .int .i64 last ∧ h = .bool hh ∧ k = .int .i64 k' ∧ Hid (Opn so i (R t).f k' q last hh)) (fun _ _ _ k _ => (R t).n - (intOf k).toNat)
          case atStart => exact ⟨0, 0, 0, false, Nat.zero_le _, rfl, rfl, rfl, rfl, Lib.hid (Opn.start _ _ _)⟩
          case round =>
            obtain ⟨q, k, last, hh, hk, rfl, rfl, rfl, rfl, HO⟩ := hrel
            by_cases hkl : k < (R t).n
            · rcases HX.out with h0 | ⟨b', off', hra, hb', hc'⟩
              · omega
              have yc := hc' k hkl
              rw [hra] at xc
              have hw := lit_neg (HLI.out k hkl)
              have hqk : q ≤ k := HO.out.ok
              have H3 := Lib.hid (show Has w (some ⟨b', off', none⟩) k (R t).f from .inr ⟨b', off', rfl, hb', fun j hj => hc' j (by omega)⟩)
              clear hc' hb'
              cases e1 : inF so i ((R t).f k)
              · cases e2 : inF so i (-(R t).f k)
                · cases e3 : inF (R t).f k ((R t).f k)
                  · have HN := Lib.hid (HO.out.next (inF_no.1 e1) (inF_no.1 e2) (fun ⟨j, hj, e⟩ => inF_not.1 e3 j hj e))
                    clear HO
                    go_wp2_with (first | (go_at_call 76; refine (in_has (f := so) (by exact HA) (by omega)).mono ?_; rintro e w' ⟨rfl, rfl⟩) | (go_at_call 76; refine (in_has (f := (R t).f) (by exact H3) (by omega)).mono ?_; rintro e w' ⟨rfl, rfl⟩))
                    go_round
                    case rel => exact ⟨q + 1, k + 1, _, hh, by omega, by go_num, rfl, rfl, by go_num, HN⟩
                    case measure => simp [intOf]; omega
                  · have HN := Lib.hid (HO.out.skip (inF_no.1 e1) (.inr (inF_iff.1 e3)))
                    clear HO
                    go_wp2_with (first | (go_at_call 76; refine (in_has (f := so) (by exact HA) (by omega)).mono ?_; rintro e w' ⟨rfl, rfl⟩) | (go_at_call 76; refine (in_has (f := (R t).f) (by exact H3) (by omega)).mono ?_; rintro e w' ⟨rfl, rfl⟩))
                    go_round
                    case rel => exact ⟨q, k + 1, last, hh, by omega, rfl, rfl, rfl, by go_num, HN⟩
                    case measure => simp [intOf]; omega
                · have HN := Lib.hid (HO.out.skip (inF_no.1 e1) (.inl (inF_has.1 e2)))
                  clear HO
                  go_wp2_with (first | (go_at_call 76; refine (in_has (f := so) (by exact HA) (by omega)).mono ?_; rintro e w' ⟨rfl, rfl⟩) | (go_at_call 76; refine (in_has (f := (R t).f) (by exact H3) (by omega)).mono ?_; rintro e w' ⟨rfl, rfl⟩))
                  go_round
                  case rel => exact ⟨q, k + 1, last, hh, by omega, rfl, rfl, rfl, by go_num, HN⟩
                  case measure => simp [intOf]; omega
              · have HN := Lib.hid (HO.out.hold (inF_has.1 e1))
                clear HO
                go_wp2_with (first | (go_at_call 76; refine (in_has (f := so) (by exact HA) (by omega)).mono ?_; rintro e w' ⟨rfl, rfl⟩) | (go_at_call 76; refine (in_has (f := (R t).f) (by exact H3) (by omega)).mono ?_; rintro e w' ⟨rfl, rfl⟩))
                go_round
                case rel => exact ⟨q, k + 1, last, true, by omega, rfl, rfl, rfl, by go_num, HN⟩
                case measure => simp [intOf]; omega
            · have hkn : k = (R t).n := by omega
              rw [hkn] at HO
              have hkI : ¬ (k : Int) < ((R t).n : Int) := by omega
              have hqk : q ≤ (R t).n := HO.out.ok
              clear hkn hkl hk
              cases hh with
              | true =>
                have HN := Lib.hid (show ∀ j, j < t + 1 → Qui so i R j from fun j hj => by
                  rcases lt_succ hj with h | rfl
                  · exact HQ.out j h
                  · exact HO.out.qui (.inl rfl))
                clear HO HQ
                go_wp2
                go_round
                case rel => exact ⟨t + 1, by omega, by go_num, HN⟩
                case measure => simp [intOf]; omega
              | false =>
                by_cases hq2 : 1 < q
                · have hqI : (1 : Int) < (q : Int) := by omega
                  have HN := Lib.hid (show ∀ j, j < t + 1 → Qui so i R j from fun j hj => by
                    rcases lt_succ hj with h | rfl
                    · exact HQ.out j h
                    · exact HO.out.qui (.inr hq2))
                  clear HO HQ hq2
                  go_wp2
                  go_round
                  case rel => exact ⟨t + 1, by omega, by go_num, HN⟩
                  case measure => simp [intOf]; omega
                · by_cases hq0 : q = 0
                  · have HN := Lib.hid (HO.out.none hlt rfl hq0)
                    subst hq0
                    clear HO HQ
                    go_wp2
                    go_ret
                    exact ⟨true, rfl, Lib.hid ⟨fun _ => HN.out, fun _ => rfl⟩, Lib.hid (Below.refl _ _)⟩
                  · obtain rfl : q = 1 := by omega
                    have HH := Lib.hid (HO.out.out hlt rfl)
                    have HLT := Lib.hid hlt
                    have hlast : Hid (lit last = true) := by
                      obtain ⟨⟨j, hj, rfl⟩, _⟩ := HO.out.o1 rfl
                      exact Lib.hid (HLI.out j hj)
                    have HSN := Lib.hid (show ∀ j, j < i + 1 → lit (snF so i last j) = true from fun j hj => by
                      by_cases h : j < i
                      · rw [snF, if_pos h]; exact HS.out j h
                      · rw [snF, if_neg h]; exact hlast.out)
                    clear hq0 hq2 HQ hlast
                    have HS0 := Lib.hid (HSRC.out _ ((Below.refl w.heap.size w).alloc (Nat.le_refl _) (.cells #[] 3)))
                    go_wp2_with (first
                      | (at_builtin; refine Frs.app1 elemInt H2 (Below.refl _ _) (.int .i64 last) rfl (by unfold maxLen; omega) (by omega) rfl _ _ rfl rfl rfl ?_; intro a3 c3 w3 H3)
                      | (at_builtin; refine Frs.app0 (W := w) elemInt (Below.refl _ _) HS0.out (by unfold maxLen; omega) (by omega) rfl _ _ rfl rfl rfl ?_; intro a2 c2 w2 H2)
                      | (go_at_call 58; refine (HREC.out a3 c3 (snF so i last) w3 H3.out.bel (H3.out.has fun j _ => snV_int so i last j) H3.out.nilA HSN.out HH.out).mono ?_; intro e w4 hp; obtain ⟨b, rfl, hb1, hb2⟩ := con_end H3.out.bel HLT.out HO.out rfl rfl hp; clear hp))
                    go_ret
                    exact ⟨b, rfl, hb1, hb2⟩
        · obtain rfl : t = n := by omega
          have hltI : ¬ (t : Int) < (t : Int) := by omega
          clear hlt
          have HE := Lib.hid (conf_false (R := R) (n := t) HI.out HQ.out)
          go_wp2
          go_ret
          exact ⟨false, rfl, Lib.hid ⟨fun h => by simp at h, fun h => absurd h HE.out⟩, Lib.hid (Below.refl _ _)⟩
theorem con_any (a0 : Option Addr) (n c0 : Nat) (R : Nat → Row) (hn : n ≤ 1000) (hl : litR R n = true) (hR : ∀ j, j < n → (R j).n ≤ 1000 ∧ (R j).n ≤ (R j).c ∧ (R j).c ≤ 9223372036854775807) : ∀ (k : Nat) (a1 : Option Addr) (m c1 : Nat) (so : Nat → Int) (w : World),
    outs (rowsL R n).flatten so m ≤ k → m + k ≤ 2000000 → (∀ i, i < m → lit (so i) = true) → Rws w a0 n R → Has w a1 m so → (a1 = none → m = 0 ∧ c1 = 0) →
    Calls Try.prog 58 #[.slice a0 n c0, .slice a1 m c1] w (ConPost R n so m w)
  | 0, a1, m, c1, so, w, hk, hm, hs, hr, ha, hnil => con_body a0 n c0 R hn hl hR a1 m c1 so w (by omega) hs hr ha hnil fun _ _ _ _ _ _ _ _ h => by omega
  | k + 1, a1, m, c1, so, w, hk, hm, hs, hr, ha, hnil => con_body a0 n c0 R hn hl hR a1 m c1 so w (by omega) hs hr ha hnil fun a' c' so' w' hb h1 h2 h3 h4 =>
    con_any a0 n c0 R hn hl hR k a' (m + 1) c' so' w' (by omega) (by omega) h3 (hr.below hb) h1 h2
end Go.Proofs.Ytoffhgiljnagcaa
/- Contracts: the answers' Follows. -/
namespace Go.Proofs.Ytoffhgiljnagcaa
open Go.RowKit Go.Lib
set_option maxRecDepth 100000

/-- The negations. -/
def ng (f : Nat → Int) (j : Nat) : Int := wrap64 (-f j)
theorem ng_lit {f : Nat → Int} {m j : Nat} (h : litF f m = true) (hj : j < m) : ng f j = -f j := by
  have := lit_iff.1 (litF_iff.1 h j hj)
  unfold ng wrap64; omega
theorem ng_lits {f : Nat → Int} {m : Nat} (h : litF f m = true) : ∀ j, j < m → lit (ng f j) = true := fun j hj => by
  have := lit_iff.1 (litF_iff.1 h j hj)
  rw [ng_lit h hj, lit_iff]; omega
theorem ng_den {f : Nat → Int} {m : Nat} (h : litF f m = true) : Has' (ng f) m = Den f m := by
  funext l
  refine propext ⟨fun ⟨j, hj, e⟩ => ⟨j, hj, by rw [← e, ng_lit h hj]⟩, fun ⟨j, hj, e⟩ => ⟨j, hj, by rw [e, ng_lit h hj]⟩⟩
def FoPost (R : Nat → Row) (n : Nat) (f : Nat → Int) (m : Nat) (w : World) (e : Ending) (w' : World) : Prop :=
  ∃ b : Bool, e = .returned (.bool b) ∧ Hid (b = true ↔ litR R n = true ∧ litF f m = true ∧ Conf (RowC R n) (Den f m)) ∧ Hid (Below w.heap.size w w')

set_option maxHeartbeats 8000000 in
theorem refFollows_any (a0 a1 : Option Addr) (n c0 m c1 : Nat) (R : Nat → Row) (f : Nat → Int) (w : World) (hn : n ≤ 1000) (hm : m ≤ 1000) (hR : ∀ j, j < n → (R j).n ≤ 30 ∧ (R j).n ≤ (R j).c ∧ (R j).c ≤ 9223372036854775807) (hr : Rws w a0 n R) (hf : Has w a1 m f) :
    Calls Try.prog 25 #[.slice a0 n c0, .slice a1 m c1] w (FoPost R n f m w) := by
  have HR := Lib.hid (And.intro hr hf)
  have HLE := Lib.hid (fun j hj => (hR j hj).1)
  have HCON := Lib.hid (show litR R n = true → litF f m = true → ∀ (a' : Option Addr) (c' : Nat) (w' : World), Below w.heap.size w w' → Has w' a' m (ng f) → (a' = none → m = 0 ∧ c' = 0) → Calls Try.prog 58 #[.slice a0 n c0, .slice a' m c'] w' (ConPost R n (ng f) m w') from fun h1 h2 a' c' w' hb ha hnil =>
    con_any a0 n c0 R hn h1 (fun j hj => by have := hR j hj; omega) _ a' m c' (ng f) w' (outs_le _ _ _) (by have := flat_le (R := R) (n := n) fun j hj => (hR j hj).1; omega) (ng_lits h2) (hr.below hb) ha hnil)
  have HRT := Lib.hid (fun (w' : World) (hb : Below w.heap.size w w') => refRight_any a1 m c1 f w' (by omega) (hf.below hb))
  clear hr hf hR
  go_enter Try.func25, Try.ntmps25
  go_wp2
  go_loop [5] (fun v => ∃ i : Nat, i ≤ n ∧ v = .int .i64 i ∧ Hid (litR R i = true)) (fun v => n - (intOf v).toNat)
  case atStart => exact ⟨0, Nat.zero_le _, rfl, Lib.hid (by simp [litR])⟩
  case round =>
    obtain ⟨i, hi, rfl, HI⟩ := hrel
    by_cases hlt : i < n
    · rcases HR.out.1 with h0 | ⟨b, off, rfl, hb, hc⟩
      · omega
      obtain ⟨xc, hx⟩ := hc i hlt
      have HX := refRight_any (R i).a (R i).n (R i).c (R i).f w (by have := HLE.out i hlt; omega) hx
      clear hc hb hx HCON HRT
      cases e : litF (R i).f (R i).n
      · have HN := Lib.hid (show ¬ litR R n = true from fun h => by rw [litR_iff.1 h i hlt] at e; cases e)
        rw [e] at HX
        have HX := Lib.hid HX
        clear e
        go_wp2_with (go_at_call 16; refine HX.out.mono ?_; rintro e w' ⟨rfl, rfl⟩)
        go_ret
        exact ⟨false, rfl, Lib.hid ⟨fun h => by simp at h, fun h => absurd h.1 HN.out⟩, Lib.hid (Below.refl _ _)⟩
      · have HN := Lib.hid (show litR R (i + 1) = true from by rw [litR_succ, HI.out, e]; rfl)
        rw [e] at HX
        have HX := Lib.hid HX
        clear e
        go_wp2_with (go_at_call 16; refine HX.out.mono ?_; rintro e w' ⟨rfl, rfl⟩)
        go_round
        case rel => exact ⟨i + 1, by omega, by go_num, HN⟩
        case measure => simp [intOf]; omega
    · obtain rfl : i = n := by omega
      have hltI : ¬ (i : Int) < (i : Int) := by omega
      clear hlt
      go_wp2
      go_loopw [6, 7] (fun s v wr => ∃ (k : Nat) (a : Option Addr) (c : Nat), k ≤ m ∧ s = .slice a k c ∧ v = .int .i64 k ∧ Hid (Frs 3 w wr (.slice a k c) k (fun j => .int .i64 (ng f j)))) (fun _ v _ => m - (intOf v).toNat)
      case atStart => exact ⟨0, none, 0, Nat.zero_le _, rfl, rfl, Lib.hid (Frs.nil (Below.refl _ _) _)⟩
      case round =>
        obtain ⟨k, a, c, hk, rfl, rfl, HF⟩ := hrel
        by_cases hlt : k < m
        · rcases HR.out.2 with h0 | ⟨b, off, rfl, hb, hc⟩
          · omega
          have xc := (HF.out.bel.cell (p := ⟨b, off + k, none⟩) hb).trans (hc k hlt)
          clear hc hb HCON HRT
          go_wp2_with (at_builtin; refine Frs.app1 elemInt HF (Below.refl _ _) _ rfl (by unfold maxLen; omega) (by omega) rfl _ _ rfl rfl rfl ?_; intro a' c' w' HF')
          go_roundw
          case rel => exact ⟨k + 1, a', c', by omega, rfl, by go_num, Lib.hid (HF'.out.congr fun j hj => by
            simp only [snV]
            split
            · rfl
            · rw [show j = k by omega]; rfl)⟩
          case measure => simp [intOf]; omega
        · obtain rfl : k = m := by omega
          have hltI : ¬ (k : Int) < (k : Int) := by omega
          have HX := HRT.out _ HF.out.bel
          clear hlt
          cases e : litF f k
          · rw [e] at HX
            have HX := Lib.hid HX
            have HE := Lib.hid e
            clear HCON e
            go_wp2_with (go_at_call 16; refine HX.out.mono ?_; rintro e w' ⟨rfl, rfl⟩)
            go_ret
            exact ⟨false, rfl, Lib.hid ⟨fun h => by simp at h, fun h => absurd h.2.1 (by rw [HE.out]; simp)⟩, Lib.hid HF.out.bel⟩
          · have HC := Lib.hid (HCON.out HI.out e a c _ HF.out.bel (HF.out.has fun _ _ => rfl) HF.out.nilA)
            have HD := Lib.hid (ng_den e)
            have HE := Lib.hid e
            rw [e] at HX
            have HX := Lib.hid HX
            clear HCON e
            go_wp2_with (first
              | (go_at_call 16; refine HX.out.mono ?_; rintro e w' ⟨rfl, rfl⟩)
              | (go_at_call 58; refine HC.out.mono ?_; rintro e w' ⟨b, rfl, hb1, hb2⟩))
            go_ret
            exact ⟨b, rfl, Lib.hid (by rw [hb1.out, HD.out]; exact ⟨fun h => ⟨HI.out, HE.out, h⟩, fun h => h.2.2⟩), Lib.hid (HF.out.bel.trans (hb2.out.mono HF.out.bel.size))⟩
theorem ref4Follows_any (a0 a1 : Option Addr) (n c0 m c1 : Nat) (R : Nat → Row) (f : Nat → Int) (w : World) (hn : n ≤ 1000) (hm : m ≤ 1000) (hR : ∀ j, j < n → (R j).n ≤ 30 ∧ (R j).n ≤ (R j).c ∧ (R j).c ≤ 9223372036854775807) (hr : Rws w a0 n R) (hf : Has w a1 m f) :
    Calls Try.prog 11 #[.slice a0 n c0, .slice a1 m c1] w (FoPost R n f m w) := by
  have H := Lib.hid (refFollows_any a0 a1 n c0 m c1 R f w hn hm hR hr hf)
  clear hR hr hf
  go_enter Try.func11, Try.ntmps11
  go_wp2_with (go_at_call 25; refine H.out.mono ?_; rintro e w' ⟨b, rfl, hb1, hb2⟩)
  go_ret
  exact ⟨b, rfl, hb1, hb2⟩
end Go.Proofs.Ytoffhgiljnagcaa
/- Contracts: the answers' Model, Brute. -/
namespace Go.Proofs.Ytoffhgiljnagcaa
open Go.RowKit Go.Lib
set_option maxRecDepth 100000

def ModPost (vars : Nat) (w : World) (e : Ending) (w' : World) : Prop :=
  ∃ (a : Option Addr) (c : Nat) (g : Nat → Bool), e = .returned (.slice a vars c) ∧ Hid (HasB w' a vars g) ∧ Hid (Below w.heap.size w w')
theorem frs_bool {W w : World} {v : Value} {n : Nat} {b : Bool} (h : ∃ g : Nat → Bool, Frs 4 W w v (n + 1) (snV (fun j => .bool (g j)) n (.bool b))) : ∃ g : Nat → Bool, Frs 4 W w v (n + 1) (fun j => .bool (g j)) := by
  obtain ⟨g, h⟩ := h
  refine ⟨fun j => if j < n then g j else b, h.congr fun j hj => ?_⟩
  simp only [snV]
  split <;> rfl

set_option maxHeartbeats 4000000 in
theorem refModel_any (x : Int) (vars : Nat) (w : World) (hv : vars ≤ 1000) : Calls Try.prog 28 #[.int .i64 x, .int .i64 vars] w (ModPost vars w) := by
  go_enter Try.func28, Try.ntmps28
  go_wp2
  go_loopw [0, 5, 6] (fun z s v wr => ∃ (y : Int) (k : Nat) (a : Option Addr) (c : Nat), k ≤ vars ∧ z = .int .i64 y ∧ s = .slice a k c ∧ v = .int .i64 k ∧ Hid (∃ g : Nat → Bool, Frs 4 w wr (.slice a k c) k (fun j => .bool (g j)))) (fun _ _ v _ => vars - (intOf v).toNat)
  case atStart => exact ⟨x, 0, none, 0, Nat.zero_le _, rfl, rfl, rfl, Lib.hid ⟨fun _ => false, Frs.nil (Below.refl _ _) _⟩⟩
  case round =>
    obtain ⟨y, k, a, c, hk, rfl, rfl, rfl, HF⟩ := hrel
    by_cases hlt : k < vars
    · obtain ⟨g, hg⟩ := HF.out
      have HG := Lib.hid hg
      clear hg HF
      go_wp2_with (at_builtin; refine Frs.app1 elemBool HG (Below.refl _ _) _ rfl (by unfold maxLen; omega) (by omega) rfl _ _ rfl rfl rfl ?_; intro a' c' w' HF')
      go_roundw
      case rel => exact ⟨_, k + 1, a', c', by omega, rfl, rfl, by go_num, Lib.hid (frs_bool ⟨g, HF'.out⟩)⟩
      case measure => simp [intOf]; omega
    · obtain rfl : k = vars := by omega
      have hltI : ¬ (k : Int) < (k : Int) := by omega
      clear hlt
      obtain ⟨g, hg⟩ := HF.out
      have HG := Lib.hid hg
      clear hg HF
      go_wp2
      go_ret
      exact ⟨a, c, g, rfl, Lib.hid (HG.out.hasB fun _ _ => rfl), Lib.hid HG.out.bel⟩

def BruPost (R : Nat → Row) (n : Nat) (w : World) (e : Ending) (w' : World) : Prop :=
  ∃ b : Bool, e = .returned (.bool b) ∧ Hid (b = true → ∃ g, allR R n g 8 = true) ∧ Hid (Below w.heap.size w w')

set_option maxHeartbeats 4000000 in
theorem refBrute_any (a0 : Option Addr) (n c0 : Nat) (R : Nat → Row) (w : World) (hn : n ≤ 1000) (hR : ∀ j, j < n → (R j).n ≤ 1000) (hr : Rws w a0 n R) : Calls Try.prog 13 #[.slice a0 n c0, .int .i64 8] w (BruPost R n w) := by
  have HM := Lib.hid (show ∀ (x : Int) (w' : World), Calls Try.prog 28 #[.int .i64 x, .int .i64 8] w' (ModPost 8 w') from fun x w' => refModel_any x 8 w' (by omega))
  have HA := Lib.hid (fun (w' : World) (a : Option Addr) (c : Nat) (g : Nat → Bool) (hb : Below w.heap.size w w') (hg : HasB w' a 8 g) => refAll_any a0 n c0 R a 8 c g w' (by omega) (fun j hj => by have := hR j hj; omega) (by omega) (hr.below hb) hg)
  clear hr hR
  go_enter Try.func13, Try.ntmps13
  go_wp2
  go_loopw [5] (fun v wr => ∃ (k : Nat), k ≤ 256 ∧ v = .int .i64 k ∧ Hid (Below w.heap.size w wr)) (fun v _ => 256 - (intOf v).toNat)
  case atStart => exact ⟨0, by omega, rfl, Lib.hid (Below.refl _ _)⟩
  case round =>
    obtain ⟨k, hk, rfl, HB⟩ := hrel
    by_cases hlt : k < 256
    · have hltI : (k : Int) < 256 := by omega
      go_wp2_with (first
        | (go_at_call 28; refine (HM.out _ _).mono ?_; rintro e w2 ⟨a, c, g, rfl, H2, H3⟩; have HB2 := Lib.hid (HB.out.trans (H3.out.mono HB.out.size)))
        | (go_at_call 17; refine (HA.out w2 a c g HB2.out H2.out).mono ?_; rintro e w' ⟨rfl, rfl⟩))
      · go_ret
        exact ⟨true, rfl, Lib.hid fun _ => ⟨g, by assumption⟩, HB2⟩
      · go_roundw
        case rel => exact ⟨k + 1, by omega, by go_num, HB2⟩
        case measure => simp [intOf]; omega
    · obtain rfl : k = 256 := by omega
      go_wp2
      go_ret
      exact ⟨false, rfl, Lib.hid fun h => by simp at h, HB⟩
end Go.Proofs.Ytoffhgiljnagcaa
/- What follows holds in each model; clauses of one literal each, as they are laid. -/
namespace Go.Proofs.Ytoffhgiljnagcaa
open Go.RowKit Go.Lib
set_option maxRecDepth 100000

theorem conf_sound {C : List Int → Prop} {so : Int → Prop} (h : Conf C so) {I : Int → Prop} (hI : ∀ l, I l → ¬ I (-l)) (hC : ∀ c, C c → ∃ l ∈ c, I l) : (∀ l, so l → I l) → False := by
  induction h with
  | clash l h1 h2 => exact fun h => hI l (h _ h1) (h _ h2)
  | none c hc hn =>
    intro h
    obtain ⟨l, hl, hi⟩ := hC c hc
    exact hI l hi (h _ (hn l hl))
  | unit c l hc hl hn _ ih =>
    intro h
    obtain ⟨l', hl', hi⟩ := hC c hc
    by_cases e : l' = l
    · subst e
      exact ih fun x hx => by
        rcases hx with rfl | hx
        · exact hi
        · exact h x hx
    · exact hI l' hi (h _ (hn l' hl' e))
theorem hv_neg {g : Nat → Bool} {k : Nat} {x : Int} (h : hv g k x = true) : ¬ hv g k (-x) = true := by
  unfold hv isM at *
  simp only [Bool.and_eq_true, beq_iff_eq] at h ⊢
  intro h2
  have hl := lit_iff.1 h.1
  have hav : av (-x) = av x := by unfold av; split <;> split <;> omega
  rw [hav] at h2
  have := h.2.symm.trans h2.2
  rw [decide_eq_decide] at this
  omega
/-- The rows of a list with others behind. -/
def apR (R : Nat → Row) (n : Nat) (R' : Nat → Row) (j : Nat) : Row := if j < n then R j else R' (j - n)
def onR (B : Nat → Nat) (f : Nat → Int) (j : Nat) : Row := ⟨some ⟨B j, 0, none⟩, 1, 1, fun _ => ng f j⟩
theorem no_model {R : Nat → Row} {n m : Nat} {f : Nat → Int} {B : Nat → Nat} (hf : litF f m = true) (hc : Conf (RowC R n) (Den f m)) (g : Nat → Bool) : ¬ allR (apR R n (onR B f)) (n + m) g 8 = true := by
  intro h
  rw [allR_iff] at h
  refine conf_sound hc (I := fun l => hv g 8 l = true) (fun l => hv_neg) (fun c hcc => ?_) fun l ⟨j, hj, e⟩ => ?_
  · obtain ⟨j, hj, rfl⟩ := hcc
    have := h j (by omega)
    rw [show apR R n (onR B f) j = R j from if_pos hj] at this
    obtain ⟨i, hi, hv⟩ := holdsF_iff.1 this
    exact ⟨_, lof_mem.2 ⟨i, hi, rfl⟩, hv⟩
  · have := h (n + j) (by omega)
    rw [show apR R n (onR B f) (n + j) = onR B f j from by rw [apR, if_neg (by omega), Nat.add_sub_cancel_left]] at this
    obtain ⟨i, hi, hv⟩ := holdsF_iff.1 this
    have hv : Go.Proofs.Ytoffhgiljnagcaa.hv g 8 (ng f j) = true := hv
    rw [ng_lit hf hj, ← e] at hv
    exact hv
/-- Clauses of one literal each. -/
structure Offs (W w : World) (v : Value) (k : Nat) (f : Nat → Int) (B : Nat → Nat) : Prop where
  fr : Frs 23 W w v k (fun j => .slice (some ⟨B j, 0, none⟩) 1 1)
  at' : ∀ j, j < k → B j < w.heap.size ∧ v.ownBlock ≠ some (B j) ∧ w.cell? ⟨B j, 0, none⟩ = some (.int .i64 (ng f j))
theorem Offs.nil {W w : World} (hb : Below W.heap.size W w) (f : Nat → Int) : Offs W w (.slice none 0 0) 0 f (fun _ => 0) := ⟨Frs.nil hb _, fun j h => absurd h (Nat.not_lt_zero _)⟩
theorem Offs.step {W w : World} {a1 : Option Addr} {c1 k : Nat} {f : Nat → Int} {B : Nat → Nat} (H : Hid (Offs W w (.slice a1 k c1) k f B)) (hk : k ≤ 1000)
    {ops : Array Oper} {rest : List Oper} {o : Oper} {a : Act} {Q : Exit → Act → World → Prop} (hgd : o.guard = none) (s x : Operand)
    (ho : o.op = .call { callee := .builtin .append, args := #[s, x], argTypes := #[22, 22] }) (hs : a.eval s = .slice a1 k c1) (hx : a.eval x = .slice (some ⟨w.heap.size + 1, 0, none⟩) 1 1)
    (K : ∀ a' c' w' B', Hid (Offs W w' (.slice a' (k + 1) c') (k + 1) f B') → wpList Try.prog ops Q rest (a.put o.dst (.slice a' (k + 1) c')) w') :
    wpList Try.prog ops Q (o :: rest) a ((w.alloc (.cells #[.int .i64 (ng f k)] 3)).alloc (.cells #[.slice (some ⟨w.heap.size, 0, none⟩) 1 1] 23)) := by
  have hb : Below w.heap.size w (w.alloc (.cells #[.int .i64 (ng f k)] 3)) := (Below.refl _ _).alloc (Nat.le_refl _) _
  refine Frs.appF (W := W) (w := w) (v := .slice a1 k c1) (n := k) (m := 1) (c := 1) (G := fun _ => .slice (some ⟨w.heap.size, 0, none⟩) 1 1) elemRow (Lib.hid H.out.fr) (hb.alloc hb.size _) (.inr ⟨_, rfl, fun j hj => ⟨?_, rfl⟩⟩) (by unfold maxLen; omega) (by omega) hgd s x ho hs hx fun a' c' w' HF => ?_
  · obtain rfl : j = 0 := by omega
    exact one_at (w.alloc (.cells #[.int .i64 (ng f k)] 3)) _ rfl (by simp) 0 _ rfl
  · obtain ⟨h1, h2, h3⟩ := HF.out
    refine K a' c' w' (fun j => if j < k then B j else w.heap.size) (Lib.hid ⟨h1.congr fun j hj => ?_, fun j hj => ?_⟩)
    · simp only [catV]
      split <;> rfl
    · have hsz := h2.size
      have hs0 : ((w.alloc (.cells #[.int .i64 (ng f k)] 3)).alloc (.cells #[.slice (some ⟨w.heap.size, 0, none⟩) 1 1] 23)).heap.size = w.heap.size + 2 := by simp
      rw [hs0] at hsz
      have hlt : ∀ b, (Value.slice a1 k c1).ownBlock = some b → b < w.heap.size := fun b e => H.out.fr.own.lt e
      by_cases hjk : j < k
      · obtain ⟨x1, x2, x3⟩ := H.out.at' j hjk
        simp only [if_pos hjk]
        refine ⟨by omega, ?_, ?_⟩
        · rcases h3 with e | e
          · rw [e]; exact x2
          · rw [e, hs0]; intro e2; have := Option.some.inj e2; omega
        · have hcell : w'.heap[B j]? = w.heap[B j]? := (h2.block (B j) (by rw [hs0]; omega) x2).trans ((hb.alloc hb.size _).block _ x1)
          exact (World.cell?_of_block (a := ⟨B j, 0, none⟩) hcell).trans x3
      · obtain rfl : j = k := by omega
        simp only [if_neg (Nat.lt_irrefl _)]
        refine ⟨by omega, ?_, ?_⟩
        · rcases h3 with e | e
          · rw [e]; intro e2; have := hlt _ e2; omega
          · rw [e, hs0]; intro e2; have := Option.some.inj e2; omega
        · have e1 : (w.alloc (.cells #[.int .i64 (ng f j)] 3)).cell? ⟨w.heap.size, 0, none⟩ = some (.int .i64 (ng f j)) := one_at w _ rfl rfl 0 _ rfl
          have e2 := (((Below.refl (w.heap.size + 1) (w.alloc (.cells #[.int .i64 (ng f j)] 3))).alloc (by simp) (.cells #[.slice (some ⟨w.heap.size, 0, none⟩) 1 1] 23)).cell (p := ⟨w.heap.size, 0, none⟩) (Nat.lt_succ_self _)).trans e1
          have hcell := h2.block w.heap.size (by rw [hs0]; omega) (fun e => by have := hlt _ e; omega)
          exact (World.cell?_of_block (a := ⟨w.heap.size, 0, none⟩) hcell).trans e2
/-- With the given clauses in front. -/
theorem Offs.rows {W w w3 : World} {v : Value} {k n c : Nat} {a : Option Addr} {f : Nat → Int} {B : Nat → Nat} {R : Nat → Row} (H : Offs W w v k f B) (hR : ∀ j, j < n → Has W (R j).a (R j).n (R j).f) (h3 : Frs 23 w w3 (.slice a (n + k) c) (n + k) (catV (fun j => .slice (R j).a (R j).n (R j).c) n (fun j => .slice (some ⟨B j, 0, none⟩) 1 1))) :
    Rws w3 a (n + k) (apR R n (onR B f)) := by
  refine h3.rows fun j hj => ?_
  by_cases hjn : j < n
  · rw [show apR R n (onR B f) j = R j from if_pos hjn, catV, if_pos hjn]
    exact ⟨rfl, ((hR j hjn).below H.fr.bel).below h3.bel⟩
  · rw [show apR R n (onR B f) j = onR B f (j - n) from if_neg hjn, catV, if_neg hjn]
    obtain ⟨x1, x2, x3⟩ := H.at' (j - n) (by omega)
    refine ⟨rfl, Has.below (.inr ⟨B (j - n), 0, rfl, x1, fun i hi => ?_⟩) h3.bel⟩
    obtain rfl : i = 0 := by simp only [onR] at hi; omega
    exact x3
end Go.Proofs.Ytoffhgiljnagcaa
/- The law: what follows. -/
namespace Go.Proofs.Ytoffhgiljnagcaa
open Go.RowKit Go.Lib
set_option maxRecDepth 100000

set_option maxHeartbeats 4000000 in
theorem follows_out (W : World) (a0 a1 : Option Addr) (n0 c0 n1 c1 : Nat) (R : Nat → Row)
    (hS : ∀ w1, Below W.heap.size W w1 → Calls Try.prog 9 #[.slice a0 n0 c0, .int .i64 40, .int .i64 100000] w1 fun e w' => e = .returned (.bool (small R n0 40)) ∧ w1 = w')
    (h : small R n0 40 = false ∨ 12 < n1) :
    Calls Try.prog 3 #[.slice a0 n0 c0, .slice a1 n1 c1] W fun e w' => e = .returned (.bool true) ∧ Below W.heap.size W w' := by
  have HA := Lib.hid (awake_at (W := W))
  have HS := Lib.hid hS
  clear hS
  have HB0 := Lib.hid (Below.refl W.heap.size W)
  cases hs : small R n0 40
  · rw [hs] at HS
    go_enter Try.func3, Try.ntmps3
    go_wp2_with (first
      | (go_at_call 8; refine (HA.out _ HB1.out).mono ?_; rintro e w2 ⟨rfl, HB2⟩)
      | (go_at_call 8; refine (HA.out _ HB0.out).mono ?_; rintro e w1 ⟨rfl, HB1⟩)
      | (go_at_call 9; refine (HS.out _ HB1.out).mono ?_; rintro e w' ⟨rfl, rfl⟩))
    go_ret
    exact ⟨rfl, HB2.out⟩
  · rw [hs] at HS
    have h1I : (12 : Int) < (n1 : Int) := by
      rcases h with h | h
      · rw [hs] at h; cases h
      · omega
    go_enter Try.func3, Try.ntmps3
    go_wp2_with (first
      | (go_at_call 8; refine (HA.out _ HB1.out).mono ?_; rintro e w2 ⟨rfl, HB2⟩)
      | (go_at_call 8; refine (HA.out _ HB0.out).mono ?_; rintro e w1 ⟨rfl, HB1⟩)
      | (go_at_call 9; refine (HS.out _ HB1.out).mono ?_; rintro e w' ⟨rfl, rfl⟩))
    go_ret
    exact ⟨rfl, HB2.out⟩

theorem rws_has {w : World} {a : Option Addr} {n : Nat} {R : Nat → Row} (hr : Rws w a n R) : ∀ j, j < n → Has w (R j).a (R j).n (R j).f := fun j hj => by
  rcases hr with h0 | ⟨b, off, _, _, hc⟩
  · omega
  · exact (hc j hj).2
theorem one_rows {W w3 : World} {a a1 : Option Addr} {n c n1 c1 : Nat} {R : Nat → Row} {f : Nat → Int} (hR : ∀ j, j < n → Has W (R j).a (R j).n (R j).f) (hf : Has W a1 n1 f) (h3 : Frs 23 W w3 (.slice a (1 + n) c) (1 + n) (catV (fun _ => .slice a1 n1 c1) 1 (fun j => .slice (R j).a (R j).n (R j).c))) :
    Rws w3 a (1 + n) (apR (fun _ => ⟨a1, n1, c1, f⟩) 1 R) := by
  refine h3.rows fun j hj => ?_
  by_cases hj1 : j < 1
  · rw [show apR (fun _ => ⟨a1, n1, c1, f⟩) 1 R j = ⟨a1, n1, c1, f⟩ from if_pos hj1, catV, if_pos hj1]
    exact ⟨rfl, hf.below h3.bel⟩
  · rw [show apR (fun _ => ⟨a1, n1, c1, f⟩) 1 R j = R (j - 1) from if_neg hj1, catV, if_neg hj1]
    exact ⟨rfl, (hR (j - 1) (by omega)).below h3.bel⟩

set_option maxHeartbeats 8000000 in
theorem follows_in (W : World) (a0 a1 : Option Addr) (n0 c0 n1 c1 : Nat) (R : Nat → Row) (f : Nat → Int)
    (hS : ∀ w1, Below W.heap.size W w1 → Calls Try.prog 9 #[.slice a0 n0 c0, .int .i64 40, .int .i64 100000] w1 fun e w' => e = .returned (.bool (small R n0 40)) ∧ w1 = w')
    (hs : small R n0 40 = true) (h1 : n1 ≤ 12) (hcap : ∀ j, j < n0 → (R j).n ≤ (R j).c ∧ (R j).c ≤ 9223372036854775807) (hr : Rws W a0 n0 R) (hnil : a0 = none → n0 = 0 ∧ c0 = 0) (hf : Has W a1 n1 f) :
    Calls Try.prog 3 #[.slice a0 n0 c0, .slice a1 n1 c1] W fun e w' => e = .returned (.bool true) ∧ Below W.heap.size W w' := by
  obtain ⟨hn0, hR⟩ := small_iff.1 hs
  have HA := Lib.hid (awake_at (W := W))
  rw [hs] at hS
  have HS := Lib.hid hS
  have HB0 := Lib.hid (Below.refl W.heap.size W)
  have hRH := rws_has hr
  obtain ⟨bb, hbb⟩ : ∃ bb : Bool, bb = true ↔ litR R n0 = true ∧ litF f n1 = true ∧ Conf (RowC R n0) (Den f n1) := by
    by_cases h : litR R n0 = true ∧ litF f n1 = true ∧ Conf (RowC R n0) (Den f n1)
    · exact ⟨true, fun _ => h, fun _ => rfl⟩
    · exact ⟨false, fun e => by simp at e, fun e => absurd e h⟩
  have HF1 := Lib.hid (show ∀ w1, Below W.heap.size W w1 → Calls Try.prog 10 #[.slice a0 n0 c0, .slice a1 n1 c1] w1 fun e w' => e = .returned (.bool bb) ∧ Hid (Below W.heap.size W w') from fun w1 hb =>
    (follows_any a0 n0 c0 R a1 n1 c1 f w1 (by omega) (fun j hj => by have := hR j hj; omega) (by omega) (hr.below hb) (hf.below hb)).mono fun e w' ⟨b, h1, h2, h3⟩ => ⟨by rw [h1, Bool.eq_iff_iff.2 (h2.trans hbb.symm)], Lib.hid (hb.trans (h3.mono hb.size))⟩)
  have HF2 := Lib.hid (show ∀ w1, Below W.heap.size W w1 → Calls Try.prog 11 #[.slice a0 n0 c0, .slice a1 n1 c1] w1 fun e w' => e = .returned (.bool bb) ∧ Hid (Below W.heap.size W w') from fun w1 hb =>
    (ref4Follows_any a0 a1 n0 c0 n1 c1 R f w1 (by omega) (by omega) (fun j hj => ⟨hR j hj, hcap j hj⟩) (hr.below hb) (hf.below hb)).mono fun e w' ⟨b, h1, h2, h3⟩ => ⟨by rw [h1, Bool.eq_iff_iff.2 (h2.out.trans hbb.symm)], Lib.hid (hb.trans (h3.out.mono hb.size))⟩)
  have h1I : ¬ (12 : Int) < (n1 : Int) := by omega
  have h1J : decide ((12 : Int) < (n1 : Int)) = false := decide_eq_false h1I
  cases bb with
  | false =>
    clear hbb hS hcap hr hnil hf hR hRH
    go_enter Try.func3, Try.ntmps3
    go_wp2_with (first
      | (go_at_call 8; refine (HA.out _ HB0.out).mono ?_; rintro e w1 ⟨rfl, HB1⟩)
      | (go_at_call 9; refine (HS.out _ HB1.out).mono ?_; rintro e w' ⟨rfl, rfl⟩)
      | (go_at_call 10; refine (HF1.out _ HB1.out).mono ?_; rintro e w2 ⟨rfl, HB2⟩)
      | (go_at_call 11; refine (HF2.out _ HB2.out).mono ?_; rintro e w3 ⟨rfl, HB3⟩))
    go_ret
    exact ⟨rfl, HB3.out⟩
  | true =>
    obtain ⟨hl0, hl1, hcf⟩ := hbb.1 rfl
    have HSRC := Lib.hid (show ∀ w1 o, Below W.heap.size W w1 → Src (w1.alloc o) a0 n0 c0 (fun j => .slice (R j).a (R j).n (R j).c) from fun w1 o hb => (hr.below (hb.alloc hb.size o)).src hnil)
    have hRs : ∀ j, j < 1 + n0 → (apR (fun _ => (⟨a1, n1, c1, f⟩ : Row)) 1 R j).n ≤ 140737488355328 := fun j hj => by
      unfold apR
      split
      · show n1 ≤ _; omega
      · have := hR (j - 1) (by omega); omega
    have HGR := Lib.hid (show ∀ w3 a c, Hid (Frs 23 W w3 (.slice a (1 + n0) c) (1 + n0) (catV (fun _ => .slice a1 n1 c1) 1 (fun j => .slice (R j).a (R j).n (R j).c))) → Calls Try.prog 12 #[.slice a (1 + n0) c] w3 fun e w' => e = .returned (.int .i64 (gr (rowsL (apR (fun _ => (⟨a1, n1, c1, f⟩ : Row)) 1 R) (1 + n0)))) ∧ w3 = w' from fun w3 a c H =>
      refGreatest_any a (1 + n0) c _ w3 (by omega) hRs (one_rows hRH hf H.out))
    generalize gr (rowsL (apR (fun _ => (⟨a1, n1, c1, f⟩ : Row)) 1 R) (1 + n0)) = G at HGR
    have HBR := Lib.hid (show ∀ wr w3 v k c a cc B, Hid (Offs W wr v n1 f B) → Hid (Frs 23 wr w3 (.slice a (n0 + n1) c) (n0 + n1) (catV (fun j => .slice (R j).a (R j).n (R j).c) n0 (fun j => .slice (some ⟨B j, 0, none⟩) 1 1))) → k = n0 + n1 → cc = c → Calls Try.prog 13 #[.slice a k cc, .int .i64 8] w3 fun e w' => e = .returned (.bool false) ∧ Hid (Below W.heap.size W w') from fun wr w3 v k c a cc B HO H3 hk hcc => by
      subst hk hcc
      refine (refBrute_any a (n0 + n1) cc (apR R n0 (onR B f)) w3 (by omega) (fun j hj => ?_) (HO.out.rows hRH H3.out)).mono fun e w' ⟨b, h1, h2, h3⟩ => ?_
      · unfold apR
        split
        · rename_i h; have := hR j h; omega
        · show 1 ≤ 1000; omega
      · have hbf : b = false := by
          cases b
          · rfl
          · obtain ⟨g, hg⟩ := h2.out rfl
            exact absurd hg (no_model hl1 hcf g)
        have hb1 := HO.out.fr.bel
        have hb2 := hb1.trans (H3.out.bel.mono hb1.size)
        exact ⟨by rw [h1, hbf], Lib.hid (hb2.trans (h3.out.mono hb2.size))⟩)
    have HC := Lib.hid hf
    clear hbb hS hcap hr hnil hf hR hRH hRs hl0 hl1 hcf
    by_cases hG : 8 < G
    · go_enter Try.func3, Try.ntmps3
      go_wp2_with (first
        | (go_at_call 8; refine (HA.out _ HB0.out).mono ?_; rintro e w1 ⟨rfl, HB1⟩)
        | (go_at_call 9; refine (HS.out _ HB1.out).mono ?_; rintro e w' ⟨rfl, rfl⟩)
        | (go_at_call 10; refine (HF1.out _ HB1.out).mono ?_; rintro e w2 ⟨rfl, HB2⟩)
        | (go_at_call 11; refine (HF2.out _ HB2.out).mono ?_; rintro e w3 ⟨rfl, HB3⟩)
        | (at_builtin; refine wpList_unguard (by first | rfl | (go_simp; done)) ?_; refine Frs.app11 elemRow HB3.out _ (HSRC.out _ _ HB3.out) (by unfold maxLen; omega) (by omega) rfl _ _ rfl rfl rfl ?_; intro a4 c4 w4 H4)
        | (go_at_call 12; refine (HGR.out _ _ _ H4).mono ?_; rintro e w' ⟨rfl, rfl⟩))
      go_ret
      exact ⟨rfl, H4.out.bel⟩
    · go_enter Try.func3, Try.ntmps3
      go_wp2_with (first
        | (go_at_call 8; refine (HA.out _ HB0.out).mono ?_; rintro e w1 ⟨rfl, HB1⟩)
        | (go_at_call 9; refine (HS.out _ HB1.out).mono ?_; rintro e w' ⟨rfl, rfl⟩)
        | (go_at_call 10; refine (HF1.out _ HB1.out).mono ?_; rintro e w2 ⟨rfl, HB2⟩)
        | (go_at_call 11; refine (HF2.out _ HB2.out).mono ?_; rintro e w3 ⟨rfl, HB3⟩)
        | (at_builtin; refine wpList_unguard (by first | rfl | (go_simp; done)) ?_; refine Frs.app11 elemRow HB3.out _ (HSRC.out _ _ HB3.out) (by unfold maxLen; omega) (by omega) rfl _ _ rfl rfl rfl ?_; intro a4 c4 w4 H4)
        | (go_at_call 12; refine (HGR.out _ _ _ H4).mono ?_; rintro e w' ⟨rfl, rfl⟩))
      go_loopw [6, 7] (fun s v wr => ∃ (k : Nat) (a : Option Addr) (c : Nat) (B : Nat → Nat), k ≤ n1 ∧ s = .slice a k c ∧ v = .int .i64 k ∧ Hid (Offs W wr (.slice a k c) k f B)) (fun _ v _ => n1 - (intOf v).toNat)
      case atStart => exact ⟨0, none, 0, _, Nat.zero_le _, rfl, rfl, Lib.hid (Offs.nil H4.out.bel f)⟩
      case round =>
        obtain ⟨k, a, c, B, hk, rfl, rfl, HO⟩ := hrel
        by_cases hlt : k < n1
        · rcases HC.out with h0 | ⟨b, off, rfl, hb, hc⟩
          · omega
          have xc := (HO.out.fr.bel.cell (p := ⟨b, off + k, none⟩) hb).trans (hc k hlt)
          clear hc hb HGR HBR HSRC HF1 HF2 HA HS
          go_wp2_with (at_builtin; refine Offs.step (f := f) (k := k) HO (by omega) rfl _ _ rfl rfl rfl ?_; intro a' c' w' B' HO')
          go_roundw
          case rel => exact ⟨k + 1, a', c', B', by omega, rfl, by go_num, HO'⟩
          case measure => simp [intOf]; omega
        · obtain rfl : k = n1 := by omega
          have hltI : ¬ (k : Int) < (k : Int) := by omega
          clear hlt
          have HS2 := Lib.hid (HSRC.out _ (.cells #[] 23) HO.out.fr.bel)
          go_wp2_with (first
            | (at_builtin; refine Frs.app elemRow H5 (Below.refl _ _) ((HO.out.fr.then H5.out.bel).src fun _ _ => rfl) (by unfold maxLen; omega) (by omega) rfl _ _ rfl rfl rfl ?_; intro a6 c6 w6 H6)
            | (at_builtin; refine Frs.app0 elemRow (Below.refl _ _) HS2.out (by unfold maxLen; omega) (by omega) rfl _ _ rfl rfl rfl ?_; intro a5 c5 w5 H5)
            | (go_at_call 13; refine (HBR.out _ _ _ _ _ _ _ _ HO H6 rfl rfl).mono ?_; rintro e w7 ⟨rfl, HB7⟩))
          go_ret
          exact ⟨rfl, HB7.out⟩
end Go.Proofs.Ytoffhgiljnagcaa
