/- A slice of the law's own that grows by append: in memory; at the operation. -/
import Derived.Test.YtpniffcojmlboaaJ
import Derived.Maps.AppendAt
import Derived.Laws.AppendOwnNone
namespace Go.Proofs.Ytpniffcojmlboaa
open Go.RowKit Go.Lib Go.Maps

/-- An operation whose guard is met is as one with none. -/
theorem wpList_unguard {P : Program} {ops : Array Oper} {Q : Exit → Act → World → Prop} {rest : List Oper} {o : Oper} {a : Act} {w : World}
    (hw : Region.wanted o (yielded ops a.tmps) = true) (h : wpList P ops Q ({ o with guard := none } :: rest) a w) : wpList P ops Q (o :: rest) a w := by
  have h2 : Region.wanted { o with guard := none } (yielded ops a.tmps) = true := rfl
  simp only [wpList, hw, h2, if_true] at h ⊢
  exact h
/-- What an element type is. -/
structure Elem (t e : TypeId) (bytes : Nat) : Prop where
  ht : Try.prog.underlying t = some (.slice e)
  info : ∃ i z, Try.prog.info? e = some i ∧ i.zero = some z ∧ i.size = 1 ∧ i.bytes = bytes ∧ z.cells.size = 1
theorem elem_of {t e : TypeId} {bytes : Nat} {z : Value} (ht : Try.prog.underlying t = some (.slice e)) (h : (Try.prog.info? e).map (fun i => (i.zero, i.size, i.bytes)) = some (some z, 1, bytes)) (hz : z.cells.size = 1) : Elem t e bytes := by
  obtain ⟨i, h1, h2, h3, h4⟩ := info_parts h
  exact ⟨ht, i, z, h1, h2, h3, h4, hz⟩
theorem elemInt : Elem 26 3 8 := elem_of Try.underlying26 (z := .int .i64 0) (by kernel_rfl) rfl
theorem elemBool : Elem 23 4 1 := elem_of Try.underlying23 (z := .bool false) (by kernel_rfl) rfl

/-- One more behind. -/
def snV (F : Nat → Value) (n : Nat) (x : Value) (j : Nat) : Value := if j < n then F j else x
def catV (F : Nat → Value) (n : Nat) (G : Nat → Value) (j : Nat) : Value := if j < n then F j else G (j - n)
/-- It lies beyond what was there at W. -/
structure Frs (e : TypeId) (W w : World) (v : Value) (n : Nat) (F : Nat → Value) : Prop where
  own : Sl w e 1 v n F
  bel : Below W.heap.size W w
  new : ∀ b, v.ownBlock = some b → W.heap.size ≤ b
variable {a : Option Addr} {c : Nat} {e t : TypeId} {bytes : Nat} {W w w' : World} {v : Value} {n : Nat} {F : Nat → Value}
theorem Frs.congr (h : Frs e W w v n F) {F' : Nat → Value} (hf : ∀ j, j < n → F j = F' j) : Frs e W w v n F' :=
  ⟨h.own.congr fun j hj => hf j (by omega), h.bel, h.new⟩
theorem Frs.nil (hb : Below W.heap.size W w) (F : Nat → Value) : Frs e W w (.slice none 0 0) 0 F := ⟨Sl.nil, hb, fun b h => by cases h⟩
theorem Frs.then (h : Frs e W w v n F) (hb : Below w.heap.size w w') : Frs e W w' v n F :=
  ⟨h.own.of_block fun b e => hb.block b (h.own.lt e), h.bel.trans (hb.mono h.bel.size), h.new⟩
theorem Frs.made (hb : Below W.heap.size W w) (xs : Array Value) (F : Nat → Value) (hF : ∀ j, j < xs.size → xs[j]? = some (F j)) (hm : xs.size ≤ maxLen) : Frs e W (w.alloc (.cells xs e)) (.slice (some ⟨w.heap.size, 0, none⟩) xs.size xs.size) xs.size F := by
  refine ⟨.inr ⟨w.heap.size, xs.size, F, rfl, Nat.le_refl _, hm, ?_, fun _ _ => rfl⟩, hb.trans ((Below.refl W.heap.size w).alloc hb.size _), fun b e => ?_⟩
  · rw [Nat.mul_one]
    exact World.rowIs_alloc w xs e F (fun i hi => hF i hi)
  · cases e; exact hb.size

/-- The source of an append. -/
def Src (w : World) (a : Option Addr) (m c : Nat) (G : Nat → Value) : Prop :=
  (a = none ∧ m = 0 ∧ c = 0) ∨ ∃ ad, a = some ad ∧ ∀ j, j < m → w.cell? (ad.add j) = some (G j) ∧ (G j).oneCell' = true
theorem lst_get (G : Nat → Value) (m j : Nat) (u : Value) : (lst G m)[j]? = some u ↔ j < m ∧ G j = u := by
  simp only [lst, List.getElem?_map]
  by_cases h : j < m
  · simp [h]
  · simp [h]
theorem cat_eq (F G : Nat → Value) (n m : Nat) : ∀ j, j < (n + m) * 1 → (lst F (n * 1) ++ lst G m)[j]? = some (catV F n G j) := by
  intro j hj
  by_cases h : j < n
  · rw [List.getElem?_append_left (by simpa [lst] using h), catV, if_pos h]
    exact (lst_get _ _ _ _).2 ⟨by omega, rfl⟩
  · rw [List.getElem?_append_right (by simp [lst]; omega), catV, if_neg h]
    have : (lst F (n * 1)).length = n := by simp [lst]
    rw [this]
    exact (lst_get _ _ _ _).2 ⟨by omega, rfl⟩
theorem Frs.grown (h : Frs e W w v n F) {w0 w' : World} (h0 : Below W.heap.size W w0) (hs : w.heap.size ≤ w0.heap.size) {v' : Value} {m : Nat} {G : Nat → Value} (g1 : w'.ownsRow 0 e 1 v' (n + m) (lst F (n * 1) ++ lst G m)) (g2 : w0.grownBy w' v.ownBlock) (g3 : v'.ownBlock = v.ownBlock ∨ v'.ownBlock = some w0.heap.size) :
    Frs e W w' v' (n + m) (catV F n G) := by
  refine ⟨Sl.of_owns g1 (cat_eq F G n m), ?_, fun b hb => ?_⟩
  · have hf : Fr (fun b => v.ownBlock = some b) w0 w' := (Fr.refl _ w0).grown g2 (fun k e _ => e)
    exact h0.trans (hf.below h0.size fun b e => h.new b e)
  · rcases g3 with e | e
    · rw [e] at hb; exact h.new b hb
    · rw [e] at hb; cases hb; exact h0.size
/-- append of a slice, and what it leaves alone. -/
theorem Frs.appF (he : Elem t e bytes) (h : Hid (Frs e W w v n F)) {w0 : World} (h0 : Below w.heap.size w w0) {ao : Option Addr} {m c : Nat} {G : Nat → Value} (hsrc : Src w0 ao m c G) (h63 : n + m ≤ maxLen) (hbytes : (n + m) * bytes ≤ 140737488355328)
    {ops : Array Oper} {rest : List Oper} {o : Oper} {a : Act} {Q : Exit → Act → World → Prop} (hgd : o.guard = none) (s x : Operand)
    (ho : o.op = .call { callee := .builtin .append, args := #[s, x], argTypes := #[t, t] }) (hs : a.eval s = v) (hx : a.eval x = .slice ao m c)
    (k : ∀ a' c' w', Hid (Frs e W w' (.slice a' (n + m) c') (n + m) (catV F n G) ∧ Fr (fun b => v.ownBlock = some b) w0 w' ∧ ((Value.slice a' (n + m) c').ownBlock = v.ownBlock ∨ (Value.slice a' (n + m) c').ownBlock = some w0.heap.size)) → wpList Try.prog ops Q rest (a.put o.dst (.slice a' (n + m) c')) w') :
    wpList Try.prog ops Q (o :: rest) a w0 := by
  obtain ⟨i, z, hi, hz, hsz, hby, hzs⟩ := he.info
  have H0 : Frs e W w0 v n F := h.out.then h0
  have hown := H0.own.owns
  rcases hsrc with ⟨rfl, rfl, rfl⟩ | ⟨ad, rfl, hc⟩
  · obtain ⟨a', c', rfl, _⟩ := H0.own.shape
    refine wpList_append_own_none hgd s x t ho 0 e i 1 he.ht hi _ n _ hs hown hx (k a' c' w0 (Lib.hid ⟨H0.congr fun j hj => ?_, Fr.refl _ _, .inl rfl⟩))
    simp [catV, hj]
  · refine wpList_append_own_at _ hgd s x t ho 0 e i z 1 bytes he.ht hi hz hsz hby hzs (by decide) v n _ hs hown ad m c (lst G m) hx (by simp [lst]) (fun j u hj => ?_) (fun u hu => ?_) h63 hbytes (Nat.zero_le _) ?_
    · obtain ⟨hj1, rfl⟩ := (lst_get _ _ _ _).1 hj
      exact (hc j hj1).1
    · simp only [lst, List.mem_map, List.mem_range] at hu
      obtain ⟨j, hj, rfl⟩ := hu
      exact (hc j hj).2
    · intro v' w' g1 g2 _ g3
      have hF := Frs.grown H0 H0.bel (Nat.le_refl _) g1 g2 g3
      obtain ⟨a', c', rfl, _⟩ := hF.own.shape
      exact k a' c' w' (Lib.hid ⟨hF, (Fr.refl _ w0).grown g2 (fun k e _ => e), g3⟩)
/-- append of a slice. -/
theorem Frs.app (he : Elem t e bytes) (h : Hid (Frs e W w v n F)) {w0 : World} (h0 : Below w.heap.size w w0) {ao : Option Addr} {m c : Nat} {G : Nat → Value} (hsrc : Src w0 ao m c G) (h63 : n + m ≤ maxLen) (hbytes : (n + m) * bytes ≤ 140737488355328)
    {ops : Array Oper} {rest : List Oper} {o : Oper} {a : Act} {Q : Exit → Act → World → Prop} (hgd : o.guard = none) (s x : Operand)
    (ho : o.op = .call { callee := .builtin .append, args := #[s, x], argTypes := #[t, t] }) (hs : a.eval s = v) (hx : a.eval x = .slice ao m c)
    (k : ∀ a' c' w', Hid (Frs e W w' (.slice a' (n + m) c') (n + m) (catV F n G)) → wpList Try.prog ops Q rest (a.put o.dst (.slice a' (n + m) c')) w') :
    wpList Try.prog ops Q (o :: rest) a w0 :=
  Frs.appF he h h0 hsrc h63 hbytes hgd s x ho hs hx fun a' c' w' H => k a' c' w' (Lib.hid H.out.1)
/-- append to one that was made with one element. -/
theorem Frs.app11 (he : Elem t e bytes) {w1 : World} (hb : Below W.heap.size W w1) (u : Value) {ao : Option Addr} {m c : Nat} {G : Nat → Value} (hsrc : Src (w1.alloc (.cells #[u] e)) ao m c G) (h63 : 1 + m ≤ maxLen) (hbytes : (1 + m) * bytes ≤ 140737488355328)
    {ops : Array Oper} {rest : List Oper} {o : Oper} {a : Act} {Q : Exit → Act → World → Prop} (hgd : o.guard = none) (s x : Operand)
    (ho : o.op = .call { callee := .builtin .append, args := #[s, x], argTypes := #[t, t] }) (hs : a.eval s = .slice (some ⟨w1.heap.size, 0, none⟩) 1 1) (hx : a.eval x = .slice ao m c)
    (k : ∀ a' c' w', Hid (Frs e W w' (.slice a' (1 + m) c') (1 + m) (catV (fun _ => u) 1 G)) → wpList Try.prog ops Q rest (a.put o.dst (.slice a' (1 + m) c')) w') :
    wpList Try.prog ops Q (o :: rest) a (w1.alloc (.cells #[u] e)) := by
  have H := Lib.hid (Frs.made (e := e) hb #[u] (fun _ => u) (fun j hj => by
    obtain rfl : j = 0 := by simp at hj; omega
    rfl) (by unfold maxLen; simp))
  exact Frs.app he H (Below.refl _ _) hsrc h63 hbytes hgd s x ho hs hx k
/-- append to an empty one that was made. -/
theorem Frs.app0 (he : Elem t e bytes) {w1 : World} (hb : Below W.heap.size W w1) {ao : Option Addr} {m c : Nat} {G : Nat → Value} (hsrc : Src (w1.alloc (.cells #[] e)) ao m c G) (h63 : m ≤ maxLen) (hbytes : m * bytes ≤ 140737488355328)
    {ops : Array Oper} {rest : List Oper} {o : Oper} {a : Act} {Q : Exit → Act → World → Prop} (hgd : o.guard = none) (s x : Operand)
    (ho : o.op = .call { callee := .builtin .append, args := #[s, x], argTypes := #[t, t] }) (hs : a.eval s = .slice (some ⟨w1.heap.size, 0, none⟩) 0 0) (hx : a.eval x = .slice ao m c)
    (k : ∀ a' c' w', Hid (Frs e W w' (.slice a' m c') m G) → wpList Try.prog ops Q rest (a.put o.dst (.slice a' m c')) w') :
    wpList Try.prog ops Q (o :: rest) a (w1.alloc (.cells #[] e)) := by
  have H := Lib.hid (Frs.made (e := e) hb #[] (fun _ => .bool false) (fun j hj => absurd hj (Nat.not_lt_zero _)) (Nat.zero_le _))
  refine Frs.app he H (Below.refl _ _) hsrc (by simpa using h63) (by simpa using hbytes) hgd s x ho hs hx (fun a' c' w' H' => ?_)
  have H' := H'.out
  simp only [List.size_toArray, List.length_nil, Nat.zero_add] at H' ⊢
  exact k a' c' w' (Lib.hid (H'.congr fun j hj => by simp [catV]))
/-- append of one. -/
theorem Frs.app1 (he : Elem t e bytes) (h : Hid (Frs e W w v n F)) {w0 : World} (h0 : Below w.heap.size w w0) (u : Value) (hu : u.oneCell' = true) (h63 : n + 1 ≤ maxLen) (hbytes : (n + 1) * bytes ≤ 140737488355328)
    {ops : Array Oper} {rest : List Oper} {o : Oper} {a : Act} {Q : Exit → Act → World → Prop} (hgd : o.guard = none) (s x : Operand)
    (ho : o.op = .call { callee := .builtin .append, args := #[s, x], argTypes := #[t, t] }) (hs : a.eval s = v) (hx : a.eval x = .slice (some ⟨w0.heap.size, 0, none⟩) 1 1)
    (k : ∀ a' c' w', Hid (Frs e W w' (.slice a' (n + 1) c') (n + 1) (snV F n u)) → wpList Try.prog ops Q rest (a.put o.dst (.slice a' (n + 1) c')) w') :
    wpList Try.prog ops Q (o :: rest) a (w0.alloc (.cells #[u] e)) := by
  refine Frs.app (G := fun _ => u) he h (h0.alloc h0.size _) (.inr ⟨_, rfl, fun j hj => ⟨?_, hu⟩⟩) h63 hbytes hgd s x ho hs hx (fun a' c' w' H => k a' c' w' (Lib.hid (H.out.congr fun j hj => ?_)))
  · obtain rfl : j = 0 := by omega
    exact one_at w0 w0.heap.size rfl rfl 0 u rfl
  · simp [catV, snV]
theorem adr (b off j : Nat) : (⟨b, off, none⟩ : Addr).add j = ⟨b, off + j, none⟩ := by simp [Addr.add]
theorem Frs.src (h : Frs e W w (.slice a n c) n F) (h1 : ∀ j, j < n → (F j).oneCell' = true) : Src w a n c F := by
  rcases h.own with ⟨e, _⟩ | ⟨g, c', F', e, _, _, h4, h5⟩
  · cases e; exact .inl ⟨rfl, rfl, rfl⟩
  · cases e
    refine .inr ⟨_, rfl, fun j hj => ⟨?_, h1 j hj⟩⟩
    rw [adr, Nat.zero_add]; exact h.own.cell (j := j) (by omega)
theorem Frs.nilA (h : Frs e W w (.slice a n c) n F) : a = none → n = 0 ∧ c = 0 := by
  rcases h.own with ⟨e, _⟩ | ⟨g, c', F', e, _⟩
  · cases e; exact fun _ => ⟨rfl, rfl⟩
  · cases e; intro h; cases h
end Go.Proofs.Ytpniffcojmlboaa
