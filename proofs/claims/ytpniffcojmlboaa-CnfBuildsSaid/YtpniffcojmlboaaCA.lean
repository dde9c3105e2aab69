/- A law's memory in parts: each block has a colour, each thing keeps to blocks of its own colour. -/
import Derived.Test.YtpniffcojmlboaaT
namespace Go.Proofs.Ytpniffcojmlboaa
open Go.RowKit Go.Lib Go.Maps

/-- A thing of colour i: it is P, and keeps to the blocks O. -/
structure Ti (w : World) (κ : Nat → Nat) (i : Nat) (O : Nat → Prop) (P : World → Prop) : Prop where
  at' : P w
  own : ∀ b, O b → b < w.heap.size ∧ κ b = i
  st : ∀ w', Fr (fun b => ¬ O b) w w' → P w'
/-- Only blocks of colour i turn. -/
structure Ot (w : World) (κ : Nat → Nat) (i : Nat) (w' : World) (κ' : Nat → Nat) : Prop where
  fr : Fr (fun b => κ b = i) w w'
  col : ∀ b, b < w.heap.size → κ b ≠ i → κ' b = κ b
variable {w w' w'' : World} {κ κ' κ'' : Nat → Nat} {i j : Nat} {O O' O1 O2 : Nat → Prop} {P P' P1 P2 : World → Prop}
theorem Ti.keep (h : Ti w κ j O P) (k : Ot w κ i w' κ') (hij : j ≠ i) : Ti w' κ' j O P := by
  have hf : Fr (fun b => ¬ O b) w w' := k.fr.weak fun b _ e ho => hij ((h.own b ho).2.symm.trans e)
  refine ⟨h.st _ hf, fun b hb => ?_, fun w2 h2 => h.st _ (hf.trans h2)⟩
  obtain ⟨h1, h2⟩ := h.own b hb
  exact ⟨Nat.lt_of_lt_of_le h1 k.fr.size, by rw [k.col b h1 (by rw [h2]; exact hij), h2]⟩
theorem Ot.quiet (κ : Nat → Nat) (i : Nat) (h : Below w.heap.size w w') : Ot w κ i w' κ := ⟨.of_below h, fun _ _ _ => rfl⟩
theorem Ti.below (h : Ti w κ j O P) (k : Below w.heap.size w w') : Ti w' κ j O P := h.keep (i := j + 1) (Ot.quiet κ (j + 1) k) (by omega)
theorem Ti.drew (h : Ti w κ j O P) : Ti w.drew κ j O P := h.below (Below.refl _ w).drew
theorem Ti.imp (h : Ti w κ j O P) (k : ∀ w, P w → P' w) : Ti w κ j O P' := ⟨k _ h.at', h.own, fun w' hw => k _ (h.st w' hw)⟩
theorem Ti.call (h : Ti w κ i O P) (fr : Fr O w w') (own : ∀ b, O' b → O b ∨ w.heap.size ≤ b) (at' : P' w') (lt : ∀ b, O' b → b < w'.heap.size) (st : ∀ w2, Fr (fun b => ¬ O' b) w' w2 → P' w2) :
    ∃ κ', Ot w κ i w' κ' ∧ Ti w' κ' i O' P' := by
  refine ⟨fun b => if b < w.heap.size then κ b else i, ⟨fr.weak fun b _ e => (h.own b e).2, fun b hb _ => if_pos hb⟩, at', fun b e => ⟨lt b e, ?_⟩, st⟩
  show (if b < w.heap.size then κ b else i) = i
  split
  · next hb => exact (own b e).elim (fun e => (h.own b e).2) fun e => by omega
  · rfl
theorem Ti.call2 (h : Ti w κ i O P) (fr : Fr O w w') (own1 : ∀ b, O1 b → O b ∨ w.heap.size ≤ b) (own2 : ∀ b, O2 b → O b ∨ w.heap.size ≤ b) (dis : ∀ b, O1 b → ¬ O2 b)
    (at1 : P1 w') (lt1 : ∀ b, O1 b → b < w'.heap.size) (st1 : ∀ w2, Fr (fun b => ¬ O1 b) w' w2 → P1 w2) (at2 : P2 w') (lt2 : ∀ b, O2 b → b < w'.heap.size) (st2 : ∀ w2, Fr (fun b => ¬ O2 b) w' w2 → P2 w2) (j : Nat) :
    ∃ κ', Ot w κ i w' κ' ∧ Ti w' κ' i O1 P1 ∧ Ti w' κ' j O2 P2 := by
  classical
  refine ⟨fun b => if O2 b then j else if b < w.heap.size then κ b else i, ⟨fr.weak fun b _ e => (h.own b e).2, fun b hb hne => ?_⟩, ⟨at1, fun b e => ⟨lt1 b e, ?_⟩, st1⟩, ⟨at2, fun b e => ⟨lt2 b e, if_pos e⟩, st2⟩⟩
  · show (if O2 b then j else if b < w.heap.size then κ b else i) = κ b
    rw [if_neg (fun e => (own2 b e).elim (fun e => hne (h.own b e).2) fun e => by omega), if_pos hb]
  · show (if O2 b then j else if b < w.heap.size then κ b else i) = i
    rw [if_neg (dis b e)]
    split
    · next hb => exact (own1 b e).elim (fun e => (h.own b e).2) fun e => by omega
    · rfl
/-- A thing that has come since. -/
theorem Ti.new (κ : Nat → Nat) (i : Nat) (fr : Below w.heap.size w w') (own : ∀ b, O b → w.heap.size ≤ b) (at' : P w') (lt : ∀ b, O b → b < w'.heap.size) (st : ∀ w2, Fr (fun b => ¬ O b) w' w2 → P w2) :
    ∃ κ', Ot w κ i w' κ' ∧ Ti w' κ' i O P := by
  refine ⟨fun b => if b < w.heap.size then κ b else i, ⟨.of_below fr, fun b hb _ => if_pos hb⟩, at', fun b e => ⟨lt b e, ?_⟩, st⟩
  show (if b < w.heap.size then κ b else i) = i
  rw [if_neg (by have := own b e; omega)]
/-- What was there when the law began. -/
def Base (w0 w : World) (κ : Nat → Nat) : Prop := Ti w κ 0 (fun b => b < w0.heap.size) (fun w => Below w0.heap.size w0 w)
theorem Base.of (w : World) : Base w w (fun _ => 0) := ⟨Below.refl _ _, fun b e => ⟨e, rfl⟩, fun w' h => by
  have h1 : Fr (fun b => w.heap.size ≤ b) w w' := h.weak fun b _ e => by omega
  exact h1.below (Nat.le_refl _) fun _ e => e⟩
/-- The graph. -/
def TG (w : World) (κ : Nat → Nat) (G M : Nat) (v iv : Value) (s : Gr) : Prop := Ti w κ 1 (Bg G M v iv) (fun w => Gm w G M v iv s)
theorem gm_st {G M : Nat} {v iv : Value} {s : Gr} (h : Gm w G M v iv s) (k : Fr (fun b => ¬ Bg G M v iv b) w w') : Gm w' G M v iv s := h.of_block fun b e => k.block b (h.lt e) fun hn => hn e
theorem TG.gm {G M : Nat} {v iv : Value} {s : Gr} (h : TG w κ G M v iv s) : Gm w G M v iv s := h.at'
theorem TG.call {G M : Nat} {v iv v' iv' : Value} {s s' : Gr} (h : TG w κ G M v iv s) (T : GmT G M w v iv w' v' iv' s') : ∃ κ', Ot w κ 1 w' κ' ∧ TG w' κ' G M v' iv' s' :=
  Ti.call h T.fr T.own T.gm (fun b e => T.gm.lt e) fun w2 k => gm_st T.gm k
theorem TG.new {G M : Nat} {v iv : Value} {s : Gr} (κ : Nat → Nat) (h : Gn w G M w' v iv s) : ∃ κ', Ot w κ 1 w' κ' ∧ TG w' κ' G M v iv s :=
  Ti.new κ 1 h.bel h.new h.gm (fun b e => h.gm.lt e) fun w2 k => gm_st h.gm k
/-- A slice of its own. -/
def TS (w : World) (κ : Nat → Nat) (i : Nat) (e : TypeId) (v : Value) (n : Nat) (F : Nat → Value) : Prop := Ti w κ i (fun b => v.ownBlock = some b) (fun w => Sl w e 1 v n F)
theorem sl_st {e : TypeId} {v : Value} {n : Nat} {F : Nat → Value} (h : Sl w e 1 v n F) (k : Fr (fun b => ¬ v.ownBlock = some b) w w') : Sl w' e 1 v n F := h.of_block fun b e => k.block b (h.lt e) fun hn => hn e
theorem TS.sl {e : TypeId} {v : Value} {n : Nat} {F : Nat → Value} (h : TS w κ i e v n F) : Sl w e 1 v n F := h.at'
theorem TS.congr {e : TypeId} {v : Value} {n : Nat} {F F' : Nat → Value} (h : TS w κ i e v n F) (k : ∀ j, j < n → F j = F' j) : TS w κ i e v n F' := Ti.imp h fun w hw => hw.congr fun j hj => k j (by omega)
theorem TS.call {e : TypeId} {v v' : Value} {n n' : Nat} {F F' : Nat → Value} (h : TS w κ i e v n F) (fr : Fr (fun b => v.ownBlock = some b) w w') (own : ∀ b, v'.ownBlock = some b → v.ownBlock = some b ∨ w.heap.size ≤ b) (hs : Sl w' e 1 v' n' F') :
    ∃ κ', Ot w κ i w' κ' ∧ TS w' κ' i e v' n' F' :=
  Ti.call h fr own hs (fun b e => hs.lt e) fun w2 k => sl_st hs k
theorem TS.new {e : TypeId} {v : Value} {n : Nat} {F : Nat → Value} (κ : Nat → Nat) (i : Nat) (h : Frs e w w' v n F) : ∃ κ', Ot w κ i w' κ' ∧ TS w' κ' i e v n F :=
  Ti.new κ i h.bel h.new h.own (fun b e => h.own.lt e) fun w2 k => sl_st h.own k
theorem TS.nil (w : World) (κ : Nat → Nat) (i : Nat) (e : TypeId) (F : Nat → Value) : TS w κ i e (.slice none 0 0) 0 F := ⟨Sl.nil, (fun b e => by cases e), fun _ _ => Sl.nil⟩
/-- Its cells. -/
theorem Sl.cells1 {e : TypeId} {a : Option Addr} {n c : Nat} {F : Nat → Value} (h : Sl w e 1 (.slice a n c) n F) (hn : 0 < n) : ∃ g, a = some ⟨g, 0, none⟩ ∧ g < w.heap.size ∧ ∀ j, j < n → w.cell? ⟨g, j, none⟩ = some (F j) := by
  obtain ⟨g, c', e1, _, _, hlt⟩ := h.pos hn
  cases e1
  exact ⟨g, rfl, hlt, fun j hj => h.cell (by omega)⟩
/-- append to a slice of its own. -/
theorem Sl.app {t e : TypeId} {bytes : Nat} (he : Elem t e bytes) {v : Value} {n : Nat} {F : Nat → Value} {W : World} (h : Hid (Sl W e 1 v n F)) {w0 : World} (h0 : Below W.heap.size W w0) {ao : Option Addr} {m c : Nat} {G : Nat → Value} (hsrc : Src w0 ao m c G) (h63 : n + m ≤ maxLen) (hbytes : (n + m) * bytes ≤ 140737488355328)
    {ops : Array Oper} {rest : List Oper} {o : Oper} {a : Act} {Q : Exit → Act → World → Prop} (hgd : o.guard = none) (s x : Operand)
    (ho : o.op = .call { callee := .builtin .append, args := #[s, x], argTypes := #[t, t] }) (hs : a.eval s = v) (hx : a.eval x = .slice ao m c)
    (k : ∀ a' c' w', Hid (Sl w' e 1 (.slice a' (n + m) c') (n + m) (catV F n G)) → Hid (Fr (fun b => v.ownBlock = some b) w0 w') → Hid ((Value.slice a' (n + m) c').ownBlock = v.ownBlock ∨ (Value.slice a' (n + m) c').ownBlock = some w0.heap.size) → wpList Try.prog ops Q rest (a.put o.dst (.slice a' (n + m) c')) w') :
    wpList Try.prog ops Q (o :: rest) a w0 := by
  have HF : Hid (Frs e { W with heap := #[] } W v n F) := Lib.hid ⟨h.out, ⟨rfl, rfl, rfl, Nat.zero_le _, fun k hk => absurd hk (Nat.not_lt_zero _)⟩, fun _ _ => Nat.zero_le _⟩
  exact Frs.appF he HF h0 hsrc h63 hbytes hgd s x ho hs hx fun a' c' w' H => k a' c' w' (Lib.hid H.out.1.own) (Lib.hid H.out.2.1) (Lib.hid H.out.2.2)
end Go.Proofs.Ytpniffcojmlboaa
