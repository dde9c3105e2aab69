/- What is known, in memory. -/
import Derived.Test.YtoffhgiljnagcaaProg
import Derived.Test.YtoffhgiljnagcaaZa
import Derived.Test.YtoffhgiljnagcaaRA
import Derived.WalkKit
import Derived.WalkSpells
import Derived.WalkLawsBesides
import Derived.Lib.Hide
import Derived.Deep.QuietTactic
import Derived.Deep.OwnRows
import Derived.BigQuiet
import Derived.BigRegion
import Derived.IntWalk
import Derived.Outline
import Derived.Below
import Derived.OwnWalk
import Derived.Maps.Own
import Derived.Maps.OwnOps
import Derived.Maps.OwnSet
import Derived.Maps.Views
namespace Go.Proofs.Ytoffhgiljnagcaa
open Go.RowKit Go.Lib Go.Maps


/-- But for the blocks B nothing that was there has turned. -/
structure Fr (B : Nat → Prop) (w w' : World) : Prop where
  os : w'.os = w.os
  tape : w'.tape = w.tape
  output : w'.output = w.output
  size : w.heap.size ≤ w'.heap.size
  block : ∀ k, k < w.heap.size → ¬ B k → w'.heap[k]? = w.heap[k]?
theorem Fr.refl (B : Nat → Prop) (w : World) : Fr B w w := ⟨rfl, rfl, rfl, Nat.le_refl _, fun _ _ _ => rfl⟩
theorem Fr.trans {B : Nat → Prop} {a b c : World} (h : Fr B a b) (k : Fr B b c) : Fr B a c :=
  ⟨k.os.trans h.os, k.tape.trans h.tape, k.output.trans h.output, Nat.le_trans h.size k.size, fun i hi hB => (k.block i (Nat.lt_of_lt_of_le hi h.size) hB).trans (h.block i hi hB)⟩
theorem Fr.drewN {B : Nat → Prop} {a b : World} (h : Fr B a b) (q : Nat) : Fr B a (b.drewN q) := ⟨h.os, h.tape, h.output, h.size, h.block⟩
theorem Fr.drew {B : Nat → Prop} {a b : World} (h : Fr B a b) : Fr B a b.drew := ⟨h.os, h.tape, h.output, h.size, h.block⟩
theorem Fr.set {B : Nat → Prop} {a b : World} (h : Fr B a b) {p : Addr} (hp : B p.block) (u : Value) : Fr B a (b.setCell p u) :=
  h.trans ⟨rfl, rfl, rfl, by simp, fun k _ hB => Below.heap_setCell _ _ _ _ (fun e => hB (e ▸ hp))⟩
theorem Fr.setNew {B : Nat → Prop} {a b : World} (h : Fr B a b) {p : Addr} (hp : a.heap.size ≤ p.block) (u : Value) : Fr B a (b.setCell p u) :=
  ⟨h.os, h.tape, h.output, by simpa using h.size, fun k hk hB => (Below.heap_setCell _ _ _ _ (fun e => by omega)).trans (h.block k hk hB)⟩
theorem Fr.alloc {B : Nat → Prop} {a b : World} (h : Fr B a b) (o : Obj) : Fr B a (b.alloc o) :=
  h.trans ⟨rfl, rfl, rfl, by simp, fun k hk _ => Below.heap_alloc _ _ _ hk⟩
theorem Fr.grown {B : Nat → Prop} {a b c : World} {row : Option Nat} (h : Fr B a b) (hg : b.grownBy c row) (hr : ∀ k, row = some k → k < a.heap.size → B k) : Fr B a c :=
  ⟨hg.os.trans h.os, hg.tape.trans h.tape, hg.output.trans h.output, Nat.le_trans h.size hg.size, fun k hk hB => (hg.block k (Nat.lt_of_lt_of_le hk h.size) (fun e => hB (hr k e.symm hk))).trans (h.block k hk hB)⟩
theorem Fr.below {B : Nat → Prop} {a b : World} {n : Nat} (h : Fr B a b) (hn : n ≤ a.heap.size) (hB : ∀ k, B k → n ≤ k) : Below n a b :=
  ⟨h.os, h.tape, h.output, h.size, fun k hk => h.block k (by omega) (fun e => by have := hB k e; omega)⟩
theorem Fr.of_below {B : Nat → Prop} {a b : World} (h : Below a.heap.size a b) : Fr B a b := ⟨h.os, h.tape, h.output, h.size, fun k hk _ => h.block k hk⟩
theorem Fr.weak {B B' : Nat → Prop} {a b : World} (h : Fr B a b) (hb : ∀ k, k < a.heap.size → B k → B' k) : Fr B' a b := ⟨h.os, h.tape, h.output, h.size, fun k hk hB => h.block k hk fun e => hB (hb k hk e)⟩
/-- What came behind may turn. -/
theorem Fr.then {B B' : Nat → Prop} {a b c : World} (h : Fr B a b) (k : Fr B' b c) (hb : ∀ k, B' k → B k ∨ a.heap.size ≤ k) : Fr B a c :=
  ⟨k.os.trans h.os, k.tape.trans h.tape, k.output.trans h.output, Nat.le_trans h.size k.size, fun i hi hB => (k.block i (Nat.lt_of_lt_of_le hi h.size) (fun e => (hb i e).elim hB (fun e2 => by omega))).trans (h.block i hi hB)⟩
theorem Fr.rowIs {B : Nat → Prop} {a b : World} (h : Fr B a b) {k : Nat} {t : TypeId} {n : Nat} {f : Nat → Value} (hr : a.rowIs k t n f) (hB : ¬ B k) : b.rowIs k t n f :=
  hr.of_block (h.block k hr.lt hB)

/-- A slice of its own: n elements of sz cells. -/
def Sl (w : World) (e : TypeId) (sz : Nat) (v : Value) (n : Nat) (f : Nat → Value) : Prop :=
  (v = .slice none 0 0 ∧ n = 0) ∨ ∃ g c F, v = .slice (some ⟨g, 0, none⟩) n c ∧ n ≤ c ∧ c ≤ maxLen ∧ w.rowIs g e (c * sz) F ∧ ∀ j, j < n * sz → F j = f j
section
variable {w w' : World} {e : TypeId} {sz n g c : Nat} {v : Value} {f : Nat → Value}
theorem Sl.cell {m : Nat} (h : Sl w e sz (.slice (some ⟨g, 0, none⟩) m c) n f) {j : Nat} (hj : j < n * sz) : w.cell? ⟨g, j, none⟩ = some (f j) := by
  rcases h with ⟨h, _⟩ | ⟨g', c', F, h1, h2, h3, h4, h5⟩
  · cases h
  · cases h1
    rw [h4.cell (Nat.lt_of_lt_of_le hj (Nat.mul_le_mul_right _ h2)), h5 j hj]
theorem Sl.frozen {m : Nat} (h : Sl w e sz (.slice (some ⟨g, 0, none⟩) m c) n f) (j : Nat) : w.frozen? ⟨g, j, none⟩ = false := by
  rcases h with ⟨h, _⟩ | ⟨g', c', F, h1, h2, h3, h4, h5⟩
  · cases h
  · cases h1; exact h4.frozen j
theorem Sl.pos (h : Sl w e sz v n f) (hn : 0 < n) : ∃ g c, v = .slice (some ⟨g, 0, none⟩) n c ∧ n ≤ c ∧ c ≤ maxLen ∧ g < w.heap.size := by
  rcases h with ⟨_, h⟩ | ⟨g, c, F, h1, h2, h3, h4, _⟩
  · omega
  · exact ⟨g, c, h1, h2, h3, h4.lt⟩
theorem Sl.shape (h : Sl w e sz v n f) : ∃ a c, v = .slice a n c ∧ n ≤ c ∧ c ≤ maxLen := by
  rcases h with ⟨h, h0⟩ | ⟨g, c, F, h1, h2, h3, h4, _⟩
  · subst h0; exact ⟨none, 0, h, Nat.le_refl _, Nat.zero_le _⟩
  · exact ⟨_, c, h1, h2, h3⟩
theorem Sl.lt (h : Sl w e sz v n f) {b : Nat} (hb : v.ownBlock = some b) : b < w.heap.size := by
  rcases h with ⟨h, _⟩ | ⟨g, c, F, rfl, h2, h3, h4, _⟩
  · subst h; cases hb
  · cases hb; exact h4.lt
theorem Sl.of_block (h : Sl w e sz v n f) (hb : ∀ b, v.ownBlock = some b → w'.heap[b]? = w.heap[b]?) : Sl w' e sz v n f := by
  rcases h with h | ⟨g, c, F, rfl, h2, h3, h4, h5⟩
  · exact .inl h
  · exact .inr ⟨g, c, F, rfl, h2, h3, h4.of_block (hb g rfl), h5⟩
theorem Sl.congr (h : Sl w e sz v n f) {f' : Nat → Value} (hf : ∀ j, j < n * sz → f j = f' j) : Sl w e sz v n f' := by
  rcases h with h | ⟨g, c, F, h1, h2, h3, h4, h5⟩
  · exact .inl h
  · exact .inr ⟨g, c, F, h1, h2, h3, h4, fun j hj => (h5 j hj).trans (hf j hj)⟩
theorem Sl.set {m : Nat} (h : Sl w e sz (.slice (some ⟨g, 0, none⟩) m c) n f) (j : Nat) (x : Value) : Sl (w.setCell ⟨g, j, none⟩ x) e sz (.slice (some ⟨g, 0, none⟩) m c) n (fun i => if i = j then x else f i) := by
  rcases h with ⟨h, _⟩ | ⟨g', c', F, h1, h2, h3, h4, h5⟩
  · cases h
  · cases h1
    refine .inr ⟨g, c, _, rfl, h2, h3, h4.set j x, fun i hi => ?_⟩
    show (if i = j then x else F i) = _
    rw [h5 i hi]
theorem Sl.trunc {m m' : Nat} (h : Sl w e sz (.slice (some ⟨g, 0, none⟩) m c) n f) (hm : m' ≤ n) : Sl w e sz (.slice (some ⟨g, 0, none⟩) m' c) m' f := by
  rcases h with ⟨h, _⟩ | ⟨g', c', F, h1, h2, h3, h4, h5⟩
  · cases h
  · cases h1
    exact .inr ⟨g, c, F, rfl, by omega, h3, h4, fun i hi => h5 i (Nat.lt_of_lt_of_le hi (Nat.mul_le_mul_right _ hm))⟩
theorem Sl.nil : Sl w e sz (.slice none 0 0) 0 f := .inl ⟨rfl, rfl⟩

/-- The content as a list, for append. -/
def lst (f : Nat → Value) (k : Nat) : List Value := (List.range k).map f
theorem Sl.owns (h : Sl w e sz v n f) : w.ownsRow 0 e sz v n (lst f (n * sz)) := by
  refine ⟨by simp [lst], ?_⟩
  rcases h with h | ⟨g, c, F, h1, h2, h3, ⟨cur, h4, h6, h7⟩, h5⟩
  · exact .inl h
  · refine .inr ⟨g, c, cur, h1, Nat.zero_le _, h4, h2, h3, h6, ?_⟩
    have hle := Nat.mul_le_mul_right sz h2
    refine List.ext_getElem? fun i => ?_
    by_cases hi : i < n * sz
    · rw [List.getElem?_take_of_lt hi, Array.getElem?_toList, h7 i (by omega), h5 i hi]
      simp [lst, hi]
    · rw [List.getElem?_eq_none (by simp; omega), List.getElem?_eq_none (by simp [lst]; omega)]
theorem Sl.of_owns {xs : List Value} (h : w.ownsRow 0 e sz v n xs) (hf : ∀ j, j < n * sz → xs[j]? = some (f j)) : Sl w e sz v n f := by
  obtain ⟨hl, h | ⟨g, c, cur, h1, _, h4, h2, h3, h6, h7⟩⟩ := h
  · exact .inl h
  · refine .inr ⟨g, c, fun j => (cur[j]?).getD (.bool false), h1, h2, h3, ⟨cur, h4, h6, fun i hi => ?_⟩, fun j hj => ?_⟩
    · have : i < cur.size := by omega
      simp [this]
    · have h8 := hf j hj
      rw [← h7, List.getElem?_take_of_lt hj, Array.getElem?_toList] at h8
      show (cur[j]?).getD _ = _
      rw [h8]; rfl
theorem Sl.of_app {v' : Value} {m : Nat} {news : List Value} (h : w'.ownsRow 0 e sz v' (n + m) (lst f (n * sz) ++ news)) {f' : Nat → Value} (h1 : ∀ j, j < n * sz → f' j = f j) (h2 : ∀ j, j < m * sz → news[j]? = some (f' (n * sz + j))) : Sl w' e sz v' (n + m) f' := by
  refine Sl.of_owns h fun j hj => ?_
  rw [Nat.add_mul] at hj
  by_cases hj' : j < n * sz
  · rw [List.getElem?_append_left (by simpa [lst] using hj'), h1 j hj']; simp [lst, hj']
  · rw [List.getElem?_append_right (by simp [lst]; omega)]
    have := h2 (j - n * sz) (by omega)
    rw [show n * sz + (j - n * sz) = j by omega] at this
    simpa [lst] using this
end

inductive Tag | cls | sho | wts | vals | rsns | tra | wl (l : Nat) | cl (a : Nat)
deriving DecidableEq
def hdF (M : Nat) (L : Tag → Value) (s : St) : Nat → Value := fun i =>
  if i = 0 then .map (some M) else if i = 1 then L .cls else if i = 2 then L .sho else if i = 3 then L .wts else if i = 4 then L .vals else if i = 5 then L .rsns else if i = 6 then L .tra else if i = 7 then .int .i64 s.done else if i = 8 then .bool s.settled else .int .i32 s.broken
def tyOf : Tag → TypeId | .cls => 75 | .sho => 48 | .wts => 97 | .vals => 95 | .rsns => 48 | .tra => 71 | .wl _ => 78 | .cl _ => 71
def szOf : Tag → Nat | .cls => 2 | .wl _ => 2 | _ => 1
def nOf (s : St) : Tag → Nat | .cls => s.nc | .sho => s.ns | .wts => s.ew | .vals => s.ev | .rsns => s.er | .tra => s.nt | .wl l => s.wn l | .cl a => s.ln a
def fOf (L : Tag → Value) (s : St) : Tag → Nat → Value
  | .cls => fun j => if j % 2 = 0 then L (.cl (j / 2)) else .bool (s.gone (j / 2))
  | .sho => fun j => .int .i32 (s.sh j)
  | .wts => fun j => L (.wl j)
  | .vals => fun j => .int .i8 (s.val j)
  | .rsns => fun j => .int .i32 (s.rsn j)
  | .tra => fun j => .int .i32 (s.tr j)
  | .wl l => fun j => if j % 2 = 0 then .int .i32 (s.wa l (j / 2)) else .int .i32 (s.wo l (j / 2))
  | .cl a => fun j => .int .i32 (s.lt a j)
/-- The numbers of the variables. -/
def NumD (s : St) (D : DataW TypeId) : Prop :=
  (∀ v : Int, has D (.int .i64 v) = true ↔ ∃ n, n < s.nv ∧ s.vr n = v) ∧ (∀ n, n < s.nv → ∀ z, D.atKey (.int .i64 (s.vr n)) z = .lit (.int .i64 n)) ∧ Maps.size D = s.nv
structure Mem (w : World) (K M : Nat) (L : Tag → Value) (s : St) : Prop where
  hd : w.rowIs K 67 10 (hdF M L s)
  mp : ∃ D, w.ownsMap (H := TypeId) Try.prog 3 (plainElem Try.prog 3) M s.nv D ∧ NumD s D
  row : ∀ t, Sl w (tyOf t) (szOf t) (L t) (nOf s t) (fOf L s t)
  farw : ∀ l, s.ew ≤ l → L (.wl l) = .slice none 0 0
  km : K ≠ M
  kb : ∀ t, (L t).ownBlock ≠ some K
  mb : ∀ t, (L t).ownBlock ≠ some M
  dj : ∀ t t' b, (L t).ownBlock = some b → (L t').ownBlock = some b → t = t'
/-- The blocks of what is known. -/
def Bl (K M : Nat) (L : Tag → Value) (b : Nat) : Prop := b = K ∨ b = M ∨ ∃ t, (L t).ownBlock = some b
theorem Mem.lt {w : World} {K M : Nat} {L : Tag → Value} {s : St} (h : Mem w K M L s) {b : Nat} (hb : Bl K M L b) : b < w.heap.size := by
  rcases hb with rfl | rfl | ⟨t, ht⟩
  · exact h.hd.lt
  · obtain ⟨D, h1, _⟩ := h.mp; exact h1.lt
  · exact (h.row t).lt ht
/-- From one to the next. -/
structure Tn (K M : Nat) (w : World) (L : Tag → Value) (w' : World) (L' : Tag → Value) (s' : St) : Prop where
  mem : Mem w' K M L' s'
  fr : Fr (Bl K M L) w w'
  gr : ∀ b, Bl K M L' b → Bl K M L b ∨ w.heap.size ≤ b
theorem Tn.trans {K M : Nat} {w w1 w2 : World} {L L1 L2 : Tag → Value} {s1 s2 : St} (h : Tn K M w L w1 L1 s1) (k : Tn K M w1 L1 w2 L2 s2) : Tn K M w L w2 L2 s2 :=
  ⟨k.mem, h.fr.then k.fr h.gr, fun b hb => (k.gr b hb).elim (h.gr b) fun e => .inr (Nat.le_trans h.fr.size e)⟩
theorem Mem.refl {K M : Nat} {w : World} {L : Tag → Value} {s : St} (h : Mem w K M L s) : Tn K M w L w L s := ⟨h, .refl _ _, fun _ hb => .inl hb⟩
theorem ownsMap_of_block {w w' : World} {k : TypeId} {R : Value → Option (DataW TypeId × List MemPlace)} {b n : Nat} {D : DataW TypeId} (h : w.ownsMap Try.prog k R b n D) (e : w'.heap[b]? = w.heap[b]?) : w'.ownsMap Try.prog k R b n D := by
  obtain ⟨es, clock, hb, F, hs, hD⟩ := h
  exact ⟨es, clock, e.trans hb, F, hs, hD⟩
/-- A world in which nothing of it has turned. -/
theorem Mem.keep {K M : Nat} {w w' : World} {L : Tag → Value} {s : St} (h : Mem w K M L s) {B : Nat → Prop} (hf : Fr B w w') (hB : ∀ b, Bl K M L b → ¬ B b) : Mem w' K M L s := by
  refine ⟨hf.rowIs h.hd (hB _ (.inl rfl)), ?_, fun t => (h.row t).of_block fun b hb => hf.block b ((h.row t).lt hb) (hB b (.inr (.inr ⟨t, hb⟩))), h.farw, h.km, h.kb, h.mb, h.dj⟩
  obtain ⟨D, h1, h2⟩ := h.mp
  exact ⟨D, ownsMap_of_block h1 (hf.block _ h1.lt (hB _ (.inr (.inl rfl)))), h2⟩
theorem Mem.alloc {K M : Nat} {w : World} {L : Tag → Value} {s : St} (h : Mem w K M L s) (o : Obj) : Mem (w.alloc o) K M L s :=
  h.keep ((Fr.refl (fun _ => False) w).alloc o) fun _ _ => id
theorem Mem.drewN {K M : Nat} {w : World} {L : Tag → Value} {s : St} (h : Mem w K M L s) (q : Nat) : Mem (w.drewN q) K M L s :=
  h.keep ((Fr.refl (fun _ => False) w).drewN q) fun _ _ => id
/-- A store in a block that is none of it. -/
theorem Mem.aside {K M : Nat} {w : World} {L : Tag → Value} {s : St} (h : Mem w K M L s) {p : Addr} (hp : ¬ Bl K M L p.block) (u : Value) : Mem (w.setCell p u) K M L s :=
  h.keep ((Fr.refl (fun b => b = p.block) w).set rfl u) fun b hb e => hp (e ▸ hb)

def up (L : Tag → Value) (t : Tag) (v : Value) : Tag → Value := fun t' => if t' = t then v else L t'
theorem up_same (L : Tag → Value) (t : Tag) (v : Value) : up L t v t = v := if_pos rfl
theorem up_other {L : Tag → Value} {t t' : Tag} (v : Value) (h : t' ≠ t) : up L t v t' = L t' := if_neg h
theorem up_id (L : Tag → Value) (t : Tag) : up L t (L t) = L := by funext t'; unfold up; split <;> simp_all

/-- The step: one block of it turns, that of the slice τ, or its head; the rest stays. -/
theorem Mem.turn {K M : Nat} {w w' : World} {L : Tag → Value} {s : St} (h : Mem w K M L s) (τ : Tag) (v : Value) (s' : St) {B : Nat → Prop} (hf : Fr B w w')
    (hB : ∀ t, t ≠ τ → ∀ b, (L t).ownBlock = some b → B b → Sl w' (tyOf t) (szOf t) (L t) (nOf s' t) (fOf (up L τ v) s' t))
    (hd' : w'.rowIs K 67 10 (hdF M (up L τ v) s')) (hM : ∃ D, w'.ownsMap (H := TypeId) Try.prog 3 (plainElem Try.prog 3) M s'.nv D ∧ NumD s' D)
    (hτ : Sl w' (tyOf τ) (szOf τ) v (nOf s' τ) (fOf (up L τ v) s' τ))
    (ho : ∀ t, t ≠ τ → (∀ b, (L t).ownBlock = some b → ¬ B b) → nOf s' t = nOf s t ∧ ∀ j, j < nOf s t * szOf t → fOf L s t j = fOf (up L τ v) s' t j)
    (hv : ∀ b, v.ownBlock = some b → (L τ).ownBlock = some b ∨ w.heap.size ≤ b)
    (hw : ∀ l, s'.ew ≤ l → up L τ v (.wl l) = .slice none 0 0)
    (hBl : ∀ b, B b → b < w.heap.size → Bl K M L b) : Tn K M w L w' (up L τ v) s' := by
  have hK := h.hd.lt
  obtain ⟨D, hD, _⟩ := h.mp
  have hMl := hD.lt
  refine ⟨⟨hd', hM, ?_, hw, h.km, ?_, ?_, ?_⟩, hf.weak fun k hk hb => hBl k hb hk, ?_⟩
  · intro t
    by_cases e : t = τ
    · subst e; rw [up_same]; exact hτ
    · rw [up_other _ e]
      by_cases e2 : ∃ b, (L t).ownBlock = some b ∧ B b
      · obtain ⟨b, h1, h2⟩ := e2; exact hB t e b h1 h2
      · have e3 : ∀ b, (L t).ownBlock = some b → ¬ B b := fun b h1 h2 => e2 ⟨b, h1, h2⟩
        obtain ⟨h1, h2⟩ := ho t e e3
        rw [h1]
        exact ((h.row t).of_block fun b hb => hf.block b ((h.row t).lt hb) (e3 b hb)).congr h2
  · intro t e
    by_cases e1 : t = τ
    · subst e1; rw [up_same] at e
      rcases hv _ e with h1 | h1
      · exact h.kb _ h1
      · omega
    · rw [up_other _ e1] at e; exact h.kb _ e
  · intro t e
    by_cases e1 : t = τ
    · subst e1; rw [up_same] at e
      rcases hv _ e with h1 | h1
      · exact h.mb _ h1
      · omega
    · rw [up_other _ e1] at e; exact h.mb _ e
  · intro t t' b e e'
    by_cases e1 : t = τ <;> by_cases e2 : t' = τ
    · rw [e1, e2]
    · subst e1; rw [up_same] at e; rw [up_other _ e2] at e'
      rcases hv _ e with h1 | h1
      · exact h.dj _ _ b h1 e'
      · have := (h.row t').lt e'; omega
    · subst e2; rw [up_same] at e'; rw [up_other _ e1] at e
      rcases hv _ e' with h1 | h1
      · exact h.dj _ _ b e h1
      · have := (h.row t).lt e; omega
    · rw [up_other _ e1] at e; rw [up_other _ e2] at e'
      exact h.dj _ _ b e e'
  · rintro b (e | e | ⟨t, e⟩)
    · exact .inl (.inl e)
    · exact .inl (.inr (.inl e))
    · by_cases e1 : t = τ
      · subst e1; rw [up_same] at e
        rcases hv _ e with h1 | h1
        · exact .inl (.inr (.inr ⟨t, h1⟩))
        · exact .inr h1
      · rw [up_other _ e1] at e
        exact .inl (.inr (.inr ⟨t, e⟩))

/-- The head alone turns. -/
theorem Mem.head {K M : Nat} {w : World} {L : Tag → Value} {s : St} (h : Mem w K M L s) (i : Nat) (u : Value) (s' : St) (hd' : ∀ j, j < 10 → (if j = i then u else hdF M L s j) = hdF M L s' j)
    (hn : s'.nv = s.nv ∧ s'.ew = s.ew ∧ s'.vr = s.vr) (ho : ∀ t, nOf s' t = nOf s t ∧ ∀ j, fOf L s t j = fOf L s' t j) : Tn K M w L (w.setCell ⟨K, i, none⟩ u) L s' := by
  have hf : Fr (fun b => b = K) w (w.setCell ⟨K, i, none⟩ u) := (Fr.refl (fun b => b = K) w).set (p := ⟨K, i, none⟩) rfl u
  obtain ⟨D, hD, hN⟩ := h.mp
  refine ⟨⟨(h.hd.set i u).congr hd', ⟨D, ?_, ?_⟩, ?_, ?_, h.km, h.kb, h.mb, h.dj⟩, hf.weak fun k _ e => .inl e, fun b hb => .inl hb⟩
  · rw [hn.1]; exact ownsMap_of_block hD (hf.block _ hD.lt (fun e => h.km e.symm))
  · unfold NumD; rw [hn.1, hn.2.2]; exact hN
  · intro t
    obtain ⟨h1, h2⟩ := ho t
    rw [h1]
    exact ((h.row t).of_block fun b hb => hf.block b ((h.row t).lt hb) (fun e => h.kb t (e ▸ hb))).congr fun j _ => h2 j
  · intro l hl; exact h.farw l (by rw [← hn.2.1]; exact hl)

theorem slice_block {g n c : Nat} : (Value.slice (some ⟨g, 0, none⟩) n c).ownBlock = some g := rfl
/-- A store in one of the slices. -/
theorem Mem.cell {K M : Nat} {w : World} {L : Tag → Value} {s : St} (h : Mem w K M L s) {τ : Tag} {g n c : Nat} (hL : L τ = .slice (some ⟨g, 0, none⟩) n c) (i : Nat) (u : Value) (s' : St)
    (hd' : hdF M L s' = hdF M L s) (hn : s'.nv = s.nv ∧ s'.ew = s.ew ∧ s'.vr = s.vr) (hτ : nOf s' τ = nOf s τ ∧ ∀ j, j < nOf s τ * szOf τ → (if j = i then u else fOf L s τ j) = fOf L s' τ j)
    (ho : ∀ t, t ≠ τ → nOf s' t = nOf s t ∧ ∀ j, j < nOf s t * szOf t → fOf L s t j = fOf L s' t j) : Tn K M w L (w.setCell ⟨g, i, none⟩ u) L s' := by
  have hf : Fr (fun b => b = g) w (w.setCell ⟨g, i, none⟩ u) := (Fr.refl (fun b => b = g) w).set (p := ⟨g, i, none⟩) rfl u
  have hg : (L τ).ownBlock = some g := by rw [hL]; rfl
  have key := h.turn τ (L τ) s' hf (fun t ht b hb e => absurd (h.dj t τ b hb (e ▸ hg)) ht) ?_ ?_ ?_ ?_ (fun b hb => .inl hb) ?_ (fun b e _ => .inr (.inr ⟨τ, e ▸ hg⟩))
  · rw [up_id] at key; exact key
  · rw [up_id, hd']; exact hf.rowIs h.hd (fun e => h.kb τ (e ▸ hg))
  · obtain ⟨D, hD, hN⟩ := h.mp
    refine ⟨D, ?_, ?_⟩
    · rw [hn.1]; exact ownsMap_of_block hD (hf.block _ hD.lt (fun e => h.mb τ (e ▸ hg)))
    · unfold NumD; rw [hn.1, hn.2.2]; exact hN
  · rw [up_id, hτ.1]
    have := h.row τ
    rw [hL] at this ⊢
    exact (this.set i u).congr hτ.2
  · intro t ht _; rw [up_id]; exact ho t ht
  · rw [up_id]; intro l hl; exact h.farw l (by rw [← hn.2.1]; exact hl)

section
variable {K M : Nat} {w : World} {L : Tag → Value} {s : St} (h : Mem w K M L s)
include h
theorem Mem.stDone (d : Nat) : Tn K M w L (w.setCell ⟨K, 7, none⟩ (.int .i64 d)) L { s with done := d } := by
  refine h.head 7 _ _ ?_ ⟨rfl, rfl, rfl⟩ fun t => ⟨by cases t <;> rfl, fun j => by cases t <;> rfl⟩
  intro j _; unfold hdF
  by_cases e : j = 7
  · subst e; rfl
  · rw [if_neg e]; simp only [if_neg e]
theorem Mem.stSettled (x : Bool) : Tn K M w L (w.setCell ⟨K, 8, none⟩ (.bool x)) L { s with settled := x } := by
  refine h.head 8 _ _ ?_ ⟨rfl, rfl, rfl⟩ fun t => ⟨by cases t <;> rfl, fun j => by cases t <;> rfl⟩
  intro j _; unfold hdF
  by_cases e : j = 8
  · subst e; rfl
  · rw [if_neg e]; simp only [if_neg e]
theorem Mem.stBroken (x : Nat) : Tn K M w L (w.setCell ⟨K, 9, none⟩ (.int .i32 x)) L { s with broken := x } := by
  refine h.head 9 _ _ ?_ ⟨rfl, rfl, rfl⟩ fun t => ⟨by cases t <;> rfl, fun j => by cases t <;> rfl⟩
  intro j hj; unfold hdF
  by_cases e : j = 9
  · subst e; rfl
  · rw [if_neg e]
    by_cases e0 : j = 8
    · subst e0; rfl
    · simp only [if_neg e0]
      have : j < 8 := by omega
      match j, this with
      | 0, _ | 1, _ | 2, _ | 3, _ | 4, _ | 5, _ | 6, _ | 7, _ => rfl
theorem Mem.stVal {g n c : Nat} (hL : L .vals = .slice (some ⟨g, 0, none⟩) n c) (i : Nat) (x : Int) : Tn K M w L (w.setCell ⟨g, i, none⟩ (.int .i8 x)) L { s with val := fun j => if j = i then x else s.val j } := by
  refine h.cell hL i _ _ rfl ⟨rfl, rfl, rfl⟩ ⟨rfl, fun j _ => ?_⟩ fun t ht => ⟨by cases t <;> rfl, fun j _ => by cases t <;> first | rfl | exact absurd rfl ht⟩
  show (if j = i then Value.int .i8 x else .int .i8 (s.val j)) = .int .i8 (if j = i then x else s.val j)
  split <;> rfl
theorem Mem.stRsn {g n c : Nat} (hL : L .rsns = .slice (some ⟨g, 0, none⟩) n c) (i x : Nat) : Tn K M w L (w.setCell ⟨g, i, none⟩ (.int .i32 x)) L { s with rsn := fun j => if j = i then x else s.rsn j } := by
  refine h.cell hL i _ _ rfl ⟨rfl, rfl, rfl⟩ ⟨rfl, fun j _ => ?_⟩ fun t ht => ⟨by cases t <;> rfl, fun j _ => by cases t <;> first | rfl | exact absurd rfl ht⟩
  show (if j = i then Value.int .i32 x else .int .i32 (s.rsn j)) = .int .i32 (if j = i then x else s.rsn j : Nat)
  split <;> rfl
theorem Mem.stLt {a g n c : Nat} (hL : L (.cl a) = .slice (some ⟨g, 0, none⟩) n c) (i x : Nat) : Tn K M w L (w.setCell ⟨g, i, none⟩ (.int .i32 x)) L { s with lt := fun b j => if b = a ∧ j = i then x else s.lt b j } := by
  refine h.cell hL i _ _ rfl ⟨rfl, rfl, rfl⟩ ⟨rfl, fun j _ => ?_⟩ fun t ht => ⟨by cases t <;> rfl, fun j hj => ?_⟩
  · show (if j = i then Value.int .i32 x else .int .i32 (s.lt a j)) = .int .i32 (if a = a ∧ j = i then x else s.lt a j : Nat)
    simp only [true_and]
    split <;> rfl
  · clear hj
    cases t
    case cl b =>
      have hb : b ≠ a := fun e => ht (by rw [e])
      show Value.int .i32 (s.lt b j) = .int .i32 (if b = a ∧ j = i then x else s.lt b j : Nat)
      rw [if_neg (fun e => hb e.1)]
    all_goals rfl

/-- What the head's cells hold. -/
theorem Mem.c (i : Nat) (hi : i < 10) : w.cell? ⟨K, i, none⟩ = some (hdF M L s i) := h.hd.cell hi
theorem Mem.ne {t : Tag} {g n c : Nat} (hL : L t = .slice (some ⟨g, 0, none⟩) n c) : K ≠ g := fun e => h.kb t (by rw [hL, e]; rfl)
theorem Mem.ne2 {t t' : Tag} {g n c g' n' c' : Nat} (hL : L t = .slice (some ⟨g, 0, none⟩) n c) (hL' : L t' = .slice (some ⟨g', 0, none⟩) n' c') (ht : t ≠ t') : g ≠ g' := fun e => ht (h.dj t t' g (by rw [hL]; rfl) (by rw [hL', e]; rfl))
theorem Mem.glt {t : Tag} {g n c : Nat} (hL : L t = .slice (some ⟨g, 0, none⟩) n c) : g < w.heap.size := (h.row t).lt (b := g) (by rw [hL]; rfl)
omit h in
theorem Bl.of {t : Tag} {g n c : Nat} (hL : L t = .slice (some ⟨g, 0, none⟩) n c) : Bl K M L g := .inr (.inr ⟨t, by rw [hL]; rfl⟩)
theorem Mem.rc {t : Tag} {g n c : Nat} (hL : L t = .slice (some ⟨g, 0, none⟩) n c) {j : Nat} (hj : j < nOf s t * szOf t) : w.cell? ⟨g, j, none⟩ = some (fOf L s t j) := by
  have := h.row t
  rw [hL] at this
  exact this.cell hj
theorem Mem.fz {t : Tag} {g n c : Nat} (hL : L t = .slice (some ⟨g, 0, none⟩) n c) (j : Nat) : w.frozen? ⟨g, j, none⟩ = false := by
  have := h.row t
  rw [hL] at this
  exact this.frozen j
theorem Mem.fk (j : Nat) : w.frozen? ⟨K, j, none⟩ = false := h.hd.frozen j
end

/-- A slice grows by an append, its header is stored in the head. -/
theorem Mem.app {K M : Nat} {w : World} {L : Tag → Value} {s : St} (h : Mem w K M L s) {τ : Tag} {i : Nat} {tmp : Obj} {v : Value} {w1 : World} {m : Nat} {news : List Value} (s' : St)
    (hown : w1.ownsRow 0 (tyOf τ) (szOf τ) v (nOf s τ + m) (lst (fOf L s τ) (nOf s τ * szOf τ) ++ news))
    (hg : (w.alloc tmp).grownBy w1 (L τ).ownBlock) (hat : v.ownBlock = (L τ).ownBlock ∨ v.ownBlock = some (w.alloc tmp).heap.size)
    (hn : nOf s' τ = nOf s τ + m) (hnew : ∀ j, j < m * szOf τ → news[j]? = some (fOf (up L τ v) s' τ (nOf s τ * szOf τ + j)))
    (hold : ∀ j, j < nOf s τ * szOf τ → fOf (up L τ v) s' τ j = fOf L s τ j)
    (ho : ∀ t, t ≠ τ → nOf s' t = nOf s t ∧ ∀ j, j < nOf s t * szOf t → fOf L s t j = fOf (up L τ v) s' t j)
    (hhd : ∀ j, j < 10 → (if j = i then v else hdF M L s j) = hdF M (up L τ v) s' j) (hnum : s'.nv = s.nv ∧ s'.vr = s.vr)
    (hw : ∀ l, s'.ew ≤ l → up L τ v (.wl l) = .slice none 0 0) : Tn K M w L (w1.setCell ⟨K, i, none⟩ v) (up L τ v) s' := by
  have hK := h.hd.lt
  have hfa : Fr (fun b => (L τ).ownBlock = some b) w (w.alloc tmp) := (Fr.refl _ w).alloc tmp
  have hf1 : Fr (fun b => (L τ).ownBlock = some b) w w1 := hfa.grown hg fun k hk _ => hk
  have hf : Fr (fun b => b = K ∨ (L τ).ownBlock = some b) w (w1.setCell ⟨K, i, none⟩ v) := (hf1.weak fun k _ e => .inr e).set (p := ⟨K, i, none⟩) (.inl rfl) v
  have hsz : (w.alloc tmp).heap.size = w.heap.size + 1 := by simp
  have hvb : ∀ b, v.ownBlock = some b → (L τ).ownBlock = some b ∨ w.heap.size ≤ b := by
    intro b hb
    rcases hat with e | e
    · exact .inl (by rw [← e, hb])
    · rw [hb, hsz] at e; exact .inr (by have := Option.some.inj e; omega)
  have hvK : v.ownBlock ≠ some K := fun e => by
    rcases hvb K e with h1 | h1
    · exact h.kb τ h1
    · omega
  refine h.turn τ v s' hf ?_ ?_ ?_ ?_ ?_ hvb hw ?_
  · intro t ht b hb e
    rcases e with e | e
    · exact absurd (e ▸ hb) (h.kb t)
    · exact absurd (h.dj t τ b hb e) ht
  · have h1 : w1.rowIs K 67 10 (hdF M L s) := hf1.rowIs h.hd (h.kb τ)
    exact (h1.set i v).congr hhd
  · obtain ⟨D, hD, hN⟩ := h.mp
    refine ⟨D, ?_, ?_⟩
    · rw [hnum.1]; exact ownsMap_of_block hD (hf.block _ hD.lt (fun e => e.elim (fun e => h.km e.symm) (h.mb τ)))
    · unfold NumD; rw [hnum.1, hnum.2]; exact hN
  · have h1 : Sl w1 (tyOf τ) (szOf τ) v (nOf s τ + m) (fOf (up L τ v) s' τ) := Sl.of_app hown hold hnew
    rw [hn]
    refine h1.of_block fun b hb => Below.heap_setCell _ _ _ _ fun e => hvK ?_
    rw [hb, e]
  · intro t ht _; exact ho t ht
  · rintro b (e | e) _
    · exact .inl e
    · exact .inr (.inr ⟨τ, e⟩)
theorem Mem.app_head {K M : Nat} {w : World} {L : Tag → Value} {s : St} (h : Mem w K M L s) {τ : Tag} {tmp : Obj} {w1 : World} (hg : (w.alloc tmp).grownBy w1 (L τ).ownBlock) : w1.rowIs K 67 10 (hdF M L s) :=
  ((h.hd.alloc tmp).of_block (hg.block K (by have := h.hd.lt; simp; omega) (fun e => h.kb τ e.symm)))
theorem owns_shape {w : World} {b : Nat} {e : TypeId} {sz : Nat} {v : Value} {n : Nat} {xs : List Value} (h : w.ownsRow b e sz v n xs) : ∃ a c, v = .slice a n c := by
  obtain ⟨_, ⟨h, h0⟩ | ⟨g, c, cur, h1, _⟩⟩ := h
  · exact ⟨none, 0, by rw [h, h0]⟩
  · exact ⟨_, c, h1⟩
theorem one_new (w : World) (x : Value) (t : TypeId) : ∀ j u, [x][j]? = some u → (w.alloc (.cells #[x] t)).cell? ((⟨w.heap.size, 0, none⟩ : Addr).add j) = some u := by
  intro j u hj
  match j, hj with
  | 0, hj => simp at hj; subst hj; simp [Addr.add]
/-- A list of watches grows by an append, its header is stored among the lists. -/
theorem Mem.appW {K M : Nat} {w : World} {L : Tag → Value} {s : St} (h : Mem w K M L s) {p gw cw n a o : Nat} {v : Value} {w1 : World} (hW : L .wts = .slice (some ⟨gw, 0, none⟩) n cw) (hp : p < s.ew)
    (hown : w1.ownsRow 0 78 2 v (s.wn p + 1) (lst (fOf L s (.wl p)) (s.wn p * 2) ++ [.int .i32 a, .int .i32 o]))
    (hg : w.grownBy w1 (L (.wl p)).ownBlock) (hat : v.ownBlock = (L (.wl p)).ownBlock ∨ v.ownBlock = some w.heap.size) :
    Tn K M w L (w1.setCell ⟨gw, p, none⟩ v) (up L (.wl p) v) (s.ent p a o) := by
  have hgw : (L .wts).ownBlock = some gw := by rw [hW]; rfl
  have hgl := h.glt hW
  have hf1 : Fr (fun b => (L (.wl p)).ownBlock = some b) w w1 := (Fr.refl _ w).grown hg fun k hk _ => hk
  have hf : Fr (fun b => b = gw ∨ (L (.wl p)).ownBlock = some b) w (w1.setCell ⟨gw, p, none⟩ v) := (hf1.weak fun k _ e => .inr e).set (p := ⟨gw, p, none⟩) (.inl rfl) v
  have hvb : ∀ b, v.ownBlock = some b → (L (.wl p)).ownBlock = some b ∨ w.heap.size ≤ b := by
    intro b hb
    rcases hat with e | e
    · exact .inl (by rw [← e, hb])
    · rw [hb] at e; exact .inr (by have := Option.some.inj e; omega)
  have hvg : v.ownBlock ≠ some gw := fun e => by
    rcases hvb gw e with h1 | h1
    · exact absurd (h.dj _ _ _ h1 hgw) (fun e => by cases e)
    · omega
  refine h.turn (.wl p) v _ hf ?_ ?_ ?_ ?_ ?_ hvb ?_ ?_
  · intro t ht b hb e
    rcases e with e | e
    · have htw := h.dj t .wts b hb (e ▸ hgw)
      subst htw
      have h1 : Sl w1 97 1 (L .wts) s.ew (fOf L s .wts) := (h.row .wts).of_block fun b hb => hf1.block b ((h.row .wts).lt hb) (fun e => absurd (h.dj _ _ _ e hb) (fun e => by cases e))
      rw [hW] at h1
      show Sl _ 97 1 (L .wts) s.ew _
      rw [hW]
      refine (h1.set p v).congr fun j hj => ?_
      show (if j = p then v else L (.wl j)) = (if Tag.wl j = Tag.wl p then v else L (.wl j))
      by_cases e : j = p
      · rw [if_pos e, if_pos (by rw [e])]
      · rw [if_neg e, if_neg (fun e2 => e (by cases e2; rfl))]
    · exact absurd (h.dj t _ b hb e) ht
  · refine (hf.rowIs h.hd ?_).congr ?_
    · rintro (e | e)
      · exact h.kb .wts (e ▸ hgw)
      · exact h.kb _ e
    · intro j hj
      match j, hj with
      | 0, _ | 1, _ | 2, _ | 3, _ | 4, _ | 5, _ | 6, _ | 7, _ | 8, _ | 9, _ => rfl
  · obtain ⟨D, hD, hN⟩ := h.mp
    exact ⟨D, ownsMap_of_block hD (hf.block _ hD.lt (fun e => e.elim (fun e => h.mb .wts (e ▸ hgw)) (h.mb _))), hN⟩
  · have hn : nOf (s.ent p a o) (.wl p) = s.wn p + 1 := if_pos rfl
    rw [hn]
    have h1 : Sl w1 78 2 v (s.wn p + 1) (fOf (up L (.wl p) v) (s.ent p a o) (.wl p)) := by
      refine Sl.of_app (f := fOf L s (.wl p)) hown (fun j hj => ?_) fun j hj => ?_
      · have h3 : ¬ (p = p ∧ j / 2 = s.wn p) := by omega
        show (if j % 2 = 0 then Value.int .i32 ((if p = p ∧ j / 2 = s.wn p then a else s.wa p (j / 2) : Nat)) else .int .i32 ((if p = p ∧ j / 2 = s.wn p then o else s.wo p (j / 2) : Nat))) = (if j % 2 = 0 then .int .i32 (s.wa p (j / 2)) else .int .i32 (s.wo p (j / 2)))
        rw [if_neg h3, if_neg h3]
      · have h3 : p = p ∧ (s.wn p * 2 + j) / 2 = s.wn p := by omega
        show _ = some (if (s.wn p * 2 + j) % 2 = 0 then Value.int .i32 ((if p = p ∧ (s.wn p * 2 + j) / 2 = s.wn p then a else s.wa p ((s.wn p * 2 + j) / 2) : Nat)) else .int .i32 ((if p = p ∧ (s.wn p * 2 + j) / 2 = s.wn p then o else s.wo p ((s.wn p * 2 + j) / 2) : Nat)))
        rw [if_pos h3, if_pos h3]
        match j, hj with
        | 0, _ => rw [if_pos (by omega)]; rfl
        | 1, _ => rw [if_neg (by omega)]; rfl
    exact h1.of_block fun b hb => Below.heap_setCell _ _ _ _ fun e => hvg (by rw [hb, e])
  · intro t ht hB
    refine ⟨?_, fun j hj => ?_⟩
    · clear hB
      cases t
      case wl l => exact if_neg (fun e => ht (by rw [e]))
      all_goals rfl
    · by_cases etw : t = .wts
      · exact absurd (.inl rfl) (hB gw (etw ▸ hgw))
      clear hB hj
      cases t
      case wl l =>
        have hl : l ≠ p := fun e => ht (by rw [e])
        show (if j % 2 = 0 then Value.int .i32 (s.wa l (j / 2)) else .int .i32 (s.wo l (j / 2))) = (if j % 2 = 0 then Value.int .i32 ((if l = p ∧ j / 2 = s.wn p then a else s.wa l (j / 2) : Nat)) else .int .i32 ((if l = p ∧ j / 2 = s.wn p then o else s.wo l (j / 2) : Nat)))
        have hne : ¬ (l = p ∧ j / 2 = s.wn p) := fun e => hl e.1
        rw [if_neg hne, if_neg hne]
      case wts => exact absurd rfl etw
      all_goals rfl
  · intro l hl
    have hl' : s.ew ≤ l := hl
    rw [up_other _ (fun e => by cases e; omega)]
    exact h.farw l hl'
  · rintro b (e | e) _
    · exact .inr (.inr ⟨.wts, e ▸ hgw⟩)
    · exact .inr (.inr ⟨_, e⟩)
theorem one_at {w' : World} {x : Value} {t : TypeId} (w0 : World) (n : Nat) (e : w'.heap = (w0.alloc (.cells #[x] t)).heap) (hn : n = w0.heap.size) : ∀ j u, [x][j]? = some u → w'.cell? ((⟨n, 0, none⟩ : Addr).add j) = some u := by
  intro j u hj
  subst hn
  rw [show w'.cell? ((⟨w0.heap.size, 0, none⟩ : Addr).add j) = (w0.alloc (.cells #[x] t)).cell? ((⟨w0.heap.size, 0, none⟩ : Addr).add j) by unfold World.cell?; rw [e]]
  exact one_new w0 x t j u hj
theorem owns_heap {w w' : World} {b : Nat} {e : TypeId} {sz : Nat} {v : Value} {n : Nat} {xs : List Value} (h : w.ownsRow b e sz v n xs) (hh : w'.heap = w.heap) : w'.ownsRow b e sz v n xs := by
  unfold World.ownsRow at *; rw [hh]; exact h
theorem Mem.same {w w' : World} {K M : Nat} {L : Tag → Value} {s : St} (h : Mem w K M L s) (e : w'.heap = w.heap) : Mem w' K M L s := by
  refine ⟨h.hd.of_block (by rw [e]), ?_, fun t => (h.row t).of_block fun b _ => by rw [e], h.farw, h.km, h.kb, h.mb, h.dj⟩
  obtain ⟨D, h1, h2⟩ := h.mp
  exact ⟨D, ownsMap_of_block h1 (by rw [e]), h2⟩
/-- Only the tape has gone on. -/
theorem Tn.same {K M : Nat} {w w' w'' : World} {L L' : Tag → Value} {s' : St} (h : Tn K M w L w' L' s') (e : w''.heap = w'.heap) (e1 : w''.os = w'.os) (e2 : w''.tape = w'.tape) (e3 : w''.output = w'.output) : Tn K M w L w'' L' s' :=
  ⟨h.mem.same e, ⟨e1.trans h.fr.os, e2.trans h.fr.tape, e3.trans h.fr.output, by rw [e]; exact h.fr.size, fun k hk hB => by rw [e]; exact h.fr.block k hk hB⟩, h.gr⟩
theorem Tn.drewN {K M : Nat} {w w' : World} {L L' : Tag → Value} {s' : St} (h : Tn K M w L w' L' s') (q : Nat) : Tn K M w L (w'.drewN q) L' s' := h.same rfl rfl rfl rfl
/-- The world behind may begin anywhere with the same heap. -/
theorem grown_same {w w0 w' : World} {r : Option Nat} (h : w.grownBy w' r) (e : w.heap = w0.heap) (e1 : w.os = w0.os) (e2 : w.tape = w0.tape) (e3 : w.output = w0.output) : w0.grownBy w' r :=
  ⟨h.os.trans e1, h.tape.trans e2, h.output.trans e3, by rw [← e]; exact h.size, fun k hk hne => by rw [← e]; exact h.block k (by rw [e]; exact hk) hne⟩
theorem two_at {w' : World} {x y : Value} {t : TypeId} (w0 : World) (n : Nat) (e : w'.heap = (w0.alloc (.cells #[x, y] t)).heap) (hn : n = w0.heap.size) : ∀ j u, [x, y][j]? = some u → w'.cell? ((⟨n, 0, none⟩ : Addr).add j) = some u := by
  intro j u hj
  subst hn
  rw [show w'.cell? ((⟨w0.heap.size, 0, none⟩ : Addr).add j) = (w0.alloc (.cells #[x, y] t)).cell? ((⟨w0.heap.size, 0, none⟩ : Addr).add j) by unfold World.cell?; rw [e]]
  match j, hj with
  | 0, hj => simp at hj; subst hj; simp [Addr.add]
  | 1, hj => simp at hj; subst hj; simp [Addr.add]
theorem new_two {w' : World} {x y : Value} {t : TypeId} (w0 : World) (n : Nat) (e : w'.heap = (w0.alloc (.cells #[x, y] t)).heap) (hn : n = w0.heap.size) : w'.cell? ⟨n, 0, none⟩ = some x ∧ w'.cell? ⟨n, 1, none⟩ = some y ∧ ∀ j, w'.frozen? ⟨n, j, none⟩ = false := by
  refine ⟨two_at w0 n e hn 0 x rfl, ?_, fun j => ?_⟩
  · have := two_at w0 n e hn 1 y rfl
    simpa [Addr.add] using this
  · subst hn
    rw [show w'.frozen? ⟨w0.heap.size, j, none⟩ = (w0.alloc (.cells #[x, y] t)).frozen? ⟨w0.heap.size, j, none⟩ by unfold World.frozen?; rw [e]]
    simp
theorem Mem.tnAlloc {w : World} {K M : Nat} {L : Tag → Value} {s : St} (h : Mem w K M L s) (o : Obj) : Tn K M w L (w.alloc o) L s := ⟨h.alloc o, (Fr.refl _ w).alloc o, fun _ hb => .inl hb⟩
end Go.Proofs.Ytoffhgiljnagcaa
