/- A heap in memory: its four blocks; contracts of variable, before, swap. -/
import Derived.Test.YtbhbokcgkhgljaaProg
import Derived.Test.YtbhbokcgkhgljaaA
import Derived.WalkKit
import Derived.WalkSpells
import Derived.WalkLawsBesides
import Derived.Lib.Hide
import Derived.Deep.QuietTactic
import Derived.Deep.OwnRows
import Derived.BigQuiet
import Derived.BigRegion
import Derived.IntWalk
import Derived.Outline
import Derived.Below
namespace Go.Proofs.Ytbhbokcgkhgljaa
open Go.RowKit Go.Lib

theorem ret_int {k : IntKind} {a b : Int} (h : a = b) : Ending.returned (.int k a) = .returned (.int k b) := by rw [h]
theorem ret_bool {a b : Bool} (h : a = b) : Ending.returned (.bool a) = .returned (.bool b) := by rw [h]

def hdF (ob pb ab n m : Nat) : Nat → Value := fun i => if i = 0 then .slice (some ⟨ob, 0, none⟩) m n else if i = 1 then .slice (some ⟨pb, 0, none⟩) (n + 1) (n + 1) else .slice (some ⟨ab, 0, none⟩) (n + 1) (n + 1)
/-- A heap in its four blocks. -/
structure Mem (w : World) (hb ob pb ab n m : Nat) (O : Nat → Nat) (P A : Nat → Int) : Prop where
  hd : w.rowIs hb 48 3 (hdF ob pb ab n m)
  od : ∃ F, w.rowIs ob 3 n F ∧ ∀ j, j < m → F j = .int .i64 (O j)
  pl : w.rowIs pb 3 (n + 1) fun j => .int .i64 (P j)
  ac : w.rowIs ab 2 (n + 1) fun j => .int .i64 (A j)
  ne : hb ≠ ob ∧ hb ≠ pb ∧ hb ≠ ab ∧ ob ≠ pb ∧ ob ≠ ab ∧ pb ≠ ab
def Bk (hb ob pb ab : Nat) (k : Nat) : Prop := k = hb ∨ k = ob ∨ k = pb ∨ k = ab

/-- But for the blocks B nothing that was there has turned. -/
structure Fr (B : Nat → Prop) (w w' : World) : Prop where
  os : w'.os = w.os
  tape : w'.tape = w.tape
  output : w'.output = w.output
  size : w.heap.size ≤ w'.heap.size
  block : ∀ k, k < w.heap.size → ¬ B k → w'.heap[k]? = w.heap[k]?
theorem Fr.refl (B : Nat → Prop) (w : World) : Fr B w w := ⟨rfl, rfl, rfl, Nat.le_refl _, fun _ _ _ => rfl⟩
theorem Fr.trans {B : Nat → Prop} {a b c : World} (h : Fr B a b) (k : Fr B b c) : Fr B a c :=
  ⟨k.os.trans h.os, k.tape.trans h.tape, k.output.trans h.output, Nat.le_trans h.size k.size, fun i hi hB => (k.block i (Nat.lt_of_lt_of_le hi h.size) hB).trans (h.block i hi hB)⟩
theorem Fr.drewN {B : Nat → Prop} {a b : World} (h : Fr B a b) (q : Nat) : Fr B a (b.drewN q) := ⟨h.os, h.tape, h.output, h.size, h.block⟩
theorem Fr.drew {B : Nat → Prop} {a b : World} (h : Fr B a b) : Fr B a b.drew := ⟨h.os, h.tape, h.output, h.size, h.block⟩
theorem Fr.set {B : Nat → Prop} {a b : World} (h : Fr B a b) {p : Addr} (hp : B p.block) (u : Value) : Fr B a (b.setCell p u) :=
  h.trans ⟨rfl, rfl, rfl, by simp, fun k _ hB => Below.heap_setCell _ _ _ _ (fun e => hB (e ▸ hp))⟩
theorem Fr.alloc {B : Nat → Prop} {a b : World} (h : Fr B a b) (o : Obj) : Fr B a (b.alloc o) :=
  h.trans ⟨rfl, rfl, rfl, by simp, fun k hk _ => Below.heap_alloc _ _ _ hk⟩
theorem Fr.below {B : Nat → Prop} {a b : World} {n : Nat} (h : Fr B a b) (hn : n ≤ a.heap.size) (hB : ∀ k, B k → n ≤ k) : Below n a b :=
  ⟨h.os, h.tape, h.output, h.size, fun k hk => h.block k (by omega) (fun e => by have := hB k e; omega)⟩
theorem Fr.of_below {B : Nat → Prop} {a b : World} (h : Below a.heap.size a b) : Fr B a b := ⟨h.os, h.tape, h.output, h.size, fun k hk _ => h.block k hk⟩
theorem Fr.rowIs {B : Nat → Prop} {a b : World} (h : Fr B a b) {k : Nat} {t : TypeId} {n : Nat} {f : Nat → Value} (hr : a.rowIs k t n f) (hB : ¬ B k) : b.rowIs k t n f :=
  hr.of_block (h.block k hr.lt hB)

section
variable {w : World} {hb ob pb ab n m : Nat} {O : Nat → Nat} {P A : Nat → Int}
theorem Mem.c0 (h : Mem w hb ob pb ab n m O P A) : w.cell? ⟨hb, 0, none⟩ = some (.slice (some ⟨ob, 0, none⟩) m n) := h.hd.cell (i := 0) (by omega)
theorem Mem.c1 (h : Mem w hb ob pb ab n m O P A) : w.cell? ⟨hb, 1, none⟩ = some (.slice (some ⟨pb, 0, none⟩) (n + 1) (n + 1)) := h.hd.cell (i := 1) (by omega)
theorem Mem.c2 (h : Mem w hb ob pb ab n m O P A) : w.cell? ⟨hb, 2, none⟩ = some (.slice (some ⟨ab, 0, none⟩) (n + 1) (n + 1)) := h.hd.cell (i := 2) (by omega)
theorem Mem.co (h : Mem w hb ob pb ab n m O P A) {j : Nat} (hj : j < m) (hmn : m ≤ n) : w.cell? ⟨ob, j, none⟩ = some (.int .i64 (O j)) := by
  obtain ⟨F, hF, he⟩ := h.od
  rw [hF.cell (by omega), he j hj]
theorem Mem.fo (h : Mem w hb ob pb ab n m O P A) (j : Nat) : w.frozen? ⟨ob, j, none⟩ = false := by
  obtain ⟨F, hF, _⟩ := h.od
  exact hF.frozen j
theorem Mem.cp (h : Mem w hb ob pb ab n m O P A) {j : Nat} (hj : j ≤ n) : w.cell? ⟨pb, j, none⟩ = some (.int .i64 (P j)) := h.pl.cell (by omega)
theorem Mem.ca (h : Mem w hb ob pb ab n m O P A) {j : Nat} (hj : j ≤ n) : w.cell? ⟨ab, j, none⟩ = some (.int .i64 (A j)) := h.ac.cell (by omega)
theorem Mem.drewN (h : Mem w hb ob pb ab n m O P A) (q : Nat) : Mem (w.drewN q) hb ob pb ab n m O P A := ⟨h.hd, h.od, h.pl, h.ac, h.ne⟩
theorem Mem.congr (h : Mem w hb ob pb ab n m O P A) {O' : Nat → Nat} {P' A' : Nat → Int} (h1 : ∀ j, j < m → O j = O' j) (h2 : ∀ j, j ≤ n → P j = P' j) (h3 : ∀ j, j ≤ n → A j = A' j) : Mem w hb ob pb ab n m O' P' A' := by
  obtain ⟨F, hF, he⟩ := h.od
  exact ⟨h.hd, ⟨F, hF, fun j hj => by rw [he j hj, h1 j hj]⟩, h.pl.congr fun j hj => by rw [h2 j (by omega)], h.ac.congr fun j hj => by rw [h3 j (by omega)], h.ne⟩
/-- Under blocks that lie apart a heap stays as it was. -/
theorem Mem.fr (h : Mem w hb ob pb ab n m O P A) {w' : World} {B : Nat → Prop} (hf : Fr B w w') (h1 : ¬ B hb) (h2 : ¬ B ob) (h3 : ¬ B pb) (h4 : ¬ B ab) : Mem w' hb ob pb ab n m O P A := by
  obtain ⟨F, hF, he⟩ := h.od
  exact ⟨hf.rowIs h.hd h1, ⟨F, hf.rowIs hF h2, he⟩, hf.rowIs h.pl h3, hf.rowIs h.ac h4, h.ne⟩
end

set_option maxHeartbeats 1000000 in
theorem before_core (hb ob ab n m i k v u : Nat) (x y : Int) (w : World) (hi : i < m) (hk : k < m) (hm : m ≤ 200000) (hn : n ≤ 200000) (hv : v ≤ n) (hu : u ≤ n)
    (c0 : w.cell? ⟨hb, 0, none⟩ = some (.slice (some ⟨ob, 0, none⟩) m n)) (c2 : w.cell? ⟨hb, 2, none⟩ = some (.slice (some ⟨ab, 0, none⟩) (n + 1) (n + 1)))
    (ci : w.cell? ⟨ob, i, none⟩ = some (.int .i64 v)) (ck : w.cell? ⟨ob, k, none⟩ = some (.int .i64 u)) (cx : w.cell? ⟨ab, v, none⟩ = some (.int .i64 x)) (cy : w.cell? ⟨ab, u, none⟩ = some (.int .i64 y)) :
    Calls Try.prog 29 #[.pointer (some ⟨hb, 0, none⟩), .int .i64 i, .int .i64 k] w fun e w' => e = .returned (.bool (decide (y < x ∨ (x = y ∧ v < u)))) ∧ ∃ q, w' = w.drewN q := by
  have hv1 : (v : Int) < (n : Int) + 1 := by omega
  have hu1 : (u : Int) < (n : Int) + 1 := by omega
  by_cases he : x = y
  · have hd : decide (y < x ∨ (x = y ∧ v < u)) = decide (v < u) := by rw [decide_eq_decide]; omega
    have HD := Lib.hid hd; clear hd
    have hb2 : (x != y) = false := by simpa using he
    subst he
    go_enter Try.func29, Try.ntmps29
    go_wp2
    go_quiet (fail)
    go_wp2
    go_quiet (fail)
    go_wp2
    go_ret
    exact ⟨ret_bool HD.out.symm, _, rfl⟩
  · have hd : decide (y < x ∨ (x = y ∧ v < u)) = decide (y < x) := by rw [decide_eq_decide]; omega
    have HD := Lib.hid hd; clear hd
    have hb2 : (x != y) = true := by simpa using he
    clear he
    go_enter Try.func29, Try.ntmps29
    go_wp2
    go_quiet (fail)
    go_wp2
    go_quiet (fail)
    go_wp2
    go_quiet (fail)
    go_wp2
    go_ret
    exact ⟨ret_bool HD.out.symm, _, by simp only [World.drewN_drewN]; rfl⟩

theorem before_any {w : World} {hb ob pb ab n m : Nat} {O : Nat → Nat} {P A : Nat → Int} (h : Mem w hb ob pb ab n m O P A) (hl : Link n m O P) (hmn : m ≤ n) (hn : n ≤ 200000) {i k : Nat} (hi : i < m) (hk : k < m) :
    Calls Try.prog 29 #[.pointer (some ⟨hb, 0, none⟩), .int .i64 i, .int .i64 k] w fun e w' => e = .returned (.bool (decide (bef A (O i) (O k)))) ∧ ∃ q, w' = w.drewN q :=
  before_core hb ob ab n m i k (O i) (O k) (A (O i)) (A (O k)) w hi hk (by omega) hn (hl.ord i hi).2.1 (hl.ord k hk).2.1 h.c0 h.c2 (h.co hi hmn) (h.co hk hmn) (h.ca (hl.ord i hi).2.1) (h.ca (hl.ord k hk).2.1)

/-- variable: is a number a variable of the heap? -/
def isV (n : Nat) (v : Int) : Bool := decide (1 ≤ v ∧ v ≤ n)
theorem isV_iff {n : Nat} {v : Int} : isV n v = true ↔ 1 ≤ v ∧ v ≤ n := by simp [isV]
theorem variable_core (hb pb n : Nat) (v : Int) (w : World) (hn : n ≤ 200000) (c1 : w.cell? ⟨hb, 1, none⟩ = some (.slice (some ⟨pb, 0, none⟩) (n + 1) (n + 1))) :
    Calls Try.prog 24 #[.pointer (some ⟨hb, 0, none⟩), .int .i64 v] w fun e w' => e = .returned (.bool (isV n v)) ∧ w = w' := by
  by_cases h1 : 1 ≤ v
  · have hd : isV n v = decide (v < (n : Int) + 1) := by unfold isV; rw [decide_eq_decide]; omega
    have HD := Lib.hid hd; clear hd
    go_enter Try.func24, Try.ntmps24
    go_wp2
    go_ret
    exact ⟨ret_bool HD.out.symm, rfl⟩
  · have hd : isV n v = false := by simp [isV, h1]
    have HD := Lib.hid hd; clear hd
    have hd2 : decide (1 ≤ v) = false := by simpa using h1
    go_enter Try.func24, Try.ntmps24
    go_wp2
    go_ret
    exact ⟨ret_bool HD.out.symm, rfl⟩
theorem has_core (hb pb n : Nat) (v p : Int) (w : World) (hn : n ≤ 200000) (c1 : w.cell? ⟨hb, 1, none⟩ = some (.slice (some ⟨pb, 0, none⟩) (n + 1) (n + 1))) (hp : isV n v = true → w.cell? ⟨pb, v.toNat, none⟩ = some (.int .i64 p)) :
    Calls Try.prog 21 #[.pointer (some ⟨hb, 0, none⟩), .int .i64 v] w fun e w' => e = .returned (.bool (isV n v && decide (p ≠ -1))) ∧ w = w' := by
  have hv := variable_core hb pb n v w hn c1
  cases hb2 : isV n v
  · rw [hb2] at hv
    have HV := Lib.hid hv; clear hv hp
    go_enter Try.func21, Try.ntmps21
    go_wp2_with fail
    refine HV.out.mono ?_
    rintro e w' ⟨rfl, rfl⟩
    go_wp2_with fail
    go_ret
    exact ⟨rfl, rfl⟩
  · obtain ⟨h1, h2⟩ := isV_iff.1 hb2
    have hpc := hp hb2
    have hd : decide (p ≠ -1) = (p != -1) := by rw [Bool.eq_iff_iff]; simp
    rw [hb2] at hv
    have HV := Lib.hid hv; clear hv hp
    have HD := Lib.hid hd; clear hd
    have hlt : v < (n : Int) + 1 := by omega
    go_enter Try.func21, Try.ntmps21
    go_wp2_with fail
    refine HV.out.mono ?_
    rintro e w' ⟨rfl, rfl⟩
    go_wp2_with fail
    go_ret
    exact ⟨ret_bool (by rw [HD.out]; rfl), rfl⟩
theorem activity_core (hb pb ab n : Nat) (v x : Int) (w : World) (hn : n ≤ 200000) (c1 : w.cell? ⟨hb, 1, none⟩ = some (.slice (some ⟨pb, 0, none⟩) (n + 1) (n + 1))) (c2 : w.cell? ⟨hb, 2, none⟩ = some (.slice (some ⟨ab, 0, none⟩) (n + 1) (n + 1))) (hp : isV n v = true → w.cell? ⟨ab, v.toNat, none⟩ = some (.int .i64 x)) :
    Calls Try.prog 22 #[.pointer (some ⟨hb, 0, none⟩), .int .i64 v] w fun e w' => e = .returned (.int .i64 (if isV n v then x else 0)) ∧ w = w' := by
  have hv := variable_core hb pb n v w hn c1
  cases hb2 : isV n v
  · rw [hb2] at hv
    have HV := Lib.hid hv; clear hv hp
    go_enter Try.func22, Try.ntmps22
    go_wp2_with fail
    refine HV.out.mono ?_
    rintro e w' ⟨rfl, rfl⟩
    go_wp2_with fail
    go_ret
    exact ⟨rfl, rfl⟩
  · obtain ⟨h1, h2⟩ := isV_iff.1 hb2
    have hpc := hp hb2
    rw [hb2] at hv
    have HV := Lib.hid hv; clear hv hp
    have hlt : v < (n : Int) + 1 := by omega
    go_enter Try.func22, Try.ntmps22
    go_wp2_with fail
    refine HV.out.mono ?_
    rintro e w' ⟨rfl, rfl⟩
    go_wp2_with fail
    go_ret
    exact ⟨rfl, rfl⟩
theorem len_core (hb ob n m : Nat) (w : World) (c0 : w.cell? ⟨hb, 0, none⟩ = some (.slice (some ⟨ob, 0, none⟩) m n)) :
    Calls Try.prog 19 #[.pointer (some ⟨hb, 0, none⟩)] w fun e w' => e = .returned (.int .i64 m) ∧ w = w' := by
  go_enter Try.func19, Try.ntmps19
  go_wp2_with fail
  go_ret
  exact ⟨rfl, rfl⟩

theorem cell_set {w : World} {q : Addr} {v : Value} (h : w.cell? q = some v) (p : Addr) (x : Value) : ∃ v', (w.setCell p x).cell? q = some v' := by
  by_cases e : p = q
  · subst e; exact ⟨x, World.cell?_setCell_same _ _ _ h⟩
  · exact ⟨v, by rw [World.cell?_setCell_other _ _ _ _ e]; exact h⟩

set_option maxHeartbeats 4000000 in
theorem swap_core (hb ob pb n m i k v u : Nat) (pv pu : Int) (w : World) (hi : i < m) (hk : k < m) (hm : m ≤ 200000) (hn : n ≤ 200000) (hv : v ≤ n) (hu : u ≤ n)
    (n1 : hb ≠ ob) (n2 : hb ≠ pb) (n3 : ob ≠ pb)
    (c0 : w.cell? ⟨hb, 0, none⟩ = some (.slice (some ⟨ob, 0, none⟩) m n)) (c1 : w.cell? ⟨hb, 1, none⟩ = some (.slice (some ⟨pb, 0, none⟩) (n + 1) (n + 1)))
    (ci : w.cell? ⟨ob, i, none⟩ = some (.int .i64 v)) (ck : w.cell? ⟨ob, k, none⟩ = some (.int .i64 u)) (cv : w.cell? ⟨pb, v, none⟩ = some (.int .i64 pv)) (cu : w.cell? ⟨pb, u, none⟩ = some (.int .i64 pu))
    (fo : ∀ j, w.frozen? ⟨ob, j, none⟩ = false) (fp : ∀ j, w.frozen? ⟨pb, j, none⟩ = false) :
    Calls Try.prog 27 #[.pointer (some ⟨hb, 0, none⟩), .int .i64 i, .int .i64 k] w fun e w' => e = .returned (.tuple #[]) ∧ ∃ q, w' = ((((w.setCell ⟨ob, i, none⟩ (.int .i64 u)).setCell ⟨ob, k, none⟩ (.int .i64 v)).setCell ⟨pb, v, none⟩ (.int .i64 k)).setCell ⟨pb, u, none⟩ (.int .i64 i)).drewN q := by
  have hv1 : (v : Int) < (n : Int) + 1 := by omega
  have hu1 : (u : Int) < (n : Int) + 1 := by omega
  go_enter Try.func27, Try.ntmps27
  go_wp2
  go_quiet (fail)
  go_wp2
  generalize hwq : w.drewN _ = wq
  have d0 : wq.cell? ⟨hb, 0, none⟩ = some (.slice (some ⟨ob, 0, none⟩) m n) := by rw [← hwq]; exact c0
  have d1 : wq.cell? ⟨hb, 1, none⟩ = some (.slice (some ⟨pb, 0, none⟩) (n + 1) (n + 1)) := by rw [← hwq]; exact c1
  have di : wq.cell? ⟨ob, i, none⟩ = some (.int .i64 v) := by rw [← hwq]; exact ci
  have dk : wq.cell? ⟨ob, k, none⟩ = some (.int .i64 u) := by rw [← hwq]; exact ck
  have gi : wq.frozen? ⟨ob, i, none⟩ = false := by rw [← hwq]; exact fo _
  have gk : wq.frozen? ⟨ob, k, none⟩ = false := by rw [← hwq]; exact fo _
  have ev : wq.cell? ⟨pb, v, none⟩ = some (.int .i64 pv) := by rw [← hwq]; exact cv
  have eu : wq.cell? ⟨pb, u, none⟩ = some (.int .i64 pu) := by rw [← hwq]; exact cu
  have gp : ∀ j, wq.frozen? ⟨pb, j, none⟩ = false := fun j => by rw [← hwq]; exact fp j
  have HQ : Hid (∃ q, wq = w.drewN q) := Lib.hid ⟨_, hwq.symm⟩
  clear c0 c1 ci ck fo hwq cv cu fp
  obtain ⟨z1, y1⟩ := cell_set dk ⟨ob, i, none⟩ (.int .i64 u)
  have HEV := Lib.hid ev; clear ev
  have HEU := Lib.hid eu; clear eu
  have HGP := Lib.hid gp; clear gp
  go_region
  go_wp2
  generalize hw2 : ((wq.setCell ⟨ob, i, none⟩ (Value.int .i64 u)).setCell ⟨ob, k, none⟩ (Value.int .i64 v)).drew = w2
  have hoth : ∀ p : Addr, p.block ≠ ob → w2.cell? p = wq.cell? p := fun p hp => by
    rw [← hw2]
    show (World.setCell _ _ _).cell? p = _
    rw [World.cell?_setCell_other _ _ _ _ (fun e => hp (by rw [← e])), World.cell?_setCell_other _ _ _ _ (fun e => hp (by rw [← e]))]
  have e1 : w2.cell? ⟨hb, 1, none⟩ = some (.slice (some ⟨pb, 0, none⟩) (n + 1) (n + 1)) := (hoth _ n1).trans d1
  have ev : w2.cell? ⟨pb, v, none⟩ = some (.int .i64 pv) := (hoth _ (Ne.symm n3)).trans HEV.out
  have eu : w2.cell? ⟨pb, u, none⟩ = some (.int .i64 pu) := (hoth _ (Ne.symm n3)).trans HEU.out
  have fz : ∀ j, w2.frozen? ⟨pb, j, none⟩ = false := fun j => by rw [← hw2]; show (World.setCell _ _ _).frozen? _ = _; rw [World.frozen?_setCell, World.frozen?_setCell]; exact HGP.out j
  have fv := fz v
  have fu := fz u
  obtain ⟨z2, y2⟩ := cell_set eu ⟨pb, v, none⟩ (.int .i64 k)
  have HW2 := Lib.hid hw2
  clear hoth fz hw2 y1 d0 d1 di dk gi gk HEV HEU HGP
  go_region
  go_end0
  obtain ⟨q, rfl⟩ := HQ.out
  refine ⟨rfl, q + 2, ?_⟩
  rw [← HW2.out]
  rfl
end Go.Proofs.Ytbhbokcgkhgljaa
