/- Joined: QA, QC. -/
import Derived.Test.YtoffhgiljnagcaaRD
import Derived.Test.YtoffhgiljnagcaaM
import Derived.Test.YtoffhgiljnagcaaRF
import Derived.Maps.AppendAt
import Derived.Laws.IdiomStrings
/- Contracts: valid. -/
namespace Go.Proofs.Ytoffhgiljnagcaa
open Go.RowKit Go.Lib

def ValPost (R : Nat → Row) (n : Nat) (w : World) (e : Ending) (w' : World) : Prop := e = .returned (.bool (litR R n)) ∧ ∃ q, w' = w.drewN q
theorem validAll_any (a : Option Addr) (n c : Nat) (R : Nat → Row) (w : World) (hm : n ≤ 140737488355328) (hR : ∀ j, j < n → (R j).n ≤ 140737488355328) (h : Rws w a n R) :
    Calls Try.prog 20 #[.slice a n c] w (ValPost R n w) := by
  have hr := valid_any a n c R w hm hR h
  unfold ValPost
  cases hv : litR R n
  all_goals
    rw [hv] at hr
    have HR := Lib.hid hr; clear hr hv h hR
    go_enter Try.func20, Try.ntmps20
    go_wp2_with (go_at_call 40; refine HR.out.mono ?_; rintro e w' ⟨rfl, q, rfl⟩)
    go_ret
    exact ⟨rfl, q, rfl⟩
/-- A list of one clause. -/
theorem one_rws {w : World} {a : Option Addr} {n c : Nat} {f : Nat → Int} (h : Has w a n f) (t : TypeId) (q : Nat) :
    Rws ((w.drewN q).alloc (.cells #[.slice a n c] t)) (some ⟨w.heap.size, 0, none⟩) 1 (fun _ => ⟨a, n, c, f⟩) := by
  have hb : Below w.heap.size w ((w.drewN q).alloc (.cells #[.slice a n c] t)) := (below_drewN (Below.refl _ w) q).alloc (by simp [World.drewN]) _
  refine .inr ⟨w.heap.size, 0, rfl, by simp [World.drewN], fun j hj => ⟨?_, h.below hb⟩⟩
  obtain rfl : j = 0 := by omega
  have h1 := World.rowIs_alloc (w.drewN q) #[.slice a n c] t (fun _ => .slice a n c) (fun i hi => by
    have hi' : i < 1 := hi
    obtain rfl : i = 0 := by omega
    rfl)
  exact h1.cell (by show 0 < 1; omega)
theorem one_litR (a : Option Addr) (n c : Nat) (f : Nat → Int) : litR (fun _ => ⟨a, n, c, f⟩) 1 = litF f n := by simp [litR]
end Go.Proofs.Ytoffhgiljnagcaa
/- Contracts: key: three bytes a literal. -/
namespace Go.Proofs.Ytoffhgiljnagcaa
open Go.RowKit Go.Lib Go.Maps

def b8 (x : Int) : UInt8 := UInt8.ofNat (x % 256).toNat
theorem b8_nat (x : Int) : ((b8 x).toNat : Int) = x % 256 := by
  unfold b8
  have h1 : 0 ≤ x % 256 := by omega
  have h2 : x % 256 < 256 := by omega
  rw [UInt8.toNat_ofNat']
  have : (x % 256).toNat % 2 ^ 8 = (x % 256).toNat := Nat.mod_eq_of_lt (by omega)
  rw [this]; omega
def kb1 (l : Int) : List UInt8 := [b8 (l + 100000), b8 ((l + 100000) / 256), b8 ((l + 100000) / 65536)]
def kb (l : List Int) : List UInt8 := l.flatMap kb1
theorem kb_snoc (l : List Int) (x : Int) : kb (l ++ [x]) = kb l ++ kb1 x := by simp [kb]
theorem kb_length (l : List Int) : (kb l).length = 3 * l.length := by
  induction l with
  | nil => rfl
  | cons a l ih =>
    have e : kb (a :: l) = kb1 a ++ kb l := rfl
    rw [e, List.length_append, ih]
    simp [kb1]
    omega
theorem getD_app1 {l k : List UInt8} {j : Nat} (h : j < l.length) : (l ++ k).getD j 0 = l.getD j 0 := by
  rw [List.getD_eq_getElem?_getD, List.getD_eq_getElem?_getD, List.getElem?_append_left h]
theorem getD_app2 {l k : List UInt8} {j : Nat} (h : l.length ≤ j) : (l ++ k).getD j 0 = k.getD (j - l.length) 0 := by
  rw [List.getD_eq_getElem?_getD, List.getD_eq_getElem?_getD, List.getElem?_append_right h]
theorem kb_at {f : Nat → Int} : ∀ {n k j : Nat}, k < n → j < 3 → (kb (lof f n)).getD (3 * k + j) 0 = (kb1 (f k)).getD j 0
  | n + 1, k, j, hk, hj => by
    rw [lof_succ, kb_snoc]
    have hl := kb_length (lof f n)
    rw [lof_length] at hl
    by_cases e : k = n
    · subst e
      rw [getD_app2 (by omega), hl]
      congr 1; omega
    · rw [getD_app1 (by rw [hl]; omega)]
      exact kb_at (by omega) hj
theorem kb1_inj {x y : Int} (hx : lit x = true) (hy : lit y = true) (e : kb1 x = kb1 y) : x = y := by
  have h1 := lit_iff.1 hx
  have h2 := lit_iff.1 hy
  unfold kb1 at e
  injection e with e1 e
  injection e with e2 e
  injection e with e3 e
  have f1 : ((b8 (x + 100000)).toNat : Int) = (b8 (y + 100000)).toNat := by rw [e1]
  have f2 : ((b8 ((x + 100000) / 256)).toNat : Int) = (b8 ((y + 100000) / 256)).toNat := by rw [e2]
  have f3 : ((b8 ((x + 100000) / 65536)).toNat : Int) = (b8 ((y + 100000) / 65536)).toNat := by rw [e3]
  simp only [b8_nat] at f1 f2 f3
  omega
theorem kb_inj : ∀ {l k : List Int}, (∀ x ∈ l, lit x = true) → (∀ x ∈ k, lit x = true) → kb l = kb k → l = k
  | [], [], _, _, _ => rfl
  | [], y :: k, _, _, e => by have := congrArg List.length e; rw [kb_length, kb_length] at this; simp at this
  | x :: l, [], _, _, e => by have := congrArg List.length e; rw [kb_length, kb_length] at this; simp at this
  | x :: l, y :: k, h1, h2, e => by
    have e' : kb1 x ++ kb l = kb1 y ++ kb k := e
    obtain ⟨a1, a2⟩ := List.append_inj e' (by simp [kb1])
    rw [kb1_inj (h1 x (by simp)) (h2 y (by simp)) a1, kb_inj (fun z hz => h1 z (by simp [hz])) (fun z hz => h2 z (by simp [hz])) a2]
/-- The bytes as cells. -/
def byF (l : List UInt8) (j : Nat) : Value := .int .u8 ((l.getD j 0).toNat : Int)
theorem info5 : (Try.prog.info? 5).map (fun i => (i.zero, i.size, i.bytes)) = some (some (.int .u8 0), 1, 1) := by kernel_rfl
theorem make_bytes (m : Nat) (hm : m ≤ 100000) (w : World) : (Instr.makeSlice 41 (.int .i64 0) (.int .i64 (3 * (m : Int)))).run Try.prog w = .ok (.slice (some ⟨w.heap.size, 0, none⟩) 0 (3 * m)) (w.alloc (.cells (madeCells #[.int .u8 0] (3 * m)) 5)) := by
  obtain ⟨i, hi, h2⟩ := Option.map_eq_some_iff.1 info5
  simp only [Prod.mk.injEq] at h2
  obtain ⟨hz, hs, hb⟩ := h2
  have hr := run_make (P := Try.prog) w 41 5 i _ Try.underlying41 hi hz .i64 .i64 0 (3 * (m : Int)) (by omega) (by omega) (by rw [hb]; omega) (by omega)
  rw [hr, hs, show (3 * (m : Int)).toNat = 3 * m by omega, Nat.mul_one]
  rfl
theorem sl_made (m : Nat) (hm : m ≤ 100000) (w : World) (F : Nat → Value) : Sl (w.alloc (.cells (madeCells #[.int .u8 0] (3 * m)) 5)) 5 1 (.slice (some ⟨w.heap.size, 0, none⟩) 0 (3 * m)) 0 F :=
  .inr ⟨w.heap.size, 3 * m, fun _ => .int .u8 0, rfl, Nat.zero_le _, by unfold maxLen; omega, by rw [Nat.mul_one]; exact World.rowIs_made _ _ _ _, fun j hj => absurd hj (by omega)⟩

theorem three_at {w' : World} {x y z : Value} {t : TypeId} (w0 : World) (n : Nat) (e : w'.heap = (w0.alloc (.cells #[x, y, z] t)).heap) (hn : n = w0.heap.size) : ∀ j u, [x, y, z][j]? = some u → w'.cell? ((⟨n, 0, none⟩ : Addr).add j) = some u := by
  intro j u hj
  subst hn
  rw [show w'.cell? ((⟨w0.heap.size, 0, none⟩ : Addr).add j) = (w0.alloc (.cells #[x, y, z] t)).cell? ((⟨w0.heap.size, 0, none⟩ : Addr).add j) by unfold World.cell?; rw [e]]
  match j, hj with
  | 0, hj => simp at hj; subst hj; simp [Addr.add]
  | 1, hj => simp at hj; subst hj; simp [Addr.add]
  | 2, hj => simp at hj; subst hj; simp [Addr.add]
theorem bytes_step {w' : World} {v' : Value} {n k : Nat} {f : Nat → Int} (hk : k < n) (g1 : w'.ownsRow 0 5 1 v' (3 * k + 3) (lst (byF (kb (lof f n))) (3 * k * 1) ++ [.int .u8 ((f k + 100000) % 256), .int .u8 ((f k + 100000) / 256 % 256), .int .u8 ((f k + 100000) / 65536 % 256)])) :
    Sl w' 5 1 v' (3 * (k + 1)) (byF (kb (lof f n))) := by
  have h := Sl.of_app (m := 3) (f' := byF (kb (lof f n))) g1 (fun j _ => rfl) (fun j hj => by
    have hj' : j < 3 := by omega
    have e := kb_at (f := f) hk hj'
    unfold byF
    rw [Nat.mul_one, e]
    match j, hj' with
    | 0, _ => simp [kb1, b8_nat]
    | 1, _ => simp [kb1, b8_nat]
    | 2, _ => simp [kb1, b8_nat])
  exact h
theorem bytes_next {w wr : World} {n k g q : Nat} {f : Nat → Int} (hk : k < n) (H : Sl wr 5 1 (.slice (some ⟨g, 0, none⟩) (3 * k) q) (3 * k) (byF (kb (lof f n))) ∧ Below w.heap.size w wr ∧ ∀ b, (Value.slice (some ⟨g, 0, none⟩) (3 * k) q).ownBlock = some b → w.heap.size ≤ b) (v' : Value) (w' : World)
    (g1 : w'.ownsRow 0 5 1 v' (3 * k + 3) (lst (byF (kb (lof f n))) (3 * k * 1) ++ [.int .u8 ((f k + 100000) % 256), .int .u8 ((f k + 100000) / 256 % 256), .int .u8 ((f k + 100000) / 65536 % 256)]))
    (g2 : (wr.alloc (.cells #[.int .u8 ((f k + 100000) % 256), .int .u8 ((f k + 100000) / 256 % 256), .int .u8 ((f k + 100000) / 65536 % 256)] 5)).grownBy w' (Value.slice (some ⟨g, 0, none⟩) (3 * k) q).ownBlock)
    (g3 : v'.ownBlock = (Value.slice (some ⟨g, 0, none⟩) (3 * k) q).ownBlock ∨ v'.ownBlock = some (wr.alloc (.cells #[.int .u8 ((f k + 100000) % 256), .int .u8 ((f k + 100000) / 256 % 256), .int .u8 ((f k + 100000) / 65536 % 256)] 5)).heap.size) :
    ∃ g' q', v' = .slice (some ⟨g', 0, none⟩) (3 * (k + 1)) q' ∧ Hid (Sl w' 5 1 v' (3 * (k + 1)) (byF (kb (lof f n))) ∧ Below w.heap.size w w' ∧ ∀ b, v'.ownBlock = some b → w.heap.size ≤ b) := by
  have h1 := bytes_step hk g1
  obtain ⟨g', q', rfl, _⟩ := h1.pos (by omega)
  refine ⟨g', q', rfl, Lib.hid ⟨h1, ?_, fun b hb => ?_⟩⟩
  · have hg : w.heap.size ≤ g := H.2.2 g rfl
    have hf : Fr (fun b => b = g) wr w' := ((Fr.refl (fun b => b = g) wr).alloc (.cells #[.int .u8 ((f k + 100000) % 256), .int .u8 ((f k + 100000) / 256 % 256), .int .u8 ((f k + 100000) / 65536 % 256)] 5)).grown g2 (fun b hb _ => by cases hb; rfl)
    exact H.2.1.trans (hf.below H.2.1.size (fun b hb => by omega))
  · rcases g3 with e | e
    · exact H.2.2 b (e ▸ hb)
    · have := H.2.1.size
      rw [e] at hb
      cases hb
      simp; omega
set_option maxHeartbeats 1000000 in
set_option maxRecDepth 100000 in
theorem key_any (a : Option Addr) (n c : Nat) (f : Nat → Int) (w : World) (hm : n ≤ 1000) (h : Has w a n f) (hl : litF f n = true) :
    Calls Try.prog 59 #[.slice a n c] w fun e w' => e = .returned (.string ⟨(kb (lof f n)).toArray⟩) ∧ Below w.heap.size w w' := by
  have hmk := make_bytes n (by omega)
  have hw3 : IntKind.i64.wrap (3 * (n : Int)) = 3 * (n : Int) := IntWalk.i64_in _ (by omega)
  have hbd : ∀ j, j < n → 0 ≤ f j + 100000 ∧ f j + 100000 ≤ 200000 := fun j hj => by
    have := lit_iff.1 ((by simpa [litF] using hl : ∀ j, j < n → lit (f j) = true) j hj); omega
  have H0 := Lib.hid (And.intro (sl_made n (by omega) w (byF (kb (lof f n)))) ((Below.refl _ w).alloc (Nat.le_refl _) (.cells (madeCells #[.int .u8 0] (3 * n)) 5)))
  have HH := Lib.hid h
  clear h hl
  go_enter Try.func59, Try.ntmps59
  go_wp2
  clear hmk
  go_loopw [3, 13, 5, 6] (fun bs v _ _ wr => ∃ (k g q : Nat), k ≤ n ∧ v = .int .i64 k ∧ bs = .slice (some ⟨g, 0, none⟩) (3 * k) q ∧ Hid (Sl wr 5 1 bs (3 * k) (byF (kb (lof f n))) ∧ Below w.heap.size w wr ∧ ∀ b, bs.ownBlock = some b → w.heap.size ≤ b)) (fun _ v _ _ _ => n - (intOf v).toNat)
  case atStart => exact ⟨0, _, _, Nat.zero_le _, rfl, rfl, Lib.hid ⟨H0.out.1, H0.out.2, fun b hb => by cases hb; exact Nat.le_refl _⟩⟩
  case round =>
    obtain ⟨k, g, q, hk, rfl, rfl, HI⟩ := hrel
    clear H0
    by_cases hlt : k < n
    · have hltI : (k : Int) < (n : Int) := by omega
      rcases HH.out with h0 | ⟨b, off, rfl, hbl, hc⟩
      · omega
      have xc : wr.cell? ⟨b, off + k, none⟩ = some (.int .i64 (f k)) := (HI.out.2.1.cell (p := ⟨b, off + k, none⟩) hbl).trans (hc k hlt)
      have hw1 : IntKind.i64.wrap (f k + 100000) = f k + 100000 := IntWalk.i64_in _ (by have := hbd k hlt; omega)
      have HT := Lib.hid (bytes_next hlt HI.out)
      have HOW := Lib.hid HI.out.1.owns
      obtain ⟨i5, hi5, hz5, hs5, hb5⟩ := info_parts info5
      clear hc hbl
      go_wp2_with (at_builtin; refine wpList_append_own_at _ rfl _ _ 41 rfl 0 5 i5 (.int .u8 0) 1 1 Try.underlying41 hi5 hz5 hs5 hb5 rfl (by decide) (.slice (some ⟨g, 0, none⟩) (3 * k) q) (3 * k) _ rfl (HOW.out.alloc _) ⟨_, 0, none⟩ 3 3 [.int .u8 ((f k + 100000) % 256), .int .u8 ((f k + 100000) / 256 % 256), .int .u8 ((f k + 100000) / 65536 % 256)] rfl rfl (three_at wr _ rfl rfl) (by intro u hu; simp at hu; rcases hu with rfl | rfl | rfl <;> rfl) (by unfold maxLen; omega) (by omega) (Nat.zero_le _) ?_; intro v2 w2 g1 g2 _ g3; obtain ⟨g', q', rfl, T⟩ := HT.out _ _ g1 g2 g3; clear g1 g2 g3)
      go_roundw
      case rel => exact ⟨k + 1, g', q', by omega, by go_num, rfl, T⟩
      case measure => simp [intOf]; omega
    · have hq : ¬ (k : Int) < (n : Int) := by omega
      obtain rfl : k = n := by omega
      have hconv := run_convert_bytes_back (P := Try.prog) wr 41 9 5 ⟨g, 0, none⟩ q (kb (lof f k)) Try.underlying41 Try.underlying5 Try.underlying9 (fun j hj => by
        have h1 := kb_length (lof f k)
        rw [lof_length] at h1
        have := HI.out.1.cell (j := j) (by omega)
        rw [show (⟨g, 0, none⟩ : Addr).add j = ⟨g, j, none⟩ by simp [Addr.add]; exact fun h => h.symm, this]
        show some (Value.int .u8 (((kb (lof f k)).getD j 0).toNat : Int)) = _
        rw [List.getD_eq_getElem?_getD, List.getElem?_eq_getElem hj]
        rfl)
      rw [kb_length, lof_length] at hconv
      have HB := Lib.hid HI.out.2.1
      go_wp2
      go_ret
      exact ⟨rfl, HB.out⟩
end Go.Proofs.Ytoffhgiljnagcaa
