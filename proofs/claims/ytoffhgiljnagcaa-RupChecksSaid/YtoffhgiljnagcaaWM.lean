/- Contracts: lead. -/
import Derived.Test.YtoffhgiljnagcaaWC
namespace Go.Proofs.Ytoffhgiljnagcaa
open Go.RowKit Go.Lib Go.Maps

/-- The same literals, in another order. -/
structure Perm (f f' : Nat → Nat) (n : Nat) : Prop where
  mem : ∀ p, (∃ i, i < n ∧ f' i = p) ↔ ∃ i, i < n ∧ f i = p
  inj : (∀ i j, i < n → j < n → f i = f j → i = j) → ∀ i j, i < n → j < n → f' i = f' j → i = j
theorem Perm.refl (f : Nat → Nat) (n : Nat) : Perm f f n := ⟨fun _ => Iff.rfl, id⟩
/-- Two change places. -/
def xch (f : Nat → Nat) (a b : Nat) : Nat → Nat := fun j => if j = a then f b else if j = b then f a else f j
theorem Perm.xch {f f' : Nat → Nat} {n a b : Nat} (h : Perm f f' n) (ha : a < n) (hb : b < n) : Perm f (xch f' a b) n := by
  have hx : ∀ i, Ytoffhgiljnagcaa.xch f' a b i = f' (if i = a then b else if i = b then a else i) := fun i => by
    unfold Ytoffhgiljnagcaa.xch; split
    · rfl
    · split <;> rfl
  have hlt : ∀ i, i < n → (if i = a then b else if i = b then a else i) < n := fun i hi => by
    split
    · exact hb
    · split
      · exact ha
      · exact hi
  have hinv : ∀ i, (if (if i = a then b else if i = b then a else i) = a then b else if (if i = a then b else if i = b then a else i) = b then a else (if i = a then b else if i = b then a else i)) = i := fun i => by
    by_cases h1 : i = a
    · subst h1; rw [if_pos rfl]
      by_cases h2 : b = i
      · rw [if_pos h2, h2]
      · rw [if_neg h2, if_pos rfl]
    · rw [if_neg h1]
      by_cases h2 : i = b
      · subst h2; rw [if_pos rfl, if_pos rfl]
      · rw [if_neg h2, if_neg h1, if_neg h2]
  refine ⟨fun p => (Iff.intro ?_ ?_).trans (h.mem p), fun hi i j h1 h2 e => ?_⟩
  · rintro ⟨i, hi, e⟩
    exact ⟨_, hlt i hi, by rw [← hx]; exact e⟩
  · rintro ⟨i, hi, e⟩
    exact ⟨_, hlt i hi, by rw [hx, hinv]; exact e⟩
  · rw [hx, hx] at e
    have := h.inj hi _ _ (hlt i h1) (hlt j h2) e
    rw [← hinv i, ← hinv j, this]
structure LI (s : St) (f f' : Nat → Nat) (n k d : Nat) : Prop where
  perm : Perm f f' n
  kn : k ≤ n
  dk : d ≤ k
  d2 : d ≤ 2
  no : ∀ i, i < d → s.val (f' i) ≠ -1
  all : d < 2 → ∀ i, d ≤ i → i < k → s.val (f' i) = -1
/-- What lead does. -/
structure Lead (s : St) (f f' : Nat → Nat) (n : Nat) : Prop where
  perm : Perm f f' n
  h0 : s.val (f' 0) = -1 → ∀ i, i < n → s.val (f' i) = -1
  h1 : s.val (f' 1) = -1 → ∀ i, 1 ≤ i → i < n → s.val (f' i) = -1
theorem LI.lead {s : St} {f f' : Nat → Nat} {n d : Nat} (h : LI s f f' n n d) : Lead s f f' n := by
  refine ⟨h.perm, fun e i hi => ?_, fun e i h1 hi => ?_⟩
  · have hd : d = 0 := by
      rcases Nat.eq_zero_or_pos d with h0 | h0
      · exact h0
      · exact absurd e (h.no 0 h0)
    exact h.all (by omega) i (by omega) hi
  · have hd : d ≤ 1 := by
      rcases Nat.lt_or_ge 1 d with h0 | h0
      · exact absurd e (h.no 1 h0)
      · exact h0
    exact h.all (by omega) i (by omega) hi
theorem LI.skip {s : St} {f f' : Nat → Nat} {n k d : Nat} (h : LI s f f' n k d) (hk : k < n) (hx : ¬ (d < 2 ∧ s.val (f' k) ≠ -1)) : LI s f f' n (k + 1) d := by
  refine ⟨h.perm, hk, by have := h.dk; omega, h.d2, h.no, fun hd i h1 h2 => ?_⟩
  by_cases e : i = k
  · subst e
    by_cases e2 : s.val (f' i) = -1
    · exact e2
    · exact absurd ⟨hd, e2⟩ hx
  · exact h.all hd i h1 (by omega)
theorem LI.take {s : St} {f f' : Nat → Nat} {n k d : Nat} (h : LI s f f' n k d) (hk : k < n) (hd : d < 2) (hv : s.val (f' k) ≠ -1) : LI s f (xch f' d k) n (k + 1) (d + 1) := by
  have hdk := h.dk
  refine ⟨h.perm.xch (by omega) hk, hk, by omega, by omega, fun i hi => ?_, fun hd2 i h1 h2 => ?_⟩
  · unfold xch
    by_cases e : i = d
    · rw [if_pos e]; exact hv
    · rw [if_neg e, if_neg (by omega)]; exact h.no i (by omega)
  · unfold xch
    rw [if_neg (by omega)]
    by_cases e : i = k
    · rw [if_pos e]; exact h.all hd d (Nat.le_refl _) (by omega)
    · rw [if_neg e]; exact h.all hd i (by omega) (by omega)

theorem cell_setX {w : World} {b : Addr} {v : Value} (h : w.cell? b = some v) (a : Addr) (u : Value) : ∃ z, (w.setCell a u).cell? b = some z := by
  by_cases e : a = b
  · subst e; exact ⟨u, World.cell?_setCell_same _ _ _ h⟩
  · exact ⟨v, (World.cell?_setCell_other _ _ _ _ e).trans h⟩

set_option maxHeartbeats 4000000 in
set_option maxRecDepth 100000 in
theorem lead_any {K M : Nat} {w : World} {L : Tag → Value} {s : St} (h : Mem w K M L s) {g n c : Nat} {f : Nat → Nat} (hr : w.rowIs g 71 n fun j => .int .i32 (f j)) (hg : ¬ Bl K M L g) (hf : ∀ i, i < n → f i < s.ev) (hn : n ≤ 100000) :
    Calls Try.prog 50 #[.pointer (some ⟨K, 0, none⟩), .slice (some ⟨g, 0, none⟩) n c] w fun e w' => e = .returned (.tuple #[]) ∧ ∃ f', w'.rowIs g 71 n (fun j => .int .i32 (f' j : Nat)) ∧ Fr (fun b => b = g) w w' ∧ Lead s f f' n := by
  have H0 := Lib.hid (show w.rowIs g 71 n (fun j => .int .i32 (f j)) ∧ Fr (fun b => b = g) w w ∧ LI s f f n 0 0 from ⟨hr, .refl _ _, .refl _ _, Nat.zero_le _, Nat.le_refl _, by omega, fun i hi => absurd hi (Nat.not_lt_zero _), fun _ i h1 h2 => absurd h2 (Nat.not_lt_zero _)⟩)
  have HH := Lib.hid (And.intro h (And.intro hg hf))
  clear h hr hg hf
  go_enter Try.func50, Try.ntmps50
  go_wp2
  go_loopw [4, 9] (fun a b wr => ∃ (d k : Nat) (f1 : Nat → Nat), d ≤ 2 ∧ k ≤ n ∧ a = .int .i64 d ∧ b = .int .i64 k ∧ Hid (wr.rowIs g 71 n (fun j => .int .i32 (f1 j)) ∧ Fr (fun b => b = g) w wr ∧ LI s f f1 n k d)) (fun _ b _ => n - (intOf b).toNat)
  case atStart => exact ⟨0, 0, f, by omega, Nat.zero_le _, rfl, rfl, H0⟩
  case round =>
    obtain ⟨d, k, f1, hd2, hk, rfl, rfl, HI⟩ := hrel
    clear H0
    by_cases hlt : k < n
    · have hltI : (k : Int) < (n : Int) := by omega
      obtain ⟨hrow, hfr, hLI⟩ := HI.out
      have hm := HH.out.1.keep hfr (fun b hb e => HH.out.2.1 (e ▸ hb))
      have hf1 : ∀ i, i < n → f1 i < s.ev := fun i hi => by
        obtain ⟨j, hj, e⟩ := (hLI.perm.mem (f1 i)).1 ⟨i, hi, rfl⟩
        rw [← e]; exact HH.out.2.2 j hj
      have hp := hf1 k hlt
      obtain ⟨gv, cv, hL4, _⟩ := (hm.row .vals).pos (show 0 < s.ev by omega)
      replace hL4 : L .vals = .slice (some ⟨gv, 0, none⟩) s.ev cv := hL4
      have c4 : wr.cell? ⟨K, 4, none⟩ = some (.slice (some ⟨gv, 0, none⟩) s.ev cv) := (hm.c 4 (by omega)).trans (congrArg some hL4)
      have xk := hrow.cell hlt
      have vk : wr.cell? ⟨gv, f1 k, none⟩ = some (.int .i8 (s.val (f1 k))) := hm.rc hL4 (show f1 k < s.ev * 1 by omega)
      have qk : (f1 k : Int) < (s.ev : Int) := by omega
      have hdk := hLI.dk
      have fg := hrow.frozen
      by_cases hd : d < 2
      · have hdI : (d : Int) < 2 := by omega
        by_cases hv : s.val (f1 k) = -1
        · have HN := Lib.hid (And.intro hrow (And.intro hfr (hLI.skip hlt (fun e => e.2 hv))))
          rw [hv] at vk
          clear hrow hfr hLI hm hf1 hL4 hp
          go_wp2
          go_roundw
          case rel => exact ⟨d, k + 1, f1, hd2, by omega, rfl, by go_num, HN⟩
          case measure => simp [intOf]; omega
        · have hvb : (s.val (f1 k) != (-1 : Int)) = true := by simpa using hv
          have xd := hrow.cell (i := d) (by omega)
          have hdn : (d : Int) < (n : Int) := by omega
          have hr2 := (hrow.set k (.int .i32 (f1 d))).set d (.int .i32 (f1 k))
          have hr3 : ((wr.setCell ⟨g, k, none⟩ (.int .i32 (f1 d))).setCell ⟨g, d, none⟩ (.int .i32 (f1 k))).rowIs g 71 n (fun j => .int .i32 (xch f1 d k j)) := hr2.congr fun j _ => by
            show (if j = d then Value.int .i32 (f1 k) else if j = k then .int .i32 (f1 d) else .int .i32 (f1 j)) = .int .i32 ((if j = d then f1 k else if j = k then f1 d else f1 j : Nat))
            split
            · rfl
            · split <;> rfl
          have hfr2 : Fr (fun b => b = g) w ((wr.setCell ⟨g, k, none⟩ (.int .i32 (f1 d))).setCell ⟨g, d, none⟩ (.int .i32 (f1 k))) := (hfr.set (p := ⟨g, k, none⟩) rfl _).set (p := ⟨g, d, none⟩) rfl _
          obtain ⟨z1, y1⟩ := cell_setX xd ⟨g, k, none⟩ (.int .i32 (f1 d))
          have HN := Lib.hid (And.intro hr3 (And.intro hfr2 (hLI.take hlt hd hv)))
          clear hrow hfr hLI hm hf1 hL4 hp hr2 hr3 hfr2
          go_wp2
          go_roundw
          case rel => exact ⟨d + 1, k + 1, _, by omega, by omega, by go_num, by go_num, HN⟩
          case measure => simp [intOf]; omega
      · have hdI : ¬ (d : Int) < 2 := by omega
        have HN := Lib.hid (And.intro hrow (And.intro hfr (hLI.skip hlt (fun e => hd e.1))))
        clear hrow hfr hLI hm hf1 hL4 hp
        go_wp2
        go_roundw
        case rel => exact ⟨d, k + 1, f1, hd2, by omega, rfl, by go_num, HN⟩
        case measure => simp [intOf]; omega
    · have hq : ¬ (k : Int) < (n : Int) := by omega
      obtain rfl : k = n := by omega
      go_wp2
      go_end0
      exact ⟨rfl, f1, HI.out.1, HI.out.2.1, HI.out.2.2.lead⟩
end Go.Proofs.Ytoffhgiljnagcaa
