/- Mathematics: the fields of a line, as the library splits it by runes, are those by bytes. -/
import Derived.Lib.FieldsP
import Derived.Test.YtmgkoehclabejaaDoorPA
namespace Go.Proofs.YtmgkoehclabejaaDoor
open Go Go.Lib

def pB (r : Nat) : Bool := r == 32 || r == 9 || r == 13
/-- The byte at a place. -/
def byteN (s : ByteArray) (i : Nat) : Nat := (s.get! i).toNat

theorem decode_cases (s : ByteArray) (pos : Nat) (h : pos < s.size) :
    (byteN s pos < 128 ∧ Utf8.decode s pos = (byteN s pos, 1)) ∨
    (128 ≤ byteN s pos ∧ 128 ≤ (Utf8.decode s pos).1 ∧ 1 ≤ (Utf8.decode s pos).2 ∧ pos + (Utf8.decode s pos).2 ≤ s.size ∧ ∀ j, j < (Utf8.decode s pos).2 → 128 ≤ byteN s (pos + j)) := by
  have hc : ∀ k, (decide (pos + k < s.size) && (s.get! (pos + k)).toNat / 64 == 2) = true → pos + k < s.size ∧ 128 ≤ byteN s (pos + k) := by
    intro k hk
    simp only [Bool.and_eq_true, decide_eq_true_eq, beq_iff_eq] at hk
    exact ⟨hk.1, by unfold byteN; omega⟩
  by_cases h0 : byteN s pos < 128
  · left
    refine ⟨h0, ?_⟩
    unfold Utf8.decode
    have : (s.get! (pos + 0)).toNat < 0x80 := h0
    simp only [this, ↓reduceIte]
    rfl
  · right
    have hb0 : 128 ≤ byteN s (pos + 0) := by simpa using h0
    refine ⟨by omega, ?_⟩
    have one : 1 ≤ 1 ∧ pos + 1 ≤ s.size ∧ ∀ j, j < 1 → 128 ≤ byteN s (pos + j) := ⟨by omega, by omega, (fun j hj => by (obtain rfl : j = 0 := by omega); exact hb0)⟩
    have hn0 : ¬ (s.get! (pos + 0)).toNat < 0x80 := h0
    unfold Utf8.decode
    simp only [hn0, ↓reduceIte, ge_iff_le]
    split
    · rename_i h1
      rw [Bool.and_eq_true] at h1
      have c1 := hc 1 h1.2
      split
      · exact ⟨by assumption, by omega, by dsimp only; omega, fun j hj => by
          rcases (by dsimp only at hj; omega : j = 0 ∨ j = 1) with rfl | rfl
          · exact hb0
          · exact c1.2⟩
      · exact ⟨by unfold Utf8.runeError; omega, one⟩
    · split
      · rename_i h1
        simp only [Bool.and_eq_true] at h1
        have c1 := hc 1 (by simpa only [Bool.and_eq_true] using h1.1.2)
        have c2 := hc 2 (by simpa only [Bool.and_eq_true] using h1.2)
        split
        · rename_i h2
          simp only [Bool.and_eq_true, decide_eq_true_eq] at h2
          exact ⟨by dsimp only; omega, by omega, by dsimp only; omega, fun j hj => by
            rcases (by dsimp only at hj; omega : j = 0 ∨ j = 1 ∨ j = 2) with rfl | rfl | rfl
            · exact hb0
            · exact c1.2
            · exact c2.2⟩
        · exact ⟨by unfold Utf8.runeError; omega, one⟩
      · split
        · rename_i h1
          simp only [Bool.and_eq_true] at h1
          have c1 := hc 1 (by simpa only [Bool.and_eq_true] using h1.1.1.2)
          have c2 := hc 2 (by simpa only [Bool.and_eq_true] using h1.1.2)
          have c3 := hc 3 (by simpa only [Bool.and_eq_true] using h1.2)
          split
          · rename_i h2
            simp only [Bool.and_eq_true, decide_eq_true_eq] at h2
            exact ⟨by dsimp only; omega, by omega, by dsimp only; omega, fun j hj => by
              rcases (by dsimp only at hj; omega : j = 0 ∨ j = 1 ∨ j = 2 ∨ j = 3) with rfl | rfl | rfl | rfl
              · exact hb0
              · exact c1.2
              · exact c2.2
              · exact c3.2⟩
          · exact ⟨by unfold Utf8.runeError; omega, one⟩
        · exact ⟨by unfold Utf8.runeError; omega, one⟩

def bsD (l : List UInt8) : ByteArray := ⟨l.toArray⟩
theorem bsD_size (l : List UInt8) : (bsD l).size = l.length := by simp [bsD, ByteArray.size]
theorem byteN_bs (l : List UInt8) (i : Nat) (h : i < l.length) : byteN (bsD l) i = (l[i]'h).toNat := by
  unfold byteN bsD ByteArray.get!
  simp [h]
theorem bsD_extract (l : List UInt8) (a b : Nat) : (bsD l).extract a b = bsD ((l.drop a).take (b - a)) := by
  apply ByteArray.ext
  rw [ByteArray.data_extract]
  simp [bsD, List.extract]

theorem blk_pB (c : UInt8) : blk c = pB c.toNat := by
  unfold blk pB
  congr 1
  · congr 1
    · rw [Bool.eq_iff_iff]; simp only [beq_iff_eq]; exact ⟨fun h => by rw [h]; rfl, fun h => UInt8.toNat_inj.1 h⟩
    · rw [Bool.eq_iff_iff]; simp only [beq_iff_eq]; exact ⟨fun h => by rw [h]; rfl, fun h => UInt8.toNat_inj.1 h⟩
  · rw [Bool.eq_iff_iff]; simp only [beq_iff_eq]; exact ⟨fun h => by rw [h]; rfl, fun h => UInt8.toNat_inj.1 h⟩
theorem pB_big {r : Nat} (h : 128 ≤ r) : pB r = false := by
  unfold pB
  have h1 : (r == 32) = false := by simp; omega
  have h2 : (r == 9) = false := by simp; omega
  have h3 : (r == 13) = false := by simp; omega
  rw [h1, h2, h3]; rfl

theorem fold_nb (w : Wd) (h : ∀ c ∈ w, blk c = false) : ∀ (acc : List Wd) (cur : Wd), w.foldl fstep (acc, cur) = (acc, cur ++ w) := by
  induction w with
  | nil => simp
  | cons c w ih =>
    intro acc cur
    have hc := h c (by simp)
    rw [List.foldl_cons]
    simp only [fstep, hc, Bool.false_eq_true, ↓reduceIte]
    rw [ih (fun c hc => h c (by simp [hc]))]
    simp

def piece (l : Wd) (x : Nat × Nat) : Wd := (l.drop x.1).take (x.2 - x.1)
theorem fields_run (l : Wd) : ∀ (f pos : Nat) (st : Option Nat) (acc : List (Nat × Nat)), l.length ≤ pos + f → pos ≤ l.length → (∀ a, st = some a → a < pos) →
    (l.take pos).foldl fstep ([], []) = (acc.map (piece l), match st with | none => [] | some a => piece l (a, pos)) →
    (closeSpans (bsD l) (spansFromP pB (bsD l) f pos st acc)).map (piece l) = fieldsL l := by
  intro f
  induction f with
  | zero =>
    intro pos st acc h1 h2 h3 h4
    have hp : pos = l.length := by omega
    subst hp
    rw [List.take_length] at h4
    unfold fieldsL
    rw [h4]
    cases st with
    | none => simp [spansFromP, closeSpans, flush]
    | some a =>
      have := h3 a rfl
      have hne : piece l (a, l.length) ≠ [] := by
        intro h; have := congrArg List.length h; simp [piece] at this; omega
      simp [spansFromP, closeSpans, flush, bsD_size, hne]
  | succ f ih =>
    intro pos st acc h1 h2 h3 h4
    by_cases hlt : pos < l.length
    · have hsz : pos < (bsD l).size := by rw [bsD_size]; exact hlt
      have hby := byteN_bs l pos hlt
      have htk : ∀ d, l.take (pos + d) = l.take pos ++ (l.drop pos).take d := fun d => by rw [List.take_add]
      unfold spansFromP
      rw [if_pos hsz]
      rcases decode_cases (bsD l) pos hsz with ⟨ha, hd⟩ | ⟨ha, hr, hw1, hw2, hall⟩
      · rw [hd]
        have hone : (l.drop pos).take 1 = [l[pos]] := by
          rw [List.drop_eq_getElem_cons hlt]; rfl
        have hbk : blk l[pos] = pB (byteN (bsD l) pos) := by rw [hby]; exact blk_pB _
        have hfold := htk 1
        rw [hone] at hfold
        by_cases hb : pB (byteN (bsD l) pos) = true
        · rw [if_pos hb]
          rw [hb] at hbk
          cases st with
          | none =>
            refine ih _ _ _ (by omega) (by omega) (fun a h => by cases h) ?_
            rw [hfold, List.foldl_append, h4]
            simp [fstep, hbk, flush]
          | some a =>
            have hap := h3 a rfl
            refine ih _ _ _ (by omega) (by omega) (fun a h => by cases h) ?_
            rw [hfold, List.foldl_append, h4]
            have hne : piece l (a, pos) ≠ [] := by
              intro h; have := congrArg List.length h; simp [piece] at this; omega
            simp [fstep, hbk, flush, hne]
        · rw [if_neg hb]
          have hb' : pB (byteN (bsD l) pos) = false := by simpa using hb
          rw [hb'] at hbk
          cases st with
          | none =>
            refine ih _ _ _ (by omega) (by omega) (fun a h => by cases h; omega) ?_
            rw [hfold, List.foldl_append, h4]
            have : piece l (pos, pos + 1) = [l[pos]] := by unfold piece; rw [show pos + 1 - pos = 1 by omega]; exact hone
            simp [fstep, hbk, this]
          | some a =>
            have hap := h3 a rfl
            refine ih _ _ _ (by omega) (by omega) (fun b h => by cases h; omega) ?_
            rw [hfold, List.foldl_append, h4]
            have : piece l (a, pos + 1) = piece l (a, pos) ++ [l[pos]] := by
              unfold piece
              rw [show pos + 1 - a = (pos - a) + 1 by omega, List.take_add_one, List.getElem?_drop, show a + (pos - a) = pos by omega, List.getElem?_eq_getElem hlt]
              rfl
            simp [fstep, hbk, this]
      · rw [if_neg (by rw [pB_big hr]; exact Bool.false_ne_true)]
        generalize (Utf8.decode (bsD l) pos).2 = wd at *
        rw [bsD_size] at hw2
        have hnb : ∀ c ∈ (l.drop pos).take wd, blk c = false := by
          intro c hc
          obtain ⟨j, hj, rfl⟩ := List.mem_iff_getElem.1 hc
          have hj' : j < wd := by simp at hj; omega
          have hx := hall j hj'
          rw [byteN_bs l (pos + j) (by omega)] at hx
          rw [List.getElem_take, List.getElem_drop, blk_pB]
          exact pB_big hx
        cases st with
        | none =>
          refine ih _ _ _ (by omega) (by omega) (fun a h => by cases h; omega) ?_
          rw [htk wd, List.foldl_append, h4, fold_nb _ hnb]
          simp [piece]
        | some a =>
          have hap := h3 a rfl
          refine ih _ _ _ (by omega) (by omega) (fun b h => by cases h; omega) ?_
          rw [htk wd, List.foldl_append, h4, fold_nb _ hnb]
          have : piece l (a, pos + wd) = piece l (a, pos) ++ (l.drop pos).take wd := by
            unfold piece
            rw [show pos + wd - a = (pos - a) + wd by omega, List.take_add, List.drop_drop, show a + (pos - a) = pos by omega]
          simp [this]
    · have hp : pos = l.length := by omega
      subst hp
      have := ih l.length st acc (by omega) (by omega) h3 h4
      rw [spansFromP_end _ _ _ _ _ _ (by rw [bsD_size]; omega)]
      rwa [spansFromP_end _ _ _ _ _ _ (by rw [bsD_size]; omega)] at this

/-- The library's fields of a line. -/
theorem goFields_bytes (l : Wd) : goFieldsP pB (bsD l) = (fieldsL l).map bsD := by
  have h := fields_run l l.length 0 none [] (by omega) (by omega) (fun a h => by cases h) rfl
  unfold goFieldsP spansOfP
  rw [bsD_size, ← h, List.map_map]
  refine List.map_congr_left fun x _ => ?_
  rw [bsD_extract]
  rfl
end Go.Proofs.YtmgkoehclabejaaDoor
