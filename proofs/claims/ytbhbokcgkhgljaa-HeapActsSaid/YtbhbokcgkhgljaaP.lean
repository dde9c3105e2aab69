/- A heap and the answers' heap side by side. -/
import Derived.Test.YtbhbokcgkhgljaaO
namespace Go.Proofs.Ytbhbokcgkhgljaa
open Go.RowKit Go.Lib

theorem Fr.mono {B B' : Nat → Prop} {a b : World} (h : Fr B a b) (hB : ∀ k, B k → B' k) : Fr B' a b := ⟨h.os, h.tape, h.output, h.size, fun k hk hb => h.block k hk (fun e => hb (hB k e))⟩
def Zn (T ib jb : Nat) (k : Nat) : Prop := k < T ∨ k = ib ∨ k = jb

/-- A heap with the contained ones In and activities A; the answers' with In2, A2. -/
structure Bo (w0 : World) (T : Nat) (w : World) (hb ob pb ab n rb ib jb : Nat) (ai aa : Option Addr) (ci ca : Nat) (In : Nat → Bool) (A : Nat → Int) (In2 : Nat → Bool) (A2 : Nat → Int) : Prop where
  hs : Hs w0 T w hb ob pb ab n A In
  rf : Rf w rb ib jb ai aa ci ca n In2 A2
  ge : T ≤ rb ∧ T ≤ ib ∧ T ≤ jb
  lt : rb < w.heap.size ∧ ib < w.heap.size ∧ jb < w.heap.size
section
variable {w0 w : World} {T hb ob pb ab n rb ib jb ci ca : Nat} {ai aa : Option Addr} {In In2 : Nat → Bool} {A A2 : Nat → Int}
theorem Bo.hop {w' : World} {In' : Nat → Bool} {A' : Nat → Int} (h : Bo w0 T w hb ob pb ab n rb ib jb ai aa ci ca In A In2 A2) (h' : Hs w0 T w' hb ob pb ab n A' In') (hf : Fr (Bk hb ob pb ab) w w') :
    Bo w0 T w' hb ob pb ab n rb ib jb ai aa ci ca In' A' In2 A2 ∧ Fr (Zn T ib jb) w w' := by
  have hlt := Bk.lt h'.lt
  obtain ⟨g1, g2, g3⟩ := h.ge
  have hsz := hf.size
  obtain ⟨l1, l2, l3⟩ := h.lt
  exact ⟨⟨h', h.rf.fr hf (fun e => by have := hlt _ e; omega) (fun e => by have := hlt _ e; omega) (fun e => by have := hlt _ e; omega), h.ge, ⟨by omega, by omega, by omega⟩⟩, hf.mono fun k hk => .inl (hlt k hk)⟩
theorem Bo.rop {w' : World} {In' : Nat → Bool} {A' : Nat → Int} (h : Bo w0 T w hb ob pb ab n rb ib jb ai aa ci ca In A In2 A2) (h' : Rf w' rb ib jb ai aa ci ca n In' A') (hf : Fr (Rk ib jb) w w') :
    Bo w0 T w' hb ob pb ab n rb ib jb ai aa ci ca In A In' A' ∧ Fr (Zn T ib jb) w w' := by
  obtain ⟨g1, g2, g3⟩ := h.ge
  have hsz := hf.size
  obtain ⟨l1, l2, l3⟩ := h.lt
  exact ⟨⟨h.hs.below (hf.below h.hs.top (fun k hk => by rcases hk with rfl | rfl <;> assumption)), h', h.ge, ⟨by omega, by omega, by omega⟩⟩, hf.mono fun k hk => .inr hk⟩
theorem Bo.below {w' : World} (h : Bo w0 T w hb ob pb ab n rb ib jb ai aa ci ca In A In2 A2) (hb' : Below w.heap.size w w') : Bo w0 T w' hb ob pb ab n rb ib jb ai aa ci ca In A In2 A2 := by
  have hsz := hb'.size
  obtain ⟨l1, l2, l3⟩ := h.lt
  have hf : Fr (fun _ => False) w w' := Fr.of_below hb'
  exact ⟨h.hs.below (hb'.mono h.hs.top), h.rf.fr hf (fun e => e) (fun e => e) (fun e => e), h.ge, ⟨by omega, by omega, by omega⟩⟩

def pIn (n : Nat) (In : Nat → Bool) (v : Int) : Nat → Bool := if (isV n v && !In v.toNat) = true then upd In v.toNat true else In
def bA (n : Nat) (A : Nat → Int) (v b : Int) : Nat → Int := if (isV n v && decide (0 ≤ b)) = true then updI A v.toNat (bmp (A v.toNat) b) else A

theorem Bo.putH (h : Bo w0 T w hb ob pb ab n rb ib jb ai aa ci ca In A In2 A2) (v : Int) : Calls Try.prog 11 #[.pointer (some ⟨hb, 0, none⟩), .int .i64 v] w fun e w' => e = .returned (.bool (isV n v && !In v.toNat)) ∧
    Bo w0 T w' hb ob pb ab n rb ib jb ai aa ci ca (pIn n In v) A In2 A2 ∧ Fr (Zn T ib jb) w w' := by
  unfold pIn
  cases hd : (isV n v && !In v.toNat)
  · refine (h.hs.put0 v hd).mono ?_
    rintro e w' ⟨rfl, rfl⟩
    exact ⟨rfl, by rw [if_neg (by simp)]; exact h, Fr.refl _ _⟩
  · simp only [Bool.and_eq_true, Bool.not_eq_true'] at hd
    obtain ⟨h1, h2⟩ := isV_iff.1 hd.1
    obtain ⟨u, rfl⟩ : ∃ u : Nat, v = u := ⟨v.toNat, by omega⟩
    rw [Int.toNat_natCast] at hd ⊢
    refine (h.hs.put (v := u) (by omega) (by omega) hd.2).mono ?_
    rintro e w' ⟨rfl, h', hf⟩
    rw [if_pos rfl]
    exact ⟨rfl, h.hop h' hf⟩
theorem Bo.putR (h : Bo w0 T w hb ob pb ab n rb ib jb ai aa ci ca In A In2 A2) (v : Int) : Calls Try.prog 12 #[.pointer (some ⟨rb, 0, none⟩), .int .i64 v] w fun e w' => e = .returned (.bool (isV n v && !In2 v.toNat)) ∧
    Bo w0 T w' hb ob pb ab n rb ib jb ai aa ci ca In A (pIn n In2 v) A2 ∧ Fr (Zn T ib jb) w w' := by
  unfold pIn
  cases hv : isV n v
  · refine (refPut_out h.rf v hv).mono ?_
    rintro e w' ⟨rfl, rfl⟩
    exact ⟨rfl, by rw [if_neg (by simp)]; exact h, Fr.refl _ _⟩
  · obtain ⟨h1, h2⟩ := isV_iff.1 hv
    obtain ⟨u, rfl⟩ : ∃ u : Nat, v = (u : Int) + 1 := ⟨(v - 1).toNat, by omega⟩
    rw [show ((u : Int) + 1).toNat = u + 1 from by omega]
    refine (refPut_in h.rf u (by omega)).mono ?_
    rintro e w' ⟨rfl, h', hf⟩
    refine ⟨by simp, ?_⟩
    have e : (if In2 (u + 1) then In2 else upd In2 (u + 1) true) = (if (true && !In2 (u + 1)) = true then upd In2 (u + 1) true else In2) := by cases In2 (u + 1) <;> rfl
    rw [e] at h'
    exact h.rop h' hf
theorem Bo.bumpH (h : Bo w0 T w hb ob pb ab n rb ib jb ai aa ci ca In A In2 A2) (v b : Int) (hb1 : b ≤ 9223372036854775807) : Calls Try.prog 15 #[.pointer (some ⟨hb, 0, none⟩), .int .i64 v, .int .i64 b] w fun e w' => e = .returned (.bool (isV n v && decide (0 ≤ b))) ∧
    Bo w0 T w' hb ob pb ab n rb ib jb ai aa ci ca In (bA n A v b) In2 A2 ∧ Fr (Zn T ib jb) w w' := by
  unfold bA
  cases hd : (isV n v && decide (0 ≤ b))
  · refine (h.hs.bump0 v b ?_).mono ?_
    · cases hv : isV n v
      · exact .inl rfl
      · rw [hv] at hd; simp at hd; exact .inr hd
    rintro e w' ⟨rfl, rfl⟩
    exact ⟨rfl, by rw [if_neg (by simp)]; exact h, Fr.refl _ _⟩
  · simp only [Bool.and_eq_true, decide_eq_true_eq] at hd
    obtain ⟨h1, h2⟩ := isV_iff.1 hd.1
    obtain ⟨u, rfl⟩ : ∃ u : Nat, v = u := ⟨v.toNat, by omega⟩
    rw [Int.toNat_natCast]
    refine (h.hs.bump (v := u) (by omega) (by omega) hd.2 hb1).mono ?_
    rintro e w' ⟨rfl, h', hf⟩
    rw [if_pos rfl]
    exact ⟨rfl, h.hop h' hf⟩
theorem Bo.bumpR (h : Bo w0 T w hb ob pb ab n rb ib jb ai aa ci ca In A In2 A2) (v b : Int) (hb1 : b ≤ 9223372036854775807) : Calls Try.prog 16 #[.pointer (some ⟨rb, 0, none⟩), .int .i64 v, .int .i64 b] w fun e w' => e = .returned (.bool (isV n v && decide (0 ≤ b))) ∧
    Bo w0 T w' hb ob pb ab n rb ib jb ai aa ci ca In A In2 (bA n A2 v b) ∧ Fr (Zn T ib jb) w w' := by
  unfold bA
  cases hd : (isV n v && decide (0 ≤ b))
  · refine (refBump_no h.rf v b ?_).mono ?_
    · cases hv : isV n v
      · exact .inl rfl
      · rw [hv] at hd; simp at hd; exact .inr hd
    rintro e w' ⟨rfl, rfl⟩
    exact ⟨rfl, by rw [if_neg (by simp)]; exact h, Fr.refl _ _⟩
  · simp only [Bool.and_eq_true, decide_eq_true_eq] at hd
    obtain ⟨h1, h2⟩ := isV_iff.1 hd.1
    obtain ⟨u, rfl⟩ : ∃ u : Nat, v = (u : Int) + 1 := ⟨(v - 1).toNat, by omega⟩
    rw [show ((u : Int) + 1).toNat = u + 1 from by omega]
    refine (refBump_yes h.rf u b (by omega) hd.2 hb1).mono ?_
    rintro e w' ⟨rfl, h', hf⟩
    rw [if_pos rfl]
    exact ⟨rfl, h.rop h' hf⟩
theorem Bo.halveH (h : Bo w0 T w hb ob pb ab n rb ib jb ai aa ci ca In A In2 A2) : Calls Try.prog 17 #[.pointer (some ⟨hb, 0, none⟩)] w fun e w' => e = .returned (.tuple #[]) ∧
    Bo w0 T w' hb ob pb ab n rb ib jb ai aa ci ca In (fun v => A v / 2) In2 A2 ∧ Fr (Zn T ib jb) w w' := by
  refine h.hs.halve.mono ?_
  rintro e w' ⟨rfl, h', hf⟩
  exact ⟨rfl, h.hop h' hf⟩
theorem Bo.halveR (h : Bo w0 T w hb ob pb ab n rb ib jb ai aa ci ca In A In2 A2) : Calls Try.prog 18 #[.pointer (some ⟨rb, 0, none⟩)] w fun e w' => e = .returned (.tuple #[]) ∧
    Bo w0 T w' hb ob pb ab n rb ib jb ai aa ci ca In A In2 (fun v => A2 v / 2) ∧ Fr (Zn T ib jb) w w' := by
  refine (refHalve h.rf).mono ?_
  rintro e w' ⟨rfl, h', hf⟩
  exact ⟨rfl, h.rop h' hf⟩
theorem Bo.next0H (h : Bo w0 T w hb ob pb ab n rb ib jb ai aa ci ca In A In2 A2) (h0 : cnt In n = 0) : Calls Try.prog 13 #[.pointer (some ⟨hb, 0, none⟩)] w fun e w' => e = .returned (.tuple #[.int .i64 0, .bool false]) ∧
    Bo w0 T w' hb ob pb ab n rb ib jb ai aa ci ca In A In2 A2 ∧ Fr (Zn T ib jb) w w' := by
  refine (h.hs.next0 h0).mono ?_
  rintro e w' ⟨rfl, rfl⟩
  exact ⟨rfl, h, Fr.refl _ _⟩
theorem Bo.next0R (h : Bo w0 T w hb ob pb ab n rb ib jb ai aa ci ca In A In2 A2) (h0 : cnt In2 n = 0) : Calls Try.prog 14 #[.pointer (some ⟨rb, 0, none⟩)] w fun e w' => e = .returned (.tuple #[.int .i64 0, .bool false]) ∧
    Bo w0 T w' hb ob pb ab n rb ib jb ai aa ci ca In A In2 A2 ∧ Fr (Zn T ib jb) w w' := by
  refine (refNext h.rf).mono ?_
  intro e w' hp
  rcases hp with ⟨_, rfl, h', hf⟩ | ⟨v, hv, rfl, h', hf⟩
  · exact ⟨rfl, h.rop h' hf⟩
  · have := cnt_pos hv.1 hv.2.1 hv.2.2.1; omega
theorem Bo.nextH (h : Bo w0 T w hb ob pb ab n rb ib jb ai aa ci ca In A In2 A2) {v : Nat} (hv : IsNext n A In v) : Calls Try.prog 13 #[.pointer (some ⟨hb, 0, none⟩)] w fun e w' => e = .returned (.tuple #[.int .i64 v, .bool true]) ∧
    Bo w0 T w' hb ob pb ab n rb ib jb ai aa ci ca (upd In v false) A In2 A2 ∧ Fr (Zn T ib jb) w w' := by
  refine (h.hs.nextV hv).mono ?_
  rintro e w' ⟨rfl, h', hf⟩
  exact ⟨rfl, h.hop h' hf⟩
theorem Bo.nextR (h : Bo w0 T w hb ob pb ab n rb ib jb ai aa ci ca In A In2 A2) {v : Nat} (hv : IsNext n A2 In2 v) : Calls Try.prog 14 #[.pointer (some ⟨rb, 0, none⟩)] w fun e w' => e = .returned (.tuple #[.int .i64 v, .bool true]) ∧
    Bo w0 T w' hb ob pb ab n rb ib jb ai aa ci ca In A (upd In2 v false) A2 ∧ Fr (Zn T ib jb) w w' := by
  refine (refNext h.rf).mono ?_
  intro e w' hp
  rcases hp with ⟨h0, rfl, h', hf⟩ | ⟨u, hu, rfl, h', hf⟩
  · have := cnt_pos hv.1 hv.2.1 hv.2.2.1; omega
  · obtain rfl := hu.uniq hv
    exact ⟨rfl, h.rop h' hf⟩
theorem Bo.isNext (h : Bo w0 T w hb ob pb ab n rb ib jb ai aa ci ca In A In2 A2) (h0 : 0 < cnt In n) : ∃ v, IsNext n A In v := by
  obtain ⟨_, m, O, P, _, hG⟩ := h.hs.heap
  exact ⟨_, hG.next (by rw [hG.num]; exact h0)⟩
end
end Go.Proofs.Ytbhbokcgkhgljaa
