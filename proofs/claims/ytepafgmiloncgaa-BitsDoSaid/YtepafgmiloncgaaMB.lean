/- Mathematics: what operations lay. -/
import Derived.Test.YtepafgmiloncgaaMA
namespace Go.Proofs.Ytepafgmiloncgaa

/-- From a graph to the next: at most m nodes more; where there is node 0 alone, none. -/
structure Lay (s t : Gr) (m : Nat) : Prop where
  ok : t.Ok
  ext : Ext s t
  n : t.n ≤ s.n + m
  z : s.n = 0 → t.n = 0
theorem Lay.refl {s : Gr} (h : s.Ok) : Lay s s 0 := ⟨h, Ext.refl s, Nat.le_refl _, id⟩
theorem Lay.trans {s t u : Gr} {m k : Nat} (h : Lay s t m) (h2 : Lay t u k) : Lay s u (m + k) := ⟨h2.ok, h.ext.trans h2.ext, by have := h.n; have := h2.n; omega, fun e => h2.z (h.z e)⟩
theorem Lay.le {s t : Gr} {m k : Nat} (h : Lay s t m) (hk : m ≤ k) : Lay s t k := ⟨h.ok, h.ext, by have := h.n; omega, h.z⟩
theorem Lay.lt {s t : Gr} {m e : Nat} (h : Lay s t m) (he : e < 2 * (s.n + 1)) : e < 2 * (t.n + 1) := by have := h.ext.n; omega
theorem Lay.val {s t : Gr} {m e : Nat} (h : Lay s t m) (he : e < 2 * (s.n + 1)) (I : Nat → Bool) : val I t e = val I s e := val_ext h.ext he
/-- An edge that was laid. -/
structure Ed (s t : Gr) (m r : Nat) (B : (Nat → Bool) → Bool) : Prop where
  lay : Lay s t m
  lt : r < 2 * (t.n + 1)
  val : ∀ I, val I t r = B I
theorem andN_z {s : Gr} (hz : s.n = 0) {a b : Nat} (ha : a < 2) (hb : b < 2) : (andN s a b).2.n = 0 := by
  have h1 : a = 0 ∨ a = 1 := by omega
  have h2 : b = 0 ∨ b = 1 := by omega
  rcases h1 with rfl | rfl <;> rcases h2 with rfl | rfl <;> simp [andN, andS, nt, hz]
theorem nt_two {a : Nat} (h : a < 2) : nt a < 2 := by unfold nt; split <;> omega
theorem and_ed {s : Gr} (hs : s.Ok) {a b : Nat} (ha : a < 2 * (s.n + 1)) (hb : b < 2 * (s.n + 1)) : Ed s (andN s a b).2 1 (andN s a b).1 (fun I => val I s a && val I s b) := by
  have h := fun I => andN_is (I := I) hs ha hb
  exact ⟨⟨(h fun _ => false).ok, (h fun _ => false).ext, (h fun _ => false).n, fun e => andN_z e (by omega) (by omega)⟩, (h fun _ => false).lt, fun I => (h I).val⟩
theorem or_ed {s : Gr} (hs : s.Ok) {a b : Nat} (ha : a < 2 * (s.n + 1)) (hb : b < 2 * (s.n + 1)) : Ed s (orN s a b).2 1 (orN s a b).1 (fun I => val I s a || val I s b) := by
  have h := fun I => orN_is (I := I) hs ha hb
  exact ⟨⟨(h fun _ => false).ok, (h fun _ => false).ext, (h fun _ => false).n, fun e => andN_z e (nt_two (by omega)) (nt_two (by omega))⟩, (h fun _ => false).lt, fun I => (h I).val⟩
theorem two_z {s : Gr} (hs : s.Ok) (e : s.n = 0) {a b c d : Nat} (ha : a < 2) (hb : b < 2) (hc : c < 2) (hd : d < 2) : (let r := andN s a b; let q := andN r.2 c d; orN q.2 r.1 q.1).2.n = 0 := by
  have h1 := and_ed hs (a := a) (b := b) (by omega) (by omega)
  have e1 := h1.lay.z e
  have h2 := and_ed h1.lay.ok (a := c) (b := d) (by omega) (by omega)
  have e2 := h2.lay.z e1
  have h3 := or_ed h2.lay.ok (a := (andN s a b).1) (b := (andN (andN s a b).2 c d).1) (by have := h1.lt; omega) h2.lt
  exact h3.lay.z e2
theorem xor_ed {s : Gr} (hs : s.Ok) {a b : Nat} (ha : a < 2 * (s.n + 1)) (hb : b < 2 * (s.n + 1)) : Ed s (xorN s a b).2 3 (xorN s a b).1 (fun I => val I s a != val I s b) := by
  have h := fun I => xorN_is (I := I) hs ha hb
  exact ⟨⟨(h fun _ => false).ok, (h fun _ => false).ext, (h fun _ => false).n, fun e => two_z hs e (by omega) (nt_two (by omega)) (nt_two (by omega)) (by omega)⟩, (h fun _ => false).lt, fun I => (h I).val⟩
theorem mux_ed {s : Gr} (hs : s.Ok) {c a b : Nat} (hc : c < 2 * (s.n + 1)) (ha : a < 2 * (s.n + 1)) (hb : b < 2 * (s.n + 1)) : Ed s (muxN s c a b).2 3 (muxN s c a b).1 (fun I => if val I s c then val I s a else val I s b) := by
  have h := fun I => muxN_is (I := I) hs hc ha hb
  exact ⟨⟨(h fun _ => false).ok, (h fun _ => false).ext, (h fun _ => false).n, fun e => two_z hs e (by omega) (by omega) (nt_two (by omega)) (by omega)⟩, (h fun _ => false).lt, fun I => by
    rw [(h I).val]; cases Go.Proofs.Ytepafgmiloncgaa.val I s c <;> cases Go.Proofs.Ytepafgmiloncgaa.val I s a <;> cases Go.Proofs.Ytepafgmiloncgaa.val I s b <;> rfl⟩
theorem any_ed {s : Gr} (hs : s.Ok) {g : Nat → Nat} : ∀ {k : Nat}, (∀ j, j < k → g j < 2 * (s.n + 1)) → Ed s (anyN s (fun j => (g j : Int)) k).2 k (anyN s (fun j => (g j : Int)) k).1 (fun I => anyB (fun j => val I s (g j)) k)
  | 0, _ => ⟨(Lay.refl hs).le (Nat.le_refl _), by show 0 < _; omega, fun I => val_zero I s⟩
  | k + 1, h => by
    have ih := any_ed hs (g := g) (k := k) fun j hj => h j (by omega)
    have hk := ih.lay.lt (h k (by omega))
    have o := or_ed ih.lay.ok ih.lt hk
    have e : anyN s (fun j => (g j : Int)) (k + 1) = orN (anyN s (fun j => (g j : Int)) k).2 (anyN s (fun j => (g j : Int)) k).1 (g k) := by
      show orN _ _ (edg _ (g k : Int)) = _
      rw [edg_of hk]
    rw [e]
    refine ⟨ih.lay.trans o.lay, o.lt, fun I => ?_⟩
    rw [o.val I, ih.val I, ih.lay.val (h k (by omega)) I]
    rfl

/-- Of a vector with n bits, the bits from n on. -/
def extv {α : Type} (n : Nat) (g : Nat → α) (j : Nat) : α := if j < n then g j else g (n - 1)
theorem un_const (b : Bool) : ∀ k, un (fun _ => b) k = if b then 2 ^ k - 1 else 0
  | 0 => by simp [un]
  | k + 1 => by
    unfold un
    rw [un_const b k, Nat.pow_succ]
    have := Nat.two_pow_pos k
    cases b <;> simp <;> omega
theorem trm_trm {w : Nat} (x : Int) : trm w (trm w x) = trm w x := trm_of (trm_emod w x)
theorem sg_wide {v : Nat → Bool} {n m : Nat} (hn : 0 < n) (hm : 0 < m) : sg (extv n v) m = trm m (sg v n) := by
  by_cases h : m ≤ n
  · have e : sg (extv n v) m = sg v m := sg_congr fun i hi => if_pos (by omega)
    rw [e]
    unfold sg
    have h1 := un_split v m (n - m)
    rw [show m + (n - m) = n by omega] at h1
    have h2 : (un v n : Int) = (un v m : Int) + ((2 ^ m : Nat) : Int) * (un (fun i => v (m + i)) (n - m) : Int) := by rw [h1]; simp
    have hp : ((2 ^ n : Nat) : Int) = ((2 ^ m : Nat) : Int) * ((2 ^ (n - m) : Nat) : Int) := by rw [← Int.natCast_mul, ← Nat.pow_add, show m + (n - m) = n by omega]
    refine trm_of ?_
    have h3 := trm_emod n (un v n : Int)
    have h4 : trm n (un v n : Int) % ((2 ^ m : Nat) : Int) = (un v n : Int) % ((2 ^ m : Nat) : Int) := by
      rw [← Int.emod_emod_of_dvd _ (show ((2 ^ m : Nat) : Int) ∣ ((2 ^ n : Nat) : Int) from ⟨_, hp⟩), h3, Int.emod_emod_of_dvd _ ⟨_, hp⟩]
    rw [h4, h2, Int.add_mul_emod_self_left]
  · have h1 := un_split (extv n v) n (m - n)
    rw [show n + (m - n) = m by omega] at h1
    have h2 : un (extv n v) n = un v n := un_congr fun i hi => if_pos hi
    have h3 : un (fun i => extv n v (n + i)) (m - n) = un (fun _ => v (n - 1)) (m - n) := un_congr fun i hi => by unfold extv; rw [if_neg (by omega)]
    rw [h2, h3, un_const] at h1
    have hr := sg_range v hn
    have h4 : 2 ^ (n - 1) ≤ 2 ^ (m - 1) := Nat.pow_le_pow_right (by omega) (by omega)
    rw [trm_fit hm (x := sg v n) (by omega) (by omega)]
    have h5 : 2 ^ m = 2 ^ n * 2 ^ (m - n) := by rw [← Nat.pow_add, show n + (m - n) = m by omega]
    have h6 := Nat.two_pow_pos (m - n)
    unfold sg at *
    rw [h1]
    have hse := sg_eq (v := v) hn
    unfold sg at hse
    rw [hse] at hr ⊢
    cases hb : v (n - 1)
    · rw [hb] at hr
      simp only [Bool.false_eq_true, if_false, Int.sub_zero, Nat.mul_zero, Nat.add_zero] at hr ⊢
      exact trm_fit hm (by omega) (by omega)
    · rw [hb] at hr
      simp only [if_true] at hr ⊢
      rw [Nat.mul_sub, ← h5, Nat.mul_one]
      have h7 : 2 ^ n ≤ 2 ^ m := Nat.pow_le_pow_right (by omega) (by omega)
      have h8 : trm m ((un v n + (2 ^ m - 2 ^ n) : Nat) : Int) = trm m ((un v n : Int) - ((2 ^ n : Nat) : Int)) := by
        refine trm_of ?_
        rw [show ((un v n + (2 ^ m - 2 ^ n) : Nat) : Int) = (un v n : Int) - ((2 ^ n : Nat) : Int) + ((2 ^ m : Nat) : Int) by omega, Int.add_emod_right]
      rw [h8]
      exact trm_fit hm (by omega) (by omega)
/-- What a vector's edges come to. -/
def num (I : Nat → Bool) (s : Gr) (g : Nat → Nat) (n : Nat) : Int := sg (fun j => val I s (g j)) n
/-- A vector of the graph. -/
def Vo (s : Gr) (n : Nat) (g : Nat → Nat) : Prop := ∀ j, j < n → g j < 2 * (s.n + 1)
theorem Vo.lay {s t : Gr} {m n : Nat} {g : Nat → Nat} (h : Vo s n g) (l : Lay s t m) : Vo t n g := fun j hj => l.lt (h j hj)
theorem num_lay {s t : Gr} {m n : Nat} {g : Nat → Nat} (h : Vo s n g) (l : Lay s t m) (I : Nat → Bool) : num I t g n = num I s g n := sg_congr fun j hj => l.val (h j hj) I
theorem Vo.ext {s : Gr} {n m : Nat} {g : Nat → Nat} (hn : 0 < n) (h : Vo s n g) : Vo s m (extv n g) := fun j _ => by
  unfold extv; split
  · exact h j (by assumption)
  · exact h (n - 1) (by omega)
theorem num_ext {s : Gr} {n m : Nat} {g : Nat → Nat} (hn : 0 < n) (hm : 0 < m) (I : Nat → Bool) : num I s (extv n g) m = trm m (num I s g n) := by
  unfold num
  rw [← sg_wide hn hm]
  exact sg_congr fun j _ => by unfold extv; split <;> rfl
theorem num_range {s : Gr} {n : Nat} {g : Nat → Nat} (hn : 0 < n) (I : Nat → Bool) : -((2 ^ (n - 1) : Nat) : Int) ≤ num I s g n ∧ num I s g n < ((2 ^ (n - 1) : Nat) : Int) := sg_range _ hn
theorem num_up {s : Gr} {n m : Nat} {g : Nat → Nat} (hn : 0 < n) (hm : n ≤ m) (I : Nat → Bool) : num I s (extv n g) m = num I s g n := by
  rw [num_ext hn (by omega)]
  have hr := num_range (s := s) (g := g) hn I
  have h4 : 2 ^ (n - 1) ≤ 2 ^ (m - 1) := Nat.pow_le_pow_right (by omega) (by omega)
  exact trm_fit (by omega) (by omega) (by omega)
/-- A constant's vector. -/
theorem Vo.const (s : Gr) (n : Nat) (b : Nat → Bool) : Vo s n (fun j => (b j).toNat) := fun j _ => by
  have h : (b j).toNat ≤ 1 := by cases b j <;> simp
  show (b j).toNat < _
  omega
theorem val_toNat (I : Nat → Bool) (s : Gr) (b : Bool) : val I s b.toNat = b := by
  cases b
  · exact val_zero I s
  · exact val_one I s
theorem num_const (I : Nat → Bool) (s : Gr) (n : Nat) (b : Nat → Bool) : num I s (fun j => (b j).toNat) n = sg b n := sg_congr fun j _ => val_toNat I s _
end Go.Proofs.Ytepafgmiloncgaa
