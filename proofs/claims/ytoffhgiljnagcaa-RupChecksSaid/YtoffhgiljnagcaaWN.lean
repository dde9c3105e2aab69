/- Contracts: add, where nothing is settled: in memory. -/
import Derived.Test.YtoffhgiljnagcaaWB
import Derived.Test.YtoffhgiljnagcaaWE
import Derived.Test.YtoffhgiljnagcaaWI
import Derived.Test.YtoffhgiljnagcaaWM
import Derived.Test.YtoffhgiljnagcaaZa
namespace Go.Proofs.Ytoffhgiljnagcaa
open Go.RowKit Go.Lib Go.Maps

/-- A block that lies apart has turned. -/
theorem Tn.foreign {K M : Nat} {w0 w w' : World} {L0 L : Tag → Value} {s : St} (T : Tn K M w0 L0 w L s) {g : Nat} (hf : Fr (fun b => b = g) w w') (hg : ¬ Bl K M L g) (h0 : w0.heap.size ≤ g) : Tn K M w0 L0 w' L s :=
  ⟨T.mem.keep hf fun b hb e => hg (e ▸ hb), T.fr.then hf fun k e => .inr (by rw [e]; exact h0), T.gr⟩
/-- A slice that was made becomes a clause's. -/
def St.adp (s : St) (n : Nat) (f : Nat → Nat) : St := { s with ln := fun a => if a = s.nc then n else s.ln a, lt := fun a i => if a = s.nc then f i else s.lt a i }
theorem Tn.adopt {K M : Nat} {w0 w : World} {L0 L : Tag → Value} {s : St} (T : Tn K M w0 L0 w L s) {g n : Nat} {f : Nat → Nat} (hr : w.rowIs g 71 n fun j => .int .i32 (f j)) (hn : n ≤ 100000) (hg : ¬ Bl K M L g) (h0 : w0.heap.size ≤ g) :
    Tn K M w0 L0 w (up L (.cl s.nc) (.slice (some ⟨g, 0, none⟩) n n)) (s.adp n f) := by
  have h := T.mem
  have hgK : g ≠ K := fun e => hg (.inl e)
  have hgM : g ≠ M := fun e => hg (.inr (.inl e))
  have hgt : ∀ t, (L t).ownBlock ≠ some g := fun t e => hg (.inr (.inr ⟨t, e⟩))
  refine ⟨⟨h.hd.congr fun j hj => ?_, h.mp, fun t => ?_, fun l hl => h.farw l hl, h.km, fun t e => ?_, fun t e => ?_, fun t t' b e e' => ?_⟩, T.fr, fun b hb => ?_⟩
  · match j, hj with
    | 0, _ | 1, _ | 2, _ | 3, _ | 4, _ | 5, _ | 6, _ | 7, _ | 8, _ | 9, _ => rfl
  · by_cases e : t = .cl s.nc
    · subst e
      rw [up_same]
      have e1 : nOf (s.adp n f) (.cl s.nc) = n := if_pos rfl
      rw [e1]
      refine .inr ⟨g, n, _, rfl, Nat.le_refl _, by unfold maxLen; omega, by show w.rowIs g 71 (n * 1) _; rw [Nat.mul_one]; exact hr, fun j _ => ?_⟩
      show Value.int .i32 (f j) = .int .i32 ((if s.nc = s.nc then f j else s.lt s.nc j : Nat))
      rw [if_pos rfl]
    · rw [up_other _ e]
      have h1 := h.row t
      have e1 : nOf (s.adp n f) t = nOf s t := by
        cases t
        case cl a => exact if_neg (fun e2 => e (by rw [e2]))
        all_goals rfl
      rw [e1]
      refine h1.congr fun j hj => ?_
      cases t
      case cl a =>
        show Value.int .i32 (s.lt a j) = .int .i32 ((if a = s.nc then f j else s.lt a j : Nat))
        rw [if_neg (fun e2 => e (by rw [e2]))]
      case cls =>
        have hj' : j < s.nc * 2 := hj
        show (if j % 2 = 0 then L (.cl (j / 2)) else .bool (s.gone (j / 2))) = if j % 2 = 0 then up L (.cl s.nc) _ (.cl (j / 2)) else .bool (s.gone (j / 2))
        rw [up_other _ (fun e2 => by injection e2 with e3; omega)]
      all_goals rfl
  · by_cases e1 : t = .cl s.nc
    · subst e1; rw [up_same] at e; cases e; exact hgK rfl
    · rw [up_other _ e1] at e; exact h.kb t e
  · by_cases e1 : t = .cl s.nc
    · subst e1; rw [up_same] at e; cases e; exact hgM rfl
    · rw [up_other _ e1] at e; exact h.mb t e
  · by_cases e1 : t = .cl s.nc <;> by_cases e2 : t' = .cl s.nc
    · rw [e1, e2]
    · subst e1; rw [up_same] at e; rw [up_other _ e2] at e'; cases e; exact absurd e' (hgt t')
    · subst e2; rw [up_same] at e'; rw [up_other _ e1] at e; cases e'; exact absurd e (hgt t)
    · rw [up_other _ e1] at e; rw [up_other _ e2] at e'; exact h.dj t t' b e e'
  · rcases hb with e | e | ⟨t, e⟩
    · exact T.gr b (.inl e)
    · exact T.gr b (.inr (.inl e))
    · by_cases e1 : t = .cl s.nc
      · subst e1; rw [up_same] at e; cases e; exact .inr h0
      · rw [up_other _ e1] at e; exact T.gr b (.inr (.inr ⟨t, e⟩))
theorem info75 : (Try.prog.info? 75).map (fun i => (i.zero, i.size, i.bytes)) = some (some (.agg #[.slice none 0 0, .bool false]), 2, 32) := by kernel_rfl
/-- It is appended to the clauses. -/
theorem app_cls {K M : Nat} {w0 w1 : World} {L0 L : Tag → Value} {s : St} {n : Nat} {f : Nat → Nat} {hd : Value} (T : Tn K M w0 L0 w1 (up L (.cl s.nc) hd) (s.adp n f)) {a : Option Addr} {q : Nat} (hL : L .cls = .slice a s.nc q) (tmp : Obj) :
    (∀ W : World, W.heap = (w1.alloc tmp).heap → W.ownsRow 0 75 2 (.slice a s.nc q) s.nc (lst (fOf (up L (.cl s.nc) hd) (s.adp n f) .cls) (s.nc * 2))) ∧
    ∀ (W : World) (v : Value) (w2 : World), w2.ownsRow 0 75 2 v (s.nc + 1) (lst (fOf (up L (.cl s.nc) hd) (s.adp n f) .cls) (s.nc * 2) ++ [hd, .bool false]) → W.grownBy w2 (Value.slice a s.nc q).ownBlock → (v.ownBlock = (Value.slice a s.nc q).ownBlock ∨ v.ownBlock = some W.heap.size) →
      W.heap = (w1.alloc tmp).heap → W.os = w1.os → W.tape = w1.tape → W.output = w1.output →
      (∃ av cv, v = .slice av (s.nc + 1) cv) ∧ w2.rowIs K 67 10 (hdF M (up L (.cl s.nc) hd) (s.adp n f)) ∧ Tn K M w0 L0 (w2.setCell ⟨K, 1, none⟩ v) (up (up L (.cl s.nc) hd) .cls v) (s.newc n f) := by
  have hL' : up L (.cl s.nc) hd .cls = .slice a s.nc q := (up_other _ (by intro e; cases e)).trans hL
  constructor
  · intro W hW
    have := ((T.mem.alloc tmp).row .cls).owns
    rw [hL'] at this
    exact owns_heap this hW
  · intro W v w2 g1 g2 g3 e1 e2 e3 e4
    rw [← hL'] at g2 g3
    have g2' := grown_same (w0 := w1.alloc tmp) g2 e1 e2 e3 e4
    rw [e1] at g3
    refine ⟨owns_shape g1, T.mem.app_head g2', T.trans (T.mem.app (τ := .cls) (i := 1) (news := [hd, .bool false]) (m := 1) (s.newc n f) g1 g2' g3 rfl (fun j hj => ?_) (fun j hj => ?_) (fun t ht => ?_) (fun j hj => ?_) ⟨rfl, rfl⟩ (fun l hl => (up_other v (by intro e; cases e)).trans (T.mem.farw l hl)))⟩
    · have hj' : j < 2 := hj
      show _ = some (if (s.nc * 2 + j) % 2 = 0 then up (up L (.cl s.nc) hd) .cls v (.cl ((s.nc * 2 + j) / 2)) else .bool (if (s.nc * 2 + j) / 2 = s.nc then false else s.gone ((s.nc * 2 + j) / 2)))
      match j, hj' with
      | 0, _ => rw [if_pos (by omega), show (s.nc * 2 + 0) / 2 = s.nc by omega, up_other _ (by intro e; cases e), up_same]; rfl
      | 1, _ => rw [if_neg (by omega), show (s.nc * 2 + 1) / 2 = s.nc by omega, if_pos rfl]; rfl
    · have hj' : j < s.nc * 2 := hj
      show (if j % 2 = 0 then up (up L (.cl s.nc) hd) .cls v (.cl (j / 2)) else .bool (if j / 2 = s.nc then false else s.gone (j / 2))) = if j % 2 = 0 then up L (.cl s.nc) hd (.cl (j / 2)) else .bool (s.gone (j / 2))
      rw [up_other _ (by intro e; cases e), if_neg (by omega : ¬ j / 2 = s.nc)]
    · refine ⟨by cases t <;> first | rfl | exact absurd rfl ht, fun j _ => by cases t <;> first | rfl | exact absurd rfl ht⟩
    · match j, hj with
      | 0, _ | 1, _ | 2, _ | 3, _ | 4, _ | 5, _ | 6, _ | 7, _ | 8, _ | 9, _ => rfl
/-- A short clause's number is appended. -/
theorem app_sho {K M : Nat} {w0 w1 : World} {L0 L : Tag → Value} {s : St} {x : Nat} (T : Tn K M w0 L0 w1 L s) {a : Option Addr} {q : Nat} (hL : L .sho = .slice a s.ns q) (tmp : Obj) :
    (∀ W : World, W.heap = (w1.alloc tmp).heap → W.ownsRow 0 48 1 (.slice a s.ns q) s.ns (lst (fOf L s .sho) (s.ns * 1))) ∧
    ∀ (W : World) (v : Value) (w2 : World), w2.ownsRow 0 48 1 v (s.ns + 1) (lst (fOf L s .sho) (s.ns * 1) ++ [.int .i32 x]) → W.grownBy w2 (Value.slice a s.ns q).ownBlock → (v.ownBlock = (Value.slice a s.ns q).ownBlock ∨ v.ownBlock = some W.heap.size) →
      W.heap = (w1.alloc tmp).heap → W.os = w1.os → W.tape = w1.tape → W.output = w1.output →
      (∃ av cv, v = .slice av (s.ns + 1) cv) ∧ w2.rowIs K 67 10 (hdF M L s) ∧ Tn K M w0 L0 (w2.setCell ⟨K, 2, none⟩ v) (up L .sho v) (s.shr x) := by
  constructor
  · intro W hW
    have := ((T.mem.alloc tmp).row .sho).owns
    rw [hL] at this
    exact owns_heap this hW
  · intro W v w2 g1 g2 g3 e1 e2 e3 e4
    rw [← hL] at g2 g3
    have g2' := grown_same (w0 := w1.alloc tmp) g2 e1 e2 e3 e4
    rw [e1] at g3
    refine ⟨owns_shape g1, T.mem.app_head g2', T.trans (T.mem.app (τ := .sho) (i := 2) (news := [.int .i32 x]) (m := 1) (s.shr x) g1 g2' g3 rfl (fun j hj => ?_) (fun j hj => ?_) (fun t ht => ?_) (fun j hj => ?_) ⟨rfl, rfl⟩ (fun l hl => (up_other v (by intro e; cases e)).trans (T.mem.farw l hl)))⟩
    · have hj' : j < 1 := hj
      obtain rfl : j = 0 := by omega
      show some (Value.int .i32 x) = some (.int .i32 ((if s.ns * 1 + 0 = s.ns then x else s.sh (s.ns * 1 + 0) : Nat)))
      rw [if_pos (by omega)]
    · have hj' : j < s.ns * 1 := hj
      show Value.int .i32 ((if j = s.ns then x else s.sh j : Nat)) = .int .i32 (s.sh j)
      rw [if_neg (by omega)]
    · refine ⟨by cases t <;> first | rfl | exact absurd rfl ht, fun j _ => by cases t <;> first | rfl | exact absurd rfl ht⟩
    · match j, hj with
      | 0, _ | 1, _ | 2, _ | 3, _ | 4, _ | 5, _ | 6, _ | 7, _ | 8, _ | 9, _ => rfl
end Go.Proofs.Ytoffhgiljnagcaa
