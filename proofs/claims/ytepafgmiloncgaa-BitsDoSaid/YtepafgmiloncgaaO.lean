/- Contracts: All, Any. -/
import Derived.Test.YtepafgmiloncgaaN
namespace Go.Proofs.Ytepafgmiloncgaa
open Go.RowKit Go.Lib Go.Maps
set_option maxRecDepth 100000

/-- A list of edges that is no part of what B holds. -/
def HasE (w : World) (B : Nat → Prop) (a : Option Addr) (n : Nat) (g : Nat → Nat) : Prop :=
  n = 0 ∨ ∃ b off, a = some ⟨b, off, none⟩ ∧ b < w.heap.size ∧ ¬ B b ∧ ∀ j, j < n → w.cell? ⟨b, off + j, none⟩ = some (.int .i64 (g j : Nat))
theorem HasE.next {w w' : World} {G M : Nat} {v iv v' iv' : Value} {s : Gr} {a : Option Addr} {n : Nat} {g : Nat → Nat} (h : HasE w (Bg G M v iv) a n g) (T : GmT G M w v iv w' v' iv' s) : HasE w' (Bg G M v' iv') a n g := by
  rcases h with h | ⟨b, off, ha, hb, hB, hc⟩
  · exact .inl h
  · refine .inr ⟨b, off, ha, Nat.lt_of_lt_of_le hb T.fr.size, fun e => (T.own b e).elim hB fun e => by omega, fun j hj => ?_⟩
    rw [← hc j hj]
    exact World.cell?_of_block (T.fr.block b hb hB)
section
variable {w : World} {G M : Nat} {v iv : Value} {s : Gr}
theorem allN_succ {g : Nat → Nat} {k : Nat} (hs : s.Ok) (hg : ∀ j, j < k + 1 → g j < 2 * (s.n + 1)) : allN s (fun j => (g j : Int)) (k + 1) = andN (allN s (fun j => (g j : Int)) k).2 (allN s (fun j => (g j : Int)) k).1 (g k) := by
  have ih := allN_is (I := fun _ => false) hs (f := fun j => (g j : Int)) (g := g) (k := k) fun j hj => ⟨rfl, hg j (by omega)⟩
  have hn := ih.ext.n
  have hk := hg k (by omega)
  show andN _ _ (edg _ (g k : Int)) = _
  rw [edg_of (by omega)]
theorem anyN_succ {g : Nat → Nat} {k : Nat} (hs : s.Ok) (hg : ∀ j, j < k + 1 → g j < 2 * (s.n + 1)) : anyN s (fun j => (g j : Int)) (k + 1) = orN (anyN s (fun j => (g j : Int)) k).2 (anyN s (fun j => (g j : Int)) k).1 (g k) := by
  have ih := anyN_is (I := fun _ => false) hs (f := fun j => (g j : Int)) (g := g) (k := k) fun j hj => ⟨rfl, hg j (by omega)⟩
  have hn := ih.ext.n
  have hk := hg k (by omega)
  show orN _ _ (edg _ (g k : Int)) = _
  rw [edg_of (by omega)]
set_option maxHeartbeats 1000000 in
/-- Any -/
theorem any_any (h : Gm w G M v iv s) {n : Nat} (hn : s.n + n ≤ 90000) {a : Option Addr} {c : Nat} {g : Nat → Nat} (ha : HasE w (Bg G M v iv) a n g) (hg : ∀ j, j < n → g j < 2 * (s.n + 1)) :
    Calls Try.prog 44 #[.pointer (some ⟨G, 0, none⟩), .slice a n c] w (Lays w G M v iv (anyN s (fun j => (g j : Int)) n)) := by
  have HK := Lib.hid (fun k (hk : k ≤ n) => anyN_is (I := fun _ => false) h.ok (f := fun j => (g j : Int)) (g := g) (k := k) fun j hj => ⟨rfl, hg j (by omega)⟩)
  have HU := Lib.hid (fun k (hk : k < n) => anyN_succ (k := k) h.ok (fun j hj => hg j (by omega)))
  have HG := Lib.hid hg
  have HA := Lib.hid ha
  have HT := Lib.hid h.refl
  obtain ⟨F, hF⟩ : ∃ F, F = fun k => anyN s (fun j => (g j : Int)) k := ⟨_, rfl⟩
  have h0 : F 0 = (0, s) := by rw [hF]; rfl
  rw [show anyN s (fun j => (g j : Int)) n = F n by rw [hF]]
  replace HK : Hid (∀ k, k ≤ n → LayIs (fun _ => false) s (anyB (fun j => val (fun _ => false) s (g j)) k) k (F k)) := by rw [hF]; exact HK
  replace HU : Hid (∀ k, k < n → F (k + 1) = orN (F k).2 (F k).1 (g k)) := by rw [hF]; exact HU
  have H0 := Lib.hid h0
  clear hF h ha hg h0
  go_enter Try.func44, Try.ntmps44
  go_wp2
  go_loopw [5, 10] (fun x i wr => ∃ (k : Nat) (v' iv' : Value), k ≤ n ∧ x = .int .i64 ((F k).1 : Nat) ∧ i = .int .i64 k ∧ Hid (GmT G M w v iv wr v' iv' (F k).2)) (fun _ i _ => n - (intOf i).toNat)
  case atStart => exact ⟨0, v, iv, Nat.zero_le _, by rw [H0.out]; rfl, rfl, Lib.hid (by rw [H0.out]; exact HT.out)⟩
  case round =>
    obtain ⟨k, v', iv', hk, rfl, rfl, HR⟩ := hrel
    by_cases hlt : k < n
    · have hltI : (k : Int) < (n : Int) := by omega
      have hK := HK.out k hk
      have hn1 := hK.ext.n
      have hn2 := hK.n
      have hgk := HG.out k hlt
      have HN := Lib.hid (or_in HR.out.gm (by omega) (F k).1 (g k) hK.lt (by omega))
      have HE := HA.out.next HR.out
      rcases HE with e | ⟨b, off, rfl, hb, _, hc⟩
      · omega
      have xc := hc k hlt
      have HV := Lib.hid (HU.out k hlt)
      clear hc hK hn1 hn2 hgk
      generalize (F k).1 = f1 at *
      go_wp2_with (go_at_call 43; refine HN.out.mono ?_; rintro e w2 ⟨rfl, v2, iv2, H2⟩)
      go_roundw
      case rel => exact ⟨k + 1, v2, iv2, by omega, by rw [HV.out], by go_num, Lib.hid (by rw [HV.out]; exact HR.out.trans H2.out)⟩
      case measure => simp [intOf]; omega
    · obtain rfl : k = n := by omega
      have hltI : ¬ (k : Int) < (k : Int) := by omega
      clear hlt
      go_wp2
      go_ret
      exact ⟨rfl, v', iv', HR⟩
end
end Go.Proofs.Ytepafgmiloncgaa
