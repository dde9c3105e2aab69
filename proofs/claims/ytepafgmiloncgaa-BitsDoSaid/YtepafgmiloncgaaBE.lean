/- Contracts: minus, Add, Sub. -/
import Derived.Test.YtepafgmiloncgaaBD
import Derived.Test.YtepafgmiloncgaaMD
namespace Go.Proofs.Ytepafgmiloncgaa
open Go.RowKit Go.Lib Go.Maps
set_option maxRecDepth 100000

theorem HasE.weak {w : World} {B : Nat → Prop} {a : Option Addr} {n : Nat} {g : Nat → Nat} (h : HasE w B a n g) : HasE w (fun _ => False) a n g := by
  rcases h with h | ⟨b, off, h1, h2, _, h4⟩
  · exact .inl h
  · exact .inr ⟨b, off, h1, h2, id, h4⟩
theorem Vc.weak {w : World} {B : Nat → Prop} {v : Value} {n : Nat} {g : Nat → Nat} (h : Vc w B v n g) : Vc w (fun _ => False) v n g := by
  obtain ⟨a, l, c, h0, hl, ⟨h1, h2, h3, h4⟩ | h⟩ := h
  · exact ⟨a, l, c, h0, hl, .inl ⟨h1, h2, h3, h4.weak⟩⟩
  · exact ⟨a, l, c, h0, hl, .inr h⟩
section
variable {w w1 w2 : World} {G M b : Nat} {v iv v1 iv1 v2 iv2 : Value} {s s1 s2 : Gr} {f f' : Nat → Nat}
/-- minus: a difference, and whether the first is not less, without signs. -/
def MinR (w : World) (G M : Nat) (v iv : Value) (s : Gr) (n : Nat) (g h : Nat → Nat) (e : Ending) (w' : World) : Prop :=
  ∃ (b cy : Nat) (f : Nat → Nat) (v' iv' : Value) (t : Gr), e = .returned (.tuple #[.slice (some ⟨b, 0, none⟩) n n, .int .i64 (cy : Nat)]) ∧ Hid (GmT G M w v iv w' v' iv' t) ∧ Hid (Nv w w' (Bg G M v' iv') b n f) ∧ Hid (SumIs s t (7 * n) n f cy (fun I => un (bv I s g) n + un (fun j => !bv I s h j) n + 1))
set_option maxHeartbeats 2000000 in
theorem minus_any (hG : Gm w G M v iv s) (hs : s.n ≤ 88000) {a1 a2 : Option Addr} {n c1 c2 : Nat} (hn : n ≤ 16) {g h : Nat → Nat} (h1 : HasE w (Bg G M v iv) a1 n g) (h2 : HasE w (Bg G M v iv) a2 n h) (hg : Vo s n g) (hh : Vo s n h) :
    Calls Try.prog 50 #[.pointer (some ⟨G, 0, none⟩), .slice a1 n c1, .slice a2 n c2] w (MinR w G M v iv s n g h) := by
  have hmk := fun W => make_ints n (by omega) W
  have H2 := Lib.hid h2
  have HR0 := Lib.hid (show Nw w (w.alloc (.cells (madeCells #[.int .i64 0] n) 3)) w.heap.size n (fun j => if j < 0 then nt (h j) else 0) from ⟨(Below.refl w.heap.size w).alloc (Nat.le_refl _) _, Nat.le_refl _, World.rowIs.congr (World.rowIs_made w (.int .i64 0) n 3) fun j _ => by simp⟩)
  have HP := Lib.hid (show ∀ wr, Nw w wr w.heap.size n (fun j => nt (h j)) → Calls Try.prog 49 #[.pointer (some ⟨G, 0, none⟩), .slice a1 n c1, .slice (some ⟨w.heap.size, 0, none⟩) n n, .int .i64 (1 : Nat)] wr (MinR w G M v iv s n g h) from fun wr N => by
    have := plus_any (c1 := c1) (c2 := n) (hG.below N.bel) hs hn (h1.below N.bel) (N.has (fun k e => hG.lt e)) hg (fun j hj => nt_lt (hh j hj)) (c0 := 1) (by omega)
    refine this.mono fun e w' ⟨b, cy, f, v', iv', t, he, T, N', S⟩ => ⟨b, cy, f, v', iv', t, he, Lib.hid ((hG.refl.below N.bel).trans T.out), Lib.hid (N'.out.pre N.bel.size), Lib.hid ⟨S.out.lay, S.out.vo, S.out.lt, fun I => ?_⟩⟩
    rw [S.out.val I, val_one, un_bv_not]
    rfl)
  have HH := Lib.hid (show ∀ k, k < n → h k ≤ 1000000 from fun k hk => by have := hh k hk; omega)
  clear hG h1 h2 hg hh
  go_enter Try.func50, Try.ntmps50
  go_wp2
  go_loopw [15] (fun i wr => ∃ (k : Nat), k ≤ n ∧ i = .int .i64 k ∧ Hid (Nw w wr w.heap.size n (fun j => if j < k then nt (h j) else 0))) (fun i _ => n - (intOf i).toNat)
  case atStart => exact ⟨0, Nat.zero_le _, rfl, HR0⟩
  case round =>
    obtain ⟨k, hk, rfl, HN⟩ := hrel
    by_cases hlt : k < n
    · have hltI : (k : Int) < (n : Int) := by omega
      rcases H2.out.below HN.out.bel with e | ⟨b2, o2, rfl, hb2, nb2, hc2⟩
      · omega
      have x2 := hc2 k hlt
      have hle := HH.out k hlt
      have cr := HN.out.row.cell hlt
      have fr := HN.out.row.frozen k
      have HNo := Lib.hid (not_any (h k) (by omega) wr)
      have HNN := Lib.hid (show Nw w (wr.setCell ⟨w.heap.size, k, none⟩ (.int .i64 (nt (h k) : Nat))) w.heap.size n (fun j => if j < k + 1 then nt (h j) else 0) from ⟨HN.out.bel.setCell (p := ⟨w.heap.size, k, none⟩) (Nat.le_refl _) _, Nat.le_refl _, World.rowIs.congr (HN.out.row.set k (.int .i64 (nt (h k) : Nat))) fun j hj => by
        by_cases e : j = k
        · subst e; simp
        · rw [if_neg e]
          by_cases e2 : j < k
          · simp [e2, show j < k + 1 by omega]
          · simp [e2, show ¬ j < k + 1 by omega]⟩)
      clear hc2
      generalize nt (h k) = nk at *
      generalize h k = hk' at *
      go_wp2_with (go_at_call 41; refine HNo.out.mono ?_; rintro e w' ⟨rfl, rfl⟩)
      go_roundw
      case rel => exact ⟨k + 1, by omega, by go_num, HNN⟩
      case measure => simp [intOf]; omega
    · obtain rfl : k = n := by omega
      have hltI : ¬ (k : Int) < (k : Int) := by omega
      have HPP := Lib.hid (HP.out wr (HN.out.congr fun j hj => if_pos hj))
      clear hlt
      go_wp2_with (go_at_call 49; refine HPP.out.mono ?_; rintro e w' ⟨b, cy, f, v', iv', t, rfl, T, N, S⟩)
      go_ret2
      exact ⟨_, _, f, v', iv', t, rfl, T, N, S⟩
/-- A vector is answered, by its number. -/
def NuR (w : World) (G M : Nat) (v iv : Value) (s : Gr) (m n : Nat) (x : (Nat → Bool) → Int) (e : Ending) (w' : World) : Prop :=
  ∃ (b : Nat) (f : Nat → Nat) (v' iv' : Value) (t : Gr), e = .returned (.slice (some ⟨b, 0, none⟩) n n) ∧ Hid (GmT G M w v iv w' v' iv' t) ∧ Hid (Nv w w' (Bg G M v' iv') b n f) ∧ Hid (Nu s t m n f x)
theorem NuR.congr {m n : Nat} {x y : (Nat → Bool) → Int} {e : Ending} {w' : World} (h : NuR w G M v iv s m n x e w') (hx : ∀ I, x I = y I) : NuR w G M v iv s m n y e w' := by
  obtain ⟨b, f, v', iv', t, he, T, N, U⟩ := h
  exact ⟨b, f, v', iv', t, he, T, N, Lib.hid (U.out.congr hx)⟩
theorem NuR.le {m k n : Nat} {x : (Nat → Bool) → Int} {e : Ending} {w' : World} (h : NuR w G M v iv s m n x e w') (hx : m ≤ k) : NuR w G M v iv s k n x e w' := by
  obtain ⟨b, f, v', iv', t, he, T, N, U⟩ := h
  exact ⟨b, f, v', iv', t, he, T, N, Lib.hid (U.out.le hx)⟩
set_option maxHeartbeats 1000000 in
/-- Add -/
theorem add_any (hG : Gm w G M v iv s) (hs : s.n ≤ 87000) {va vb : Value} {n m : Nat} {g h : Nat → Nat} (ha : Vc w (Bg G M v iv) va n g) (hb : Vc w (Bg G M v iv) vb m h) (hg : Vo s n g) (hh : Vo s m h) :
    Calls Try.prog 29 #[.pointer (some ⟨G, 0, none⟩), va, vb] w (NuR w G M v iv s (7 * max n m) (max n m) (fun I => trm (max n m) (num I s g n + num I s h m))) := by
  have hn := ha.len
  have hm := hb.len
  have HL := Lib.hid (level_any ha.weak hb.weak)
  unfold LevR at HL
  obtain ⟨N, hN⟩ : ∃ N, N = max n m := ⟨_, rfl⟩
  rw [← hN] at HL ⊢
  have HP := Lib.hid (show ∀ w1 b1 b2, Nw w w1 b1 N (extv n g) ∧ Nw w w1 b2 N (extv m h) ∧ b1 < b2 → Calls Try.prog 49 #[.pointer (some ⟨G, 0, none⟩), .slice (some ⟨b1, 0, none⟩) N N, .slice (some ⟨b2, 0, none⟩) N N, .int .i64 (0 : Nat)] w1 (fun e w' => ∃ (b cy : Nat) (f : Nat → Nat) (v' iv' : Value) (t : Gr), e = .returned (.tuple #[.slice (some ⟨b, 0, none⟩) N N, .int .i64 (cy : Nat)]) ∧ Hid (GmT G M w v iv w' v' iv' t) ∧ Hid (Nv w w' (Bg G M v' iv') b N f) ∧ Hid (Nu s t (7 * N) N f (fun I => trm N (num I s g n + num I s h m)))) from fun w1 b1 b2 ⟨N1, N2, _⟩ => by
    have := plus_any (c1 := N) (c2 := N) (hG.below N1.bel) (by omega) (by omega) (N1.has (fun k e => hG.lt e)) (N2.has (fun k e => hG.lt e)) (hg.ext (by omega)) (hh.ext (by omega)) (c0 := 0) (by omega)
    exact this.mono fun e w' ⟨b, cy, f, v', iv', t, he, T, N', S⟩ => ⟨b, cy, f, v', iv', t, he, Lib.hid ((hG.refl.below N1.bel).trans T.out), Lib.hid (N'.out.pre N1.bel.size), Lib.hid (S.out.add (by omega) (by omega) hN)⟩)
  clear hG ha hb hg hh hN hs
  go_enter Try.func29, Try.ntmps29
  go_wp2_with (first
    | (go_at_call 39; refine HL.out.mono ?_; rintro e w1 ⟨b1, b2, rfl, H1⟩)
    | (go_at_call 49; refine (HP.out _ _ _ H1.out).mono ?_; rintro e w' ⟨b, cy, f, v', iv', t, rfl, T, N, S⟩))
  go_ret
  exact ⟨_, f, v', iv', t, rfl, T, N, S⟩
set_option maxHeartbeats 1000000 in
/-- Sub -/
theorem sub_any (hG : Gm w G M v iv s) (hs : s.n ≤ 87000) {va vb : Value} {n m : Nat} {g h : Nat → Nat} (ha : Vc w (Bg G M v iv) va n g) (hb : Vc w (Bg G M v iv) vb m h) (hg : Vo s n g) (hh : Vo s m h) :
    Calls Try.prog 30 #[.pointer (some ⟨G, 0, none⟩), va, vb] w (NuR w G M v iv s (7 * max n m) (max n m) (fun I => trm (max n m) (num I s g n - num I s h m))) := by
  have hn := ha.len
  have hm := hb.len
  have HL := Lib.hid (level_any ha.weak hb.weak)
  unfold LevR at HL
  obtain ⟨N, hN⟩ : ∃ N, N = max n m := ⟨_, rfl⟩
  rw [← hN] at HL ⊢
  have HP := Lib.hid (show ∀ w1 b1 b2, Nw w w1 b1 N (extv n g) ∧ Nw w w1 b2 N (extv m h) ∧ b1 < b2 → Calls Try.prog 50 #[.pointer (some ⟨G, 0, none⟩), .slice (some ⟨b1, 0, none⟩) N N, .slice (some ⟨b2, 0, none⟩) N N] w1 (fun e w' => ∃ (b cy : Nat) (f : Nat → Nat) (v' iv' : Value) (t : Gr), e = .returned (.tuple #[.slice (some ⟨b, 0, none⟩) N N, .int .i64 (cy : Nat)]) ∧ Hid (GmT G M w v iv w' v' iv' t) ∧ Hid (Nv w w' (Bg G M v' iv') b N f) ∧ Hid (Nu s t (7 * N) N f (fun I => trm N (num I s g n - num I s h m)))) from fun w1 b1 b2 ⟨N1, N2, _⟩ => by
    have := minus_any (c1 := N) (c2 := N) (hG.below N1.bel) (by omega) (by omega) (N1.has (fun k e => hG.lt e)) (N2.has (fun k e => hG.lt e)) (hg.ext (by omega)) (hh.ext (by omega))
    exact this.mono fun e w' ⟨b, cy, f, v', iv', t, he, T, N', S⟩ => ⟨b, cy, f, v', iv', t, he, Lib.hid ((hG.refl.below N1.bel).trans T.out), Lib.hid (N'.out.pre N1.bel.size), Lib.hid (S.out.sub (by omega) (by omega) hN)⟩)
  clear hG ha hb hg hh hN hs
  go_enter Try.func30, Try.ntmps30
  go_wp2_with (first
    | (go_at_call 39; refine HL.out.mono ?_; rintro e w1 ⟨b1, b2, rfl, H1⟩)
    | (go_at_call 50; refine (HP.out _ _ _ H1.out).mono ?_; rintro e w' ⟨b, cy, f, v', iv', t, rfl, T, N, S⟩))
  go_ret
  exact ⟨_, f, v', iv', t, rfl, T, N, S⟩
end
end Go.Proofs.Ytepafgmiloncgaa
