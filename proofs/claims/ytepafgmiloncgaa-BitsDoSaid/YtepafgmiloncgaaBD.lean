/- Contracts: level, plus, minus. -/
import Derived.Test.YtepafgmiloncgaaBC
import Derived.Test.YtepafgmiloncgaaMC
namespace Go.Proofs.Ytepafgmiloncgaa
open Go.RowKit Go.Lib Go.Maps
set_option maxRecDepth 100000

section
variable {w w' : World} {B B' : Nat → Prop} {v : Value} {a : Option Addr} {n c : Nat} {g : Nat → Nat}
/-- Two vectors that were made, of one width. -/
def LevR (w : World) (n m : Nat) (g h : Nat → Nat) (e : Ending) (w' : World) : Prop :=
  ∃ b1 b2, e = .returned (.tuple #[.slice (some ⟨b1, 0, none⟩) (max n m) (max n m), .slice (some ⟨b2, 0, none⟩) (max n m) (max n m)]) ∧ Hid (Nw w w' b1 (max n m) (extv n g) ∧ Nw w w' b2 (max n m) (extv m h) ∧ b1 < b2)
set_option maxHeartbeats 1000000 in
theorem level_any {va vb : Value} {m : Nat} {h : Nat → Nat} (ha : Vc w (fun _ => False) va n g) (hb : Vc w (fun _ => False) vb m h) :
    Calls Try.prog 39 #[va, vb] w (LevR w n m g h) := by
  have hn := ha.len
  have hm := hb.len
  unfold LevR
  obtain ⟨N, hN⟩ : ∃ N, N = max n m := ⟨_, rfl⟩
  rw [← hN]
  have hN1 : 1 ≤ N ∧ N ≤ 16 := by omega
  have hlim := lim_of hN1
  have m1 : (if (n : Int) < (m : Int) then (m : Int) else (n : Int)) = (N : Int) := by rw [hN]; split <;> omega
  have m2 : (if n < m then (m : Int) else (n : Int)) = (N : Int) := by rw [hN]; split <;> omega
  have HVa := Lib.hid (vector_any ha (fun _ e => e.elim))
  have HVb := Lib.hid (show ∀ W, Below w.heap.size w W → Calls Try.prog 45 #[vb] W fun e w' => ∃ a c, e = .returned (.slice a m c) ∧ Hid (Below W.heap.size W w' ∧ HasE w' (fun _ => False) a m h) from fun W hW => vector_any (hb.below hW) (fun _ e => e.elim))
  have HWa := Lib.hid (show ∀ W, Below w.heap.size w W → Calls Try.prog 26 #[va, .int .i64 (N : Nat)] W fun e w' => ∃ b, e = .returned (.slice (some ⟨b, 0, none⟩) N N) ∧ Hid (Nw W w' b N (extv n g)) from fun W hW => by
    have := wide_any (ha.below hW) (N : Int)
    rw [hlim] at this
    exact this)
  have HWb := Lib.hid (show ∀ W, Below w.heap.size w W → Calls Try.prog 26 #[vb, .int .i64 (N : Nat)] W fun e w' => ∃ b, e = .returned (.slice (some ⟨b, 0, none⟩) N N) ∧ Hid (Nw W w' b N (extv m h)) from fun W hW => by
    have := wide_any (hb.below hW) (N : Int)
    rw [hlim] at this
    exact this)
  clear ha hb hN hlim
  go_enter Try.func39, Try.ntmps39
  go_wp2_with (first
    | (go_at_call 26; refine (HWb.out _ (HB2.out.trans (H3.out.bel.mono HB2.out.size))).mono ?_; rintro e w4 ⟨b4, rfl, H4⟩)
    | (go_at_call 26; refine (HWa.out _ HB2.out).mono ?_; rintro e w3 ⟨b3, rfl, H3⟩)
    | (go_at_call 45; refine (HVb.out _ H1.out.1).mono ?_; rintro e w2 ⟨a2, c2, rfl, H2⟩; have HB2 := Lib.hid (H1.out.1.trans (H2.out.1.mono H1.out.1.size)))
    | (go_at_call 45; refine HVa.out.mono ?_; rintro e w1 ⟨a1, c1, rfl, H1⟩))
  go_ret2
  refine ⟨_, _, rfl, Lib.hid ⟨(H3.out.below H4.out.bel).pre HB2.out, H4.out.pre (HB2.out.trans (H3.out.bel.mono HB2.out.size)), ?_⟩⟩
  have := H3.out.row.lt
  have := H4.out.new
  omega
end
/-- A vector that was made since w, beside a graph. -/
structure Nv (w w' : World) (B : Nat → Prop) (b n : Nat) (f : Nat → Nat) : Prop where
  new : w.heap.size ≤ b
  nb : ¬ B b
  row : w'.rowIs b 3 n (fun j => .int .i64 (f j : Nat))
section
variable {w w1 w2 : World} {G M b n : Nat} {v iv v1 iv1 v2 iv2 : Value} {s s1 s2 : Gr} {f f' : Nat → Nat}
theorem Nv.next (h : Nv w w1 (Bg G M v iv) b n f) (T : GmT G M w1 v iv w2 v2 iv2 s) : Nv w w2 (Bg G M v2 iv2) b n f :=
  ⟨h.new, fun e => (T.own b e).elim h.nb fun e => absurd h.row.lt (by omega), T.fr.rowIs h.row h.nb⟩
theorem Nv.below {B : Nat → Prop} (h : Nv w w1 B b n f) (hb : Below w1.heap.size w1 w2) : Nv w w2 B b n f :=
  ⟨h.new, h.nb, h.row.of_block (hb.block b h.row.lt)⟩
theorem Nv.has {B : Nat → Prop} (h : Nv w w1 B b n f) : HasE w1 B (some ⟨b, 0, none⟩) n f :=
  .inr ⟨b, 0, rfl, h.row.lt, h.nb, fun j hj => by rw [Nat.zero_add]; exact h.row.cell hj⟩
theorem Nv.pre {B : Nat → Prop} {w0 : World} (h : Nv w w1 B b n f) (hs : w0.heap.size ≤ w.heap.size) : Nv w0 w1 B b n f := ⟨Nat.le_trans hs h.new, h.nb, h.row⟩
theorem Nv.congr {B : Nat → Prop} (h : Nv w w1 B b n f) (hf : ∀ j, j < n → f j = f' j) : Nv w w1 B b n f' :=
  ⟨h.new, h.nb, World.rowIs.congr h.row fun j hj => by rw [hf j hj]⟩
theorem Nv.set {B : Nat → Prop} (h : Nv w w1 B b n f) (k x : Nat) : Nv w (w1.setCell ⟨b, k, none⟩ (.int .i64 (x : Nat))) B b n (fun j => if j = k then x else f j) :=
  ⟨h.new, h.nb, World.rowIs.congr (h.row.set k (.int .i64 (x : Nat))) fun j _ => by
    show (if j = k then Value.int .i64 (x : Nat) else _) = Value.int .i64 ((if j = k then x else f j : Nat) : Nat)
    split <;> rfl⟩
theorem Nw.nv (h : Nw w w1 b n f) (g : Gm w G M v iv s) : Nv w w1 (Bg G M v iv) b n f := ⟨h.new, fun e => absurd (g.lt e) (by have := h.new; omega), h.row⟩
theorem GmT.setNew (T : GmT G M w v iv w1 v1 iv1 s) {p : Addr} (hb : ¬ Bg G M v1 iv1 p.block) (hn : w.heap.size ≤ p.block) (x : Value) : GmT G M w v iv (w1.setCell p x) v1 iv1 s :=
  ⟨T.gm.of_block fun k e => Below.heap_setCell _ _ _ _ (fun e2 => hb (e2 ▸ e)), T.fr.setNew hn x, T.own⟩
theorem HasE.set {B : Nat → Prop} {a : Option Addr} {g : Nat → Nat} {w0 : World} (h : HasE w B a n g) (hw : w0.heap.size ≤ w.heap.size) (hk : ∀ b', a = some b' → n = 0 ∨ b'.block ≠ b) (k : Nat) (x : Value) : HasE (w.setCell ⟨b, k, none⟩ x) B a n g := by
  rcases h with h | ⟨b', off, rfl, hb, hB, hc⟩
  · exact .inl h
  · rcases hk _ rfl with e | e
    · exact .inl e
    · refine .inr ⟨b', off, rfl, by simpa using hb, hB, fun j hj => ?_⟩
      rw [← hc j hj]
      exact World.cell?_of_block (Below.heap_setCell _ _ _ _ e)
/-- plus: a sum and its carry. -/
def PlusR (w : World) (G M : Nat) (v iv : Value) (s : Gr) (n : Nat) (g h : Nat → Nat) (c0 : Nat) (e : Ending) (w' : World) : Prop :=
  ∃ (b cy : Nat) (f : Nat → Nat) (v' iv' : Value) (t : Gr), e = .returned (.tuple #[.slice (some ⟨b, 0, none⟩) n n, .int .i64 (cy : Nat)]) ∧ Hid (GmT G M w v iv w' v' iv' t) ∧ Hid (Nv w w' (Bg G M v' iv') b n f) ∧ Hid (SumIs s t (7 * n) n f cy (fun I => un (bv I s g) n + un (bv I s h) n + (val I s c0).toNat))
set_option maxHeartbeats 2000000 in
theorem plus_any (hG : Gm w G M v iv s) (hs : s.n ≤ 88000) {a1 a2 : Option Addr} {n c1 c2 : Nat} (hn : n ≤ 16) {g h : Nat → Nat} (h1 : HasE w (Bg G M v iv) a1 n g) (h2 : HasE w (Bg G M v iv) a2 n h) (hg : Vo s n g) (hh : Vo s n h) {c0 : Nat} (hc0 : c0 < 2 * (s.n + 1)) :
    Calls Try.prog 49 #[.pointer (some ⟨G, 0, none⟩), .slice a1 n c1, .slice a2 n c2, .int .i64 (c0 : Nat)] w (PlusR w G M v iv s n g h c0) := by
  have hmk := fun W => make_ints n (by omega) W
  have H1 := Lib.hid h1
  have H2 := Lib.hid h2
  have HG := Lib.hid hg
  have HH := Lib.hid hh
  have HP0 := Lib.hid (PS.start hG.ok n g h hc0)
  have HB0 : Below w.heap.size w (w.alloc (.cells (madeCells #[.int .i64 0] n) 3)) := (Below.refl w.heap.size w).alloc (Nat.le_refl _) _
  have HT0 := Lib.hid (hG.refl.below HB0)
  have HN0 := Lib.hid (show Nv w (w.alloc (.cells (madeCells #[.int .i64 0] n) 3)) (Bg G M v iv) w.heap.size n (fun _ => 0) from ⟨Nat.le_refl _, fun e => absurd (hG.lt e) (by omega), World.rowIs_made w (.int .i64 0) n 3⟩)
  clear hG h1 h2 hg hh hc0 HB0
  go_enter Try.func49, Try.ntmps49
  go_wp2
  go_loopw [3, 21] (fun x i wr => ∃ (k cy : Nat) (f : Nat → Nat) (v' iv' : Value) (t : Gr), k ≤ n ∧ x = .int .i64 (cy : Nat) ∧ i = .int .i64 k ∧ Hid (GmT G M w v iv wr v' iv' t) ∧ Hid (Nv w wr (Bg G M v' iv') w.heap.size n f) ∧ Hid (PS s t n g h c0 k cy f)) (fun _ i _ => n - (intOf i).toNat)
  case atStart => exact ⟨0, c0, fun _ => 0, v, iv, s, Nat.zero_le _, rfl, rfl, HT0, HN0, HP0⟩
  case round =>
    obtain ⟨k, cy, f, v', iv', t, hk, rfl, rfl, HT, HN, HP⟩ := hrel
    by_cases hlt : k < n
    · have hltI : (k : Int) < (n : Int) := by omega
      have htn := HP.out.lay.n
      have hE1 := H1.out.next HT.out
      have hE2 := H2.out.next HT.out
      rcases hE1 with e | ⟨b1, o1, rfl, hb1, nb1, hc1⟩
      · omega
      rcases hE2 with e | ⟨b2, o2, rfl, hb2, nb2, hc2⟩
      · omega
      have x1 := hc1 k hlt
      have x2 := hc2 k hlt
      have lg := HP.out.lay.lt (HG.out k hlt)
      have lh := HP.out.lay.lt (HH.out k hlt)
      have HTd := Lib.hid (HT.out.below (Below.refl _ wr).drew)
      have HA := Lib.hid (half_any HTd.out.gm (by omega) lg lh)
      have HB := Lib.hid (show ∀ w1 v1 iv1 t1 p, GmT G M wr.drew v' iv' w1 v1 iv1 t1 → Ed t t1 3 p (fun I => val I t (g k) != val I t (h k)) → Calls Try.prog 55 #[.pointer (some ⟨G, 0, none⟩), .int .i64 (p : Nat), .int .i64 (cy : Nat)] w1 (HalfR w1 G M v1 iv1 t1 p cy) from fun w1 v1 iv1 t1 p T E => half_any T.gm (by have := E.lay.n; omega) E.lt (E.lay.lt HP.out.lt))
      have HC := Lib.hid (show ∀ w1 v1 iv1 t1 p q w2 v2 iv2 t2 p2 q2, GmT G M wr.drew v' iv' w1 v1 iv1 t1 → Ed t t1 3 p (fun I => val I t (g k) != val I t (h k)) → Ed t t1 3 q (fun I => val I t (g k) && val I t (h k)) → GmT G M w1 v1 iv1 w2 v2 iv2 t2 → Ed t1 t2 3 p2 (fun I => val I t1 p != val I t1 cy) → Ed t1 t2 3 q2 (fun I => val I t1 p && val I t1 cy) →
          Calls Try.prog 43 #[.pointer (some ⟨G, 0, none⟩), .int .i64 (q : Nat), .int .i64 (q2 : Nat)] w2 fun e w3 => ∃ (o : Nat) (v3 iv3 : Value) (t3 : Gr), e = .returned (.int .i64 (o : Nat)) ∧ w3.cell? ⟨w.heap.size, k, none⟩ = some (.int .i64 (f k : Nat)) ∧ w3.frozen? ⟨w.heap.size, k, none⟩ = false ∧ Hid (GmT G M w v iv (w3.setCell ⟨w.heap.size, k, none⟩ (.int .i64 (p2 : Nat))) v3 iv3 t3) ∧ Hid (Nv w (w3.setCell ⟨w.heap.size, k, none⟩ (.int .i64 (p2 : Nat))) (Bg G M v3 iv3) w.heap.size n (fun j => if j = k then p2 else f j)) ∧ Hid (PS s t3 n g h c0 (k + 1) o (fun j => if j = k then p2 else f j)) from fun w1 v1 iv1 t1 p q w2 v2 iv2 t2 p2 q2 T1 E1 E2 T2 E3 E4 => by
        have hor := or_rel T2.gm (by have := E1.lay.n; have := E3.lay.n; omega) (E3.lay.lt E2.lt) E4.lt
        refine hor.mono fun e w3 ⟨o, v3, iv3, t3, he, T3, E5⟩ => ?_
        have TT := ((HTd.out.trans T1).trans T2).trans T3.out
        have NN := (((HN.out.below (Below.refl _ wr).drew).next T1).next T2).next T3.out
        exact ⟨o, v3, iv3, t3, he, NN.row.cell hlt, NN.row.frozen k, Lib.hid (TT.setNew (p := ⟨w.heap.size, k, none⟩) NN.nb NN.new _), Lib.hid (NN.set k p2), Lib.hid (HP.out.step hlt HG.out HH.out E1 E2 E3 E4 E5.out)⟩)
      clear hc1 hc2 lg lh htn
      generalize g k = gk at *
      generalize h k = hk' at *
      go_wp2
      go_region_with (go_at_call 55; refine HA.out.mono ?_; rintro e w1 ⟨p, q, v1, iv1, t1, rfl, T1, E1, E2⟩)
      all_goals
        go_wp2_with (first
          | (go_at_call 43; refine (HC.out _ _ _ _ _ _ _ _ _ _ _ _ T1.out E1.out E2.out T2.out E3.out E4.out).mono ?_; rintro e w3 ⟨o, v3, iv3, t3, rfl, y1, y2, T3, N3, P3⟩)
          | (go_at_call 55; refine (HB.out _ _ _ _ _ T1.out E1.out).mono ?_; rintro e w2 ⟨p2, q2, v2, iv2, t2, rfl, T2, E3, E4⟩))
        go_roundw
        case rel => exact ⟨k + 1, o, _, v3, iv3, t3, by omega, rfl, by go_num, T3, N3, P3⟩
        case measure => simp [intOf]; omega
    · obtain rfl : k = n := by omega
      have hltI : ¬ (k : Int) < (k : Int) := by omega
      clear hlt
      go_wp2
      go_ret2
      exact ⟨_, _, f, v', iv', t, rfl, HT, HN, Lib.hid ⟨HP.out.lay, HP.out.vo, HP.out.lt, HP.out.val⟩⟩
end
end Go.Proofs.Ytepafgmiloncgaa
