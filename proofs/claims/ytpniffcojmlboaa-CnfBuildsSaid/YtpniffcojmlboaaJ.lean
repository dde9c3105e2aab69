/- Contracts: grow. -/
import Derived.Test.YtpniffcojmlboaaI
import Derived.Test.YtpniffcojmlboaaC
import Derived.Deep.RegionLaw
import Derived.Maps.AppendAt
namespace Go.Proofs.Ytpniffcojmlboaa
open Go.RowKit Go.Lib Go.Maps
set_option maxRecDepth 100000

/-- append to a slice of one's own, as a step of a region that draws. -/
theorem step_append_own {P : Program} {ops : Array Oper} {o : Oper} {a : Act} {w : World} {K : Act → World → Prop} {Q : Exit → Act → World → Prop} {E : Prop}
    (hg : o.guard = none) (s x : Operand) (t : TypeId) (hop : o.op = Op.call { callee := Callee.builtin Builtin.append, args := #[s, x], argTypes := #[t, t] })
    (base : Nat) (e : TypeId) (i : TypeInfo) (z : Value) (size bytes : Nat) (ht : P.underlying t = some (.slice e)) (hi : P.info? e = some i) (hz : i.zero = some z)
    (hsize : i.size = size) (hby : i.bytes = bytes) (hzs : z.cells.size = size) (hsz : 0 < size)
    (v : Value) (n : Nat) (xs : List Value) (hs : a.eval s = v) (hown : w.ownsRow base e size v n xs)
    (ad : Addr) (m c : Nat) (news : List Value) (hx : a.eval x = .slice (some ad) m c) (hl : news.length = m * size) (hnews : ∀ j u, news[j]? = some u → w.cell? (ad.add j) = some u) (h1 : ∀ u ∈ news, u.oneCell' = true)
    (h63 : n + m ≤ maxLen) (hbytes : (n + m) * bytes ≤ 140737488355328) (hbase : base ≤ w.heap.size)
    (hK : ∀ v' w', w'.ownsRow base e size v' (n + m) (xs ++ news) → w.grownBy w' v.ownBlock → (v'.ownBlock = v.ownBlock ∨ v'.ownBlock = some w.heap.size) → K (a.put o.dst v') w') :
    if Region.wanted o (yielded ops a.tmps) = true then Oper.wp P o a w K Q else E := by
  have hw : Region.wanted o (yielded ops a.tmps) = true := by simp [Region.wanted, hg]
  rw [if_pos hw]
  obtain ⟨v', w', hr, h2, h3, _, h5⟩ := run_append_own_at (P := P) w base t o.type e i z size bytes ht hi hz hsize hby hzs hsz v n xs hown ad m c news hl hnews h1 h63 hbytes hbase
  unfold Oper.wp execOp
  simp only [hop, resolve, invoke, builtin, Sem.run_bind, Sem.run_pure, Result.andThen_ok, List.map_toArray, List.map_cons, List.map_nil, hs, hx, hr]
  exact hK v' w' h2 h3 h5
theorem one_new (w : World) (x : Value) (t : TypeId) : ∀ j u, [x][j]? = some u → (w.alloc (.cells #[x] t)).cell? ((⟨w.heap.size, 0, none⟩ : Addr).add j) = some u := by
  intro j u hj
  match j, hj with
  | 0, hj => simp at hj; subst hj; simp [Addr.add]
theorem one_at {w' : World} {x : Value} {t : TypeId} (w0 : World) (n : Nat) (e : w'.heap = (w0.alloc (.cells #[x] t)).heap) (hn : n = w0.heap.size) : ∀ j u, [x][j]? = some u → w'.cell? ((⟨n, 0, none⟩ : Addr).add j) = some u := by
  intro j u hj
  subst hn
  rw [show w'.cell? ((⟨w0.heap.size, 0, none⟩ : Addr).add j) = (w0.alloc (.cells #[x] t)).cell? ((⟨w0.heap.size, 0, none⟩ : Addr).add j) by unfold World.cell?; rw [e]]
  exact one_new w0 x t j u hj
theorem two_at {w' : World} {x y : Value} {t : TypeId} (w0 : World) (n : Nat) (e : w'.heap = (w0.alloc (.cells #[x, y] t)).heap) (hn : n = w0.heap.size) : ∀ j u, [x, y][j]? = some u → w'.cell? ((⟨n, 0, none⟩ : Addr).add j) = some u := by
  intro j u hj
  subst hn
  rw [show w'.cell? ((⟨w0.heap.size, 0, none⟩ : Addr).add j) = (w0.alloc (.cells #[x, y] t)).cell? ((⟨w0.heap.size, 0, none⟩ : Addr).add j) by unfold World.cell?; rw [e]]
  match j, hj with
  | 0, hj => simp at hj; subst hj; simp [Addr.add]
  | 1, hj => simp at hj; subst hj; simp [Addr.add]
theorem owns_heap {w w' : World} {b : Nat} {e : TypeId} {sz : Nat} {v : Value} {n : Nat} {xs : List Value} (h : w.ownsRow b e sz v n xs) (hh : w'.heap = w.heap) : w'.ownsRow b e sz v n xs := by
  unfold World.ownsRow at *; rw [hh]; exact h
theorem owns_shape {w : World} {b : Nat} {e : TypeId} {sz : Nat} {v : Value} {n : Nat} {xs : List Value} (h : w.ownsRow b e sz v n xs) : ∃ a c, v = .slice a n c := by
  obtain ⟨_, ⟨h, h0⟩ | ⟨g, c, cur, h1, _⟩⟩ := h
  · exact ⟨none, 0, by rw [h, h0]⟩
  · exact ⟨_, c, h1⟩
theorem grown_same {w w0 w' : World} {r : Option Nat} (h : w.grownBy w' r) (e : w.heap = w0.heap) (e1 : w.os = w0.os) (e2 : w.tape = w0.tape) (e3 : w.output = w0.output) : w0.grownBy w' r :=
  ⟨h.os.trans e1, h.tape.trans e2, h.output.trans e3, by rw [← e]; exact h.size, fun k hk hne => by rw [← e]; exact h.block k (by rw [e]; exact hk) hne⟩
theorem info54 : (Try.prog.info? 75).map (fun i => (i.zero, i.size, i.bytes)) = some (some (.agg #[.int .i64 0, .int .i64 0]), 2, 16) := by kernel_rfl
theorem info3 : (Try.prog.info? 3).map (fun i => (i.zero, i.size, i.bytes)) = some (some (.int .i64 0), 1, 8) := by kernel_rfl

/-- A node's pair. -/
def px : Option (Nat × Nat) → Nat × Nat
  | none => (0, 0)
  | some p => p
/-- The nodes have grown, the map and the inputs not yet. -/
structure Gh (w : World) (G M : Nat) (v iv : Value) (s : Gr) (x : Option (Nat × Nat)) : Prop where
  hd : w.rowIs G 73 3 (hdV v M iv)
  sl : Sl w 75 2 v (s.n + 1 + 1) (prV (s.add x).L)
  mp : PMap w M s
  inp : Sl w 3 1 iv (cnt s.L s.n) (inV s)
  ok : s.Ok
  n1 : v.ownBlock ≠ some G
  n2 : iv.ownBlock ≠ some G
  n3 : M ≠ G
  n4 : v.ownBlock ≠ some M
  n5 : iv.ownBlock ≠ some M
  n6 : ∀ b, v.ownBlock = some b → iv.ownBlock ≠ some b
structure GhT (G M : Nat) (w : World) (v iv : Value) (w' : World) (v' iv' : Value) (s : Gr) (x : Option (Nat × Nat)) : Prop where
  gh : Gh w' G M v' iv' s x
  fr : Fr (Bg G M v iv) w w'
  own : ∀ b, Bg G M v' iv' b → Bg G M v iv b ∨ w.heap.size ≤ b
theorem hd_set {w : World} {G M : Nat} {v iv : Value} (h : w.rowIs G 73 3 (hdV v M iv)) (v' : Value) : (w.setCell ⟨G, 0, none⟩ v').rowIs G 73 3 (hdV v' M iv) := by
  refine World.rowIs.congr (h.set 0 v') fun i hi => ?_
  unfold hdV
  by_cases e : i = 0
  · simp [e]
  · simp [e]
theorem hd_set2 {w : World} {G M : Nat} {v iv : Value} (h : w.rowIs G 73 3 (hdV v M iv)) (iv' : Value) : (w.setCell ⟨G, 2, none⟩ iv').rowIs G 73 3 (hdV v M iv') := by
  refine World.rowIs.congr (h.set 2 iv') fun i hi => ?_
  unfold hdV
  by_cases e : i = 2
  · simp [e]
  · have : i = 0 ∨ i = 1 := by omega
    rcases this with rfl | rfl <;> simp
theorem Gm.grow1 {w W w0 w1 : World} {G M : Nat} {v iv v' : Value} {s : Gr} (h : Gm w G M v iv s) (x : Option (Nat × Nat)) (h0 : Below w.heap.size w w0)
    (g1 : w1.ownsRow 0 75 2 v' (s.n + 1 + 1) (lst (prV s.L) ((s.n + 1) * 2) ++ [.int .i64 (px x).1, .int .i64 (px x).2])) (g2 : W.grownBy w1 v.ownBlock) (g3 : v'.ownBlock = v.ownBlock ∨ v'.ownBlock = some W.heap.size) (e0 : W.heap = w0.heap) (e1 : W.os = w0.os) (e2 : W.tape = w0.tape) (e3 : W.output = w0.output) :
    (∃ av cv, v' = .slice av (s.n + 1 + 1) cv) ∧ w1.cell? ⟨G, 0, none⟩ = some v ∧ w1.frozen? ⟨G, 0, none⟩ = false ∧ GhT G M w v iv (w1.setCell ⟨G, 0, none⟩ v') v' iv s x := by
  have g2' := grown_same g2 e0 e1 e2 e3
  rw [e0] at g3
  have hb : ∀ b, Bg G M v iv b → v.ownBlock ≠ some b → w1.heap[b]? = w.heap[b]? := fun b hb hv => (g2'.block b (Nat.lt_of_lt_of_le (h.lt hb) h0.size) (fun e => hv e.symm)).trans (h0.block b (h.lt hb))
  have hnew : ∀ b, v'.ownBlock = some b → v.ownBlock = some b ∨ w.heap.size ≤ b := fun b e => by
    rcases g3 with g3 | g3
    · exact .inl (g3 ▸ e)
    · rw [g3] at e; injection e with e; have := h0.size; exact .inr (by omega)
  have hd1 : w1.rowIs G 73 3 (hdV v M iv) := h.hd.of_block (hb G (.inl rfl) h.n1)
  have sl1 : Sl w1 75 2 v' (s.n + 1 + 1) (prV (s.add x).L) := Sl.of_app g1 (fun j hj => by
      unfold prV
      by_cases hj2 : j < 2
      · rw [if_pos hj2, if_pos hj2]
      · rw [if_neg hj2, if_neg hj2, show (s.add x).L (j / 2 - 1) = s.L (j / 2 - 1) from if_neg (by omega)]) (fun j hj => by
      unfold prV
      rw [if_neg (by omega), show (s.add x).L (((s.n + 1) * 2 + j) / 2 - 1) = x from if_pos (by omega)]
      have hm : ((s.n + 1) * 2 + j) % 2 = j := by omega
      rw [hm]
      rcases x with _ | ⟨a, b⟩
      · match j, hj with
        | 0, _ => rfl
        | 1, _ => rfl
      · match j, hj with
        | 0, _ => rfl
        | 1, _ => rfl)
  have hG' : v'.ownBlock ≠ some G := fun e => (hnew G e).elim h.n1 fun e => by have := h.hd.lt; omega
  have hM' : v'.ownBlock ≠ some M := fun e => (hnew M e).elim h.n4 fun e => by have := h.mp.lt; omega
  have hI' : ∀ b, v'.ownBlock = some b → iv.ownBlock ≠ some b := fun b e k => (hnew b e).elim (fun e => h.n6 b e k) fun e => by have := h.inp.lt k; omega
  have hset : ∀ b, b ≠ G → (w1.setCell ⟨G, 0, none⟩ v').heap[b]? = w1.heap[b]? := fun b e => Below.heap_setCell _ _ _ _ (fun k => e k)
  refine ⟨owns_shape g1, hd1.cell (i := 0) (by omega), hd1.frozen 0, ⟨hd_set hd1 v', sl1.of_block fun b e => hset b fun k => hG' (k ▸ e), h.mp.of_block ((hset M h.n3).trans (hb M (.inr (.inl rfl)) h.n4)), h.inp.of_block fun b e => (hset b fun k => h.n2 (k ▸ e)).trans (hb b (.inr (.inr (.inr e))) fun k => h.n6 b k e), h.ok, hG', h.n2, h.n3, hM', h.n5, hI'⟩, ?_, ?_⟩
  · have f1 : Fr (Bg G M v iv) w w1 := (Fr.of_below h0).grown g2' fun k e _ => .inr (.inr (.inl e))
    exact f1.set (.inl rfl) _
  · rintro b (e | e | e | e)
    · exact .inl (.inl e)
    · exact .inl (.inr (.inl e))
    · exact (hnew b e).imp (fun e => .inr (.inr (.inl e))) id
    · exact .inl (.inr (.inr (.inr e)))

set_option maxHeartbeats 2000000 in
/-- grow -/
theorem grow_any {w : World} {G M : Nat} {v iv : Value} {s : Gr} (h : Gm w G M v iv s) (hn : s.n ≤ 100000) (x : Option (Nat × Nat)) :
    Calls Try.prog 39 #[.pointer (some ⟨G, 0, none⟩), pr (px x).1 (px x).2] w fun e w' => e = .returned (.tuple #[.int .i64 (2 * ((s.n : Int) + 1)), .bool true]) ∧ ∃ v', Hid (GhT G M w v iv w' v' iv s x) := by
  obtain ⟨p, hp⟩ : ∃ p, p = px x := ⟨_, rfl⟩
  have H1 := Lib.hid (nodes_any (h.below ((Below.refl _ w).alloc (Nat.le_refl _) (.cells #[.int .i64 (px x).1, .int .i64 (px x).2] 75))) hn)
  have hown : ((w.alloc (.cells #[.int .i64 (px x).1, .int .i64 (px x).2] 75)).alloc (.cells #[.int .i64 (px x).1, .int .i64 (px x).2] 75)).ownsRow 0 75 2 v (s.n + 1) (lst (prV s.L) ((s.n + 1) * 2)) :=
    ((h.below (((Below.refl _ w).alloc (Nat.le_refl _) _).alloc (by simp) _)).sl).owns
  have HA := Lib.hid (fun (v' : Value) (w1 W : World) => Gm.grow1 (W := W) (w0 := (w.alloc (.cells #[.int .i64 (px x).1, .int .i64 (px x).2] 75)).alloc (.cells #[.int .i64 (px x).1, .int .i64 (px x).2] 75)) (w1 := w1) (v' := v') h x (((Below.refl _ w).alloc (Nat.le_refl _) _).alloc (by simp) _))
  obtain ⟨g, c, hv, _, _, hg⟩ := h.sl.pos (by omega)
  have c0 := h.cell0
  have hG := h.hd.lt
  rw [← hp] at H1 hown HA ⊢
  clear hp
  obtain ⟨a, b⟩ := p
  subst hv
  simp only at H1 hown HA
  have HO := Lib.hid hown
  obtain ⟨i0, hi, hz0, hz1, hz2⟩ := info_parts info54
  clear h hown
  obtain ⟨N, hN⟩ : ∃ N : Int, N = (s.n : Int) + 1 := ⟨_, rfl⟩
  rw [← hN] at H1 ⊢
  have t0 : 0 < N := by omega
  have t1 : (N == 0) = false := by rw [beq_eq_false_iff_ne]; omega
  have t2 : ¬ 200000 ≤ N := by omega
  have t3 : decide (200000 ≤ N) = false := by simpa using t2
  have HN := Lib.hid hN
  have Hn := Lib.hid hn
  clear hN hn
  go_enter Try.func39, Try.ntmps39
  go_wp2_with (go_at_call 30; refine H1.out.mono ?_; rintro e w' ⟨rfl, rfl⟩)
  have hn := Hn.out
  go_region_law (refine step_append_own rfl (.tmp 19) (.tmp 21) 70 rfl 0 75 i0 (.agg #[.int .i64 0, .int .i64 0]) 2 16 Try.underlying70 hi hz0 hz1 hz2 rfl (by decide) (.slice (some ⟨g, 0, none⟩) (s.n + 1) c) (s.n + 1) (lst (prV s.L) ((s.n + 1) * 2)) rfl (owns_heap HO.out rfl) ⟨_, 0, none⟩ 1 1 [.int .i64 a, .int .i64 b] rfl rfl (two_at (w.alloc (.cells #[.int .i64 a, .int .i64 b] 75)) _ rfl (by simp)) (by intro u hu; simp at hu; rcases hu with rfl | rfl <;> rfl) (by unfold maxLen; omega) (by omega) (Nat.zero_le _) ?_; intro v1 w1 g1 g2 g3; obtain ⟨⟨av, cv', rfl⟩, ck, fz, T⟩ := HA.out _ _ _ g1 g2 g3 rfl rfl rfl rfl; have HT := Lib.hid T; clear T g1 g2 g3)
  all_goals
    go_wp2
    go_ret2
    exact ⟨rfl, _, HT⟩
end Go.Proofs.Ytpniffcojmlboaa
