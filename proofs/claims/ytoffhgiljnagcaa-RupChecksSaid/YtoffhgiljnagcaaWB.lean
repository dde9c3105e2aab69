/- Contracts: watch. -/
import Derived.Test.YtoffhgiljnagcaaWA
import Derived.Deep.RegionLaw
import Derived.Maps.AppendAt
namespace Go.Proofs.Ytoffhgiljnagcaa
open Go.RowKit Go.Lib Go.Maps

/-- append to a slice of one's own, as a step of a region that draws. -/
theorem step_append_own {P : Program} {ops : Array Oper} {o : Oper} {a : Act} {w : World} {K : Act → World → Prop} {Q : Exit → Act → World → Prop} {E : Prop}
    (hg : o.guard = none) (s x : Operand) (t : TypeId) (hop : o.op = Op.call { callee := Callee.builtin Builtin.append, args := #[s, x], argTypes := #[t, t] })
    (base : Nat) (e : TypeId) (i : TypeInfo) (z : Value) (size bytes : Nat) (ht : P.underlying t = some (.slice e)) (hi : P.info? e = some i) (hz : i.zero = some z)
    (hsize : i.size = size) (hby : i.bytes = bytes) (hzs : z.cells.size = size) (hsz : 0 < size)
    (v : Value) (n : Nat) (xs : List Value) (hs : a.eval s = v) (hown : w.ownsRow base e size v n xs)
    (ad : Addr) (m c : Nat) (news : List Value) (hx : a.eval x = .slice (some ad) m c) (hl : news.length = m * size) (hnews : ∀ j u, news[j]? = some u → w.cell? (ad.add j) = some u) (h1 : ∀ u ∈ news, u.oneCell' = true)
    (h63 : n + m ≤ maxLen) (hbytes : (n + m) * bytes ≤ 140737488355328) (hbase : base ≤ w.heap.size)
    (hK : ∀ v' w', w'.ownsRow base e size v' (n + m) (xs ++ news) → w.grownBy w' v.ownBlock → (v'.ownBlock = v.ownBlock ∨ v'.ownBlock = some w.heap.size) → K (a.put o.dst v') w') :
    if Region.wanted o (yielded ops a.tmps) = true then Oper.wp P o a w K Q else E := by
  have hw : Region.wanted o (yielded ops a.tmps) = true := by simp [Region.wanted, hg]
  rw [if_pos hw]
  obtain ⟨v', w', hr, h2, h3, _, h5⟩ := run_append_own_at (P := P) w base t o.type e i z size bytes ht hi hz hsize hby hzs hsz v n xs hown ad m c news hl hnews h1 h63 hbytes hbase
  unfold Oper.wp execOp
  simp only [hop, resolve, invoke, builtin, Sem.run_bind, Sem.run_pure, Result.andThen_ok, List.map_toArray, List.map_cons, List.map_nil, hs, hx, hr]
  exact hK v' w' h2 h3 h5

theorem info78 : (Try.prog.info? 78).map (fun i => (i.zero, i.size, i.bytes)) = some (some (.agg #[.int .i32 0, .int .i32 0]), 2, 8) := by kernel_rfl

set_option maxHeartbeats 2000000 in
set_option maxRecDepth 100000 in
theorem watch_any {K M : Nat} {w : World} {L : Tag → Value} {s : St} (h : Mem w K M L s) {p a o : Nat} (hp : p < s.ew) (hew : s.ew ≤ 200000000) (hwn : s.wn p ≤ 200000000) :
    Calls Try.prog 51 #[.pointer (some ⟨K, 0, none⟩), .int .i32 p, .agg #[.int .i32 a, .int .i32 o]] w fun e w' => e = .returned (.tuple #[]) ∧ ∃ v, Tn K M w L w' (up L (.wl p) v) (s.ent p a o) := by
  obtain ⟨gw, cw, hL3, _⟩ := (h.row .wts).pos (show 0 < s.ew by omega)
  obtain ⟨al, cl, hLl, _⟩ := (h.row (.wl p)).shape
  replace hL3 : L .wts = .slice (some ⟨gw, 0, none⟩) s.ew cw := hL3
  replace hLl : L (.wl p) = .slice al (s.wn p) cl := hLl
  have T0 := (h.tnAlloc (.cells #[.int .i32 a, .int .i32 o] 78)).trans ((h.alloc _).tnAlloc (.cells #[.int .i32 a, .int .i32 o] 78))
  have hown := (T0.mem.row (.wl p)).owns
  rw [hLl] at hown
  have c3 : w.cell? ⟨K, 3, none⟩ = some (.slice (some ⟨gw, 0, none⟩) s.ew cw) := (h.c 3 (by omega)).trans (congrArg some hL3)
  have x1 : w.cell? ⟨gw, p, none⟩ = some (.slice al (s.wn p) cl) := (h.rc hL3 (show p < s.ew * 1 by omega)).trans (congrArg some hLl)
  have hK := h.hd.lt
  have hgw := h.glt hL3
  obtain ⟨i0, hi, hz0, hz1, hz2⟩ := info_parts info78
  have hp1 : (p : Int) < (s.ew : Int) := by omega
  have HO := Lib.hid hown
  have haft : ∀ (v' : Value) (w1 W : World), w1.ownsRow 0 78 2 v' (s.wn p + 1) (lst (fOf L s (.wl p)) (s.wn p * 2) ++ [.int .i32 a, .int .i32 o]) → W.grownBy w1 (Value.slice al (s.wn p) cl).ownBlock → (v'.ownBlock = (Value.slice al (s.wn p) cl).ownBlock ∨ v'.ownBlock = some W.heap.size) →
      W.heap = ((w.alloc (.cells #[.int .i32 a, .int .i32 o] 78)).alloc (.cells #[.int .i32 a, .int .i32 o] 78)).heap → W.os = w.os → W.tape = w.tape → W.output = w.output →
            (∃ av cv', v' = .slice av (s.wn p + 1) cv') ∧ w1.cell? ⟨K, 3, none⟩ = some (.slice (some ⟨gw, 0, none⟩) s.ew cw) ∧ w1.frozen? ⟨gw, p, none⟩ = false ∧ w1.cell? ⟨gw, p, none⟩ = some (.slice al (s.wn p) cl) ∧ Tn K M w L (w1.setCell ⟨gw, p, none⟩ v') (up L (.wl p) v') (s.ent p a o) := by
    intro v' w1 W h1 h2 h3 e1 e2 e3 e4
    have h2' := grown_same (w0 := (w.alloc (.cells #[.int .i32 a, .int .i32 o] 78)).alloc (.cells #[.int .i32 a, .int .i32 o] 78)) h2 e1 e2 e3 e4
    rw [e1] at h3
    rw [← hLl] at h2' h3
    have hne : some gw ≠ (L (.wl p)).ownBlock := fun e => absurd (h.dj .wts (.wl p) gw (by rw [hL3]; rfl) e.symm) (fun e => by cases e)
    have hbk := h2'.block gw (T0.mem.glt hL3) hne
    refine ⟨owns_shape h1, ((T0.mem.same (w' := (w.alloc (.cells #[.int .i32 a, .int .i32 o] 78)).alloc (.cells #[.int .i32 a, .int .i32 o] 78)) rfl).hd.of_block (h2'.block K (by have := T0.mem.hd.lt; exact this) (fun e => h.kb _ e.symm))).cell (i := 3) (by omega) |>.trans (congrArg some hL3), ?_, ?_, T0.trans (T0.mem.appW hL3 hp h1 h2' h3)⟩
    · rw [World.frozen?_of_block (w := (w.alloc (.cells #[.int .i32 a, .int .i32 o] 78)).alloc (.cells #[.int .i32 a, .int .i32 o] 78)) hbk]
      exact T0.mem.fz hL3 p
    · rw [World.cell?_of_block (w := (w.alloc (.cells #[.int .i32 a, .int .i32 o] 78)).alloc (.cells #[.int .i32 a, .int .i32 o] 78)) hbk]
      exact (T0.mem.rc hL3 (show p < s.ew * 1 by omega)).trans (congrArg some hLl)
  have HA := Lib.hid haft
  clear h hown T0 hL3 hLl haft
  go_enter Try.func51, Try.ntmps51
  go_wp2
  go_region_law (refine step_append_own rfl (.tmp 17) (.tmp 19) 97 rfl 0 78 i0 (.agg #[.int .i32 0, .int .i32 0]) 2 8 Try.underlying97 hi hz0 hz1 hz2 rfl (by decide) (.slice al (s.wn p) cl) (s.wn p) (lst (fOf L s (.wl p)) (s.wn p * 2)) rfl (owns_heap HO.out rfl) ⟨_, 0, none⟩ 1 1 [.int .i32 a, .int .i32 o] rfl rfl (two_at (w.alloc (.cells #[.int .i32 a, .int .i32 o] 78)) _ rfl (by simp)) (by intro u hu; simp at hu; rcases hu with rfl | rfl <;> rfl) (by unfold maxLen; omega) (by omega) (Nat.zero_le _) ?_; intro v1 w1 g1 g2 g3; obtain ⟨⟨av, cv', rfl⟩, ck, fz, cz, T⟩ := HA.out _ _ _ g1 g2 g3 rfl rfl rfl rfl; have HT := Lib.hid T; clear T g1 g2 g3)
  all_goals
    go_end0
    exact ⟨rfl, _, HT.out⟩
end Go.Proofs.Ytoffhgiljnagcaa
