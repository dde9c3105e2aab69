/- Contracts: Input. -/
import Derived.Test.YtpniffcojmlboaaJ
namespace Go.Proofs.Ytpniffcojmlboaa
open Go.RowKit Go.Lib Go.Maps
set_option maxRecDepth 100000

theorem nin_congr {L L' : Nat → Option (Nat × Nat)} {j : Nat} : ∀ {k : Nat}, (∀ i, i < k → L' i = L i) → nin L' k j = nin L k j
  | 0, _ => rfl
  | k + 1, h => by unfold nin; rw [nin_congr fun i hi => h i (by omega), h k (by omega), cnt_congr fun i hi => h i (by omega)]
theorem cnt_add (s : Gr) (x : Option (Nat × Nat)) : cnt (s.add x).L (s.add x).n = cnt s.L s.n + if x = none then 1 else 0 := by
  have h : (s.add x).L s.n = x := if_pos rfl
  show cnt (s.add x).L s.n + _ = _
  rw [cnt_congr (L' := (s.add x).L) (L := s.L) fun i hi => if_neg (by omega), h]
theorem nin_add (s : Gr) (x : Option (Nat × Nat)) (j : Nat) : nin (s.add x).L (s.add x).n j = if x = none ∧ cnt s.L s.n = j then s.n else nin s.L s.n j := by
  have h : (s.add x).L s.n = x := if_pos rfl
  show (if (s.add x).L s.n = none ∧ cnt (s.add x).L s.n = j then s.n else nin (s.add x).L s.n j) = _
  rw [cnt_congr (L' := (s.add x).L) (L := s.L) fun i hi => if_neg (by omega), h, nin_congr (L' := (s.add x).L) (L := s.L) fun i hi => if_neg (by omega)]
/-- The inputs have grown too, the field not yet. -/
structure GiM (G M : Nat) (w : World) (v iv : Value) (w' : World) (iv' : Value) (s : Gr) : Prop where
  hd : w'.rowIs G 73 3 (hdV v M iv)
  sl : Sl w' 75 2 v (s.n + 1 + 1) (prV (s.add none).L)
  mp : PMap w' M s
  inp : Sl w' 3 1 iv' (cnt s.L s.n + 1) (inV (s.add none))
  ok : s.Ok
  n1 : v.ownBlock ≠ some G
  n2 : iv'.ownBlock ≠ some G
  n3 : M ≠ G
  n4 : v.ownBlock ≠ some M
  n5 : iv'.ownBlock ≠ some M
  n6 : ∀ b, v.ownBlock = some b → iv'.ownBlock ≠ some b
  fr : Fr (Bg G M v iv) w w'
  own : ∀ b, iv'.ownBlock = some b → iv.ownBlock = some b ∨ w.heap.size ≤ b
theorem GiM.store {G M : Nat} {w w' : World} {v iv iv' : Value} {s : Gr} (h : GiM G M w v iv w' iv' s) : GmT G M w v iv (w'.setCell ⟨G, 2, none⟩ iv') v iv' (s.add none) := by
  have hset : ∀ b, b ≠ G → (w'.setCell ⟨G, 2, none⟩ iv').heap[b]? = w'.heap[b]? := fun b e => Below.heap_setCell _ _ _ _ (fun k => e k)
  refine ⟨⟨hd_set2 h.hd iv', h.sl.of_block fun b e => hset b fun k => h.n1 (k ▸ e), (h.mp.of_block (hset M h.n3)).input, ?_, h.ok.input, h.n1, h.n2, h.n3, h.n4, h.n5, h.n6⟩, h.fr.set (.inl rfl) _, ?_⟩
  · rw [cnt_add, if_pos rfl]
    exact h.inp.of_block fun b e => hset b fun k => h.n2 (k ▸ e)
  · rintro b (e | e | e | e)
    · exact .inl (.inl e)
    · exact .inl (.inr (.inl e))
    · exact .inl (.inr (.inr (.inl e)))
    · exact (h.own b e).imp (fun e => .inr (.inr (.inr e))) id
theorem Gh.app {G M : Nat} {w : World} {v iv : Value} {s : Gr} (h : Hid (Gh w G M v iv s none)) (hn : s.n ≤ 100000) {xs : Array Value} (hxs : xs.toList = [.int .i64 (2 * ((s.n : Int) + 1))])
    {ops : Array Oper} {rest : List Oper} {o : Oper} {a : Act} {Q : Exit → Act → World → Prop} (hgd : o.guard = none) (p y : Operand)
    (ho : o.op = .call { callee := .builtin .append, args := #[p, y], argTypes := #[26, 26] }) (hs : a.eval p = iv) (hy : a.eval y = .slice (some ⟨w.heap.size, 0, none⟩) 1 1)
    (k : ∀ a' c' w', Hid (GiM G M w v iv w' (.slice a' (cnt s.L s.n + 1) c') s) → wpList Try.prog ops Q rest (a.put o.dst (.slice a' (cnt s.L s.n + 1) c')) w') :
    wpList Try.prog ops Q (o :: rest) a (w.alloc (.cells xs 3)) := by
  obtain ⟨i, hi, hz, hsz, hby⟩ := info_parts info3
  have hcn := cnt_le s.L s.n
  have hsl : Sl (w.alloc (.cells xs 3)) 3 1 iv (cnt s.L s.n) (inV s) := h.out.inp.of_block fun b e => Below.heap_alloc _ _ _ (h.out.inp.lt e)
  have hlen : xs.size = 1 := by rw [← Array.length_toList, hxs]; rfl
  refine wpList_append_own_at _ hgd p y 26 ho 0 3 i _ 1 8 Try.underlying26 hi hz hsz hby rfl (by decide) iv (cnt s.L s.n) _ hs hsl.owns ⟨w.heap.size, 0, none⟩ 1 1 [.int .i64 (2 * ((s.n : Int) + 1))] hy rfl (fun j u hj => ?_) (fun u hu => ?_) (by unfold maxLen; omega) (by omega) (Nat.zero_le _) ?_
  · have hx : xs = #[.int .i64 (2 * ((s.n : Int) + 1))] := by cases xs; simp at hxs; rw [hxs]
    rw [hx]
    exact one_new w _ 3 j u hj
  · simp at hu; subst hu; rfl
  · intro v' w' g1 g2 _ g3
    have hF : Sl w' 3 1 v' (cnt s.L s.n + 1) (inV (s.add none)) := Sl.of_app g1 (fun j hj => by
      unfold inV
      rw [nin_add, if_neg (by omega)]) (fun j hj => by
      obtain rfl : j = 0 := by omega
      unfold inV
      rw [nin_add, if_pos ⟨rfl, by omega⟩]
      show some (Value.int .i64 (2 * ((s.n : Int) + 1))) = some (Value.int .i64 _)
      congr 2)
    obtain ⟨a', c', rfl, _⟩ := hF.shape
    have hb : ∀ b, Bg G M v iv b → iv.ownBlock ≠ some b → w'.heap[b]? = w.heap[b]? := fun b hb hv => by
      have hlt : b < w.heap.size := by
        rcases hb with rfl | rfl | e | e
        · exact h.out.hd.lt
        · exact h.out.mp.lt
        · exact h.out.sl.lt e
        · exact h.out.inp.lt e
      exact (g2.block b (by simp; omega) (fun e => hv e.symm)).trans (Below.heap_alloc _ _ _ hlt)
    have hnew : ∀ b, (Value.slice a' (cnt s.L s.n + 1) c').ownBlock = some b → iv.ownBlock = some b ∨ w.heap.size ≤ b := fun b e => by
      rcases g3 with g3 | g3
      · exact .inl (g3 ▸ e)
      · rw [g3] at e; injection e with e; simp at e; exact .inr (by omega)
    have hG := h.out.hd.lt
    have hM := h.out.mp.lt
    refine k a' c' w' (Lib.hid ⟨h.out.hd.of_block (hb G (.inl rfl) h.out.n2), h.out.sl.of_block fun b e => hb b (.inr (.inr (.inl e))) (h.out.n6 b e), h.out.mp.of_block (hb M (.inr (.inl rfl)) h.out.n5), hF, h.out.ok, h.out.n1, fun e => (hnew G e).elim h.out.n2 fun e => by omega, h.out.n3, h.out.n4, fun e => (hnew M e).elim h.out.n5 fun e => by omega, fun b e k => (hnew b k).elim (h.out.n6 b e) fun e2 => by have := h.out.sl.lt e; omega, ?_, hnew⟩)
    exact ((Fr.refl _ w).alloc _).grown g2 fun k e _ => .inr (.inr (.inr e))
theorem GhT.input {G M : Nat} {w w1 w2 : World} {v iv v1 iv1 iv2 : Value} {s : Gr} (h : GhT G M w v iv w1 v1 iv1 s none) (k : GmT G M w1 v1 iv1 w2 v1 iv2 (s.add none)) : GmT G M w v iv w2 v1 iv2 (s.add none) :=
  ⟨k.gm, h.fr.then k.fr fun b e => h.own b e, fun b e => (k.own b e).elim (h.own b) fun e => .inr (Nat.le_trans h.fr.size e)⟩

set_option maxHeartbeats 1000000 in
/-- Input -/
theorem input_any {w : World} {G M : Nat} {v iv : Value} {s : Gr} (h : Gm w G M v iv s) (hn : s.n ≤ 100000) :
    Calls Try.prog 26 #[.pointer (some ⟨G, 0, none⟩)] w fun e w' => e = .returned (.int .i64 ((2 * (s.n + 1) : Nat) : Int)) ∧ ∃ v' iv', Hid (GmT G M w v iv w' v' iv' (s.add none)) := by
  have HG := Lib.hid (show Calls Try.prog 39 #[.pointer (some ⟨G, 0, none⟩), pr 0 0] w fun e w' => e = .returned (.tuple #[.int .i64 (2 * ((s.n : Int) + 1)), .bool true]) ∧ ∃ v', Hid (GhT G M w v iv w' v' iv s none) from grow_any h hn none)
  obtain ⟨a, c, rfl, _, _⟩ := h.inp.shape
  clear h
  go_enter Try.func26, Try.ntmps26
  go_wp2_with (first
    | (go_at_call 39; refine HG.out.mono ?_; rintro e w1 ⟨rfl, v1, HT⟩; have HH := Lib.hid HT.out.gh; have hc1 : w1.cell? ⟨G, 2, none⟩ = some (.slice a (cnt s.L s.n) c) := HT.out.gh.hd.cell (i := 2) (by omega))
    | (at_builtin; refine Gh.app HH hn rfl rfl _ _ rfl rfl rfl ?_; intro a2 c2 w2 H1; have hc2 := H1.out.hd.cell (i := 2) (by omega); have hf2 := H1.out.hd.frozen 2; have H2 := Lib.hid (HT.out.input H1.out.store)))
  go_ret
  exact ⟨rfl, _, _, H2⟩
end Go.Proofs.Ytpniffcojmlboaa
