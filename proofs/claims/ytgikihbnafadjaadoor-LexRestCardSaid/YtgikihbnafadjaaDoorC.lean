/- The tables of the program; keywords, both. -/
import Derived.Test.YtgikihbnafadjaaDoorB
namespace Go.Proofs.YtgikihbnafadjaaDoor
open Go Go.RowKit Go.Lib

def keywords : List Wd := [[99, 104, 97, 110], [111, 102], [108, 111, 115, 115, 121], [99, 111, 112, 121, 105, 110, 103], [118, 97, 114], [112, 114, 111, 99], [115, 97, 102, 101], [100, 101, 97, 100, 108, 111, 99, 107], [115, 101, 110, 100], [114, 101, 99, 118], [105, 100, 108, 101], [119, 104, 101, 110], [99, 104, 111, 111, 115, 101], [111, 114], [105, 102], [101, 108, 115, 101], [119, 104, 105, 108, 101], [97, 116, 111, 109, 105, 99], [115, 107, 105, 112], [115, 116, 111, 112], [108, 101, 110]]
def isKey (l : Wd) : Bool := keywords.contains l
/-- Texts as cells. -/
def strs (L : List Wd) : Array Value := (L.map fun x => Value.string (bs x)).toArray
theorem strs_size (L : List Wd) : (strs L).size = L.length := by simp [strs]
theorem strs_at (L : List Wd) (k : Nat) (h : k < L.length) : (strs L)[k]? = some (.string (bs L[k])) := by simp [strs, h]
/-- The tables stand. -/
structure Gl (w : World) : Prop where
  k : ∃ t fr, w.heap[0]? = some (.cells (strs keywords) t fr)
  s : ∃ t fr, w.heap[1]? = some (.cells (strs signs) t fr)
  b : ∃ t fr, w.heap[3]? = some (.cells (strs [kb 0, kb 1, kb 2, kb 3]) t fr)
theorem lt_of_block {w : World} {i : Nat} {o : Obj} (h : w.heap[i]? = some o) : i < w.heap.size := by
  rcases Nat.lt_or_ge i w.heap.size with h' | h'
  · exact h'
  · rw [Array.getElem?_eq_none h'] at h; cases h
theorem Gl.below {w w' : World} (h : Gl w) (hb : Below w.heap.size w w') : Gl w' := by
  obtain ⟨⟨t, f, h1⟩, ⟨t2, f2, h2⟩, ⟨t3, f3, h3⟩⟩ := h
  exact ⟨⟨t, f, by rw [hb.block 0 (lt_of_block h1)]; exact h1⟩, ⟨t2, f2, by rw [hb.block 1 (lt_of_block h2)]; exact h2⟩, ⟨t3, f3, by rw [hb.block 3 (lt_of_block h3)]; exact h3⟩⟩
theorem cell_of_block {w : World} {g : Nat} {cs : Array Value} {t : TypeId} {fr : Nat × Nat} (h : w.heap[g]? = some (.cells cs t fr)) (j : Nat) : w.cell? ⟨g, j, none⟩ = cs[j]? := by
  simp [World.cell?, h]

theorem index_row (t : TypeId) (n : Nat) (cs : Array Value) (k : Nat) (v : Value) (w : World) (h : Tryd.prog.underlying t = some (.array n 9)) (hk : k < n) (hc : cs[k]? = some v) : (Instr.index t (.agg cs) (.int .i64 k)).run Tryd.prog w = .ok v w := by
  simp [Instr.index, run_underlying h, asIntOf, hk, go_sem, Tryd.sizeOf9, Tryd.isAgg9, hc]
theorem getD_at {α : Type} (L : List α) (k : Nat) (d : α) (h : k < L.length) : L.getD k d = L[k] := by simp [List.getD, h]
theorem bs_eq2 (l k : List UInt8) : ((bs l).toList == (bs k).toList) = decide (l = k) := by
  rw [bs_toList, bs_toList, Bool.eq_iff_iff]; simp
/-- The entry at a place. -/
def nth (L : List Wd) (k : Nat) : Wd := (L[k]?).getD []
theorem nth_at {L : List Wd} {k : Nat} (h : k < L.length) : nth L k = L[k] := by simp [nth, h]
theorem strs_nth {L : List Wd} {k : Nat} (h : k < L.length) : (strs L)[k]? = some (.string (bs (nth L k))) := by rw [strs_at L k h, nth_at h]
theorem nth_mem {L : List Wd} {k : Nat} (h : k < L.length) : nth L k ∈ L := by rw [nth_at h]; exact List.getElem_mem h
theorem not_mem {L : List Wd} {x : Wd} (h : ∀ j, j < L.length → nth L j ≠ x) : L.contains x = false := by
  rw [List.contains_eq_mem]
  refine decide_eq_false fun hm => ?_
  obtain ⟨j, hj, e⟩ := List.getElem_of_mem hm
  exact h j hj (by rw [nth_at hj]; exact e)

set_option maxRecDepth 100000 in
set_option maxHeartbeats 2000000 in
/-- Key -/
theorem key_any (l : Wd) {w : World} (h : Gl w) : Calls Tryd.prog 15 #[.string (bs l)] w fun e w' => e = .returned (.bool (isKey l)) ∧ w = w' := by
  obtain ⟨t, fr, hg⟩ := h.k
  have hns : (Tryd.prog.info? 48).map (·.size) = some (strs keywords).size := by rw [strs_size]; kernel_rfl
  have hat : ∀ k, k < 21 → (strs keywords)[k]? = some (.string (bs (nth keywords k))) := fun k hk => strs_nth hk
  generalize hV : strs keywords = V at *
  clear hV h
  go_enter Tryd.func15, Tryd.ntmps15
  go_wp2_with (refine wpList_load_row rfl 48 _ rfl 0 rfl t _ fr _ hg Tryd.underlying48 rfl hns ?_)
  go_loop [6, 4] (fun i _ => ∃ k : Nat, k ≤ 21 ∧ i = .int .i64 k ∧ Hid (∀ j, j < k → nth keywords j ≠ l)) (fun i _ => 21 - (Lib.intOf i).toNat)
  case atStart => exact ⟨0, Nat.zero_le _, rfl, Lib.hid fun j h0 => absurd h0 (Nat.not_lt_zero _)⟩
  case round =>
    obtain ⟨k, hk, rfl, hn⟩ := hrel
    by_cases hlt : k < 21
    · have hc := fun w => index_row 48 21 V k _ w Tryd.underlying48 hlt (hat k hlt)
      have hm := Lib.hid (nth_mem (L := keywords) hlt)
      have hx : Hid (∀ x, x = nth keywords k → (∀ j, j < k + 1 → j = k → x = nth keywords j)) := Lib.hid fun x e j _ e2 => by rw [e, e2]
      clear hat hns
      obtain ⟨x, hxe⟩ : ∃ x, x = nth keywords k := ⟨_, rfl⟩
      have hq := bs_eq2 x l
      rw [← hxe] at hc hm
      have HX := Lib.hid hxe; clear hxe hx
      by_cases he : x = l
      · rw [decide_eq_true he] at hq
        have HE := Lib.hid he; clear he
        go_wp2
        go_ret
        exact ⟨ret_bool (by have := hm.out; rw [HE.out] at this; simpa [isKey] using this), rfl⟩
      · rw [decide_eq_false he] at hq
        have HE := Lib.hid he; clear he
        go_wp2
        go_round
        case rel => exact ⟨k + 1, by omega, by go_num, Lib.hid fun j hj => by
          by_cases e : j = k
          · subst e; rw [← HX.out]; exact HE.out
          · exact hn.out j (by omega)⟩
        case measure => simp [Lib.intOf]; omega
    · have hF : isKey l = false := not_mem fun j hj => hn.out j (by have : keywords.length = 21 := rfl; omega)
      have HF := Lib.hid hF; clear hF hat hns
      go_wp2
      go_ret
      exact ⟨ret_bool HF.out.symm, rfl⟩
end Go.Proofs.YtgikihbnafadjaaDoor
