/- Contracts: the numbers of a text (the program's). -/
import Derived.Test.YtmgkoehclabejaaDoorPC
import Derived.Test.YtmgkoehclabejaaDoorPD
import Derived.Lib.OthersKept
import Derived.Deep.LoopGhost
namespace Go.Proofs.YtmgkoehclabejaaDoor
open Go Go.RowKit Go.Lib

theorem toList_loop_len (s : ByteArray) : ∀ (i : Nat) (r : List UInt8), (ByteArray.toList.loop s i r).length = r.length + (s.size - i) := by
  intro i r
  fun_induction ByteArray.toList.loop s i r with
  | case1 i r h ih => rw [ih]; simp; omega
  | case2 i r h => simp; omega
theorem toList_len (s : ByteArray) : s.toList.length = s.size := by
  unfold ByteArray.toList; rw [toList_loop_len]; simp
theorem toList_empty (s : ByteArray) (h : s.size ≠ 0) : s.toList.isEmpty = false := by
  have := toList_len s
  cases hs : s.toList with
  | nil => rw [hs] at this; simp at this; omega
  | cons a b => rfl
theorem toList_empty0 (s : ByteArray) (h : s.size = 0) : s.toList.isEmpty = true := by
  have := toList_len s
  cases hs : s.toList with
  | nil => rfl
  | cons a b => rw [hs] at this; simp at this; omega

def numV (o : Option Int) : Value := .tuple #[.int .i64 (o.getD 0), .bool o.isSome]
theorem numV_none : numV none = .tuple #[.int .i64 0, .bool false] := rfl
theorem numV_some (x : Int) : numV (some x) = .tuple #[.int .i64 x, .bool true] := rfl

set_option maxHeartbeats 400000 in
theorem number_short (l : List UInt8) (h : l = [] ∨ 6 < l.length) (hl : l.length ≤ 1000000) (w : World) :
    Calls Tryd.prog 65 #[.string (bs l)] w fun e w' => e = .returned (numV (numB l)) ∧ Below w.heap.size w w' := by
  have hn : numB l = none := by unfold numB; rw [if_pos (by rcases h with h | h <;> simp [h])]
  rw [hn, numV_none]
  have hsz := bs_size l
  have hfin := Below.refl w.heap.size w
  rcases h with rfl | h
  · have hne : (bs []).toList.isEmpty = true := toList_empty0 _ hsz
    go_enter Tryd.func65, Tryd.ntmps65
    go_wp2
    go_ret2
    exact ⟨rfl, hfin⟩
  · have hne : (bs l).toList.isEmpty = false := toList_empty _ (by omega)
    go_enter Tryd.func65, Tryd.ntmps65
    go_wp2
    go_ret2
    exact ⟨rfl, hfin⟩

set_option maxHeartbeats 2000000 in
theorem number_digits (l : List UInt8) (h0 : l ≠ []) (h6 : l.length ≤ 6) (w : World) :
    Calls Tryd.prog 65 #[.string (bs l)] w fun e w' => e = .returned (numV (numB l)) ∧ Below w.heap.size w w' := by
  have hsz := bs_size l
  have hne : (bs l).toList.isEmpty = false := toList_empty _ (by rw [hsz]; simpa using h0)
  have hbad : ∀ k (hk : k < l.length), isDig l[k] = false → numB l = none := by
    intro k hk hd
    unfold numB
    rw [if_pos]
    refine .inr (.inr ?_)
    rw [← Bool.not_eq_true, List.all_eq_true]
    exact fun h => by have := h _ (List.getElem_mem hk); rw [hd] at this; cases this
  have hall : l.all isDig = true → numB l = some (valD l) := by
    intro h
    unfold numB
    rw [if_neg]
    simp only [h0, h, false_or, Bool.true_eq_false, or_false]; omega
  have hval : ∀ k, k ≤ l.length → (l.take k).all isDig = true → 0 ≤ valD (l.take k) ∧ valD (l.take k) ≤ 999999 := fun k hk h => valD_small (by simp; omega) h
  have HBAD := Lib.hid hbad; clear hbad
  have HALL := Lib.hid hall; clear hall
  have HVAL := Lib.hid hval; clear hval
  go_enter Tryd.func65, Tryd.ntmps65
  go_wp2
  go_loopw [4, 6] (fun s4 s6 wr => ∃ k : Nat, k ≤ l.length ∧ s4 = .int .i64 (valD (l.take k)) ∧ Hid ((l.take k).all isDig = true) ∧ wr.heap[w.heap.size]? = some (.stringIter (bs l) k) ∧ Below w.heap.size w wr)
    (fun _ _ wr => match wr.heap[w.heap.size]? with | some (.stringIter _ k) => l.length - k | _ => 0)
  case atStart => exact ⟨0, Nat.zero_le _, rfl, Lib.hid rfl, World.iter_heap w (bs l) 0, (Below.refl _ w).alloc (Nat.le_refl _) _⟩
  case round =>
    obtain ⟨k, hk, rfl, hd, hit, hb⟩ := hrel
    by_cases hlt : k < l.length
    · have hlt' : k < (bs l).size := by rw [hsz]; exact hlt
      have hnx : ∀ ty, (Instr.next (.pointer (some ⟨w.heap.size, 0, none⟩)) true ty).run Tryd.prog wr = _ := fun ty => Lib.run_next_any_at wr w.heap.size (bs l) k ty hit hlt'
      have hcs := decode_cases (bs l) k hlt'
      have hby : byteN (bs l) k = l[k].toNat := byteN_bs l k hlt
      rw [hby] at hcs
      have hv := HVAL.out k hk hd.out
      rcases hcs with ⟨hlow, hdec⟩ | ⟨hhi, hr, -⟩
      · rw [hdec] at hnx
        have hit2 := Lib.iterAt_heap wr w.heap.size (bs l) k (k + 1) hit
        have hb2 := Lib.below_iterAt hb (k := w.heap.size) (Nat.le_refl _) (bs l) (k + 1)
        obtain ⟨W, hW⟩ : ∃ W, wr.iterAt w.heap.size (bs l) (k + 1) = W := ⟨_, rfl⟩
        rw [hW] at hnx hit2 hb2
        by_cases hdig : isDig l[k] = true
        · have hd2 : 48 ≤ l[k].toNat ∧ l[k].toNat ≤ 57 := by simpa [isDig] using hdig
          have htk : l.take (k + 1) = l.take k ++ [l[k]] := by rw [List.take_add_one, List.getElem?_eq_getElem hlt]; rfl
          have hnv : valD (l.take (k + 1)) = 10 * valD (l.take k) + ((l[k].toNat : Int) - 48) := by rw [htk, valD_snoc]
          have hna : (l.take (k + 1)).all isDig = true := by rw [htk, List.all_append, hd.out]; simp [hdig]
          have hml : (match wr.heap[w.heap.size]? with | some (.stringIter _ k) => l.length - k | _ => 0) = l.length - k := by rw [hit]
          have HNA := Lib.hid hna; clear hna
          have HNV := Lib.hid hnv; clear hnv
          have HML := Lib.hid hml; clear hml
          have HIT := Lib.hid hit2; clear hit2
          generalize l[k].toNat = r at hd2 hlow hnx HNV
          generalize valD (l.take k) = n at hv HNV
          clear htk hdig hit hb hd
          go_wp2
          go_roundw
          case rel => exact ⟨k + 1, by omega, by rw [HNV.out] <;> go_num, HNA, HIT.out, hb2⟩
          case measure => rw [HML.out, HIT.out]; simp <;> omega
        · have hn := HBAD.out k hlt (Bool.eq_false_iff.2 hdig)
          have hd2 : l[k].toNat < 48 ∨ 57 < l[k].toNat := by
            simp only [isDig, Bool.and_eq_true, decide_eq_true_eq] at hdig; omega
          have HN := Lib.hid hn; clear hn hdig
          generalize l[k].toNat = r at hd2 hlow hnx
          generalize valD (l.take k) = n at hv
          clear hit hb hd hit2
          rcases hd2 with hd2 | hd2
          · go_wp2
            go_ret2
            exact ⟨by rw [HN.out]; rfl, hb2⟩
          · go_wp2
            go_ret2
            exact ⟨by rw [HN.out]; rfl, hb2⟩
      · have hn := HBAD.out k hlt (by simp only [isDig]; rw [Bool.and_eq_false_iff]; right; simp; omega)
        generalize Utf8.decode (bs l) k = rk at hnx hr
        obtain ⟨r, K⟩ := rk
        have hb2 := Lib.below_iterAt hb (k := w.heap.size) (Nat.le_refl _) (bs l) (k + K)
        simp only at hnx hr
        have HN := Lib.hid hn; clear hn
        generalize valD (l.take k) = n at hv
        obtain ⟨W, hW⟩ : ∃ W, wr.iterAt w.heap.size (bs l) (k + K) = W := ⟨_, rfl⟩
        rw [hW] at hnx hb2
        clear hit hb hd hby hhi
        go_wp2
        go_ret2
        exact ⟨by rw [HN.out]; rfl, hb2⟩
    · obtain rfl : k = l.length := by omega
      have hnx : ∀ ty, (Instr.next (.pointer (some ⟨w.heap.size, 0, none⟩)) true ty).run Tryd.prog wr = _ := fun ty => Lib.run_next_end_at wr w.heap.size (bs l) l.length ty hit (by rw [hsz]; omega)
      have hd' := hd.out
      rw [List.take_length] at hd' ⊢
      have hn := HALL.out hd'
      have HN := Lib.hid hn
      clear hd hd' hit hn
      go_wp2
      go_ret2
      exact ⟨by rw [HN.out]; rfl, hb⟩
theorem number_any (l : List UInt8) (hl : l.length ≤ 1000000) (w : World) :
    Calls Tryd.prog 65 #[.string (bs l)] w fun e w' => e = .returned (numV (numB l)) ∧ Below w.heap.size w w' := by
  by_cases h : l = [] ∨ 6 < l.length
  · exact number_short l h hl w
  · exact number_digits l (fun e => h (.inl e)) (by omega) w
end Go.Proofs.YtmgkoehclabejaaDoor
