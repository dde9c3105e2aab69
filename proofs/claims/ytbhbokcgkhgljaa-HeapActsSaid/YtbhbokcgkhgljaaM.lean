/- The walk of HeapBack. -/
import Derived.Test.YtbhbokcgkhgljaaJ
namespace Go.Proofs.Ytbhbokcgkhgljaa
open Go.RowKit Go.Lib

theorem back_short (a : Option Addr) (n c : Nat) (t : Int) (w : World) (hn : n = 0 ∨ 40 < n) (hm : n ≤ 9223372036854775807) : Calls Try.prog 6 #[.slice a n c, .int .u8 t] w (LawPost w) := by
  have HA := Lib.hid awake_any
  rcases hn with rfl | hn
  all_goals
    go_enter Try.func6, Try.ntmps6
    go_wp2_with fail
    refine (HA.out w).mono ?_
    rintro e w1 ⟨rfl, hb1⟩
    go_wp2_with fail
    refine (HA.out w1).mono ?_
    rintro e w2 ⟨rfl, hb2⟩
    go_wp2_with fail
    go_ret
    exact ⟨rfl, hb1.trans (hb2.mono hb1.size)⟩

/-- Who is left when the first k of V have been taken. -/
def Sf (V : Nat → Nat) : Nat → Nat → Bool
  | 0 => fun _ => true
  | k + 1 => upd (Sf V k) (V k) false
theorem Sf_congr {V V' : Nat → Nat} {k : Nat} (h : ∀ j, j < k → V j = V' j) : Sf V k = Sf V' k := by
  induction k with
  | zero => rfl
  | succ k ih => simp only [Sf]; rw [ih fun j hj => h j (by omega), h k (by omega)]
/-- The first k that come out are those of V. -/
def Ch (n : Nat) (A : Nat → Int) (V : Nat → Nat) (k : Nat) : Prop := ∀ j, j < k → IsNext n A (Sf V j) (V j)
theorem Ch.snoc {n : Nat} {A : Nat → Int} {V : Nat → Nat} {k v : Nat} (h : Ch n A V k) (hv : IsNext n A (Sf V k) v) : Ch n A (updO V k v) (k + 1) ∧ Sf (updO V k v) (k + 1) = upd (Sf V k) v false ∧ ∀ j, j < k → updO V k v j = V j := by
  have hs : ∀ j, j ≤ k → Sf (updO V k v) j = Sf V j := fun j hj => Sf_congr fun i hi => updO_other _ _ (by omega)
  refine ⟨fun j hj => ?_, ?_, fun j hj => updO_other _ _ (by omega)⟩
  · by_cases e : j = k
    · subst e; rw [hs j (Nat.le_refl _), updO_same]; exact hv
    · rw [hs j (by omega), updO_other _ _ e]; exact h j (by omega)
  · simp only [Sf]; rw [hs k (Nat.le_refl _), updO_same]
theorem Ch.cnt {n : Nat} {A : Nat → Int} {V : Nat → Nat} {k : Nat} (h : Ch n A V k) : cnt (Sf V k) n + k = n := by
  induction k with
  | zero => simp only [Sf]; rw [cnt_all]; rfl
  | succ k ih =>
    have hk := h k (by omega)
    have := cnt_upd_f hk.1 hk.2.1 hk.2.2.1
    have := ih fun j hj => h j (by omega)
    simp only [Sf]
    omega
theorem Ch.back {n : Nat} {A : Nat → Int} {V : Nat → Nat} {k j : Nat} (h : Ch n A V k) (hj : j < k) : upd (Sf V (j + 1)) (V j) true = Sf V j := by
  funext u
  simp only [Sf]
  unfold upd
  split
  · rename_i e
    subst e
    exact (h j hj).2.2.1.symm
  · rfl
theorem Sf_out (V : Nat → Nat) (j : Nat) : Sf V (j + 1) (V j) = false := upd_same _ _ _

theorem ownsRow_fr {w w' : World} {T : Nat} {e : TypeId} {s : Nat} {v : Value} {n : Nat} {xs : List Value} {B : Nat → Prop} (h : w.ownsRow T e s v n xs) (hf : Fr B w w') (hB : ∀ k, B k → k < T) : w'.ownsRow T e s v n xs := by
  obtain ⟨h1, h2⟩ := h
  refine ⟨h1, ?_⟩
  rcases h2 with h2 | ⟨g, cap, cur, hv, hg, hh, r⟩
  · exact .inl h2
  · exact .inr ⟨g, cap, cur, hv, hg, (hf.block g (Array.getElem?_eq_some_iff.1 hh).1 (fun hb => by have := hB g hb; omega)).trans hh, r⟩
def ints (V : Nat → Nat) (k : Nat) : List Value := (List.range k).map fun j => .int .i64 (V j)
theorem ints_snoc {V : Nat → Nat} {k v : Nat} : ints V k ++ [.int .i64 v] = ints (updO V k v) (k + 1) := by
  unfold ints
  rw [List.range_succ, List.map_append]
  congr 1
  · refine List.map_congr_left fun j hj => ?_
    rw [updO_other _ _ (by have := List.mem_range.1 hj; omega)]
  · simp [updO_same]
theorem owns_shape {w : World} {T k : Nat} {v : Value} {V : Nat → Nat} (h : w.ownsRow T 3 1 v k (ints V k)) (hk : 0 < k) : ∃ g cap, v = .slice (some ⟨g, 0, none⟩) k cap := by
  rcases h.2 with ⟨_, h0⟩ | ⟨g, cap, cur, hv, _⟩
  · omega
  · exact ⟨g, cap, hv⟩
theorem owns_cell {w : World} {T k g cap : Nat} {V : Nat → Nat} (h : w.ownsRow T 3 1 (.slice (some ⟨g, 0, none⟩) k cap) k (ints V k)) {j : Nat} (hj : j < k) : w.cell? ⟨g, j, none⟩ = some (.int .i64 (V j)) := by
  rw [h.cellAt j (by omega)]
  simp [ints, hj]

set_option maxHeartbeats 8000000 in
theorem back_walk (a : Option Addr) (n c : Nat) (t : Nat) (f : Nat → Int) (w : World) (hn0 : 0 < n) (hn : n ≤ 40) (ht : t ≤ 255) (h : Has w a n f) (hf : B64 n f) : Calls Try.prog 6 #[.slice a n c, .int .u8 t] w (LawPost w) := by
  obtain ⟨i0, hi, hz0, hz1, hz2⟩ := info_parts infoInt
  have HA := Lib.hid (awake_any w)
  have HN := Lib.hid (fun w1 hb1 => hs_new n (by omega) w w1 hb1)
  have HH := Lib.hid h
  have HF := Lib.hid hf
  have hn1 : ((n : Int) == 0) = false := by simp; omega
  clear h hf
  go_enter Try.func6, Try.ntmps6
  go_wp2_with fail
  refine HA.out.mono ?_
  rintro e w1 ⟨rfl, hb1⟩
  have HN1 := Lib.hid (HN.out w1 hb1)
  clear hb1
  go_wp2_with fail
  refine HN1.out.mono ?_
  rintro e w2 ⟨hb, ob, pb, ab, rfl, hs⟩
  generalize w2.heap.size = T at hs
  rw [← acL_zero f] at hs
  have H0 := Lib.hid hs
  clear hs
  go_wp2_with fail
  go_loopw [7] (fun x wr => ∃ k : Nat, k ≤ n ∧ x = .int .i64 k ∧ Hid (Hs w T wr hb ob pb ab n (acL f k) fun _ => true)) (fun x _ => n - (intOf x).toNat)
  case atStart => exact ⟨0, Nat.zero_le _, rfl, H0⟩
  case round =>
    obtain ⟨k, hk, rfl, HJ⟩ := hrel
    clear H0
    by_cases hlt : k < n
    · obtain ⟨b, off, rfl, hc⟩ := HH.out.at hlt
      have hcell := hc wr HJ.out.bel
      have HC := Lib.hid (HJ.out.bumpL hlt (HF.out k hlt).2)
      clear HJ hc
      generalize f k = y at hcell HC
      go_wp2_with fail
      refine HC.out.mono ?_
      rintro e w3 ⟨rfl, hs3, _⟩
      have HS3 := Lib.hid hs3
      clear hs3
      go_wp2_with fail
      go_roundw
      case rel => exact ⟨k + 1, by omega, by go_num, HS3⟩
      case measure => simp [intOf]; omega
    · obtain rfl : k = n := by omega
      generalize acL f k = A at HJ
      have htm : t % k < k := Nat.mod_lt t hn0
      have htc : ((t % k : Nat) : Int) = (t : Int) % (k : Int) := by omega
      have HT := Lib.hid htc
      have H1 := Lib.hid (show Hs w T wr hb ob pb ab k A (Sf (fun _ => 0) 0) ∧ Ch k A (fun _ => 0) 0 ∧ wr.ownsRow T 3 1 (.slice none 0 0) 0 (ints (fun _ => 0) 0) from ⟨HJ.out, fun j hj => by omega, World.ownsRow_nil _ _ _ _⟩)
      clear HJ htc
      go_wp2_with fail
      go_loopw [8, 9] (fun x y w2 => ∃ (i : Nat) (V : Nat → Nat), i ≤ t % k + 1 ∧ y = .int .i64 i ∧ Hid (Hs w T w2 hb ob pb ab k A (Sf V i) ∧ Ch k A V i ∧ w2.ownsRow T 3 1 x i (ints V i))) (fun _ y _ => t % k + 1 - (intOf y).toNat)
      case atStart => exact ⟨0, _, Nat.zero_le _, rfl, H1⟩
      case round =>
        obtain ⟨i, V, hi2, rfl, HI⟩ := hrel
        clear H1
        have hcnt := HI.out.2.1.cnt
        by_cases hlt2 : i ≤ t % k
        · have hlti : (i : Int) ≤ (t : Int) % (k : Int) := by have := HT.out; omega
          have HC := Lib.hid (HI.out.1.next (by omega))
          clear hcnt
          go_wp2_with fail
          refine HC.out.mono ?_
          rintro e w3 ⟨v, hv, rfl, hs3, hf3⟩
          obtain ⟨hch, hsf, _⟩ := HI.out.2.1.snoc hv
          have hhas := hs3.has v
          rw [Int.toNat_natCast, upd_same, Bool.and_false] at hhas
          have HHAS := Lib.hid hhas
          have hown := ownsRow_fr HI.out.2.2 hf3 (Bk.lt hs3.lt)
          have HOWN := Lib.hid (fun o => hown.alloc o)
          have hLt := hown.lt
          have HLT := Lib.hid hLt
          have HS3 := Lib.hid (show Hs w T w3 hb ob pb ab k A (Sf (updO V i v) (i + 1)) ∧ Ch k A (updO V i v) (i + 1) from ⟨by rw [hsf]; exact hs3, hch⟩)
          have hTs := hs3.top
          clear hs3 hhas hown hch hsf hv HC hf3 hLt
          go_wp2_with fail
          refine HHAS.out.mono ?_
          rintro e w4 ⟨rfl, rfl⟩
          go_wp2_with (first | (at_builtin; refine wpList_append_own _ rfl (.tmp 72) (.tmp 74) 46 rfl T 3 i0 (.int .i64 0) 1 8 Try.underlying46 hi hz0 hz1 hz2 rfl (by decide) _ _ _ rfl (HOWN.out _) ⟨w3.heap.size, 0, none⟩ 1 1 [.int .i64 v] rfl rfl ?c1 ?c2 ?c3 ?c4 ?c5 ?_) | fail)
          case c1 =>
            intro j u hj
            match j, hj with
            | 0, hj => simp at hj; subst hj; simp [Addr.add]
          case c2 => intro u hu; simp at hu; subst hu; rfl
          case c3 => unfold maxLen; omega
          case c4 => omega
          case c5 => simp; omega
          intro v' w4 hown' hgrow _
          have HG := Lib.hid (show Hs w T w4 hb ob pb ab k A (Sf (updO V i v) (i + 1)) ∧ Ch k A (updO V i v) (i + 1) ∧ w4.ownsRow T 3 1 v' (i + 1) (ints (updO V i v) (i + 1)) from by
            rw [ints_snoc] at hown'
            refine ⟨HS3.out.1.below (((Below.refl T w3).alloc hTs _).grown hgrow (by simp; omega) (fun k hk => (HLT.out k hk).1)), HS3.out.2, hown'⟩)
          clear hown' hgrow
          go_wp2_with fail
          go_roundw
          case rel => first | exact ⟨i + 1, _, by omega, by go_num, HG⟩ | ((repeat apply Exists.intro); exact ⟨⟨i + 1, _, by omega, by go_num, HG⟩, rfl⟩)
          case measure => simp [intOf]; omega
        · have hlti : ¬ (i : Int) ≤ (t : Int) % (k : Int) := by have := HT.out; omega
          have hi1 : 0 < i := by omega
          have hik : i ≤ k := by omega
          obtain ⟨g, cap, rfl⟩ := owns_shape HI.out.2.2 hi1
          have HCH := Lib.hid HI.out.2.1
          have HCN := Lib.hid hcnt
          have H2 := Lib.hid (show Hs w T wr hb ob pb ab k A (Sf V i) ∧ wr.ownsRow T 3 1 (.slice (some ⟨g, 0, none⟩) i cap) i (ints V i) from ⟨HI.out.1, HI.out.2.2⟩)
          clear HI hcnt hi2 hlt2
          go_wp2_with fail
          go_loopw [12] (fun x w2 => ∃ (y : Int) (j : Nat), j ≤ i ∧ y + 1 = j ∧ x = .int .i64 y ∧ Hid (Hs w T w2 hb ob pb ab k A (Sf V j) ∧ w2.ownsRow T 3 1 (.slice (some ⟨g, 0, none⟩) i cap) i (ints V i))) (fun x _ => (intOf x + 1).toNat)
          case atStart => exact ⟨(i : Int) - 1, i, Nat.le_refl _, by omega, by go_num, H2⟩
          case round =>
            obtain ⟨y, j, hj, hy, rfl, HJ⟩ := hrel
            clear H2
            by_cases h0 : j = 0
            · subst h0
              obtain rfl : y = -1 := by omega
              clear hy hj
              go_wp2_with fail
              go_loopw [13] (fun x w3 => ∃ j : Nat, j ≤ i ∧ x = .int .i64 j ∧ Hid (Hs w T w3 hb ob pb ab k A (Sf V j) ∧ w3.ownsRow T 3 1 (.slice (some ⟨g, 0, none⟩) i cap) i (ints V i))) (fun x _ => i - (intOf x).toNat)
              case atStart => exact ⟨0, Nat.zero_le _, rfl, HJ⟩
              case round =>
                obtain ⟨j, hj, rfl, HL⟩ := hrel
                clear HJ
                by_cases hlt3 : j < i
                · have HC := Lib.hid (HL.out.1.nextV (HCH.out j hlt3))
                  go_wp2_with fail
                  refine HC.out.mono ?_
                  rintro e w3 ⟨rfl, hs3, hf3⟩
                  have hown := ownsRow_fr HL.out.2 hf3 (Bk.lt hs3.lt)
                  have hcl := owns_cell hown hlt3
                  have HS := Lib.hid (show Hs w T w3 hb ob pb ab k A (Sf V (j + 1)) ∧ w3.ownsRow T 3 1 (.slice (some ⟨g, 0, none⟩) i cap) i (ints V i) from ⟨hs3, hown⟩)
                  clear hs3 hf3 hown HC
                  go_wp2_with fail
                  go_roundw
                  case rel => first | exact ⟨j + 1, by omega, by go_num, HS⟩ | ((repeat apply Exists.intro); exact ⟨⟨j + 1, by omega, by go_num, HS⟩, rfl⟩)
                  case measure => simp [intOf]; omega
                · obtain rfl : j = i := by omega
                  have hl := HL.out.1.len
                  have hcn : ((cnt (Sf V j) k : Nat) : Int) = (k : Int) - (j : Int) := by have := HCN.out; omega
                  rw [hcn] at hl
                  have HC := Lib.hid hl
                  have HB := Lib.hid HL.out.1.bel
                  clear hl hcn
                  go_wp2_with fail
                  refine HC.out.mono ?_
                  rintro e w4 ⟨rfl, rfl⟩
                  go_wp2_with fail
                  go_ret
                  exact ⟨rfl, HB.out⟩
            · obtain ⟨j, rfl⟩ : ∃ q, j = q + 1 := ⟨j - 1, by omega⟩
              obtain rfl : y = (j : Int) := by omega
              have hix := HCH.out j (by omega)
              have hcl := owns_cell HJ.out.2 (j := j) (by omega)
              have HC := Lib.hid (HJ.out.1.put (v := V j) hix.1 hix.2.1 (Sf_out V j))
              have hji : (j : Int) < (i : Int) := by omega
              clear hy h0
              go_wp2_with fail
              refine HC.out.mono ?_
              rintro e w3 ⟨rfl, hs3, hf3⟩
              rw [HCH.out.back (j := j) (by omega)] at hs3
              have hown := ownsRow_fr HJ.out.2 hf3 (Bk.lt hs3.lt)
              have hcl3 := owns_cell hown (j := j) (by omega)
              have HC2 := Lib.hid (hs3.put0 (V j : Nat) (by rw [Int.toNat_natCast, hix.2.2.1]; simp))
              have HS := Lib.hid (show Hs w T w3 hb ob pb ab k A (Sf V j) ∧ w3.ownsRow T 3 1 (.slice (some ⟨g, 0, none⟩) i cap) i (ints V i) from ⟨hs3, hown⟩)
              clear hs3 hf3 hown HC hix
              go_wp2_with fail
              refine HC2.out.mono ?_
              rintro e w4 ⟨rfl, rfl⟩
              go_wp2_with fail
              go_roundw
              case rel => first | exact ⟨(j : Int) - 1, j, by omega, by omega, by go_num, HS⟩ | ((repeat apply Exists.intro); exact ⟨⟨(j : Int) - 1, j, by omega, by omega, by go_num, HS⟩, rfl⟩)
              case measure => simp [intOf]
end Go.Proofs.Ytbhbokcgkhgljaa
