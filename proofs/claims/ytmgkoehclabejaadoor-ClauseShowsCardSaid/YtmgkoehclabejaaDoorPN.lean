/- Contract: the answers' words. -/
import Derived.Test.YtmgkoehclabejaaDoorPL
import Derived.Test.YtmgkoehclabejaaDoorPM
namespace Go.Proofs.YtmgkoehclabejaaDoor
open Go Go.RowKit Go.Lib

theorem flush_len (w : Wd) : (flush w).length ≤ w.length := by
  unfold flush
  split
  · simp
  · rename_i h
    have := List.length_pos_iff.2 h
    simp only [List.length_cons, List.length_nil]; omega
theorem rstep_lens (s : Scan) (c : UInt8) : (rstep s c).out.length + (rstep s c).word.length ≤ s.out.length + s.word.length + 1 := by
  have hf := flush_len s.word
  have h1 : ∀ b : Bool, (if b = true then s.word else s.word ++ [c]).length ≤ s.word.length + 1 := by
    intro b; cases b <;> simp
  have h2 := h1 (if s.fresh then c == 99 else s.skip)
  by_cases hb : (c == 32 || c == 9 || c == 13 || c == 10) = true
  · have : rstep s c = ⟨s.out ++ flush s.word, [], c == 10, if s.fresh then c == 99 else s.skip⟩ := by simp only [rstep]; rw [if_pos hb]
    rw [this]; simp only [List.length_append, List.length_nil]; omega
  · have : rstep s c = ⟨s.out, if (if s.fresh then c == 99 else s.skip) then s.word else s.word ++ [c], c == 10, if s.fresh then c == 99 else s.skip⟩ := by simp only [rstep]; rw [if_neg hb]
    rw [this]; simp only; omega
theorem scan_lens (L : Wd) : ∀ s : Scan, (L.foldl rstep s).out.length + (L.foldl rstep s).word.length ≤ s.out.length + s.word.length + L.length := by
  induction L with
  | nil => intro s; simp
  | cons c L ih =>
    intro s
    have := ih (rstep s c)
    have := rstep_lens s c
    simp only [List.foldl_cons, List.length_cons]
    omega
theorem rstep_word {o : List Wd} {word : Wd} {f sk : Bool} {c : UInt8} (h : (c == 32 || c == 9 || c == 13 || c == 10) = false) :
    rstep ⟨o, word, f, sk⟩ c = ⟨o, if (if f then c == 99 else sk) then word else word ++ [c], false, if f then c == 99 else sk⟩ := by
  have h10 : (c == 10) = false := by
    cases hc : (c == 10) with
    | false => rfl
    | true => rw [hc] at h; simp at h
  simp only [rstep]; rw [if_neg (by rw [h]; exact Bool.false_ne_true), h10]
theorem bs_at (l : Wd) (k : Nat) (h : k < l.length) (h' : k < (bs l).size) : (bs l)[k]'h' = l[k] := by
  show (l.toArray)[k]'(by simpa using h) = l[k]
  simp only [List.getElem_toArray]
  rfl
theorem take_snocA {α : Type} {L : List α} {k : Nat} {u : α} (h : L[k]? = some u) : L.take (k + 1) = L.take k ++ [u] := by rw [List.take_add_one, h]; rfl
theorem u8_beq (c d : UInt8) : (((c.toNat : Nat) : Int) == ((d.toNat : Nat) : Int)) = (c == d) := by
  rw [Bool.eq_iff_iff]; simp only [beq_iff_eq]
  exact ⟨fun h => UInt8.toNat_inj.1 (by exact_mod_cast h), fun h => by rw [h]⟩

set_option maxRecDepth 100000 in
set_option maxHeartbeats 8000000 in
theorem refWords_core (l : Wd) (hl : l.length ≤ 100000) (w : World) :
    Calls Tryd.prog 52 #[.string (bs l)] w fun e w' => ∃ v, e = .returned v ∧ w'.ownsRow w.heap.size 9 1 v (wordsL l).length (strV (wordsL l)) ∧ Below w.heap.size w w' := by
  obtain ⟨i0, hi, hz0, hz1, hz2⟩ := info_parts (show (Tryd.prog.info? 9).map (fun i => (i.zero, i.size, i.bytes)) = some (some (.string ⟨#[]⟩), 1, 16) by kernel_rfl)
  have hsz := bs_size l
  have hscan := scan_words l
  have HSC := Lib.hid hscan; clear hscan
  go_enter Tryd.func52, Tryd.ntmps52
  go_wp2
  go_loopw [3, 4, 5, 6, 7, 8] (fun s3 s4 s5 s6 i _ wr => ∃ (k : Nat) (o : List Wd) (word : Wd) (f sk : Bool), k ≤ l.length + 1 ∧ i = .int .i64 k ∧ s4 = .string (bs word) ∧ s5 = .bool f ∧ s6 = .bool sk ∧
      Hid (((l ++ [10]).take k).foldl rstep scan0 = ⟨o, word, f, sk⟩) ∧ Hid (wr.ownsRow w.heap.size 9 1 s3 o.length (strV o)) ∧ Hid (Below w.heap.size w wr)) (fun _ _ _ _ i _ _ => l.length + 1 - (intOf i).toNat)
  case atStart => exact ⟨0, [], [], true, false, by omega, rfl, rfl, rfl, rfl, Lib.hid rfl, Lib.hid (World.ownsRow_nil _ _ _ _), Lib.hid (Below.refl _ _)⟩
  case round =>
    obtain ⟨k, o, word, f, sk, hk, rfl, rfl, rfl, rfl, HS, HO, HB⟩ := hrel
    obtain ⟨a3, c3, rfl⟩ := own_shape HO.out
    have hle : (k : Int) ≤ (l.length : Int) + 1 := by omega
    have hlens : o.length + word.length ≤ 100001 := by
      have := scan_lens ((l ++ [10]).take k) scan0
      rw [HS.out] at this
      simp [scan0] at this; omega
    have hszw := bs_size word
    by_cases hfin : k ≤ l.length
    · have hcx : ∃ c, (l ++ [10])[k]? = some c ∧ (k = l.length → c = 10) ∧ (∀ h : k < l.length, c = l[k]) := by
        rcases Nat.lt_or_ge k l.length with h | h
        · exact ⟨l[k], by rw [List.getElem?_append_left h, List.getElem?_eq_getElem h], fun e => by omega, fun _ => rfl⟩
        · obtain rfl : k = l.length := by omega
          exact ⟨10, by simp, fun _ => rfl, fun h => by omega⟩
      obtain ⟨c, hc, hc10, hck⟩ := hcx
      have hnx : ((l ++ [10]).take (k + 1)).foldl rstep scan0 = rstep ⟨o, word, f, sk⟩ c := by rw [take_snocA hc, List.foldl_append, HS.out]; rfl
      have HNX := Lib.hid hnx; clear hnx hc HS
      by_cases hlt : k < l.length
      · have hgx : (bs l)[k]'(by rw [bs_size]; exact hlt) = c := (bs_at l k hlt _).trans (hck hlt).symm
        have hlt' : (k : Int) < (l.length : Int) := by omega
        have kc : ∀ W : World, (convert 52 9 (.slice (some ⟨W.heap.size, 0, none⟩) 1 1)).run Tryd.prog (W.alloc (.cells #[.int .u8 (c.toNat : Int)] 5)) = .ok (.string (bs [c])) (W.alloc (.cells #[.int .u8 (c.toNat : Int)] 5)) := fun W => byte_string W c _ rfl
        clear hc10 hck
        by_cases h32 : c = 32
        · subst h32
          cases f
          · by_cases hw : word = []
            · subst hw
              have hwe : (bs []).toList.isEmpty = true := toList_empty0 _ hszw
              have hst : rstep ⟨o, [], false, sk⟩ 32 = ⟨o, [], false, sk⟩ := by simp [rstep, flush]
              rw [hst] at HNX
              clear hst
              go_wp2
              go_roundw
              case rel => exact ⟨k + 1, _, _, _, _, by omega, by go_num, rfl, rfl, rfl, HNX, HO, HB⟩
              case measure => simp [intOf] <;> omega
            · have hwe : (bs word).toList.isEmpty = false := toList_empty _ (by rw [hszw]; simpa using hw)
              have hst : rstep ⟨o, word, false, sk⟩ 32 = ⟨o ++ [word], [], false, sk⟩ := by simp [rstep, flush, hw]
              rw [hst] at HNX
              clear hst hw
              have HOA := Lib.hid (fun x => HO.out.alloc x)
              have hbsz := HB.out.size
              go_wp2_with (first | (at_builtin; refine wpList_append_own _ rfl (.tmp 43) (.tmp 45) 63 rfl w.heap.size 9 i0 (.string ⟨#[]⟩) 1 16 Tryd.underlying63 hi hz0 hz1 hz2 rfl (by decide) _ _ _ rfl (HOA.out _) ⟨wr.heap.size, 0, none⟩ 1 1 [.string (bs word)] rfl rfl ?c1 ?c2 ?c3 ?c4 ?c5 ?_) | fail)
              case c1 => exact one_cell _ _ _
              case c2 => intro u hu; simp at hu; subst hu; rfl
              case c3 => unfold maxLen; omega
              case c4 => omega
              case c5 => simp; omega
              intro v' w2 hown hgrow _
              have HO2 : Hid (w2.ownsRow w.heap.size 9 1 v' (o ++ [word]).length (strV (o ++ [word]))) := Lib.hid (by simpa [strV] using hown)
              have HB2 := Lib.hid ((HB.out.alloc hbsz _).grown hgrow (by simp; omega) (fun q hq => ((HOA.out (.cells #[.string (bs word)] 9)).lt q hq).1))
              clear hown hgrow HOA
              go_wp2
              go_roundw
              case rel => exact ⟨k + 1, _, [], _, _, by omega, by go_num, rfl, rfl, rfl, HNX, HO2, HB2⟩
              case measure => simp [intOf] <;> omega
          · by_cases hw : word = []
            · subst hw
              have hwe : (bs []).toList.isEmpty = true := toList_empty0 _ hszw
              have hst : rstep ⟨o, [], true, sk⟩ 32 = ⟨o, [], false, false⟩ := by simp [rstep, flush]
              rw [hst] at HNX
              clear hst
              go_wp2
              go_roundw
              case rel => exact ⟨k + 1, _, _, _, _, by omega, by go_num, rfl, rfl, rfl, HNX, HO, HB⟩
              case measure => simp [intOf] <;> omega
            · have hwe : (bs word).toList.isEmpty = false := toList_empty _ (by rw [hszw]; simpa using hw)
              have hst : rstep ⟨o, word, true, sk⟩ 32 = ⟨o ++ [word], [], false, false⟩ := by simp [rstep, flush, hw]
              rw [hst] at HNX
              clear hst hw
              have HOA := Lib.hid (fun x => HO.out.alloc x)
              have hbsz := HB.out.size
              go_wp2_with (first | (at_builtin; refine wpList_append_own _ rfl (.tmp 43) (.tmp 45) 63 rfl w.heap.size 9 i0 (.string ⟨#[]⟩) 1 16 Tryd.underlying63 hi hz0 hz1 hz2 rfl (by decide) _ _ _ rfl (HOA.out _) ⟨wr.heap.size, 0, none⟩ 1 1 [.string (bs word)] rfl rfl ?c1 ?c2 ?c3 ?c4 ?c5 ?_) | fail)
              case c1 => exact one_cell _ _ _
              case c2 => intro u hu; simp at hu; subst hu; rfl
              case c3 => unfold maxLen; omega
              case c4 => omega
              case c5 => simp; omega
              intro v' w2 hown hgrow _
              have HO2 : Hid (w2.ownsRow w.heap.size 9 1 v' (o ++ [word]).length (strV (o ++ [word]))) := Lib.hid (by simpa [strV] using hown)
              have HB2 := Lib.hid ((HB.out.alloc hbsz _).grown hgrow (by simp; omega) (fun q hq => ((HOA.out (.cells #[.string (bs word)] 9)).lt q hq).1))
              clear hown hgrow HOA
              go_wp2
              go_roundw
              case rel => exact ⟨k + 1, _, [], _, _, by omega, by go_num, rfl, rfl, rfl, HNX, HO2, HB2⟩
              case measure => simp [intOf] <;> omega
        · by_cases h9 : c = 9
          · subst h9
            cases f
            · by_cases hw : word = []
              · subst hw
                have hwe : (bs []).toList.isEmpty = true := toList_empty0 _ hszw
                have hst : rstep ⟨o, [], false, sk⟩ 9 = ⟨o, [], false, sk⟩ := by simp [rstep, flush]
                rw [hst] at HNX
                clear hst
                go_wp2
                go_roundw
                case rel => exact ⟨k + 1, _, _, _, _, by omega, by go_num, rfl, rfl, rfl, HNX, HO, HB⟩
                case measure => simp [intOf] <;> omega
              · have hwe : (bs word).toList.isEmpty = false := toList_empty _ (by rw [hszw]; simpa using hw)
                have hst : rstep ⟨o, word, false, sk⟩ 9 = ⟨o ++ [word], [], false, sk⟩ := by simp [rstep, flush, hw]
                rw [hst] at HNX
                clear hst hw
                have HOA := Lib.hid (fun x => HO.out.alloc x)
                have hbsz := HB.out.size
                go_wp2_with (first | (at_builtin; refine wpList_append_own _ rfl (.tmp 43) (.tmp 45) 63 rfl w.heap.size 9 i0 (.string ⟨#[]⟩) 1 16 Tryd.underlying63 hi hz0 hz1 hz2 rfl (by decide) _ _ _ rfl (HOA.out _) ⟨wr.heap.size, 0, none⟩ 1 1 [.string (bs word)] rfl rfl ?c1 ?c2 ?c3 ?c4 ?c5 ?_) | fail)
                case c1 => exact one_cell _ _ _
                case c2 => intro u hu; simp at hu; subst hu; rfl
                case c3 => unfold maxLen; omega
                case c4 => omega
                case c5 => simp; omega
                intro v' w2 hown hgrow _
                have HO2 : Hid (w2.ownsRow w.heap.size 9 1 v' (o ++ [word]).length (strV (o ++ [word]))) := Lib.hid (by simpa [strV] using hown)
                have HB2 := Lib.hid ((HB.out.alloc hbsz _).grown hgrow (by simp; omega) (fun q hq => ((HOA.out (.cells #[.string (bs word)] 9)).lt q hq).1))
                clear hown hgrow HOA
                go_wp2
                go_roundw
                case rel => exact ⟨k + 1, _, [], _, _, by omega, by go_num, rfl, rfl, rfl, HNX, HO2, HB2⟩
                case measure => simp [intOf] <;> omega
            · by_cases hw : word = []
              · subst hw
                have hwe : (bs []).toList.isEmpty = true := toList_empty0 _ hszw
                have hst : rstep ⟨o, [], true, sk⟩ 9 = ⟨o, [], false, false⟩ := by simp [rstep, flush]
                rw [hst] at HNX
                clear hst
                go_wp2
                go_roundw
                case rel => exact ⟨k + 1, _, _, _, _, by omega, by go_num, rfl, rfl, rfl, HNX, HO, HB⟩
                case measure => simp [intOf] <;> omega
              · have hwe : (bs word).toList.isEmpty = false := toList_empty _ (by rw [hszw]; simpa using hw)
                have hst : rstep ⟨o, word, true, sk⟩ 9 = ⟨o ++ [word], [], false, false⟩ := by simp [rstep, flush, hw]
                rw [hst] at HNX
                clear hst hw
                have HOA := Lib.hid (fun x => HO.out.alloc x)
                have hbsz := HB.out.size
                go_wp2_with (first | (at_builtin; refine wpList_append_own _ rfl (.tmp 43) (.tmp 45) 63 rfl w.heap.size 9 i0 (.string ⟨#[]⟩) 1 16 Tryd.underlying63 hi hz0 hz1 hz2 rfl (by decide) _ _ _ rfl (HOA.out _) ⟨wr.heap.size, 0, none⟩ 1 1 [.string (bs word)] rfl rfl ?c1 ?c2 ?c3 ?c4 ?c5 ?_) | fail)
                case c1 => exact one_cell _ _ _
                case c2 => intro u hu; simp at hu; subst hu; rfl
                case c3 => unfold maxLen; omega
                case c4 => omega
                case c5 => simp; omega
                intro v' w2 hown hgrow _
                have HO2 : Hid (w2.ownsRow w.heap.size 9 1 v' (o ++ [word]).length (strV (o ++ [word]))) := Lib.hid (by simpa [strV] using hown)
                have HB2 := Lib.hid ((HB.out.alloc hbsz _).grown hgrow (by simp; omega) (fun q hq => ((HOA.out (.cells #[.string (bs word)] 9)).lt q hq).1))
                clear hown hgrow HOA
                go_wp2
                go_roundw
                case rel => exact ⟨k + 1, _, [], _, _, by omega, by go_num, rfl, rfl, rfl, HNX, HO2, HB2⟩
                case measure => simp [intOf] <;> omega
          · by_cases h13 : c = 13
            · subst h13
              cases f
              · by_cases hw : word = []
                · subst hw
                  have hwe : (bs []).toList.isEmpty = true := toList_empty0 _ hszw
                  have hst : rstep ⟨o, [], false, sk⟩ 13 = ⟨o, [], false, sk⟩ := by simp [rstep, flush]
                  rw [hst] at HNX
                  clear hst
                  go_wp2
                  go_roundw
                  case rel => exact ⟨k + 1, _, _, _, _, by omega, by go_num, rfl, rfl, rfl, HNX, HO, HB⟩
                  case measure => simp [intOf] <;> omega
                · have hwe : (bs word).toList.isEmpty = false := toList_empty _ (by rw [hszw]; simpa using hw)
                  have hst : rstep ⟨o, word, false, sk⟩ 13 = ⟨o ++ [word], [], false, sk⟩ := by simp [rstep, flush, hw]
                  rw [hst] at HNX
                  clear hst hw
                  have HOA := Lib.hid (fun x => HO.out.alloc x)
                  have hbsz := HB.out.size
                  go_wp2_with (first | (at_builtin; refine wpList_append_own _ rfl (.tmp 43) (.tmp 45) 63 rfl w.heap.size 9 i0 (.string ⟨#[]⟩) 1 16 Tryd.underlying63 hi hz0 hz1 hz2 rfl (by decide) _ _ _ rfl (HOA.out _) ⟨wr.heap.size, 0, none⟩ 1 1 [.string (bs word)] rfl rfl ?c1 ?c2 ?c3 ?c4 ?c5 ?_) | fail)
                  case c1 => exact one_cell _ _ _
                  case c2 => intro u hu; simp at hu; subst hu; rfl
                  case c3 => unfold maxLen; omega
                  case c4 => omega
                  case c5 => simp; omega
                  intro v' w2 hown hgrow _
                  have HO2 : Hid (w2.ownsRow w.heap.size 9 1 v' (o ++ [word]).length (strV (o ++ [word]))) := Lib.hid (by simpa [strV] using hown)
                  have HB2 := Lib.hid ((HB.out.alloc hbsz _).grown hgrow (by simp; omega) (fun q hq => ((HOA.out (.cells #[.string (bs word)] 9)).lt q hq).1))
                  clear hown hgrow HOA
                  go_wp2
                  go_roundw
                  case rel => exact ⟨k + 1, _, [], _, _, by omega, by go_num, rfl, rfl, rfl, HNX, HO2, HB2⟩
                  case measure => simp [intOf] <;> omega
              · by_cases hw : word = []
                · subst hw
                  have hwe : (bs []).toList.isEmpty = true := toList_empty0 _ hszw
                  have hst : rstep ⟨o, [], true, sk⟩ 13 = ⟨o, [], false, false⟩ := by simp [rstep, flush]
                  rw [hst] at HNX
                  clear hst
                  go_wp2
                  go_roundw
                  case rel => exact ⟨k + 1, _, _, _, _, by omega, by go_num, rfl, rfl, rfl, HNX, HO, HB⟩
                  case measure => simp [intOf] <;> omega
                · have hwe : (bs word).toList.isEmpty = false := toList_empty _ (by rw [hszw]; simpa using hw)
                  have hst : rstep ⟨o, word, true, sk⟩ 13 = ⟨o ++ [word], [], false, false⟩ := by simp [rstep, flush, hw]
                  rw [hst] at HNX
                  clear hst hw
                  have HOA := Lib.hid (fun x => HO.out.alloc x)
                  have hbsz := HB.out.size
                  go_wp2_with (first | (at_builtin; refine wpList_append_own _ rfl (.tmp 43) (.tmp 45) 63 rfl w.heap.size 9 i0 (.string ⟨#[]⟩) 1 16 Tryd.underlying63 hi hz0 hz1 hz2 rfl (by decide) _ _ _ rfl (HOA.out _) ⟨wr.heap.size, 0, none⟩ 1 1 [.string (bs word)] rfl rfl ?c1 ?c2 ?c3 ?c4 ?c5 ?_) | fail)
                  case c1 => exact one_cell _ _ _
                  case c2 => intro u hu; simp at hu; subst hu; rfl
                  case c3 => unfold maxLen; omega
                  case c4 => omega
                  case c5 => simp; omega
                  intro v' w2 hown hgrow _
                  have HO2 : Hid (w2.ownsRow w.heap.size 9 1 v' (o ++ [word]).length (strV (o ++ [word]))) := Lib.hid (by simpa [strV] using hown)
                  have HB2 := Lib.hid ((HB.out.alloc hbsz _).grown hgrow (by simp; omega) (fun q hq => ((HOA.out (.cells #[.string (bs word)] 9)).lt q hq).1))
                  clear hown hgrow HOA
                  go_wp2
                  go_roundw
                  case rel => exact ⟨k + 1, _, [], _, _, by omega, by go_num, rfl, rfl, rfl, HNX, HO2, HB2⟩
                  case measure => simp [intOf] <;> omega
            · by_cases h10 : c = 10
              · subst h10
                cases f
                · by_cases hw : word = []
                  · subst hw
                    have hwe : (bs []).toList.isEmpty = true := toList_empty0 _ hszw
                    have hst : rstep ⟨o, [], false, sk⟩ 10 = ⟨o, [], true, sk⟩ := by simp [rstep, flush]
                    rw [hst] at HNX
                    clear hst
                    go_wp2
                    go_roundw
                    case rel => exact ⟨k + 1, _, _, _, _, by omega, by go_num, rfl, rfl, rfl, HNX, HO, HB⟩
                    case measure => simp [intOf] <;> omega
                  · have hwe : (bs word).toList.isEmpty = false := toList_empty _ (by rw [hszw]; simpa using hw)
                    have hst : rstep ⟨o, word, false, sk⟩ 10 = ⟨o ++ [word], [], true, sk⟩ := by simp [rstep, flush, hw]
                    rw [hst] at HNX
                    clear hst hw
                    have HOA := Lib.hid (fun x => HO.out.alloc x)
                    have hbsz := HB.out.size
                    go_wp2_with (first | (at_builtin; refine wpList_append_own _ rfl (.tmp 43) (.tmp 45) 63 rfl w.heap.size 9 i0 (.string ⟨#[]⟩) 1 16 Tryd.underlying63 hi hz0 hz1 hz2 rfl (by decide) _ _ _ rfl (HOA.out _) ⟨wr.heap.size, 0, none⟩ 1 1 [.string (bs word)] rfl rfl ?c1 ?c2 ?c3 ?c4 ?c5 ?_) | fail)
                    case c1 => exact one_cell _ _ _
                    case c2 => intro u hu; simp at hu; subst hu; rfl
                    case c3 => unfold maxLen; omega
                    case c4 => omega
                    case c5 => simp; omega
                    intro v' w2 hown hgrow _
                    have HO2 : Hid (w2.ownsRow w.heap.size 9 1 v' (o ++ [word]).length (strV (o ++ [word]))) := Lib.hid (by simpa [strV] using hown)
                    have HB2 := Lib.hid ((HB.out.alloc hbsz _).grown hgrow (by simp; omega) (fun q hq => ((HOA.out (.cells #[.string (bs word)] 9)).lt q hq).1))
                    clear hown hgrow HOA
                    go_wp2
                    go_roundw
                    case rel => exact ⟨k + 1, _, [], _, _, by omega, by go_num, rfl, rfl, rfl, HNX, HO2, HB2⟩
                    case measure => simp [intOf] <;> omega
                · by_cases hw : word = []
                  · subst hw
                    have hwe : (bs []).toList.isEmpty = true := toList_empty0 _ hszw
                    have hst : rstep ⟨o, [], true, sk⟩ 10 = ⟨o, [], true, false⟩ := by simp [rstep, flush]
                    rw [hst] at HNX
                    clear hst
                    go_wp2
                    go_roundw
                    case rel => exact ⟨k + 1, _, _, _, _, by omega, by go_num, rfl, rfl, rfl, HNX, HO, HB⟩
                    case measure => simp [intOf] <;> omega
                  · have hwe : (bs word).toList.isEmpty = false := toList_empty _ (by rw [hszw]; simpa using hw)
                    have hst : rstep ⟨o, word, true, sk⟩ 10 = ⟨o ++ [word], [], true, false⟩ := by simp [rstep, flush, hw]
                    rw [hst] at HNX
                    clear hst hw
                    have HOA := Lib.hid (fun x => HO.out.alloc x)
                    have hbsz := HB.out.size
                    go_wp2_with (first | (at_builtin; refine wpList_append_own _ rfl (.tmp 43) (.tmp 45) 63 rfl w.heap.size 9 i0 (.string ⟨#[]⟩) 1 16 Tryd.underlying63 hi hz0 hz1 hz2 rfl (by decide) _ _ _ rfl (HOA.out _) ⟨wr.heap.size, 0, none⟩ 1 1 [.string (bs word)] rfl rfl ?c1 ?c2 ?c3 ?c4 ?c5 ?_) | fail)
                    case c1 => exact one_cell _ _ _
                    case c2 => intro u hu; simp at hu; subst hu; rfl
                    case c3 => unfold maxLen; omega
                    case c4 => omega
                    case c5 => simp; omega
                    intro v' w2 hown hgrow _
                    have HO2 : Hid (w2.ownsRow w.heap.size 9 1 v' (o ++ [word]).length (strV (o ++ [word]))) := Lib.hid (by simpa [strV] using hown)
                    have HB2 := Lib.hid ((HB.out.alloc hbsz _).grown hgrow (by simp; omega) (fun q hq => ((HOA.out (.cells #[.string (bs word)] 9)).lt q hq).1))
                    clear hown hgrow HOA
                    go_wp2
                    go_roundw
                    case rel => exact ⟨k + 1, _, [], _, _, by omega, by go_num, rfl, rfl, rfl, HNX, HO2, HB2⟩
                    case measure => simp [intOf] <;> omega
              · have e1 : ((c.toNat : Int) == 32) = false := by have := u8_beq c 32; rw [beq_eq_false_iff_ne.2 h32] at this; exact this
                have e2 : ((c.toNat : Int) == 9) = false := by have := u8_beq c 9; rw [beq_eq_false_iff_ne.2 h9] at this; exact this
                have e3 : ((c.toNat : Int) == 13) = false := by have := u8_beq c 13; rw [beq_eq_false_iff_ne.2 h13] at this; exact this
                have e4 : ((c.toNat : Int) == 10) = false := by have := u8_beq c 10; rw [beq_eq_false_iff_ne.2 h10] at this; exact this
                have e5 : ((c.toNat : Int) == 99) = (c == 99) := u8_beq c 99
                have hnb : (c == 32 || c == 9 || c == 13 || c == 10) = false := by rw [beq_eq_false_iff_ne.2 h32, beq_eq_false_iff_ne.2 h9, beq_eq_false_iff_ne.2 h13, beq_eq_false_iff_ne.2 h10]; rfl
                rw [rstep_word hnb] at HNX
                clear hnb h32 h9 h13 h10
                cases f
                · cases sk
                  · simp only [Bool.false_eq_true, ↓reduceIte] at HNX
                    have HB3 := Lib.hid (HB.out.alloc HB.out.size (.cells #[.int .u8 (c.toNat : Int)] 5))
                    have HO3 := Lib.hid (HO.out.alloc (.cells #[.int .u8 (c.toNat : Int)] 5))
                    have hap := bs_append word [c]
                    have hs1 := bs_size [c]
                    have HAP := Lib.hid hap; clear hap
                    go_wp2
                    go_roundw
                    case rel => exact ⟨k + 1, o, word ++ [c], _, _, by omega, by go_num, by rw [← HAP.out], rfl, rfl, HNX, HO3, HB3⟩
                    case measure => simp [intOf] <;> omega
                  · simp only [Bool.false_eq_true, ↓reduceIte] at HNX
                    go_wp2
                    go_roundw
                    case rel => exact ⟨k + 1, _, _, _, _, by omega, by go_num, rfl, rfl, rfl, HNX, HO, HB⟩
                    case measure => simp [intOf] <;> omega
                · cases h99 : (c == 99)
                  · rw [h99] at e5 HNX
                    simp only [Bool.false_eq_true, ↓reduceIte] at HNX
                    clear h99
                    have HB3 := Lib.hid (HB.out.alloc HB.out.size (.cells #[.int .u8 (c.toNat : Int)] 5))
                    have HO3 := Lib.hid (HO.out.alloc (.cells #[.int .u8 (c.toNat : Int)] 5))
                    have hap := bs_append word [c]
                    have hs1 := bs_size [c]
                    have HAP := Lib.hid hap; clear hap
                    go_wp2
                    go_roundw
                    case rel => exact ⟨k + 1, o, word ++ [c], _, _, by omega, by go_num, by rw [← HAP.out], rfl, rfl, HNX, HO3, HB3⟩
                    case measure => simp [intOf] <;> omega
                  · rw [h99] at e5 HNX
                    simp only [↓reduceIte] at HNX
                    clear h99
                    go_wp2
                    go_roundw
                    case rel => exact ⟨k + 1, _, _, _, _, by omega, by go_num, rfl, rfl, rfl, HNX, HO, HB⟩
                    case measure => simp [intOf] <;> omega
      · have hc : c = 10 := hc10 (by omega)
        obtain rfl : k = l.length := by omega
        clear hc10 hck hlt hfin
        subst hc
        cases f
        · by_cases hw : word = []
          · subst hw
            have hwe : (bs []).toList.isEmpty = true := toList_empty0 _ hszw
            have hst : rstep ⟨o, [], false, sk⟩ 10 = ⟨o, [], true, sk⟩ := by simp [rstep, flush]
            rw [hst] at HNX
            clear hst
            go_wp2
            go_roundw
            case rel => exact ⟨l.length + 1, _, _, _, _, by omega, by go_num, rfl, rfl, rfl, HNX, HO, HB⟩
            case measure => simp [intOf] <;> omega
          · have hwe : (bs word).toList.isEmpty = false := toList_empty _ (by rw [hszw]; simpa using hw)
            have hst : rstep ⟨o, word, false, sk⟩ 10 = ⟨o ++ [word], [], true, sk⟩ := by simp [rstep, flush, hw]
            rw [hst] at HNX
            clear hst hw
            have HOA := Lib.hid (fun x => HO.out.alloc x)
            have hbsz := HB.out.size
            go_wp2_with (first | (at_builtin; refine wpList_append_own _ rfl (.tmp 43) (.tmp 45) 63 rfl w.heap.size 9 i0 (.string ⟨#[]⟩) 1 16 Tryd.underlying63 hi hz0 hz1 hz2 rfl (by decide) _ _ _ rfl (HOA.out _) ⟨wr.heap.size, 0, none⟩ 1 1 [.string (bs word)] rfl rfl ?c1 ?c2 ?c3 ?c4 ?c5 ?_) | fail)
            case c1 => exact one_cell _ _ _
            case c2 => intro u hu; simp at hu; subst hu; rfl
            case c3 => unfold maxLen; omega
            case c4 => omega
            case c5 => simp; omega
            intro v' w2 hown hgrow _
            have HO2 : Hid (w2.ownsRow w.heap.size 9 1 v' (o ++ [word]).length (strV (o ++ [word]))) := Lib.hid (by simpa [strV] using hown)
            have HB2 := Lib.hid ((HB.out.alloc hbsz _).grown hgrow (by simp; omega) (fun q hq => ((HOA.out (.cells #[.string (bs word)] 9)).lt q hq).1))
            clear hown hgrow HOA
            go_wp2
            go_roundw
            case rel => exact ⟨l.length + 1, _, [], _, _, by omega, by go_num, rfl, rfl, rfl, HNX, HO2, HB2⟩
            case measure => simp [intOf] <;> omega
        · by_cases hw : word = []
          · subst hw
            have hwe : (bs []).toList.isEmpty = true := toList_empty0 _ hszw
            have hst : rstep ⟨o, [], true, sk⟩ 10 = ⟨o, [], true, false⟩ := by simp [rstep, flush]
            rw [hst] at HNX
            clear hst
            go_wp2
            go_roundw
            case rel => exact ⟨l.length + 1, _, _, _, _, by omega, by go_num, rfl, rfl, rfl, HNX, HO, HB⟩
            case measure => simp [intOf] <;> omega
          · have hwe : (bs word).toList.isEmpty = false := toList_empty _ (by rw [hszw]; simpa using hw)
            have hst : rstep ⟨o, word, true, sk⟩ 10 = ⟨o ++ [word], [], true, false⟩ := by simp [rstep, flush, hw]
            rw [hst] at HNX
            clear hst hw
            have HOA := Lib.hid (fun x => HO.out.alloc x)
            have hbsz := HB.out.size
            go_wp2_with (first | (at_builtin; refine wpList_append_own _ rfl (.tmp 43) (.tmp 45) 63 rfl w.heap.size 9 i0 (.string ⟨#[]⟩) 1 16 Tryd.underlying63 hi hz0 hz1 hz2 rfl (by decide) _ _ _ rfl (HOA.out _) ⟨wr.heap.size, 0, none⟩ 1 1 [.string (bs word)] rfl rfl ?c1 ?c2 ?c3 ?c4 ?c5 ?_) | fail)
            case c1 => exact one_cell _ _ _
            case c2 => intro u hu; simp at hu; subst hu; rfl
            case c3 => unfold maxLen; omega
            case c4 => omega
            case c5 => simp; omega
            intro v' w2 hown hgrow _
            have HO2 : Hid (w2.ownsRow w.heap.size 9 1 v' (o ++ [word]).length (strV (o ++ [word]))) := Lib.hid (by simpa [strV] using hown)
            have HB2 := Lib.hid ((HB.out.alloc hbsz _).grown hgrow (by simp; omega) (fun q hq => ((HOA.out (.cells #[.string (bs word)] 9)).lt q hq).1))
            clear hown hgrow HOA
            go_wp2
            go_roundw
            case rel => exact ⟨l.length + 1, _, [], _, _, by omega, by go_num, rfl, rfl, rfl, HNX, HO2, HB2⟩
            case measure => simp [intOf] <;> omega
    · obtain rfl : k = l.length + 1 := by omega
      have hs := HS.out
      rw [List.take_of_length_le (by simp)] at hs
      have ho : o = wordsL l := by rw [← HSC.out, hs]
      subst ho
      have HO' := HO
      clear hfin hs
      go_wp2
      go_ret
      exact ⟨_, rfl, HO'.out, HB.out⟩
end Go.Proofs.YtmgkoehclabejaaDoor
