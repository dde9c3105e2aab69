/- Contracts: a literal of a text, and the first words (the program's). -/
import Derived.Test.YtmgkoehclabejaaDoorPG
import Derived.Test.YtmgkoehclabejaaDoorShelf
namespace Go.Proofs.YtmgkoehclabejaaDoor
open Go Go.RowKit Go.Lib

theorem trim45 (l : List UInt8) (h : l.head? = some 45) : Lib.trimPrefix l [45] = l.drop 1 ∧ Lib.hasPrefix l [45] = true := by
  cases l with
  | nil => simp at h
  | cons c l => simp at h; subst h; simp [Lib.trimPrefix, Lib.hasPrefix]
theorem keep45 (l : List UInt8) (h : l.head? ≠ some 45) : Lib.trimPrefix l [45] = l ∧ Lib.hasPrefix l [45] = false := by
  cases l with
  | nil => simp [Lib.trimPrefix, Lib.hasPrefix]
  | cons c l =>
    have : ¬ (45 : UInt8) = c := fun e => h (by simp [← e])
    have hp : Lib.hasPrefix (c :: l) [45] = false := by simp [Lib.hasPrefix, List.isPrefixOf, this]
    exact ⟨by unfold Lib.trimPrefix; rw [hp]; rfl, hp⟩

theorem sgnB_minus_none {l : List UInt8} (h : l.head? = some 45) (hx : numB (l.drop 1) = none) : sgnB l = none := by unfold sgnB; rw [if_pos h, hx]
theorem sgnB_minus_some {l : List UInt8} (h : l.head? = some 45) (x : Int) (hx : numB (l.drop 1) = some x) : sgnB l = if x ≤ 100000 ∧ x ≠ 0 then some (-x) else none := by unfold sgnB; rw [if_pos h, hx]
theorem sgnB_plain_none {l : List UInt8} (h : l.head? ≠ some 45) (hx : numB l = none) : sgnB l = none := by unfold sgnB; rw [if_neg h, hx]
theorem sgnB_plain_some {l : List UInt8} (h : l.head? ≠ some 45) (x : Int) (hx : numB l = some x) : sgnB l = if x ≤ 100000 then some x else none := by unfold sgnB; rw [if_neg h, hx]

def SgnPost (l : List UInt8) (w : World) (e : Ending) (w' : World) : Prop := e = .returned (numV (sgnB l)) ∧ Below w.heap.size w w'

set_option maxHeartbeats 2000000 in
theorem signed_minus (l : List UInt8) (h : l.head? = some 45) (hl : l.length ≤ 1000000) (w : World) : Calls Tryd.prog 66 #[.string (bs l)] w (SgnPost l w) := by
  have hc := Tryd.strings_CutPrefix (bs l) ⟨#[45]⟩ w
  have hn := number_any (l.drop 1) (by simp; omega) w
  rw [bs_list] at hc
  obtain ⟨h1, h2⟩ := trim45 l h
  rw [show (⟨#[45]⟩ : ByteArray).data.toList = [45] from rfl, h1, h2] at hc
  have hc' : Calls Tryd.prog 81 #[.string (bs l), .string ⟨#[45]⟩] w fun e w' => e = .returned (.tuple #[.string (bs (l.drop 1)), .bool true]) ∧ w' = w := hc
  have hfin : ∀ (o : Option Int) (w' : World), sgnB l = o → Below w.heap.size w w' → SgnPost l w (.returned (numV o)) w' := by
    rintro o w' rfl hb; exact ⟨rfl, hb⟩
  have HF := Lib.hid hfin; clear hfin
  have HC := Lib.hid hc'; clear hc hc' h1 h2
  have hsn := sgnB_minus_none h
  have hss := sgnB_minus_some h
  generalize l.drop 1 = r at hn HC hsn hss
  clear h hl
  cases hx : numB r with
  | none =>
    have hs := hsn hx
    rw [hx] at hn
    clear hsn hss
    rw [numV_none] at hn
    have HN := Lib.hid hn; clear hn hx
    have HS := Lib.hid hs; clear hs
    go_enter Tryd.func66, Tryd.ntmps66
    go_wp2_with fail
    refine HC.out.mono ?_
    rintro e w' ⟨rfl, rfl⟩
    go_wp2_with fail
    refine HN.out.mono ?_
    rintro e w' ⟨rfl, hb⟩
    go_wp2
    go_ret2
    exact HF.out _ _ HS.out hb
  | some x =>
    have hb := numB_some hx
    have hs := hss x hx
    rw [hx] at hn
    clear hsn hss
    rw [numV_some] at hn
    have HN := Lib.hid hn; clear hn hx
    obtain ⟨hx0, hx1, -⟩ := hb
    by_cases hg : x ≤ 100000
    · by_cases hz : x = 0
      · subst hz
        rw [if_neg (by omega)] at hs
        have HS := Lib.hid hs; clear hs
        go_enter Tryd.func66, Tryd.ntmps66
        go_wp2_with fail
        refine HC.out.mono ?_
        rintro e w' ⟨rfl, rfl⟩
        go_wp2_with fail
        refine HN.out.mono ?_
        rintro e w' ⟨rfl, hb⟩
        go_wp2
        go_ret2
        exact HF.out _ _ HS.out hb
      · rw [if_pos ⟨hg, hz⟩] at hs
        have hzb : (x == 0) = false := by simpa using hz
        have HS := Lib.hid hs; clear hs hz
        go_enter Tryd.func66, Tryd.ntmps66
        go_wp2_with fail
        refine HC.out.mono ?_
        rintro e w' ⟨rfl, rfl⟩
        go_wp2_with fail
        refine HN.out.mono ?_
        rintro e w' ⟨rfl, hb⟩
        go_wp2
        go_ret2
        exact HF.out _ _ HS.out hb
    · rw [if_neg (by omega)] at hs
      have HS := Lib.hid hs; clear hs
      go_enter Tryd.func66, Tryd.ntmps66
      go_wp2_with fail
      refine HC.out.mono ?_
      rintro e w' ⟨rfl, rfl⟩
      go_wp2_with fail
      refine HN.out.mono ?_
      rintro e w' ⟨rfl, hb⟩
      go_wp2
      go_ret2
      exact HF.out _ _ HS.out hb

set_option maxHeartbeats 2000000 in
theorem signed_plain (l : List UInt8) (h : l.head? ≠ some 45) (hl : l.length ≤ 1000000) (w : World) : Calls Tryd.prog 66 #[.string (bs l)] w (SgnPost l w) := by
  have hc := Tryd.strings_CutPrefix (bs l) ⟨#[45]⟩ w
  have hn := number_any l hl w
  rw [bs_list] at hc
  obtain ⟨h1, h2⟩ := keep45 l h
  rw [show (⟨#[45]⟩ : ByteArray).data.toList = [45] from rfl, h1, h2] at hc
  have hc' : Calls Tryd.prog 81 #[.string (bs l), .string ⟨#[45]⟩] w fun e w' => e = .returned (.tuple #[.string (bs l), .bool false]) ∧ w' = w := hc
  have hfin : ∀ (o : Option Int) (w' : World), sgnB l = o → Below w.heap.size w w' → SgnPost l w (.returned (numV o)) w' := by
    rintro o w' rfl hb; exact ⟨rfl, hb⟩
  have HF := Lib.hid hfin; clear hfin
  have HC := Lib.hid hc'; clear hc hc' h1 h2
  have hsn := sgnB_plain_none h
  have hss := sgnB_plain_some h
  clear h hl
  cases hx : numB l with
  | none =>
    have hs := hsn hx
    rw [hx] at hn
    clear hsn hss
    rw [numV_none] at hn
    have HN := Lib.hid hn; clear hn hx
    have HS := Lib.hid hs; clear hs
    go_enter Tryd.func66, Tryd.ntmps66
    go_wp2_with fail
    refine HC.out.mono ?_
    rintro e w' ⟨rfl, rfl⟩
    go_wp2_with fail
    refine HN.out.mono ?_
    rintro e w' ⟨rfl, hb⟩
    go_wp2
    go_ret2
    exact HF.out _ _ HS.out hb
  | some x =>
    have hb := numB_some hx
    have hs := hss x hx
    rw [hx] at hn
    clear hsn hss
    rw [numV_some] at hn
    have HN := Lib.hid hn; clear hn hx
    obtain ⟨hx0, hx1, -⟩ := hb
    by_cases hg : x ≤ 100000
    · rw [if_pos hg] at hs
      have HS := Lib.hid hs; clear hs
      go_enter Tryd.func66, Tryd.ntmps66
      go_wp2_with fail
      refine HC.out.mono ?_
      rintro e w' ⟨rfl, rfl⟩
      go_wp2_with fail
      refine HN.out.mono ?_
      rintro e w' ⟨rfl, hb⟩
      go_wp2
      go_ret2
      exact HF.out _ _ HS.out hb
    · rw [if_neg hg] at hs
      have HS := Lib.hid hs; clear hs
      go_enter Tryd.func66, Tryd.ntmps66
      go_wp2_with fail
      refine HC.out.mono ?_
      rintro e w' ⟨rfl, rfl⟩
      go_wp2_with fail
      refine HN.out.mono ?_
      rintro e w' ⟨rfl, hb⟩
      go_wp2
      go_ret2
      exact HF.out _ _ HS.out hb
theorem signed_any (l : List UInt8) (hl : l.length ≤ 1000000) (w : World) : Calls Tryd.prog 66 #[.string (bs l)] w (SgnPost l w) := by
  by_cases h : l.head? = some 45
  · exact signed_minus l h hl w
  · exact signed_plain l h hl w
end Go.Proofs.YtmgkoehclabejaaDoor
