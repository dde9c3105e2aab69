/- Contracts: awake. -/
import Derived.Test.YtmgkoehclabejaaDoorF
import Derived.Test.YtmgkoehclabejaaDoorH
namespace Go.Proofs.YtmgkoehclabejaaDoor
open Go.RowKit Go.Lib Go.Sort

theorem srt_ex : srt [3, -1, 3] = [-1, 3, 3] := by
  simp [srt, List.mergeSort, List.MergeSort.Internal.splitInTwo, le, rk]
theorem nf_ex : nfv [3, -1, 3] = [-1, 3] := by
  unfold nfv nf
  rw [srt_ex]
  decide +kernel
theorem show_ex : showV [[1, -2]] = [112, 32, 99, 110, 102, 32, 50, 32, 49, 10, 49, 32, 45, 50, 32, 48, 10] := by decide +kernel

theorem norm_ex (b c : Nat) (w : World) (hlt : b < w.heap.size) (h0 : w.cell? ⟨b, 0, none⟩ = some (.int .i64 3)) (h1 : w.cell? ⟨b, 1, none⟩ = some (.int .i64 (-1))) (h2 : w.cell? ⟨b, 2, none⟩ = some (.int .i64 3)) :
    Calls Tryd.prog 10 #[.slice (some ⟨b, 0, none⟩) 3 c] w fun e w' => ∃ b' off c', e = .returned (.tuple #[.slice (some ⟨b', off, none⟩) 2 c', .bool false]) ∧
      w'.cell? ⟨b', off, none⟩ = some (.int .i64 (-1)) ∧ w'.cell? ⟨b', off + 1, none⟩ = some (.int .i64 3) ∧ Below w.heap.size w w' := by
  have hf : lof (gd [3, -1, 3]) 3 = [3, -1, 3] := by simp [lof, gd, List.range_succ]
  refine (norm_any (some ⟨b, 0, none⟩) 3 c (gd [3, -1, 3]) w (by omega) (.inr ⟨b, 0, rfl, hlt, fun j hj => ?_⟩)).mono ?_
  · match j, hj with
    | 0, _ => exact h0
    | 1, _ => exact h1
    | 2, _ => exact h2
  · rw [hf]
    rintro e w' ⟨a', c', rfl, hh, _, hb⟩
    unfold tautv
    rw [nf_ex] at *
    rcases hh with hh | ⟨b', off, rfl, _, hc⟩
    · cases hh
    · exact ⟨b', off, c', rfl, hc 0 (by decide), hc 1 (by decide), hb⟩

theorem show_one (b b' c c' : Nat) (w : World) (hT : Tab w) (hlt : b < w.heap.size) (hlt' : b' < w.heap.size) (h : w.cell? ⟨b, 0, none⟩ = some (.slice (some ⟨b', 0, none⟩) 2 c')) (h0 : w.cell? ⟨b', 0, none⟩ = some (.int .i64 1)) (h1 : w.cell? ⟨b', 1, none⟩ = some (.int .i64 (-2))) :
    Calls Tryd.prog 18 #[.slice (some ⟨b, 0, none⟩) 1 c] w fun e w' => e = .returned (.string ⟨#[112, 32, 99, 110, 102, 32, 50, 32, 49, 10, 49, 32, 45, 50, 32, 48, 10]⟩) ∧ Below w.heap.size w w' := by
  have hf : rowsL (fun _ => ⟨some ⟨b', 0, none⟩, 2, c', gd [1, -2]⟩) 1 = [[1, -2]] := by simp [rowsL, lof, gd, List.range_succ]
  refine (show_any (some ⟨b, 0, none⟩) 1 c (fun _ => ⟨some ⟨b', 0, none⟩, 2, c', gd [1, -2]⟩) w hT (by omega) (fun _ _ => by simp) (.inr ⟨b, 0, rfl, hlt, fun j hj => ?_⟩)).mono ?_
  · obtain rfl : j = 0 := by omega
    refine ⟨h, .inr ⟨b', 0, rfl, hlt', fun j hj => ?_⟩⟩
    match j, hj with
    | 0, _ => exact h0
    | 1, _ => exact h1
  · rw [hf]
    rintro e w' ⟨rfl, hb⟩
    rw [show_ex]
    exact ⟨rfl, hb⟩

def AwakePost (w : World) (e : Ending) (w' : World) : Prop := e = .returned (.bool true) ∧ Below w.heap.size w w'
set_option maxHeartbeats 1000000 in
theorem awake_any (w : World) (hT : Tab w) : Calls Tryd.prog 9 #[] w (AwakePost w) := by
  have hT0 := hT
  have hn := norm_ex
  have hs := show_one
  have hbb : ∀ W, Below w.heap.size w W → Tab W := fun W h => hT.below h
  have HN := Lib.hid hn; clear hn
  have HS := Lib.hid hs; clear hs
  have HB := Lib.hid hbb; clear hbb hT hT0
  go_enter Tryd.func9, Tryd.ntmps9
  go_wp2_with fail
  refine (HN.out _ _ _ (by simp) (by go_simp) (by go_simp) (by go_simp)).mono ?_
  rintro e w1 ⟨b, off, c, rfl, h0, h1, hb⟩
  have hb0 : Below w.heap.size w w1 := ((Below.refl _ w).alloc (Nat.le_refl _) _).trans (hb.mono (by simp))
  clear hb
  go_wp2_with fail
  refine (HS.out _ w1.heap.size _ 2 _ (HB.out _ ?c1) (by simp) (by simp; omega) (by go_simp) (by go_simp) (by go_simp)).mono ?_
  case c1 => exact (hb0.alloc hb0.size _).alloc (by have := hb0.size; simp; omega) _
  rintro e w2 ⟨rfl, hb⟩
  have hb2 : Below w.heap.size w w2 := ((hb0.alloc hb0.size _).alloc (by have := hb0.size; simp; omega) _).trans (hb.mono (by have := hb0.size; simp; omega))
  clear hb hb0
  go_wp2
  go_ret
  exact ⟨rfl, hb2⟩
end Go.Proofs.YtmgkoehclabejaaDoor
