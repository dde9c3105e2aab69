/- Contracts: newKnown. -/
import Derived.Test.YtoffhgiljnagcaaM
namespace Go.Proofs.Ytoffhgiljnagcaa
open Go.RowKit Go.Lib Go.Maps

def St0 : St := { nv := 0, ew := 0, ev := 0, er := 0, vr := fun _ => 0, nc := 1, ln := fun _ => 0, lt := fun _ _ => 0, gone := fun _ => false, ns := 0, sh := fun _ => 0, wn := fun _ => 0, wa := fun _ _ => 0, wo := fun _ _ => 0, val := fun _ => 0, rsn := fun _ => 0, nt := 0, tr := fun _ => 0, done := 0, settled := false, broken := 0 }

theorem info75' : (Try.prog.info? 75).map (fun i => (i.zero, i.size, i.bytes)) = some (some (.agg #[.slice none 0 0, .bool false]), 2, 32) := by kernel_rfl
theorem make_one (w : World) : (Instr.makeSlice 61 (.int .i64 1) (.int .i64 1)).run Try.prog w = .ok (.slice (some ⟨w.heap.size, 0, none⟩) 1 1) (w.alloc (.cells #[.slice none 0 0, .bool false] 75)) := by
  obtain ⟨i, hi, h2⟩ := Option.map_eq_some_iff.1 info75'
  simp only [Prod.mk.injEq] at h2
  obtain ⟨hz, hs, hb⟩ := h2
  have hr := run_make (P := Try.prog) w 61 75 i _ Try.underlying61 hi hz .i64 .i64 1 1 (by omega) (Int.le_refl _) (by rw [hb]; omega) (by omega)
  rw [hr, hs]
  have e : madeCells (Value.agg #[.slice none 0 0, .bool false]).cells (Int.toNat 1 * 2) = #[.slice none 0 0, .bool false] := by kernel_rfl
  rw [e]; rfl

set_option maxHeartbeats 1000000 in
set_option maxRecDepth 100000 in
theorem newKnown_any (w : World) : Calls Try.prog 21 #[] w fun e w' => ∃ K M L, e = .returned (.pointer (some ⟨K, 0, none⟩)) ∧ Mem w' K M L St0 ∧ Below w.heap.size w w' ∧ ∀ b, Bl K M L b → w.heap.size ≤ b := by
  have hmm := @run_makeMap Try.prog
  have hmk := make_one
  have hfin : Mem (((w.alloc (.map #[] 0)).alloc (.cells #[.slice none 0 0, .bool false] 75)).alloc (.cells #[.map (some w.heap.size), .slice (some ⟨w.heap.size + 1, 0, none⟩) 1 1, .slice none 0 0, .slice none 0 0, .slice none 0 0, .slice none 0 0, .slice none 0 0, .int .i64 0, .bool false, .int .i32 0] 67)) (w.heap.size + 1 + 1) w.heap.size
      (fun t => if t = .cls then .slice (some ⟨w.heap.size + 1, 0, none⟩) 1 1 else .slice none 0 0) St0 := by
    have hK : (((w.alloc (.map #[] 0)).alloc (.cells #[.slice none 0 0, .bool false] 75)).alloc (.cells #[.map (some w.heap.size), .slice (some ⟨w.heap.size + 1, 0, none⟩) 1 1, .slice none 0 0, .slice none 0 0, .slice none 0 0, .slice none 0 0, .slice none 0 0, .int .i64 0, .bool false, .int .i32 0] 67)).rowIs (w.heap.size + 1 + 1) 67 10 (hdF w.heap.size (fun t => if t = .cls then .slice (some ⟨w.heap.size + 1, 0, none⟩) 1 1 else .slice none 0 0) St0) := by
      have h1 := World.rowIs_alloc ((w.alloc (.map #[] 0)).alloc (.cells #[.slice none 0 0, .bool false] 75)) #[.map (some w.heap.size), .slice (some ⟨w.heap.size + 1, 0, none⟩) 1 1, .slice none 0 0, .slice none 0 0, .slice none 0 0, .slice none 0 0, .slice none 0 0, .int .i64 0, .bool false, .int .i32 0] 67 (hdF w.heap.size (fun t => if t = .cls then .slice (some ⟨w.heap.size + 1, 0, none⟩) 1 1 else .slice none 0 0) St0) (fun i hi => by
        have hi' : i < 10 := hi
        match i, hi' with
        | 0, _ | 1, _ | 2, _ | 3, _ | 4, _ | 5, _ | 6, _ | 7, _ | 8, _ | 9, _ => rfl)
      rw [World.size_alloc, World.size_alloc] at h1
      exact h1
    have hC : ((w.alloc (.map #[] 0)).alloc (.cells #[.slice none 0 0, .bool false] 75)).rowIs (w.heap.size + 1) 75 2 (fun j => if j % 2 = 0 then .slice none 0 0 else .bool false) := by
      have h1 := World.rowIs_alloc (w.alloc (.map #[] 0)) #[.slice none 0 0, .bool false] 75 (fun j => if j % 2 = 0 then .slice none 0 0 else .bool false) (fun i hi => by
        have hi' : i < 2 := hi
        match i, hi' with
        | 0, _ | 1, _ => rfl)
      rw [World.size_alloc] at h1
      exact h1
    refine ⟨hK, ⟨.map [], ((World.ownsMap_made w Try.prog 3 _).alloc _).alloc _, ?_, ?_, ?_⟩, fun t => ?_, fun l _ => rfl, by omega, fun t e => ?_, fun t e => ?_, fun t t' b e e' => ?_⟩
    · intro v
      constructor
      · intro e; cases e
      · rintro ⟨n, hn, _⟩; exact absurd hn (Nat.not_lt_zero _)
    · intro n hn; exact absurd hn (Nat.not_lt_zero _)
    · rfl
    · by_cases e : t = .cls
      · subst e
        refine .inr ⟨w.heap.size + 1, 1, _, if_pos rfl, Nat.le_refl _, by unfold maxLen; omega, hC.alloc _, fun j hj => ?_⟩
        have hj' : j < 2 := hj
        match j, hj' with
        | 0, _ | 1, _ => rfl
      · refine .inl ⟨if_neg e, ?_⟩
        cases t <;> first | rfl | exact absurd rfl e
    · have e' : (if t = .cls then Value.slice (some ⟨w.heap.size + 1, 0, none⟩) 1 1 else .slice none 0 0).ownBlock = some (w.heap.size + 1 + 1) := e
      split at e'
      · have := Option.some.inj e'
        have h2 : w.heap.size + 1 = w.heap.size + 1 + 1 := this
        omega
      · cases e'
    · have e' : (if t = .cls then Value.slice (some ⟨w.heap.size + 1, 0, none⟩) 1 1 else .slice none 0 0).ownBlock = some w.heap.size := e
      split at e'
      · have h2 : w.heap.size + 1 = w.heap.size := Option.some.inj e'
        omega
      · cases e'
    · have e1 : (if t = .cls then Value.slice (some ⟨w.heap.size + 1, 0, none⟩) 1 1 else .slice none 0 0).ownBlock = some b := e
      have e2 : (if t' = .cls then Value.slice (some ⟨w.heap.size + 1, 0, none⟩) 1 1 else .slice none 0 0).ownBlock = some b := e'
      split at e1
      · split at e2
        · next h1 h2 => rw [h1, h2]
        · cases e2
      · cases e1
  have hbel : Below w.heap.size w (((w.alloc (.map #[] 0)).alloc (.cells #[.slice none 0 0, .bool false] 75)).alloc (.cells #[.map (some w.heap.size), .slice (some ⟨w.heap.size + 1, 0, none⟩) 1 1, .slice none 0 0, .slice none 0 0, .slice none 0 0, .slice none 0 0, .slice none 0 0, .int .i64 0, .bool false, .int .i32 0] 67)) :=
    (((Below.refl _ w).alloc (Nat.le_refl _) _).alloc (by simp) _).alloc (by simp; omega) _
  have hbl : ∀ b, Bl (w.heap.size + 1 + 1) w.heap.size (fun t => if t = .cls then .slice (some ⟨w.heap.size + 1, 0, none⟩) 1 1 else .slice none 0 0) b → w.heap.size ≤ b := by
    rintro b (e | e | ⟨t, e⟩)
    · omega
    · omega
    · have e1 : (if t = .cls then Value.slice (some ⟨w.heap.size + 1, 0, none⟩) 1 1 else .slice none 0 0).ownBlock = some b := e
      split at e1
      · have h2 : w.heap.size + 1 = b := Option.some.inj e1
        omega
      · cases e1
  have HF := Lib.hid (And.intro hfin (And.intro hbel hbl))
  clear hfin hbel hbl
  go_enter Try.func21, Try.ntmps21
  go_wp2
  go_ret
  exact ⟨_, _, _, rfl, HF.out.1, HF.out.2.1, HF.out.2.2⟩
end Go.Proofs.Ytoffhgiljnagcaa
