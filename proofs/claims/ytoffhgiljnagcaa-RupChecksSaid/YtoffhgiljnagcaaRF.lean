/- Contracts: Norm. -/
import Derived.Test.YtoffhgiljnagcaaRE
namespace Go.Proofs.Ytoffhgiljnagcaa
open Go.RowKit Go.Lib Go.Sort

def gd (l : List Int) (j : Nat) : Int := l.getD j 0
theorem gd_lt {l : List Int} {j : Nat} (h : j < l.length) : gd l j = l[j] := by simp [gd, h]
def nf (l : List Int) : List Int := Lib.compact (srt l)
def nfv (l : List Int) : List Int := if l.all lit then nf l else []
def tautv (l : List Int) : Bool := oppF (gd (nfv l)) (nfv l).length
/-- Where there is anything, it lies in a new block. -/
def NewB (m : Nat) (a : Option Addr) (n : Nat) : Prop := n = 0 ∨ ∃ b off, a = some ⟨b, off, none⟩ ∧ m ≤ b
def NormPost (l : List Int) (w : World) (e : Ending) (w' : World) : Prop :=
  ∃ a' c', e = .returned (.tuple #[.slice a' (nfv l).length c', .bool (tautv l)]) ∧ Has w' a' (nfv l).length (gd (nfv l)) ∧ (nfv l).length ≤ c' ∧ Below w.heap.size w w' ∧ NewB w.heap.size a' (nfv l).length

theorem litF_all (f : Nat → Int) (n : Nat) : (lof f n).all lit = litF f n := by
  rw [Bool.eq_iff_iff]; simp [lof, litF]
theorem mem_compact {l : List Int} {x : Int} (h : x ∈ Lib.compact l) : x ∈ l := by
  unfold Lib.compact compactUpTo at h
  simp only [List.mem_map, List.mem_filter, List.mem_range] at h
  obtain ⟨j, ⟨hj, _⟩, rfl⟩ := h
  have : l.toArray[j]! = l[j] := by simp [hj]
  rw [this]; exact List.getElem_mem hj
theorem mem_nf {l : List Int} {x : Int} (h : x ∈ nf l) : x ∈ l := (List.mem_mergeSort).1 (mem_compact h)
theorem srt_length (l : List Int) : (srt l).length = l.length := by simp [srt]
theorem nf_length (l : List Int) : (nf l).length ≤ l.length := by
  have := compact_length_le (srt l); rw [srt_length] at this; exact this
theorem Own.has {w : World} {g : Nat} {l : List Int} (h : Own w g l) : Has w (some ⟨g, 0, none⟩) l.length (gd l) := by
  refine .inr ⟨g, 0, rfl, h.1, fun j hj => ?_⟩
  rw [(h.2 j (by simpa using hj)).1, gd_lt hj]
  simp [hj]

theorem nfv_nil : nfv [] = [] := by simp [nfv, nf, srt, Lib.compact, compactUpTo]
theorem tautv_nil : tautv [] = false := by unfold tautv; rw [nfv_nil]; rfl
theorem norm_post_nil (a' : Option Addr) (c' : Nat) (w w' : World) (hb : Below w.heap.size w w') : NormPost [] w (.returned (.tuple #[.slice a' 0 c', .bool false])) w' :=
  ⟨a', c', by rw [nfv_nil, tautv_nil]; rfl, .inl (by rw [nfv_nil]; rfl), by rw [nfv_nil]; exact Nat.zero_le _, hb, .inl (by rw [nfv_nil]; rfl)⟩

theorem opposed_zero (a : Option Addr) (c : Nat) (w : World) :
    Calls Try.prog 48 #[.slice a 0 c] w fun e w' => e = .returned (.bool false) ∧ w = w' := by
  go_enter Try.func48, Try.ntmps48
  go_wp2
  go_loop [3] (fun i => i = .int .i64 1) (fun _ => 0)
  case atStart => rfl
  case round =>
    subst hrel
    go_wp2
    go_ret
    exact ⟨rfl, rfl⟩

set_option maxHeartbeats 400000 in
theorem norm_bad (a : Option Addr) (n c : Nat) (f : Nat → Int) (w : World) (hm : n ≤ 140737488355328) (h : Has w a n f) (hl : litF f n = false) :
    Calls Try.prog 22 #[.slice a n c] w (NormPost (lof f n) w) := by
  have hr := right_any a n c f w hm h
  unfold RightPost at hr
  rw [hl] at hr
  have hfin : ∀ q, NormPost (lof f n) w (.returned (.tuple #[.slice none 0 0, .bool false])) (w.drewN q) := fun q => by
    have e : nfv (lof f n) = [] := by unfold nfv; rw [litF_all, hl]; rfl
    exact ⟨none, 0, by unfold tautv; rw [e]; rfl, .inl (by rw [e]; rfl), by rw [e]; exact Nat.zero_le _, below_drewN (Below.refl _ w) q, .inl (by rw [e]; rfl)⟩
  have HF := Lib.hid hfin; clear hfin
  have HR := Lib.hid hr; clear hr hl h
  go_enter Try.func22, Try.ntmps22
  go_wp2_with (go_at_call 42; refine HR.out.mono ?_; rintro e w' ⟨rfl, q, rfl⟩)
  go_ret2
  exact HF.out q

set_option maxHeartbeats 400000 in
theorem norm_none (c : Nat) (f : Nat → Int) (w : World) :
    Calls Try.prog 22 #[.slice none 0 c] w (NormPost (lof f 0) w) := by
  have hr := right_any none 0 c f w (by omega) (.inl rfl)
  unfold RightPost at hr
  rw [show litF f 0 = true from rfl] at hr
  have hfin : ∀ q, NormPost (lof f 0) w (.returned (.tuple #[.slice none 0 0, .bool false])) (w.drewN q) := fun q =>
    norm_post_nil none 0 w _ (below_drewN (Below.refl _ w) q)
  have HF := Lib.hid hfin; clear hfin
  have HR := Lib.hid hr; clear hr
  go_enter Try.func22, Try.ntmps22
  go_wp2_with (first | (go_at_call 42; refine HR.out.mono ?_; rintro e w' ⟨rfl, q, rfl⟩) | (go_at_call 43; refine (Try.slices_Clone_int_nil _ _ _).mono ?_; rintro e w' ⟨rfl, rfl⟩) | (go_at_call 44; refine (Try.slices_SortFunc_none (α := Int) _ _ _ _).mono ?_; rintro e w' ⟨rfl, rfl⟩) | (go_at_call 47; refine (Try.slices_Compact_int_empty _ _ _).mono ?_; rintro e w' ⟨rfl, rfl⟩) | (go_at_call 48; refine (opposed_zero _ _ _).mono ?_; rintro e w' ⟨rfl, rfl⟩))
  go_ret2
  exact HF.out q

set_option maxHeartbeats 400000 in
theorem norm_zero (p : Addr) (c : Nat) (f : Nat → Int) (w : World) :
    Calls Try.prog 22 #[.slice (some p) 0 c] w (NormPost (lof f 0) w) := by
  have hr := right_any (some p) 0 c f w (by omega) (.inl rfl)
  unfold RightPost at hr
  rw [show litF f 0 = true from rfl] at hr
  have hcl : ∀ q, Calls Try.prog 43 #[.slice (some p) 0 c] (w.drewN q) fun e w' => ∃ g cap, e = .returned (.slice (some ⟨g, 0, none⟩) 0 cap) ∧ Below w.heap.size w w' := fun q => by
    refine (Try.slices_Clone_int_zero p c _).mono ?_
    rintro e w' ⟨v', rfl, hown, hne, hb⟩
    obtain ⟨g, cap, rfl, _⟩ := holds_of_ownsRow (enc := Value.int .i64) (zs := []) hown hne
    exact ⟨g, cap, rfl, (below_drewN (Below.refl _ w) q).trans hb⟩
  have hfin : ∀ a' c' w', Below w.heap.size w w' → NormPost (lof f 0) w (.returned (.tuple #[.slice a' 0 c', .bool false])) w' := fun a' c' w' hb =>
    norm_post_nil a' c' w w' hb
  have HF := Lib.hid hfin; clear hfin
  have HR := Lib.hid hr; clear hr
  have HC := Lib.hid hcl; clear hcl
  go_enter Try.func22, Try.ntmps22
  go_wp2_with (first | (go_at_call 42; refine HR.out.mono ?_; rintro e w' ⟨rfl, q, rfl⟩) | (go_at_call 43; refine (HC.out _).mono ?_; rintro e w' ⟨g, cap, rfl, hb⟩) | (go_at_call 44; refine (Try.slices_SortFunc_none (α := Int) _ _ _ _).mono ?_; rintro e w' ⟨rfl, rfl⟩) | (go_at_call 47; refine (Try.slices_Compact_int_empty _ _ _).mono ?_; rintro e w' ⟨rfl, rfl⟩) | (go_at_call 48; refine (opposed_zero _ _ _).mono ?_; rintro e w' ⟨rfl, rfl⟩))
  go_ret2
  exact HF.out _ _ _ hb

set_option maxHeartbeats 1000000 in
theorem norm_core (b off n c : Nat) (f : Nat → Int) (w : World) (hm : n ≤ 1000000) (hlt : b < w.heap.size) (hc : ∀ j, j < n → w.cell? ⟨b, off + j, none⟩ = some (.int .i64 (f j))) (hl : litF f n = true) :
    Calls Try.prog 22 #[.slice (some ⟨b, off, none⟩) n c] w (NormPost (lof f n) w) := by
  have hr := right_any (some ⟨b, off, none⟩) n c f w (by omega) (.inr ⟨b, off, rfl, hlt, hc⟩)
  unfold RightPost at hr
  rw [hl] at hr
  have e : nfv (lof f n) = nf (lof f n) := by unfold nfv; rw [litF_all, hl]; rfl
  have hmem : ∀ x ∈ lof f n, lit x = true := by rw [← List.all_eq_true, litF_all]; exact hl
  have hcl : ∀ q, Calls Try.prog 43 #[.slice (some ⟨b, off, none⟩) n c] (w.drewN q) fun e w' => ∃ g cap, e = .returned (.slice (some ⟨g, 0, none⟩) (lof f n).length cap) ∧ (lof f n).length ≤ cap ∧ w.heap.size ≤ g ∧ Own w' g (lof f n) ∧ Below w.heap.size w w' := fun q => by
    refine (Try.slices_Clone_int b off n c (lof f n) _ (by rw [lof_length]; omega) (by omega) (fun j hj => ?_)).mono ?_
    · rw [lof_length] at hj
      rw [show (lof f n).getD j 0 = f j by simp [lof, hj]]
      exact hc j hj
    · rintro e w' ⟨v', rfl, hown, hne, hb⟩
      rw [List.take_of_length_le (by simp [lof])] at hown
      obtain ⟨g, cap, rfl, h1, h2, h3, h4, h5, h6⟩ := holds_of_ownsRow hown hne
      exact ⟨g, cap, by rw [h5], by omega, h1, ⟨h2, h6⟩, (below_drewN (Below.refl _ w) q).trans hb⟩
  have hso : ∀ g cap W, Own W g (lof f n) → Calls Try.prog 44 #[.slice (some ⟨g, 0, none⟩) (lof f n).length cap, .func (.func 45) #[] #[]] W fun e w' => e = .returned (.tuple #[]) ∧ Own w' g (srt (lof f n)) ∧ Below g W w' :=
    fun g cap W h => sort_own (lof f n) hmem (by rw [lof_length]; omega) g cap W h
  have hco : ∀ g cap W, (lof f n).length ≤ cap → Own W g (srt (lof f n)) → Calls Try.prog 47 #[.slice (some ⟨g, 0, none⟩) (lof f n).length cap] W fun e w' => e = .returned (.slice (some ⟨g, 0, none⟩) (nf (lof f n)).length cap) ∧ Own w' g (nf (lof f n)) ∧ Below g W w' :=
    fun g cap W hcap h => by
      have := compact_own (srt (lof f n)) (by rw [srt_length, lof_length]; omega) g cap (by rw [srt_length]; exact hcap) W h
      rw [srt_length] at this
      exact this
  have hop : ∀ g cap W, Own W g (nf (lof f n)) → Calls Try.prog 48 #[.slice (some ⟨g, 0, none⟩) (nf (lof f n)).length cap] W (OppPost (gd (nf (lof f n))) (nf (lof f n)).length W) :=
    fun g cap W h => by
      have hnl := nf_length (lof f n)
      rw [lof_length] at hnl
      refine opposed_core g 0 _ cap (gd (nf (lof f n))) W (by omega) (fun j hj => ?_) (fun j hj => ?_)
      · rw [gd_lt hj]
        exact (lit_iff.1 (hmem _ (mem_nf (List.getElem_mem hj)))).2
      · rcases h.has with h0 | ⟨b', off', hh, _, hcc⟩
        · omega
        · cases hh; exact hcc j hj
  have hnl0 := nf_length (lof f n)
  have hfin : ∀ g cap w' q, Own w' g (nf (lof f n)) → (lof f n).length ≤ cap → w.heap.size ≤ g → Below w.heap.size w w' → NormPost (lof f n) w (.returned (.tuple #[.slice (some ⟨g, 0, none⟩) (nf (lof f n)).length cap, .bool (oppF (gd (nf (lof f n))) (nf (lof f n)).length)])) (w'.drewN q) := fun g cap w' q ho hcap hg hb =>
    ⟨some ⟨g, 0, none⟩, cap, by unfold tautv; rw [e], by rw [e]; exact ho.has.drewN q, by rw [e]; omega, below_drewN hb q, .inr ⟨g, 0, rfl, hg⟩⟩
  clear hnl0
  unfold OppPost at hop
  generalize oppF (gd (nf (lof f n))) (nf (lof f n)).length = T at hop hfin
  generalize (nf (lof f n)).length = m at hop hfin hco
  generalize (lof f n).length = n' at *
  have HF := Lib.hid hfin; clear hfin
  have HR := Lib.hid hr; clear hr
  have HC := Lib.hid hcl; clear hcl
  have HS := Lib.hid hso; clear hso
  have HO := Lib.hid hco; clear hco
  have HP := Lib.hid hop; clear hop
  clear hc hl hmem e
  go_enter Try.func22, Try.ntmps22
  go_wp2_with (first | (go_at_call 42; refine HR.out.mono ?_; rintro e w' ⟨rfl, q, rfl⟩) | (go_at_call 43; refine (HC.out _).mono ?_; rintro e w1 ⟨g, cap, rfl, hcap, hg, ho, hb⟩))
  refine (HS.out _ _ _ ho).mono ?_
  rintro e w2 ⟨rfl, ho2, hb2⟩
  go_wp2_with fail
  refine (HO.out _ _ _ hcap ho2).mono ?_
  rintro e w3 ⟨rfl, ho3, hb3⟩
  go_wp2_with fail
  refine (HP.out _ _ _ ho3).mono ?_
  rintro e w4 ⟨rfl, q4, rfl⟩
  go_wp2
  go_ret2
  exact HF.out _ _ _ _ ho3 hcap hg ((hb.trans (hb2.mono hg)).trans (hb3.mono hg))

theorem norm_any (a : Option Addr) (n c : Nat) (f : Nat → Int) (w : World) (hm : n ≤ 1000000) (h : Has w a n f) :
    Calls Try.prog 22 #[.slice a n c] w (NormPost (lof f n) w) := by
  cases hl : litF f n
  · exact norm_bad a n c f w (by omega) h hl
  · by_cases hn : n = 0
    · subst hn
      rcases a with _ | p
      · exact norm_none c f w
      · exact norm_zero p c f w
    · rcases h with h | ⟨b, off, rfl, hlt, hc⟩
      · exact absurd h hn
      · exact norm_core b off n c f w hm hlt hc hl
end Go.Proofs.Ytoffhgiljnagcaa
