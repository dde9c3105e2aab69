/- The walk of ClauseForms. -/
import Derived.Test.YtmgkoehclabejaaDoorI
import Derived.Test.YtmgkoehclabejaaDoorJ
namespace Go.Proofs.YtmgkoehclabejaaDoor
open Go.RowKit Go.Lib Go.Sort

def LawPost (w : World) (e : Ending) (w' : World) : Prop := e = .returned (.bool true) ∧ Below w.heap.size w w'

/-- awake, in a later world. -/
theorem awake_later (w W : World) (hT : Tab w) (hb : Below w.heap.size w W) : Calls Tryd.prog 9 #[] W fun e w' => e = .returned (.bool true) ∧ Below w.heap.size w w' :=
  (awake_any W (hT.below hb)).mono fun _ _ ⟨he, h⟩ => ⟨he, hb.trans (h.mono hb.size)⟩

set_option maxHeartbeats 1000000 in
theorem forms_long (a : Option Addr) (n c : Nat) (w : World) (hT : Tab w) (hm : n ≤ 9223372036854775807) (hn : 40 < n) : Calls Tryd.prog 7 #[.slice a n c] w (LawPost w) := by
  have haw := fun W => awake_later w W hT
  have HA := Lib.hid haw; clear haw
  have hb0 : Below w.heap.size w w := Below.refl _ _
  clear hT
  go_enter Tryd.func7, Tryd.ntmps7
  go_wp2_with fail
  refine (HA.out _ hb0).mono ?_
  rintro e w1 ⟨rfl, hb1⟩
  go_wp2_with fail
  refine (HA.out _ hb1).mono ?_
  rintro e w2 ⟨rfl, hb2⟩
  go_wp2
  go_ret
  exact ⟨rfl, hb2⟩

set_option maxHeartbeats 1000000 in
theorem forms_bad (a : Option Addr) (n c : Nat) (f : Nat → Int) (w : World) (hT : Tab w) (h : Has w a n f) (hn : n ≤ 40) (hl : litF f n = false) : Calls Tryd.prog 7 #[.slice a n c] w (LawPost w) := by
  have haw := fun W => awake_later w W hT
  have hr := fun W (hb : Below w.heap.size w W) => refRight_any a n c f W (by omega) (h.below hb)
  rw [hl] at hr
  have HA := Lib.hid haw; clear haw
  have HR := Lib.hid hr; clear hr
  have hb0 : Below w.heap.size w w := Below.refl _ _
  clear hT hl h
  go_enter Tryd.func7, Tryd.ntmps7
  go_wp2_with fail
  refine (HA.out _ hb0).mono ?_
  rintro e w1 ⟨rfl, hb1⟩
  go_wp2_with fail
  refine (HR.out _ hb1).mono ?_
  rintro e w2 ⟨rfl, rfl⟩
  go_wp2_with fail
  refine (HA.out _ hb1).mono ?_
  rintro e w2 ⟨rfl, hb2⟩
  go_wp2
  go_ret
  exact ⟨rfl, hb2⟩

theorem Has.pre {w : World} {a : Option Addr} {n i : Nat} {f : Nat → Int} (h : Has w a n f) (hi : i ≤ n) : Has w a i f := by
  rcases h with h | ⟨b, off, ha, hlt, hc⟩
  · exact .inl (by omega)
  · exact .inr ⟨b, off, ha, hlt, fun j hj => hc j (by omega)⟩
theorem lof_lit {f : Nat → Int} {n : Nat} (hl : litF f n = true) : ∀ x ∈ lof f n, lit x = true := by
  rw [← List.all_eq_true, litF_all]; exact hl

set_option maxHeartbeats 4000000 in
theorem forms_good (a : Option Addr) (n c : Nat) (f : Nat → Int) (w : World) (hT : Tab w) (h : Has w a n f) (hn : n ≤ 40) (hl : litF f n = true) : Calls Tryd.prog 7 #[.slice a n c] w (LawPost w) := by
  have haw := fun W => awake_later w W hT
  have hr := fun W (hb : Below w.heap.size w W) => refRight_any a n c f W (by omega) (h.below hb)
  rw [hl] at hr
  have hlit := lof_lit hl
  have hml := nf_length (lof f n)
  rw [lof_length, ← nfv_lit _ hlit] at hml
  have hag := nfv_again _ hlit
  have hta := tautv_again _ hlit
  have hmem1 : ∀ i, i < n → inF (gd (nfv (lof f n))) (nfv (lof f n)).length (f i) = true := fun i hi => by
    rw [inF_mem, lof_gd, nfv_lit _ hlit]
    exact (nf_facts _ hlit).1 _ (by simp [lof]; exact ⟨i, hi, rfl⟩)
  have hmem2 : ∀ i, i < (nfv (lof f n)).length → inF f n (gd (nfv (lof f n)) i) = true := fun i hi => by
    rw [inF_mem, gd_lt hi]
    exact mem_nf (by rw [← nfv_lit _ hlit]; exact List.getElem_mem hi)
  have hmem3 : ∀ i, i < (nfv (lof f n)).length → inF (gd (nfv (lof f n))) i (gd (nfv (lof f n)) i) = false := fun i hi => by
    rw [inF_not]
    intro j hj he
    have hasc := (nf_facts _ hlit).2
    rw [← nfv_lit _ hlit] at hasc
    have := List.pairwise_iff_getElem.1 hasc j i (by omega) hi hj
    rw [← gd_lt, ← gd_lt, he] at this
    omega
  have hn1 : ∀ W, Below w.heap.size w W → Calls Tryd.prog 10 #[.slice a n c] W fun e w' => ∃ a' c', e = .returned (.tuple #[.slice a' (nfv (lof f n)).length c', .bool (tautv (lof f n))]) ∧ Has w' a' (nfv (lof f n)).length (gd (nfv (lof f n))) ∧ (nfv (lof f n)).length ≤ c' ∧ Below w.heap.size w w' := fun W hb =>
    (norm_any a n c f W (by omega) (h.below hb)).mono fun _ _ ⟨a', c', he, h1, h2, h3⟩ => ⟨a', c', he, h1, h2, hb.trans (h3.mono hb.size)⟩
  have hn2 : ∀ W a' c', Has W a' (nfv (lof f n)).length (gd (nfv (lof f n))) → Calls Tryd.prog 10 #[.slice a' (nfv (lof f n)).length c'] W fun e w' => ∃ a'' c'', e = .returned (.tuple #[.slice a'' (nfv (lof f n)).length c'', .bool (tautv (lof f n))]) ∧ Has w' a'' (nfv (lof f n)).length (gd (nfv (lof f n))) ∧ Below W.heap.size W w' := fun W a' c' hh => by
    refine (norm_any a' (nfv (lof f n)).length c' (gd (nfv (lof f n))) W (by omega) hh).mono ?_
    rw [lof_gd]
    rintro e w' ⟨a'', c'', rfl, h1, _, h3⟩
    rw [hag, hta] at *
    exact ⟨a'', c'', rfl, h1, h3⟩
  have hin : ∀ W a' a'' c' c'', Has W a' (nfv (lof f n)).length (gd (nfv (lof f n))) → Has W a'' (nfv (lof f n)).length (gd (nfv (lof f n))) → Calls Tryd.prog 12 #[.slice a' (nfv (lof f n)).length c', .slice a'' (nfv (lof f n)).length c''] W fun e w' => e = .returned (.bool true) ∧ ∃ q, w' = W.drewN q := fun W a' a'' c' c'' h1 h2 => by
    have := ints_any a' a'' _ _ c' c'' (gd (nfv (lof f n))) (gd (nfv (lof f n))) W (by omega) h1 h2
    unfold SamePost at this
    rw [sameF_iff.2 ⟨rfl, fun _ _ => rfl⟩] at this
    exact this
  generalize (nfv (lof f n)).length = m at *
  generalize gd (nfv (lof f n)) = g at *
  generalize tautv (lof f n) = T at *
  have HA := Lib.hid haw; clear haw
  have HR := Lib.hid hr; clear hr
  have HN1 := Lib.hid hn1; clear hn1
  have HN2 := Lib.hid hn2; clear hn2
  have HI := Lib.hid hin; clear hin
  have HM1 := Lib.hid hmem1; clear hmem1
  have HM2 := Lib.hid hmem2; clear hmem2
  have HM3 := Lib.hid hmem3; clear hmem3
  have HH := Lib.hid h; clear h
  have hb0 : Below w.heap.size w w := Below.refl _ _
  clear hT hl hag hta hlit
  go_enter Tryd.func7, Tryd.ntmps7
  go_wp2_with fail
  refine (HA.out _ hb0).mono ?_
  rintro e w1 ⟨rfl, hb1⟩
  go_wp2_with fail
  refine (HR.out _ hb1).mono ?_
  rintro e w2 ⟨rfl, rfl⟩
  go_wp2_with fail
  refine (HN1.out _ hb1).mono ?_
  rintro e w2 ⟨a1, c1, rfl, h2, hc1, hb2⟩
  go_wp2_with fail
  refine (HN2.out _ _ _ h2).mono ?_
  rintro e w3 ⟨a2, c2, rfl, h3, hb3⟩
  have h23 := h2.below hb3
  have hb03 : Below w.heap.size w w3 := hb2.trans (hb3.mono hb2.size)
  clear hb1 hb2 hb3 hb0 w1 h2
  have H3 := Lib.hid h3; clear h3
  have H23 := Lib.hid h23; clear h23
  go_wp2_with fail
  refine (HI.out _ _ _ _ _ H23.out H3.out).mono ?_
  rintro e w4 ⟨rfl, q, rfl⟩
  go_wp2_with fail
  have HB := Lib.hid hb03; clear hb03
  clear H3
  go_loop [7] (fun i => ∃ k : Nat, k ≤ n ∧ i = .int .i64 k) (fun i => n - (intOf i).toNat)
  case atStart => exact ⟨0, Nat.zero_le _, rfl⟩
  case round =>
    obtain ⟨k, hk, rfl⟩ := hrel
    by_cases hlt : k < n
    · rcases HH.out with h0 | ⟨b, off, rfl, hb, hcc⟩
      · omega
      · have hcell : w3.cell? ⟨b, off + k, none⟩ = some (.int .i64 (f k)) := by
          rw [← hcc k hlt]; exact HB.out.cell (p := ⟨b, off + k, none⟩) hb
        clear hcc hb
        have hi1 : Calls Tryd.prog 27 #[.int .i64 (f k), .slice a1 m c1] (w3.drewN q) fun e w' => e = .returned (.bool true) ∧ w3.drewN q = w' := by
          have := in_any (f k) a1 m c1 g (w3.drewN q) (by omega) (H23.out.drewN q)
          rw [HM1.out k hlt] at this
          exact this
        have HI1 := Lib.hid hi1; clear hi1
        go_wp2_with fail
        refine HI1.out.mono ?_
        rintro e w' ⟨rfl, rfl⟩
        go_wp2_with fail
        go_round
        case rel => exact ⟨k + 1, by omega, by go_num⟩
        case measure => simp [intOf]; omega
    · obtain rfl : k = n := by omega
      go_wp2_with fail
      go_loopw [8] (fun i wr => ∃ (t qq : Nat), t ≤ m ∧ i = .int .i64 t ∧ wr = w3.drewN qq) (fun i _ => m - (intOf i).toNat)
      case atStart => exact ⟨0, q, Nat.zero_le _, rfl, rfl⟩
      case round =>
        obtain ⟨t, qq, ht, rfl, rfl⟩ := hrel
        by_cases hlt2 : t < m
        · rcases H23.out with h0 | ⟨b', off', rfl, hb', hcc⟩
          · omega
          · have hcell : (w3.drewN qq).cell? ⟨b', off' + t, none⟩ = some (.int .i64 (g t)) := hcc t hlt2
            clear hcc hb'
            have hx1 : Has (w3.drewN qq) a k f := (HH.out.below HB.out).drewN qq
            have hx2 : Has (w3.drewN qq) (some ⟨b', off', none⟩) m g := H23.out.drewN qq
            have hx3 : ∀ r, ∃ q', (w3.drewN qq).drewN r = w3.drewN q' := fun r => ⟨_, World.drewN_drewN _ _ _⟩
            generalize w3.drewN qq = wq at hcell hx1 hx2 hx3 ⊢
            have hi2 : ∀ qx, Calls Tryd.prog 27 #[.int .i64 (g t), .slice a k c] (wq.drewN qx) fun e w' => e = .returned (.bool true) ∧ w' = wq.drewN qx := fun qx => by
              have := in_any (g t) a k c f (wq.drewN qx) (by omega) (hx1.drewN qx)
              rw [HM2.out t hlt2] at this
              exact this.mono fun _ _ ⟨he, hw⟩ => ⟨he, hw.symm⟩
            have hi3 : ∀ cc qx, Calls Tryd.prog 27 #[.int .i64 (g t), .slice (some ⟨b', off', none⟩) t cc] (wq.drewN qx) fun e w' => e = .returned (.bool false) ∧ w' = wq.drewN qx := fun cc qx => by
              have := in_any (g t) (some ⟨b', off', none⟩) t cc g (wq.drewN qx) (by omega) ((hx2.pre (by omega)).drewN qx)
              rw [HM3.out t hlt2] at this
              exact this.mono fun _ _ ⟨he, hw⟩ => ⟨he, hw.symm⟩
            have HX3 := Lib.hid hx3; clear hx3 hx1 hx2
            have HI2 := Lib.hid hi2; clear hi2
            have HI3 := Lib.hid hi3; clear hi3
            go_wp2_with fail
            go_quiet ((first | (go_at_call 27; with_reducible exact Calls.quiet_of_same (HI2.out _)) | (go_at_call 27; exact Calls.quiet_of_same (HI3.out _ _))))
            go_wp2
            go_roundw
            case rel => exact ⟨t + 1, _, by omega, by go_num, (HX3.out _).choose_spec⟩
            case measure => simp [intOf]; omega
        · obtain rfl : t = m := by omega
          go_wp2_with fail
          go_ret
          exact ⟨rfl, below_drewN HB.out _⟩
end Go.Proofs.YtmgkoehclabejaaDoor
