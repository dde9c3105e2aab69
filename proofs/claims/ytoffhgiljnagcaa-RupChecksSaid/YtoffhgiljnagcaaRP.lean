/- The walk of the answer's Norm. -/
import Derived.Test.YtoffhgiljnagcaaRN
import Derived.Test.YtoffhgiljnagcaaRO
import Derived.Laws.AppendOwn
import Derived.OwnWalk
import Derived.Laws.IdiomCopy
namespace Go.Proofs.Ytoffhgiljnagcaa
open Go.RowKit Go.Lib Go.Sort

theorem infoInt : (Try.prog.info? 3).map (fun i => (i.zero, i.size, i.bytes)) = some (some (.int .i64 0), 1, 8) := by kernel_rfl

def RefPost (l : List Int) (w : World) (e : Ending) (w' : World) : Prop :=
  ∃ a' c', e = .returned (.tuple #[.slice a' (nfv l).length c', .bool (tautv l)]) ∧ Has w' a' (nfv l).length (gd (nfv l)) ∧ Below w.heap.size w w'

theorem has_of_owns {w : World} {base n : Nat} {v : Value} {l : List Int} (h : w.ownsRow base 3 1 v n (l.map (Value.int .i64))) : ∃ a c, v = .slice a l.length c ∧ Has w a l.length (gd l) := by
  by_cases hv : v = .slice none 0 0
  · subst hv
    have hl : l = [] := by
      rcases h.2 with ⟨_, h0⟩ | ⟨g, cap, cur, hh, _⟩
      · have := h.1; simpa [h0] using this
      · cases hh
    subst hl
    exact ⟨none, 0, rfl, .inl rfl⟩
  · obtain ⟨g, cap, rfl, _, hlt, _, _, h5, h6⟩ := holds_of_ownsRow h hv
    exact ⟨some ⟨g, 0, none⟩, cap, by rw [h5], Own.has ⟨hlt, h6⟩⟩

theorem refNorm_bad (a : Option Addr) (n c : Nat) (f : Nat → Int) (w : World) (hm : n ≤ 140737488355328) (h : Has w a n f) (hl : litF f n = false) :
    Calls Try.prog 78 #[.slice a n c] w (RefPost (lof f n) w) := by
  have hr := refRight_any a n c f w hm h
  rw [hl] at hr
  have hfin : RefPost (lof f n) w (.returned (.tuple #[.slice none 0 0, .bool false])) w := by
    have e : nfv (lof f n) = [] := by unfold nfv; rw [litF_all, hl]; rfl
    exact ⟨none, 0, by unfold tautv; rw [e]; rfl, .inl (by rw [e]; rfl), Below.refl _ w⟩
  have HF := Lib.hid hfin; clear hfin
  have HR := Lib.hid hr; clear hr hl h
  go_enter Try.func78, Try.ntmps78
  go_wp2_with (go_at_call 16; refine HR.out.mono ?_; rintro e w' ⟨rfl, rfl⟩)
  go_ret2
  exact HF.out

theorem upTo_len {l : List Int} {L : Int} : (upTo l L).length ≤ l.length := Nat.le_trans (List.length_filter_le _ _) (nf_length l)

set_option maxHeartbeats 8000000 in
set_option maxRecDepth 100000 in
theorem refNorm_good (a : Option Addr) (n c : Nat) (f : Nat → Int) (w : World) (hm : n ≤ 1000000) (h : Has w a n f) (hl : litF f n = true) :
    Calls Try.prog 78 #[.slice a n c] w (RefPost (lof f n) w) := by
  obtain ⟨i0, hi, hz0, hz1, hz2⟩ := info_parts infoInt
  have hr := refRight_any a n c f w (by omega) h
  rw [hl] at hr
  have hlit : ∀ x ∈ lof f n, lit x = true := by rw [← List.all_eq_true, litF_all]; exact hl
  have hin : ∀ x W, Below w.heap.size w W → Calls Try.prog 76 #[.int .i64 x, .slice a n c] W fun e w' => e = .returned (.bool ((lof f n).contains x)) ∧ W = w' := fun x W hb => by
    have := in_any x a n c f W (by omega) (h.below hb)
    have e : inF f n x = (lof f n).contains x := by rw [Bool.eq_iff_iff, inF_mem]; simp
    rw [e] at this
    exact this
  have hfin : ∀ L out W, (∀ x ∈ lof f n, av x ≤ L) → W.ownsRow w.heap.size 3 1 out (upTo (lof f n) L).length ((upTo (lof f n) L).map (Value.int .i64)) → Below w.heap.size w W → RefPost (lof f n) w (.returned (.tuple #[out, .bool (both (lof f n) L)])) W := fun L out W hL ho hb => by
    rw [upTo_all L hL] at ho
    obtain ⟨a', c', rfl, hh⟩ := has_of_owns ho
    rw [both_taut hlit hL, ← nfv_lit _ hlit] at *
    exact ⟨a', c', rfl, hh, hb⟩
  have HR := Lib.hid hr; clear hr
  have HI := Lib.hid hin; clear hin
  have HF := Lib.hid hfin; clear hfin
  have HH := Lib.hid h; clear h
  have HL := Lib.hid hlit; clear hlit
  have HZ := Lib.hid hl; clear hl
  go_enter Try.func78, Try.ntmps78
  go_wp2_with (go_at_call 16; refine HR.out.mono ?_; rintro e w' ⟨rfl, rfl⟩)
  go_loopw [4, 5, 6] (fun out idle last wr => ∃ L : Int, 0 ≤ L ∧ L ≤ 100000 ∧ last = .int .i64 L ∧ idle = .bool (both (lof f n) L) ∧ wr.ownsRow w.heap.size 3 1 out (upTo (lof f n) L).length ((upTo (lof f n) L).map (Value.int .i64)) ∧ Below w.heap.size w wr) (fun _ _ last _ => (100000 - intOf last).toNat)
  case atStart => exact ⟨0, by omega, by omega, rfl, by rw [both_zero], by rw [upTo_zero HL.out]; exact ⟨rfl, .inl ⟨rfl, rfl⟩⟩, Below.refl _ _⟩
  case round =>
    obtain ⟨L, hL0, hL1, rfl, rfl, hown, hb⟩ := hrel
    obtain ⟨wo, rfl⟩ : ∃ wo : World, wo = wr := ⟨_, rfl⟩
    have hOl : (upTo (lof f n) L).length ≤ 1000000 := by have := upTo_len (l := lof f n) (L := L); rw [lof_length] at this; omega
    have hfacts := mv_facts L hL0 (lof f n)
    have hnext : ∀ v, L < v → (∀ x ∈ lof f n, av x > L → v ≤ av x) → upTo (lof f n) v = upTo (lof f n) L ++ pos1 (lof f n) v ++ neg1 (lof f n) v := fun v h1 h2 => upTo_next HL.out hL0 h1 h2
    have hbn : ∀ v, L < v → (∀ x ∈ lof f n, av x > L → v ≤ av x) → both (lof f n) v = (both (lof f n) L || ((lof f n).contains v && (lof f n).contains (-v))) := fun v h1 h2 => both_next h1 hL0 h2
    have hfL := HF.out L
    generalize hO : upTo (lof f n) L = O at hown hOl hnext hfL
    generalize hBt : both (lof f n) L = Bt at hbn hfL
    clear hO hBt
    have HN := Lib.hid hnext; clear hnext
    have HBN := Lib.hid hbn; clear hbn
    have HFC := Lib.hid hfacts; clear hfacts
    have HFL := Lib.hid hfL; clear hfL
    have HHo := Lib.hid (HH.out.below hb)
    go_wp2_with fail
    go_loop [7, 8] (fun v i => ∃ t : Nat, t ≤ n ∧ i = .int .i64 t ∧ v = .int .i64 (mv L (lof f t))) (fun _ i => n - (intOf i).toNat)
    case atStart => exact ⟨0, Nat.zero_le _, rfl, rfl⟩
    case round =>
      obtain ⟨t, ht, rfl, rfl⟩ := hrel
      by_cases hlt : t < n
      · rcases HHo.out with h0 | ⟨b, off, rfl, _, hcc⟩
        · omega
        · have hcell := hcc t hlt
          have hxl := lit_iff.1 (litF_iff.1 HZ.out t hlt)
          have hav := av_pos (litF_iff.1 HZ.out t hlt)
          have habs := fun W => abs_any (f t) hxl.2.1 hxl.2.2 W
          have hsn : mv L (lof f (t + 1)) = if av (f t) > L ∧ (mv L (lof f t) = 0 ∨ av (f t) < mv L (lof f t)) then av (f t) else mv L (lof f t) := by rw [lof_succ, mv_snoc]; rfl
          clear hcc
          generalize mv L (lof f t) = M at hsn ⊢
          generalize av (f t) = V at *
          have HSN := Lib.hid hsn; clear hsn
          have HA := Lib.hid habs; clear habs
          by_cases h1 : L < V
          · by_cases h2 : M = 0
            · subst h2
              go_wp2_with (go_at_call 27; refine (HA.out _).mono ?_; rintro e w' ⟨rfl, rfl⟩)
              go_round
              case rel => exact ⟨t + 1, by omega, by go_num, by rw [HSN.out, if_pos (by first | exact ⟨h1, .inl rfl⟩ | exact ⟨h1, .inl trivial⟩)]⟩
              case measure => simp [intOf]; omega
            · have h2b : (M == 0) = false := by simpa using h2
              by_cases h3 : V < M
              · go_wp2_with (go_at_call 27; refine (HA.out _).mono ?_; rintro e w' ⟨rfl, rfl⟩)
                go_round
                case rel => exact ⟨t + 1, by omega, by go_num, by rw [HSN.out, if_pos ⟨h1, .inr h3⟩]⟩
                case measure => simp [intOf]; omega
              · go_wp2_with (go_at_call 27; refine (HA.out _).mono ?_; rintro e w' ⟨rfl, rfl⟩)
                go_round
                case rel => exact ⟨t + 1, by omega, by go_num, by rw [HSN.out, if_neg (by omega)]⟩
                case measure => simp [intOf]; omega
          · go_wp2_with (go_at_call 27; refine (HA.out _).mono ?_; rintro e w' ⟨rfl, rfl⟩)
            go_round
            case rel => exact ⟨t + 1, by omega, by go_num, by rw [HSN.out, if_neg (by omega)]⟩
            case measure => simp [intOf]; omega
      · obtain rfl : t = n := by omega
        rcases HFC.out with ⟨hM, hall⟩ | ⟨hM, ⟨z, hz, hzM⟩, hleast⟩
        · rw [hM]
          have HALL := Lib.hid hall; clear hall hM
          go_wp2
          go_ret2
          exact HFL.out _ _ HALL.out hown hb
        · have hMb := av_pos (HL.out z hz)
          rw [hzM] at hMb
          have hN := HN.out _ hM hleast
          have hBN := HBN.out _ hM hleast
          have hI1 := fun W hb => HI.out (mv L (lof f t)) W hb
          have hI2 := fun W hb => HI.out (-(mv L (lof f t))) W hb
          unfold pos1 neg1 at hN
          clear hz hzM hleast
          generalize mv L (lof f t) = M at hM hMb hN hBN hI1 hI2 ⊢
          have hM0 : (M == 0) = false := by simp; omega
          cases hc1 : (lof f t).contains M
          all_goals cases hc2 : (lof f t).contains (-M)
          all_goals rw [hc1, hc2] at hN hBN
          all_goals rw [hc1] at hI1
          all_goals rw [hc2] at hI2
          all_goals clear hc1 hc2
          all_goals have HN2 := Lib.hid hN
          all_goals have HB2 := Lib.hid hBN
          all_goals have H1 := Lib.hid hI1
          all_goals have H2 := Lib.hid hI2
          all_goals clear hN hBN hI1 hI2
          all_goals cases Bt
          · go_wp2_with fail
            refine (H1.out _ hb).mono ?_
            rintro e w' ⟨rfl, rfl⟩
            go_wp2_with fail
            refine (H2.out _ hb).mono ?_
            rintro e w' ⟨rfl, rfl⟩
            go_wp2_with fail
            refine (H1.out _ hb).mono ?_
            rintro e w' ⟨rfl, rfl⟩
            go_wp2_with fail
            go_roundw
            case rel => exact ⟨M, by omega, by omega, rfl, by rw [HB2.out]; rfl, by rw [HN2.out]; simpa using hown, hb⟩
            case measure => simp [intOf]; omega
          · go_wp2_with fail
            refine (H1.out _ hb).mono ?_
            rintro e w' ⟨rfl, rfl⟩
            go_wp2_with fail
            refine (H2.out _ hb).mono ?_
            rintro e w' ⟨rfl, rfl⟩
            go_wp2_with fail
            go_roundw
            case rel => exact ⟨M, by omega, by omega, rfl, by rw [HB2.out]; rfl, by rw [HN2.out]; simpa using hown, hb⟩
            case measure => simp [intOf]; omega
          · go_wp2_with fail
            refine (H1.out _ hb).mono ?_
            rintro e w' ⟨rfl, rfl⟩
            go_wp2_with fail
            refine (H2.out _ hb).mono ?_
            rintro e w' ⟨rfl, rfl⟩
            go_wp2_with (at_builtin; refine wpList_append_own _ rfl _ _ 23 rfl w.heap.size 3 i0 (.int .i64 0) 1 8 Try.underlying23 hi hz0 hz1 hz2 rfl (by decide) _ _ _ rfl (hown.alloc _) ⟨wo.heap.size, 0, none⟩ 1 1 [.int .i64 (-M)] rfl rfl ?c1 ?c2 ?c3 ?c4 ?c5 ?_)
            case c1 =>
              intro j u hj
              match j, hj with
              | 0, hj => simp at hj; subst hj; simp [Addr.add]
            case c2 => intro u hu; simp at hu; subst hu; rfl
            case c3 => unfold maxLen; omega
            case c4 => omega
            case c5 => have := hb.size; simp; omega
            intro v2 w2 hown2 hgrow2 _
            have hb2 : Below w.heap.size w w2 := (hb.alloc hb.size _).grown hgrow2 (by have := hb.size; simp; omega) (fun k hk => (hown.lt k hk).1)
            clear hgrow2
            go_wp2_with fail
            refine (H1.out _ hb2).mono ?_
            rintro e w' ⟨rfl, rfl⟩
            go_wp2_with fail
            go_roundw
            case rel => exact ⟨M, by omega, by omega, rfl, by rw [HB2.out]; rfl, by rw [HN2.out]; simpa using hown2, hb2⟩
            case measure => simp [intOf]; omega
          · go_wp2_with fail
            refine (H1.out _ hb).mono ?_
            rintro e w' ⟨rfl, rfl⟩
            go_wp2_with fail
            refine (H2.out _ hb).mono ?_
            rintro e w' ⟨rfl, rfl⟩
            go_wp2_with (at_builtin; refine wpList_append_own _ rfl _ _ 23 rfl w.heap.size 3 i0 (.int .i64 0) 1 8 Try.underlying23 hi hz0 hz1 hz2 rfl (by decide) _ _ _ rfl (hown.alloc _) ⟨wo.heap.size, 0, none⟩ 1 1 [.int .i64 (-M)] rfl rfl ?c1 ?c2 ?c3 ?c4 ?c5 ?_)
            case c1 =>
              intro j u hj
              match j, hj with
              | 0, hj => simp at hj; subst hj; simp [Addr.add]
            case c2 => intro u hu; simp at hu; subst hu; rfl
            case c3 => unfold maxLen; omega
            case c4 => omega
            case c5 => have := hb.size; simp; omega
            intro v2 w2 hown2 hgrow2 _
            have hb2 : Below w.heap.size w w2 := (hb.alloc hb.size _).grown hgrow2 (by have := hb.size; simp; omega) (fun k hk => (hown.lt k hk).1)
            clear hgrow2
            go_wp2_with fail
            go_roundw
            case rel => exact ⟨M, by omega, by omega, rfl, by rw [HB2.out]; rfl, by rw [HN2.out]; simpa using hown2, hb2⟩
            case measure => simp [intOf]; omega
          · go_wp2_with fail
            refine (H1.out _ hb).mono ?_
            rintro e w' ⟨rfl, rfl⟩
            go_wp2_with (at_builtin; refine wpList_append_own _ rfl _ _ 23 rfl w.heap.size 3 i0 (.int .i64 0) 1 8 Try.underlying23 hi hz0 hz1 hz2 rfl (by decide) _ _ _ rfl (hown.alloc _) ⟨wo.heap.size, 0, none⟩ 1 1 [.int .i64 M] rfl rfl ?c1 ?c2 ?c3 ?c4 ?c5 ?_)
            case c1 =>
              intro j u hj
              match j, hj with
              | 0, hj => simp at hj; subst hj; simp [Addr.add]
            case c2 => intro u hu; simp at hu; subst hu; rfl
            case c3 => unfold maxLen; omega
            case c4 => omega
            case c5 => have := hb.size; simp; omega
            intro v1 w1 hown1 hgrow1 _
            have hb1 : Below w.heap.size w w1 := (hb.alloc hb.size _).grown hgrow1 (by have := hb.size; simp; omega) (fun k hk => (hown.lt k hk).1)
            clear hgrow1
            go_wp2_with fail
            refine (H2.out _ hb1).mono ?_
            rintro e w' ⟨rfl, rfl⟩
            go_wp2_with fail
            refine (H1.out _ hb1).mono ?_
            rintro e w' ⟨rfl, rfl⟩
            go_wp2_with fail
            refine (H2.out _ hb1).mono ?_
            rintro e w' ⟨rfl, rfl⟩
            go_wp2_with fail
            go_roundw
            case rel => exact ⟨M, by omega, by omega, rfl, by rw [HB2.out]; rfl, by rw [HN2.out]; simpa using hown1, hb1⟩
            case measure => simp [intOf]; omega
          · go_wp2_with fail
            refine (H1.out _ hb).mono ?_
            rintro e w' ⟨rfl, rfl⟩
            go_wp2_with (at_builtin; refine wpList_append_own _ rfl _ _ 23 rfl w.heap.size 3 i0 (.int .i64 0) 1 8 Try.underlying23 hi hz0 hz1 hz2 rfl (by decide) _ _ _ rfl (hown.alloc _) ⟨wo.heap.size, 0, none⟩ 1 1 [.int .i64 M] rfl rfl ?c1 ?c2 ?c3 ?c4 ?c5 ?_)
            case c1 =>
              intro j u hj
              match j, hj with
              | 0, hj => simp at hj; subst hj; simp [Addr.add]
            case c2 => intro u hu; simp at hu; subst hu; rfl
            case c3 => unfold maxLen; omega
            case c4 => omega
            case c5 => have := hb.size; simp; omega
            intro v1 w1 hown1 hgrow1 _
            have hb1 : Below w.heap.size w w1 := (hb.alloc hb.size _).grown hgrow1 (by have := hb.size; simp; omega) (fun k hk => (hown.lt k hk).1)
            clear hgrow1
            go_wp2_with fail
            refine (H2.out _ hb1).mono ?_
            rintro e w' ⟨rfl, rfl⟩
            go_wp2_with fail
            go_roundw
            case rel => exact ⟨M, by omega, by omega, rfl, by rw [HB2.out]; rfl, by rw [HN2.out]; simpa using hown1, hb1⟩
            case measure => simp [intOf]; omega
          · go_wp2_with fail
            refine (H1.out _ hb).mono ?_
            rintro e w' ⟨rfl, rfl⟩
            go_wp2_with (at_builtin; refine wpList_append_own _ rfl _ _ 23 rfl w.heap.size 3 i0 (.int .i64 0) 1 8 Try.underlying23 hi hz0 hz1 hz2 rfl (by decide) _ _ _ rfl (hown.alloc _) ⟨wo.heap.size, 0, none⟩ 1 1 [.int .i64 M] rfl rfl ?c1 ?c2 ?c3 ?c4 ?c5 ?_)
            case c1 =>
              intro j u hj
              match j, hj with
              | 0, hj => simp at hj; subst hj; simp [Addr.add]
            case c2 => intro u hu; simp at hu; subst hu; rfl
            case c3 => unfold maxLen; omega
            case c4 => omega
            case c5 => have := hb.size; simp; omega
            intro v1 w1 hown1 hgrow1 _
            have hb1 : Below w.heap.size w w1 := (hb.alloc hb.size _).grown hgrow1 (by have := hb.size; simp; omega) (fun k hk => (hown.lt k hk).1)
            clear hgrow1
            go_wp2_with fail
            refine (H2.out _ hb1).mono ?_
            rintro e w' ⟨rfl, rfl⟩
            go_wp2_with (at_builtin; refine wpList_append_own _ rfl _ _ 23 rfl w.heap.size 3 i0 (.int .i64 0) 1 8 Try.underlying23 hi hz0 hz1 hz2 rfl (by decide) _ _ _ rfl (hown1.alloc _) ⟨w1.heap.size, 0, none⟩ 1 1 [.int .i64 (-M)] rfl rfl ?c1 ?c2 ?c3 ?c4 ?c5 ?_)
            case c1 =>
              intro j u hj
              match j, hj with
              | 0, hj => simp at hj; subst hj; simp [Addr.add]
            case c2 => intro u hu; simp at hu; subst hu; rfl
            case c3 => unfold maxLen; omega
            case c4 => omega
            case c5 => have := hb1.size; simp; omega
            intro v2 w2 hown2 hgrow2 _
            have hb2 : Below w.heap.size w w2 := (hb1.alloc hb1.size _).grown hgrow2 (by have := hb1.size; simp; omega) (fun k hk => (hown1.lt k hk).1)
            clear hgrow2
            go_wp2_with fail
            refine (H1.out _ hb2).mono ?_
            rintro e w' ⟨rfl, rfl⟩
            go_wp2_with fail
            refine (H2.out _ hb2).mono ?_
            rintro e w' ⟨rfl, rfl⟩
            go_wp2_with fail
            go_roundw
            case rel => exact ⟨M, by omega, by omega, rfl, by rw [HB2.out]; rfl, by rw [HN2.out]; simpa using hown2, hb2⟩
            case measure => simp [intOf]; omega
          · go_wp2_with fail
            refine (H1.out _ hb).mono ?_
            rintro e w' ⟨rfl, rfl⟩
            go_wp2_with (at_builtin; refine wpList_append_own _ rfl _ _ 23 rfl w.heap.size 3 i0 (.int .i64 0) 1 8 Try.underlying23 hi hz0 hz1 hz2 rfl (by decide) _ _ _ rfl (hown.alloc _) ⟨wo.heap.size, 0, none⟩ 1 1 [.int .i64 M] rfl rfl ?c1 ?c2 ?c3 ?c4 ?c5 ?_)
            case c1 =>
              intro j u hj
              match j, hj with
              | 0, hj => simp at hj; subst hj; simp [Addr.add]
            case c2 => intro u hu; simp at hu; subst hu; rfl
            case c3 => unfold maxLen; omega
            case c4 => omega
            case c5 => have := hb.size; simp; omega
            intro v1 w1 hown1 hgrow1 _
            have hb1 : Below w.heap.size w w1 := (hb.alloc hb.size _).grown hgrow1 (by have := hb.size; simp; omega) (fun k hk => (hown.lt k hk).1)
            clear hgrow1
            go_wp2_with fail
            refine (H2.out _ hb1).mono ?_
            rintro e w' ⟨rfl, rfl⟩
            go_wp2_with (at_builtin; refine wpList_append_own _ rfl _ _ 23 rfl w.heap.size 3 i0 (.int .i64 0) 1 8 Try.underlying23 hi hz0 hz1 hz2 rfl (by decide) _ _ _ rfl (hown1.alloc _) ⟨w1.heap.size, 0, none⟩ 1 1 [.int .i64 (-M)] rfl rfl ?c1 ?c2 ?c3 ?c4 ?c5 ?_)
            case c1 =>
              intro j u hj
              match j, hj with
              | 0, hj => simp at hj; subst hj; simp [Addr.add]
            case c2 => intro u hu; simp at hu; subst hu; rfl
            case c3 => unfold maxLen; omega
            case c4 => omega
            case c5 => have := hb1.size; simp; omega
            intro v2 w2 hown2 hgrow2 _
            have hb2 : Below w.heap.size w w2 := (hb1.alloc hb1.size _).grown hgrow2 (by have := hb1.size; simp; omega) (fun k hk => (hown1.lt k hk).1)
            clear hgrow2
            go_wp2_with fail
            go_roundw
            case rel => exact ⟨M, by omega, by omega, rfl, by rw [HB2.out]; rfl, by rw [HN2.out]; simpa using hown2, hb2⟩
            case measure => simp [intOf]; omega

theorem refNorm_any (a : Option Addr) (n c : Nat) (f : Nat → Int) (w : World) (hm : n ≤ 1000000) (h : Has w a n f) :
    Calls Try.prog 78 #[.slice a n c] w (RefPost (lof f n) w) := by
  cases hl : litF f n
  · exact refNorm_bad a n c f w (by omega) h hl
  · exact refNorm_good a n c f w hm h hl
end Go.Proofs.Ytoffhgiljnagcaa
