/- Contract: Parse (the program's). -/
import Derived.Test.YtmgkoehclabejaaDoorPK
import Derived.Test.YtmgkoehclabejaaDoorPF
namespace Go.Proofs.YtmgkoehclabejaaDoor
open Go Go.RowKit Go.Lib

def strV (L : List Wd) : List Value := L.map fun x => .string (bs x)
theorem strs_of_own {W : World} {B : Nat} {a : Option Addr} {n c : Nat} {L : List Wd} (h : W.ownsRow B 9 1 (.slice a n c) L.length (strV L)) : Strs W a L ∧ n = L.length ∧ (n = 0 ∨ ∃ g, a = some ⟨g, 0, none⟩ ∧ n ≤ c) := by
  rcases h.2 with ⟨e, h0⟩ | ⟨g, cap, cur, e, _, hg, hcap, _⟩
  · cases e
    exact ⟨.inl (List.length_eq_zero_iff.1 h0), h0.symm, .inl rfl⟩
  · have hc := h.cells (g := g) (by cases e; rfl)
    cases e
    refine ⟨.inr ⟨g, 0, rfl, (Array.getElem?_eq_some_iff.1 hg).1, fun j x hj => ?_⟩, rfl, .inr ⟨g, rfl, hcap⟩⟩
    have := hc j (.string (bs x)) (by simp [strV, List.getElem?_map, hj])
    rw [add0] at this
    exact this

def ParsePost (l : Wd) (w : World) (e : Ending) (w' : World) : Prop :=
  ((parseB l = none ∧ e = .returned (.tuple #[.slice none 0 0, .int .i64 11])) ∨
   ∃ out a c R, parseB l = some out ∧ e = .returned (.tuple #[.slice a out.length c, .int .i64 0]) ∧ Rws w' a out.length R ∧ rowsL R out.length = out) ∧ Below w.heap.size w w'
theorem parseB_nohead {l : Wd} (h : headB (wordsL l) = none) : parseB l = none := by unfold parseB; rw [h]
theorem parseB_nobody {l : Wd} {v n : Int} (h : headB (wordsL l) = some (v, n)) (hb : bodyB v ((wordsL l).drop 4) = none) : parseB l = none := by unfold parseB; rw [h]; dsimp only; rw [hb]
theorem parseB_odd {l : Wd} {v n : Int} {out : List (List Int)} {now : List Int} (h : headB (wordsL l) = some (v, n)) (hb : bodyB v ((wordsL l).drop 4) = some ⟨out, now⟩) (hn : ¬ (now = [] ∧ (out.length : Int) = n)) : parseB l = none := by
  unfold parseB; rw [h]; dsimp only; rw [hb]; dsimp only; rw [if_neg hn]
theorem parseB_even {l : Wd} {v n : Int} {out : List (List Int)} {now : List Int} (h : headB (wordsL l) = some (v, n)) (hb : bodyB v ((wordsL l).drop 4) = some ⟨out, now⟩) (hn : now = [] ∧ (out.length : Int) = n) : parseB l = some out := by
  unfold parseB; rw [h]; dsimp only; rw [hb]; dsimp only; rw [if_pos hn]
theorem headB_bd {L : List Wd} {v n : Int} (h : headB L = some (v, n)) : 4 ≤ L.length ∧ 0 ≤ v ∧ v ≤ 999999 ∧ 0 ≤ n ∧ n ≤ 999999 := by
  match L with
  | [] => cases h
  | [_] => cases h
  | [_, _] => cases h
  | [_, _, _] => cases h
  | x :: y :: z :: t :: L =>
    by_cases hxy : x = [112] ∧ y = [99, 110, 102]
    · rw [headB_good hxy] at h
      cases hz : numB z with
      | none => rw [hz] at h; cases h
      | some p =>
        cases ht : numB t with
        | none => rw [hz, ht] at h; cases h
        | some q =>
          rw [hz, ht] at h
          have h1 := numB_some hz
          have h2 := numB_some ht
          simp at h
          refine ⟨by simp, by omega, by omega, by omega, by omega⟩
    · rw [headB_bad hxy] at h; cases h

theorem fstep_len (l : Wd) : ∀ st : List Wd × Wd, (∀ x ∈ (l.foldl fstep st).1, x ∈ st.1 ∨ x.length ≤ st.2.length + l.length) ∧ (l.foldl fstep st).2.length ≤ st.2.length + l.length := by
  induction l with
  | nil => intro st; exact ⟨fun x hx => .inl hx, by simp⟩
  | cons c l ih =>
    intro st
    rw [List.foldl_cons]
    obtain ⟨h1, h2⟩ := ih (fstep st c)
    unfold fstep at h1 h2 ⊢
    split at h1 <;> rename_i hb
    · simp only [hb, ↓reduceIte] at h1 h2 ⊢
      refine ⟨fun x hx => ?_, by simp at h2 ⊢; omega⟩
      rcases h1 x hx with h | h
      · rcases List.mem_append.1 h with h | h
        · exact .inl h
        · right
          unfold flush at h
          split at h
          · simp at h
          · simp at h; subst h; simp
      · right; simp at h ⊢; omega
    · simp only [hb, Bool.false_eq_true, ↓reduceIte] at h1 h2 ⊢
      refine ⟨fun x hx => ?_, by simp at h2 ⊢; omega⟩
      rcases h1 x hx with h | h
      · exact .inl h
      · right; simp at h ⊢; omega
theorem fieldsL_mem {l x : Wd} (h : x ∈ fieldsL l) : x.length ≤ l.length := by
  obtain ⟨h1, h2⟩ := fstep_len l ([], [])
  rcases List.mem_append.1 h with h | h
  · rcases h1 x h with h | h
    · simp at h
    · simpa using h
  · unfold flush at h
    split at h
    · simp at h
    · simp at h; subst h; simpa using h2
theorem wordsL_mem {l x : Wd} (h : x ∈ wordsL l) : x.length ≤ l.length := by
  rw [wordsL, words_lines l.length l (Nat.le_refl _) []] at h
  simp only [List.nil_append, List.mem_flatMap] at h
  obtain ⟨y, hy, hx⟩ := h
  have := linesF_mem _ _ _ hy
  unfold lineW at hx
  split at hx
  · simp at hx
  · have := fieldsL_mem hx; omega
theorem wordsL_len (l : Wd) : (wordsL l).length ≤ l.length := by
  rw [wordsL, words_lines l.length l (Nat.le_refl _) []]
  simpa using linesF_len l.length l (Nat.le_refl _)

set_option maxHeartbeats 4000000 in
theorem parse_any (l : List UInt8) (hl : l.length ≤ 100000) (w : World) : Calls Tryd.prog 22 #[.string (bs l)] w (ParsePost l w) := by
  have hw : Calls Tryd.prog 49 #[.string (bs l)] w fun e w' => ∃ a c, e = .returned (.slice a (wordsL l).length c) ∧ Strs w' a (wordsL l) ∧ (4 ≤ (wordsL l).length → ∃ g, a = some ⟨g, 0, none⟩ ∧ (wordsL l).length ≤ c) ∧ Below w.heap.size w w' := by
    refine (words_any (fun l w => by
      have := Tryd.strings_Index_one (bs l) 10 w
      rwa [bs_list] at this) (fun l w => by
      have := Tryd.strings_HasPrefix (bs l) ⟨#[99]⟩ w
      rw [bs_list] at this
      exact this) l (by omega) w).mono ?_
    rintro e w' ⟨v, rfl, hown, hb⟩
    obtain ⟨a, c, rfl⟩ := own_shape hown
    obtain ⟨h1, h2, h3⟩ := strs_of_own hown
    exact ⟨a, c, rfl, h1, fun h4 => h3.elim (fun h => by omega) id, hb⟩
  have hmem : ∀ u ∈ wordsL l, u.length ≤ 1000000 := fun u hu => by have := wordsL_mem hu; omega
  have hcnt := wordsL_len l
  have hsz := bs_size l
  have hno : ∀ w', parseB l = none → Below w.heap.size w w' → ParsePost l w (.returned (.tuple #[.slice none 0 0, .int .i64 11])) w' := fun w' h hb => ⟨.inl ⟨h, rfl⟩, hb⟩
  have HNO := Lib.hid hno; clear hno
  have hhd := fun a c w h => head_any a c (wordsL l) hmem (by omega) w h
  have HHD := Lib.hid hhd; clear hhd
  have hbd := fun a c v hv w h => body_any a c v hv ((wordsL l).drop 4) (by simp; omega) (fun u hu => hmem u (List.drop_subset _ _ hu)) w h
  have HBD := Lib.hid hbd; clear hbd
  have HW := Lib.hid hw; clear hw
  clear hmem
  go_enter Tryd.func22, Tryd.ntmps22
  go_wp2_with fail
  refine HW.out.mono ?_
  rintro e w1 ⟨a, c, rfl, hstr, hfour, hb1⟩
  go_wp2_with fail
  refine (HHD.out _ _ _ hstr).mono ?_
  rintro e w2 ⟨p, q, ok, rfl, hh, hb2⟩
  have hb12 := hb1.trans (hb2.mono hb1.size)
  cases ok with
  | false =>
    have HP := Lib.hid (HNO.out w2 (parseB_nohead hh) hb12)
    clear hh hb1 hb2 hb12 hstr hfour
    go_wp2
    go_ret2
    exact HP.out
  | true =>
    obtain ⟨h4, hp0, hp1, hq0, hq1⟩ := headB_bd hh
    obtain ⟨g, rfl, hcap⟩ := hfour h4
    have hstr2 := hstr.below hb2
    have hd : Strs w2 (some ⟨g, 4, none⟩) ((wordsL l).drop 4) := by
      rcases hstr2 with h | ⟨b, off, e, hlt, hc⟩
      · rw [h] at h4; simp at h4
      · cases e
        refine .inr ⟨g, 4, rfl, hlt, fun j x hj => ?_⟩
        rw [List.getElem?_drop] at hj
        have := hc (4 + j) x hj
        simpa using this
    have hlen : ((wordsL l).drop 4).length = (wordsL l).length - 4 := by simp
    have hbody := fun a c h => HBD.out a c p ⟨hp0, by omega⟩ w2 h
    rw [hlen] at hbody
    have hnobody := fun (w' : World) hb hbel => HNO.out w' (parseB_nobody hh hb) hbel
    have hodd := fun (w' : World) out now hb hn hbel => HNO.out w' (parseB_odd (out := out) (now := now) hh hb hn) hbel
    have heven := fun out now hb hn => parseB_even (out := out) (now := now) hh hb hn
    have HBODY := Lib.hid hbody; clear hbody
    have HNB := Lib.hid hnobody; clear hnobody
    have HOD := Lib.hid hodd; clear hodd
    have HEV := Lib.hid heven; clear heven
    have hempty : (wordsL l).length = 4 → (wordsL l).drop 4 = [] := fun h => List.drop_eq_nil_of_le (by omega)
    clear hh hstr hstr2 hfour HHD HBD
    generalize (wordsL l).drop 4 = K at *
    generalize (wordsL l).length = n at *
    by_cases hc4 : c = 4
    · subst hc4
      have hn4 : n = 4 := by omega
      subst hn4
      have HD : Strs w2 (some ⟨g, 0, none⟩) K := .inl (hempty rfl)
      clear hd
      go_wp2_with fail
      refine (HBODY.out (some ⟨g, 0, none⟩) 0 HD).mono ?_
      rintro e w3 hpost
      rcases hpost with ⟨hn0, rfl, hb3⟩ | ⟨out, now, a3, c3, vals, vc, Bc, hb0, rfl, hrd, hb3⟩
      · have HP := Lib.hid (HNB.out w3 hn0 (hb12.trans (hb3.mono hb12.size)))
        clear hn0 hb3 hb1 hb2 hb12
        go_wp2
        go_ret2
        exact HP.out
      · have hb123 := hb12.trans (hb3.mono hb12.size)
        have hol : out.length ≤ 1000000 := by
          have := bodyB_lens p _ ⟨[], []⟩ _ hb0
          simp at this; omega
        obtain ⟨hrws, hrl⟩ := hrd.rws rfl
        by_cases hnow : now = []
        · have hd1 : decide (now.length = 0) = true := by simp [hnow]
          rw [hd1]
          by_cases hq : (out.length : Int) = q
          · have HP := Lib.hid (show ParsePost l w (.returned (.tuple #[.slice a3 out.length c3, .int .i64 0])) w3 from ⟨.inr ⟨out, a3, c3, _, HEV.out out now hb0 ⟨hnow, hq⟩, rfl, hrws, hrl⟩, hb123⟩)
            have hqb : ((out.length : Int) != q) = false := by simpa using hq
            clear hb0 hrd hb3 hb1 hb2 hb12 hrws hrl hd1 hnow hq hb123
            generalize out.length = m at *
            go_wp2
            go_ret2
            exact HP.out
          · have HP := Lib.hid (HOD.out w3 out now hb0 (fun h => hq h.2) hb123)
            have hqb : ((out.length : Int) != q) = true := by simpa using hq
            clear hb0 hrd hb3 hb1 hb2 hb12 hrws hrl hd1 hnow hq hb123
            generalize out.length = m at *
            go_wp2
            go_ret2
            exact HP.out
        · have hd1 : decide (now.length = 0) = false := by simp [hnow]
          rw [hd1]
          have HP := Lib.hid (HOD.out w3 out now hb0 (fun h => hnow h.1) hb123)
          clear hb0 hrd hb3 hb1 hb2 hb12 hrws hrl hd1 hnow hb123
          generalize out.length = m at *
          go_wp2
          go_ret2
          exact HP.out
    · have HD := hd
      clear hd
      go_wp2_with fail
      refine (HBODY.out (some ⟨g, 4, none⟩) (c - 4) HD).mono ?_
      rintro e w3 hpost
      rcases hpost with ⟨hn0, rfl, hb3⟩ | ⟨out, now, a3, c3, vals, vc, Bc, hb0, rfl, hrd, hb3⟩
      · have HP := Lib.hid (HNB.out w3 hn0 (hb12.trans (hb3.mono hb12.size)))
        clear hn0 hb3 hb1 hb2 hb12
        go_wp2
        go_ret2
        exact HP.out
      · have hb123 := hb12.trans (hb3.mono hb12.size)
        have hol : out.length ≤ 1000000 := by
          have := bodyB_lens p _ ⟨[], []⟩ _ hb0
          simp at this; omega
        obtain ⟨hrws, hrl⟩ := hrd.rws rfl
        by_cases hnow : now = []
        · have hd1 : decide (now.length = 0) = true := by simp [hnow]
          rw [hd1]
          by_cases hq : (out.length : Int) = q
          · have HP := Lib.hid (show ParsePost l w (.returned (.tuple #[.slice a3 out.length c3, .int .i64 0])) w3 from ⟨.inr ⟨out, a3, c3, _, HEV.out out now hb0 ⟨hnow, hq⟩, rfl, hrws, hrl⟩, hb123⟩)
            have hqb : ((out.length : Int) != q) = false := by simpa using hq
            clear hb0 hrd hb3 hb1 hb2 hb12 hrws hrl hd1 hnow hq hb123
            generalize out.length = m at *
            go_wp2
            go_ret2
            exact HP.out
          · have HP := Lib.hid (HOD.out w3 out now hb0 (fun h => hq h.2) hb123)
            have hqb : ((out.length : Int) != q) = true := by simpa using hq
            clear hb0 hrd hb3 hb1 hb2 hb12 hrws hrl hd1 hnow hq hb123
            generalize out.length = m at *
            go_wp2
            go_ret2
            exact HP.out
        · have hd1 : decide (now.length = 0) = false := by simp [hnow]
          rw [hd1]
          have HP := Lib.hid (HOD.out w3 out now hb0 (fun h => hnow h.1) hb123)
          clear hb0 hrd hb3 hb1 hb2 hb12 hrws hrl hd1 hnow hb123
          generalize out.length = m at *
          go_wp2
          go_ret2
          exact HP.out
end Go.Proofs.YtmgkoehclabejaaDoor
