/- Contracts: the answers' Value. -/
import Derived.Test.YtfdopgohopibkaaF
import Derived.Test.YtfdopgohopibkaaT
namespace Go.Proofs.Ytfdopgohopibkaa
open Go.RowKit Go.Lib Go.Maps
set_option maxRecDepth 100000

/-- A node's three cells, all of them. -/
theorem Rg.node3 {w : World} {G g n c : Nat} {s : Gr} (h : Rg w G (.slice (some ⟨g, 0, none⟩) n c) s) {i : Nat} (hi : i < s.n) :
    (s.L i = none ∧ w.cell? ⟨g, i * 3, none⟩ = some (.bool true) ∧ w.cell? ⟨g, i * 3 + 1, none⟩ = some (.int .i64 0) ∧ w.cell? ⟨g, i * 3 + 2, none⟩ = some (.int .i64 0)) ∨ ∃ a b, s.L i = some (a, b) ∧ w.cell? ⟨g, i * 3, none⟩ = some (.bool false) ∧ w.cell? ⟨g, i * 3 + 1, none⟩ = some (.int .i64 a) ∧ w.cell? ⟨g, i * 3 + 2, none⟩ = some (.int .i64 b) := by
  rcases h.node hi with ⟨hl, c0⟩ | h
  · have h1 := h.sl.cell (j := i * 3 + 1) (by omega)
    have h2 := h.sl.cell (j := i * 3 + 2) (by omega)
    unfold ndV at h1 h2
    rw [show (i * 3 + 1) / 3 = i by omega, hl] at h1
    rw [show (i * 3 + 2) / 3 = i by omega, hl] at h2
    simp only at h1 h2
    rw [if_neg (by omega)] at h1 h2
    exact .inl ⟨hl, c0, h1, h2⟩
  · exact .inr h
theorem Rg.of_block {w w' : World} {G : Nat} {v : Value} {s : Gr} (h : Rg w G v s) (hb : ∀ b, b = G ∨ v.ownBlock = some b → w'.heap[b]? = w.heap[b]?) : Rg w' G v s :=
  ⟨h.hd.of_block (hb G (.inl rfl)), h.sl.of_block fun b e => hb b (.inr e), h.ne⟩
theorem Rg.lt {w : World} {G : Nat} {v : Value} {s : Gr} (h : Rg w G v s) {b : Nat} (hb : b = G ∨ v.ownBlock = some b) : b < w.heap.size := by
  rcases hb with rfl | e
  · exact h.hd.lt
  · exact h.sl.lt e
theorem Rg.below {w w' : World} {G : Nat} {v : Value} {s : Gr} (h : Rg w G v s) (hb : Below w.heap.size w w') : Rg w' G v s := h.of_block fun b e => hb.block b (h.lt e)
/-- What a call of Value says. -/
def ValIs (G : Nat) (v : Value) (s : Gr) (a1 : Option Addr) (m c1 : Nat) (gm : Nat → Bool) (e : Nat) : Prop :=
  ∀ w, Rg w G v s → HasB w a1 m gm → Calls Try.prog 18 #[.pointer (some ⟨G, 0, none⟩), .slice a1 m c1, .int .i64 e] w fun r w' => r = .returned (.bool (val (mdl gm m) s e)) ∧ Below w.heap.size w w'
section
variable {G : Nat} {v : Value} {s : Gr} {a1 : Option Addr} {m c1 : Nat} {gm : Nat → Bool}
set_option maxHeartbeats 2000000 in
theorem value_odd (hn : s.n ≤ 100000) {e : Nat} (he : e < 2 * (s.n + 1)) (ho : e % 2 = 1) (ih : ValIs G v s a1 m c1 gm (e - 1)) : ValIs G v s a1 m c1 gm e := by
  intro w hr hB
  have HE := Lib.hid (show Calls Try.prog 31 #[.pointer (some ⟨G, 0, none⟩), .int .i64 e] w fun r w' => r = .returned (.int .i64 e) ∧ w = w' by
    have := redge_any hr hn e
    rwa [edg_of he] at this)
  have HI := Lib.hid (ih w hr hB)
  have hv : val (mdl gm m) s e = !val (mdl gm m) s (e - 1) := by
    have := val_nt (mdl gm m) s (e - 1)
    rw [show nt (e - 1) = e by unfold nt; rw [if_pos (by omega)]; omega] at this
    exact this
  rw [hv]
  have b1 : ((e : Int) % 2 == 1) = true := by rw [beq_iff_eq]; omega
  have hm1 : (e : Int) - 1 = ((e - 1 : Nat) : Int) := by omega
  have h1 : (e : Int) % 2 = 1 := by omega
  have hE1 : e - 1 ≤ 1000000 := by omega
  generalize val (mdl gm m) s (e - 1) = z at *
  generalize e - 1 = e1 at *
  clear hr hB ih hv ho he
  go_enter Try.func18, Try.ntmps18
  go_wp2_with (first
    | (go_at_call 31; (with_reducible refine HE.out.mono ?_); rintro e w' ⟨rfl, rfl⟩)
    | (go_at_call 18; (with_reducible refine HI.out.mono ?_); rintro e w1 ⟨rfl, hb1⟩))
  go_ret
  exact ⟨rfl, hb1⟩
set_option maxHeartbeats 2000000 in
theorem value_zero (hn : s.n ≤ 100000) : ValIs G v s a1 m c1 gm 0 := by
  intro w hr _
  have HE := Lib.hid (show Calls Try.prog 31 #[.pointer (some ⟨G, 0, none⟩), .int .i64 0] w fun r w' => r = .returned (.int .i64 0) ∧ w = w' by
    have := redge_any hr hn (0 : Nat)
    rwa [edg_of (by omega)] at this)
  rw [val_zero]
  clear hr
  show Calls Try.prog 18 #[.pointer (some ⟨G, 0, none⟩), .slice a1 m c1, .int .i64 0] w _
  go_enter Try.func18, Try.ntmps18
  go_wp2_with (go_at_call 31; (with_reducible refine HE.out.mono ?_); rintro e w' ⟨rfl, rfl⟩)
  go_ret
  exact ⟨rfl, Below.refl _ _⟩
set_option maxHeartbeats 2000000 in
theorem value_and (hok : s.Ok) (hn : s.n ≤ 100000) {k a b : Nat} (hk : k < s.n) (hl : s.L k = some (a, b)) (iha : ValIs G v s a1 m c1 gm a) (ihb : ValIs G v s a1 m c1 gm b) : ValIs G v s a1 m c1 gm (2 * (k + 1)) := by
  intro w hr hB
  obtain ⟨h2, h3, h4, _⟩ := hok k hk a b hl
  rw [val_and hk hl (by omega) h4]
  have HE := Lib.hid (show Calls Try.prog 31 #[.pointer (some ⟨G, 0, none⟩), .int .i64 (2 * (k + 1) : Nat)] w fun r w' => r = .returned (.int .i64 (2 * (k + 1) : Nat)) ∧ w = w' by
    have := redge_any hr hn (2 * (k + 1) : Nat)
    rwa [edg_of (by omega)] at this)
  obtain ⟨g, c, hv, _, _, hg⟩ := hr.sl.pos (by omega)
  have c0 := hr.hd.cell (i := 0) (by omega)
  subst hv
  have hx : w.cell? ⟨g, k * 3, none⟩ = some (.bool false) ∧ w.cell? ⟨g, k * 3 + 1, none⟩ = some (.int .i64 a) ∧ w.cell? ⟨g, k * 3 + 2, none⟩ = some (.int .i64 b) := by
    rcases hr.node3 hk with ⟨e, _⟩ | ⟨a', b', e, z⟩
    · rw [hl] at e; cases e
    · rw [hl] at e; cases e; exact z
  obtain ⟨y0, y1, y2⟩ := hx
  have hb1 : Below w.heap.size w (w.alloc (.cells #[.bool false, .int .i64 a, .int .i64 b] 42)) := (Below.refl _ w).alloc (Nat.le_refl _) _
  have HA := Lib.hid (iha _ (hr.below hb1) (hB.below hb1))
  have hcell : ∀ w2, Below (w.heap.size + 1) (w.alloc (.cells #[.bool false, .int .i64 a, .int .i64 b] 42)) w2 → w2.cell? ⟨w.heap.size, 2, none⟩ = some (.int .i64 b) := fun w2 hb => by
    have e := hb.cell (p := ⟨w.heap.size, 2, none⟩) (by show w.heap.size < _; omega)
    rw [e]
    exact (World.rowIs_alloc w #[.bool false, .int .i64 a, .int .i64 b] 42 (fun j => if j = 0 then .bool false else if j = 1 then .int .i64 a else .int .i64 b) (fun i hi => by
      have hi : i < 3 := hi
      match i, hi with
      | 0, _ | 1, _ | 2, _ => rfl)).cell (i := 2) (by simp)
  have HC := Lib.hid (show ∀ w2, Below (w.alloc (.cells #[.bool false, .int .i64 a, .int .i64 b] 42)).heap.size (w.alloc (.cells #[.bool false, .int .i64 a, .int .i64 b] 42)) w2 → w2.cell? ⟨w.heap.size, 2, none⟩ = some (.int .i64 b) ∧ Below w.heap.size w w2 ∧ Calls Try.prog 18 #[.pointer (some ⟨G, 0, none⟩), .slice a1 m c1, .int .i64 b] w2 fun r w' => r = .returned (.bool (val (mdl gm m) s b)) ∧ Below w2.heap.size w2 w' from fun w2 hb => by
    have hbz := hb1.trans (hb.mono hb1.size)
    exact ⟨hcell w2 (by simpa using hb), hbz, ihb w2 (hr.below hbz) (hB.below hbz)⟩)
  have q0 : ((2 * (k + 1) : Nat) : Int) % 2 = 0 := by omega
  have q1 : ((2 * (k + 1) : Nat) : Int) / 2 - 1 = (k : Int) := by omega
  have q2 : (((2 * (k + 1) : Nat) : Int) == 0) = false := by rw [beq_eq_false_iff_ne]; omega
  have q4 : ¬ ((2 * (k + 1) : Nat) : Int) = 0 := by omega
  have hki : (k : Int) < (s.n : Int) := by omega
  have hE : 2 * (k + 1) ≤ 1000000 := by omega
  generalize val (mdl gm m) s a = va at *
  generalize val (mdl gm m) s b = vb at *
  generalize 2 * (k + 1) = E at *
  clear hr hB iha ihb hok hl h2 h3 h4 hcell hb1
  cases va
  · go_enter Try.func18, Try.ntmps18
    go_wp2_with (first
      | (go_at_call 31; (with_reducible refine HE.out.mono ?_); rintro e w' ⟨rfl, rfl⟩)
      | (go_at_call 18; (with_reducible refine HA.out.mono ?_); rintro e w1 ⟨rfl, hb1⟩; obtain ⟨z2, hbz, _⟩ := HC.out _ hb1))
    go_ret
    exact ⟨rfl, hbz⟩
  · go_enter Try.func18, Try.ntmps18
    go_wp2_with (first
      | (go_at_call 31; (with_reducible refine HE.out.mono ?_); rintro e w' ⟨rfl, rfl⟩)
      | (go_at_call 18; (with_reducible refine HB2.out.mono ?_); rintro e w2 ⟨rfl, hb2⟩)
      | (go_at_call 18; (with_reducible refine HA.out.mono ?_); rintro e w1 ⟨rfl, hb1⟩; obtain ⟨z2, hbz, hc⟩ := HC.out _ hb1; have HB2 := Lib.hid hc; clear hc))
    go_ret
    exact ⟨rfl, hbz.trans (hb2.mono hbz.size)⟩
theorem cnt_snoc (L : Nat → Option (Nat × Nat)) (j : Nat) : cnt L (j + 1) = cnt L j + if L j = none then 1 else 0 := rfl
set_option maxHeartbeats 4000000 in
theorem value_input (hn : s.n ≤ 100000) (hm : m ≤ 1000000) {k : Nat} (hk : k < s.n) (hl : s.L k = none) : ValIs G v s a1 m c1 gm (2 * (k + 1)) := by
  intro w hr hB
  rw [val_input hk hl]
  have HE := Lib.hid (show Calls Try.prog 31 #[.pointer (some ⟨G, 0, none⟩), .int .i64 (2 * (k + 1) : Nat)] w fun r w' => r = .returned (.int .i64 (2 * (k + 1) : Nat)) ∧ w = w' by
    have := redge_any hr hn (2 * (k + 1) : Nat)
    rwa [edg_of (by omega)] at this)
  obtain ⟨g, c, hv, _, _, hg⟩ := hr.sl.pos (by omega)
  have c0 := hr.hd.cell (i := 0) (by omega)
  subst hv
  have hx : w.cell? ⟨g, k * 3, none⟩ = some (.bool true) ∧ w.cell? ⟨g, k * 3 + 1, none⟩ = some (.int .i64 0) ∧ w.cell? ⟨g, k * 3 + 2, none⟩ = some (.int .i64 0) := by
    rcases hr.node3 hk with ⟨_, z⟩ | ⟨a', b', e, z⟩
    · exact z
    · rw [hl] at e; cases e
  obtain ⟨y0, y1, y2⟩ := hx
  have hb1 : Below w.heap.size w (w.alloc (.cells #[.bool true, .int .i64 0, .int .i64 0] 42)) := (Below.refl _ w).alloc (Nat.le_refl _) _
  have HR1 := Lib.hid (hr.below hb1)
  have HB1 := Lib.hid (hB.below hb1)
  have q0 : ((2 * (k + 1) : Nat) : Int) % 2 = 0 := by omega
  have q1 : ((2 * (k + 1) : Nat) : Int) / 2 - 1 = (k : Int) := by omega
  have q2 : (((2 * (k + 1) : Nat) : Int) == 0) = false := by rw [beq_eq_false_iff_ne]; omega
  have q4 : ¬ ((2 * (k + 1) : Nat) : Int) = 0 := by omega
  have hki : (k : Int) < (s.n : Int) := by omega
  have hE : 2 * (k + 1) ≤ 1000000 := by omega
  generalize 2 * (k + 1) = E at *
  clear hr hB hl
  go_enter Try.func18, Try.ntmps18
  go_wp2_with (go_at_call 31; (with_reducible refine HE.out.mono ?_); rintro e w' ⟨rfl, rfl⟩)
  go_loop [8, 9] (fun x i => ∃ j : Nat, j ≤ k ∧ x = .int .i64 (cnt s.L j : Nat) ∧ i = .int .i64 j) (fun _ i => k - (intOf i).toNat)
  case atStart => exact ⟨0, Nat.zero_le _, rfl, rfl⟩
  case round =>
    obtain ⟨j, hj, rfl, rfl⟩ := hrel
    by_cases hlt : j < k
    · have hltI : (j : Int) < (k : Int) := by omega
      have hcn := cnt_le s.L j
      have hjn : (j : Int) < (s.n : Int) := by omega
      have HS := Lib.hid (cnt_snoc s.L j)
      have z0 := HR1.out.hd.cell (i := 0) (by omega)
      rcases HR1.out.node3 (i := j) (by omega) with ⟨e, z1, _⟩ | ⟨a', b', e, z1, _⟩
      · have HS2 := Lib.hid (show cnt s.L (j + 1) = cnt s.L j + 1 by rw [HS.out, if_pos e])
        clear e
        generalize cnt s.L j = cj at *
        go_wp2
        go_round
        case rel => exact ⟨j + 1, by omega, by rw [HS2.out]; go_num, by go_num⟩
        case measure => simp [intOf]; omega
      · have HS2 := Lib.hid (show cnt s.L (j + 1) = cnt s.L j by rw [HS.out, if_neg (by rw [e]; intro h; cases h)]; rfl)
        clear e
        generalize cnt s.L j = cj at *
        go_wp2
        go_round
        case rel => exact ⟨j + 1, by omega, by rw [HS2.out], by go_num⟩
        case measure => simp [intOf]; omega
    · obtain rfl : j = k := by omega
      have hltI : ¬ (j : Int) < (j : Int) := by omega
      have hcn := cnt_le s.L j
      clear hlt
      by_cases hc : cnt s.L j < m
      · have hcI : ((cnt s.L j : Nat) : Int) < (m : Int) := by omega
        rcases HB1.out with e | ⟨bb, bo, rfl, _, hcc⟩
        · omega
        have xm := hcc _ hc
        have HM := Lib.hid (show mdl gm m (cnt s.L j) = gm (cnt s.L j) by unfold mdl; simp [hc])
        clear hcc
        generalize gm (cnt s.L j) = gx at *
        go_wp2
        go_ret
        exact ⟨ret_bool HM.out.symm, (Below.refl _ w).alloc (Nat.le_refl _) _⟩
      · have hcI : ¬ ((cnt s.L j : Nat) : Int) < (m : Int) := by omega
        have hcD : decide (((cnt s.L j : Nat) : Int) < (m : Int)) = false := by simpa using hcI
        have HM := Lib.hid (show mdl gm m (cnt s.L j) = false by unfold mdl; simp [hc])
        go_wp2
        go_ret
        exact ⟨ret_bool HM.out.symm, (Below.refl _ w).alloc (Nat.le_refl _) _⟩
/-- Value -/
theorem value_is (hok : s.Ok) (hn : s.n ≤ 100000) (hm : m ≤ 1000000) (e : Nat) : e < 2 * (s.n + 1) → ValIs G v s a1 m c1 gm e := by
  induction e using Nat.strongRecOn with
  | _ e ih =>
    intro he
    by_cases ho : e % 2 = 1
    · exact value_odd hn he ho (ih (e - 1) (by omega) (by omega))
    · by_cases h0 : e = 0
      · subst h0; exact value_zero hn
      · obtain ⟨k, rfl⟩ : ∃ k, e = 2 * (k + 1) := ⟨e / 2 - 1, by omega⟩
        have hk : k < s.n := by omega
        cases hl : s.L k with
        | none => exact value_input hn hm hk hl
        | some p =>
          obtain ⟨a, b⟩ := p
          obtain ⟨h2, h3, h4, _⟩ := hok k hk a b hl
          exact value_and hok hn hk hl (ih a (by omega) (by omega)) (ih b (by omega) (by omega))
end
end Go.Proofs.Ytfdopgohopibkaa
