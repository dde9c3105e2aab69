/- Contracts: a clause is added to what is present. -/
import Derived.Test.YtoffhgiljnagcaaQD
import Derived.Test.YtoffhgiljnagcaaWJ
import Derived.Test.YtoffhgiljnagcaaI
namespace Go.Proofs.Ytoffhgiljnagcaa
open Go.RowKit Go.Lib Go.Maps
set_option maxRecDepth 100000

theorem nfv_litF {l : List Int} (hl : ∀ x ∈ l, lit x = true) : litF (gd (nfv l)) (nfv l).length = true := by
  have : ∀ j, j < (nfv l).length → lit (gd (nfv l) j) = true := fun j hj => hl _ ((nfv_mem hl _).1 (mem_gd.2 ⟨j, hj, rfl⟩))
  simpa [litF] using this
/-- The map is written at the end. -/
theorem padd_put {w W : World} {P Q K M m : Nat} {L0 L : Tag → Value} {s : St} {cnt pl : List Int → Nat} (hP : PMem W P Q K M m L s cnt pl) (hb : Fr (fun b => Bl K M L0 b ∨ b = Q) w W) {N : List Int} (hN : ∀ x ∈ N, lit x = true) (hle : N.length ≤ 1000000) (hm : m ≤ 1000000) (A B : Nat) (A' : Int) (hA : A' = A) :
    W.cell? ⟨P, 1, none⟩ = some (.map (some Q)) ∧ ∃ w3, (Instr.mapUpdate 82 (.map (some Q)) (.string ⟨(kb N).toArray⟩) (.agg #[.int .i64 A', .int .i32 B])).run Try.prog W.drew = .ok () w3 ∧ Hid (Fr (fun b => Bl K M L0 b ∨ b = Q) w w3 ∧ PMem w3 P Q K M (m + 1) L s (fun G => if G = N then A else cnt G) (fun G => if G = N then B else pl G)) := by
  obtain ⟨D, hD, hND⟩ := hP.mp
  obtain ⟨w3, hrun, hown, hg⟩ := (hD.drew).update (t := 82) (e := 87) (string_keyed Try.underlying9) Try.underlying82 (by unfold maxLen; omega) (key_lit hle) (cpR_mk A B)
  have hf : Fr (fun b => b = Q) W w3 := (Fr.drew (.refl _ _)).grown hg (fun k e _ => by cases e; rfl)
  refine ⟨hP.pr.cell (by omega), w3, by rw [hA]; exact hrun, Lib.hid ⟨hb.then hf fun b e => .inl (.inr e), ?_⟩⟩
  exact ⟨hP.mem.keep hf fun b hb e => hP.qb (e ▸ hb), hf.rowIs hP.pr hP.pq, ⟨_, hown, hND.put hN A B⟩, hP.pb, hP.qb, hP.pq⟩
theorem PMem.alloc {w : World} {P Q K M m : Nat} {L : Tag → Value} {s : St} {cnt pl : List Int → Nat} (h : PMem w P Q K M m L s cnt pl) (o : Obj) : PMem (w.alloc o) P Q K M m L s cnt pl :=
  h.below ((Below.refl _ w).alloc (Nat.le_refl _) _)
theorem apart_new {w0 w2 : World} {K M : Nat} {L : Tag → Value} {s : St} (hm : Mem w0 K M L s) {a : Option Addr} {n : Nat} {f : Nat → Int} (hf : Has w2 a n f) (hn : NewB w0.heap.size a n) : Apart w2 K M L a n f := by
  rcases hf with h0 | ⟨b, off, e, hlt, hc⟩
  · exact .inl h0
  · rcases hn with h0 | ⟨b', off', e', hge⟩
    · exact .inl h0
    · rw [e] at e'; cases e'
      exact .inr ⟨b, off, e, hlt, fun hb => by have := hm.lt hb; omega, hc⟩
/-- Up to the key. -/
theorem padd_key {w : World} {P Q K M m : Nat} {L : Tag → Value} {s : St} {cnt pl : List Int → Nat} (h : PMem w P Q K M m L s cnt pl) {l : List Int} (hlf : ∀ x ∈ l, lit x = true) (hle : (nfv l).length ≤ 1000) (w1 : World) (a' : Option Addr) (c' : Nat) (hb : Below w.heap.size w w1) (hh : Has w1 a' (nfv l).length (gd (nfv l))) (hn : NewB w.heap.size a' (nfv l).length) :
    Calls Try.prog 59 #[.slice a' (nfv l).length c'] w1 fun e w2 => e = .returned (.string ⟨(kb (nfv l)).toArray⟩) ∧ w2.cell? ⟨P, 1, none⟩ = some (.map (some Q)) ∧ Hid (Below w.heap.size w w2 ∧ PMem w2 P Q K M m L s cnt pl ∧ Has w2 a' (nfv l).length (gd (nfv l)) ∧ NewB w.heap.size a' (nfv l).length) := by
  have := key_any a' (nfv l).length c' (gd (nfv l)) w1 hle hh (nfv_litF hlf)
  rw [lof_gd] at this
  refine this.mono ?_
  rintro e w2 ⟨rfl, hb2⟩
  have hb3 := hb.trans (hb2.mono hb.size)
  have hp := h.below hb3
  exact ⟨rfl, hp.pr.cell (by omega), Lib.hid ⟨hb3, hp, hh.below hb2, hn⟩⟩

set_option maxHeartbeats 2000000 in
theorem padd_old {w : World} {P Q K M m : Nat} {L : Tag → Value} {s : St} {cnt pl : List Int → Nat} (h : PMem w P Q K M m L s cnt pl) {a : Option Addr} {n c : Nat} {f : Nat → Int} (hn : n ≤ 1000) (hf : Has w a n f) (hl : litF f n = true)
    (hm : m ≤ 1000000) (hc : cnt (nfv (lof f n)) ≠ 0) (hcb : cnt (nfv (lof f n)) ≤ 1000000) :
    Calls Try.prog 30 #[.pointer (some ⟨P, 0, none⟩), .slice a n c] w fun e w' => e = .returned (.tuple #[]) ∧ Hid (Fr (fun b => Bl K M L b ∨ b = Q) w w' ∧ PMem w' P Q K M (m + 1) L s (fun G => if G = nfv (lof f n) then cnt (nfv (lof f n)) + 1 else cnt G) (fun G => if G = nfv (lof f n) then pl (nfv (lof f n)) else pl G)) := by
  have hno := norm_any a n c f w (by omega) hf
  unfold NormPost at hno
  have hlf := litF_mem hl
  have hle := nfv_le (lof f n)
  rw [lof_length] at hle
  have hky := padd_key h hlf (by omega)
  have HKL := Lib.hid (key_lit (F := nfv (lof f n)) (by omega))
  have hNl : ∀ x ∈ nfv (lof f n), lit x = true := fun x hx => hlf x ((nfv_mem hlf x).1 hx)
  generalize hN : nfv (lof f n) = N at *
  have HN := Lib.hid hno
  have HKY := Lib.hid hky
  clear hno hky hf hl hlf h
  have hA : ((cnt N : Nat) : Int) ≠ 0 := by omega
  have HNL := Lib.hid hNl
  clear hNl
  go_enter Try.func30, Try.ntmps30
  go_wp2_with (first
    | (go_at_call 22; refine HN.out.mono ?_; rintro e w1 ⟨a', c', rfl, n1, -, n3, n4⟩; have HK1 := Lib.hid (HKY.out w1 a' c' n3 n1 n4); clear n1 n3 n4)
    | (go_at_call 59; refine HK1.out.mono ?_; rintro e w2 ⟨rfl, k1, HP⟩; obtain ⟨D, hD, hND⟩ := HP.out.2.1.mp; have HD := Lib.hid hD; clear hD)
    | (at_lookup; refine wpList_lookup_cp _ rfl _ _ 82 9 87 rfl (string_keyed Try.underlying9) Try.underlying82 (zero87 _) Q m D rfl HD.out _ _ rfl HKL.out (cnt N) (pl N) (hND.2 N HNL.out) ?_))
  obtain ⟨k3, w3, hrun, HF⟩ := padd_put (HP.out.2.1.alloc (.cells #[.int .i64 ((cnt N : Nat) + 1), .int .i32 (pl N : Nat)] 87)) ((Fr.of_below HP.out.1).alloc _) HNL.out (by omega) hm (cnt N + 1) (pl N) ((cnt N : Nat) + 1) (by omega)
  go_region
  all_goals
    go_end0
    exact ⟨rfl, HF⟩
set_option maxHeartbeats 2000000 in
theorem padd_taut {w : World} {P Q K M m : Nat} {L : Tag → Value} {s : St} {cnt pl : List Int → Nat} (h : PMem w P Q K M m L s cnt pl) {a : Option Addr} {n c : Nat} {f : Nat → Int} (hn : n ≤ 1000) (hf : Has w a n f) (hl : litF f n = true)
    (hm : m ≤ 1000000) (hc : cnt (nfv (lof f n)) = 0) (ht : tautv (lof f n) = true) :
    Calls Try.prog 30 #[.pointer (some ⟨P, 0, none⟩), .slice a n c] w fun e w' => e = .returned (.tuple #[]) ∧ Hid (Fr (fun b => Bl K M L b ∨ b = Q) w w' ∧ PMem w' P Q K M (m + 1) L s (fun G => if G = nfv (lof f n) then cnt (nfv (lof f n)) + 1 else cnt G) (fun G => if G = nfv (lof f n) then pl (nfv (lof f n)) else pl G)) := by
  have hno := norm_any a n c f w (by omega) hf
  unfold NormPost at hno
  rw [ht] at hno
  have hlf := litF_mem hl
  have hle := nfv_le (lof f n)
  rw [lof_length] at hle
  have hky := padd_key h hlf (by omega)
  have HKL := Lib.hid (key_lit (F := nfv (lof f n)) (by omega))
  have hNl : ∀ x ∈ nfv (lof f n), lit x = true := fun x hx => hlf x ((nfv_mem hlf x).1 hx)
  generalize hN : nfv (lof f n) = N at *
  have HN := Lib.hid hno
  have HKY := Lib.hid hky
  clear hno hky hf hl hlf h
  have HNL := Lib.hid hNl
  clear hNl
  go_enter Try.func30, Try.ntmps30
  go_wp2_with (first
    | (go_at_call 22; refine HN.out.mono ?_; rintro e w1 ⟨a', c', rfl, n1, -, n3, n4⟩; have HK1 := Lib.hid (HKY.out w1 a' c' n3 n1 n4); clear n1 n3 n4)
    | (go_at_call 59; refine HK1.out.mono ?_; rintro e w2 ⟨rfl, k1, HP⟩; obtain ⟨D, hD, hND⟩ := HP.out.2.1.mp; have HD := Lib.hid hD; clear hD)
    | (at_lookup; refine wpList_lookup_cp _ rfl _ _ 82 9 87 rfl (string_keyed Try.underlying9) Try.underlying82 (zero87 _) Q m D rfl HD.out _ _ rfl HKL.out 0 (pl N) (by have := hND.2 N HNL.out; rw [hc] at this; exact this) ?_))
  obtain ⟨k3, w3, hrun, HF⟩ := padd_put (HP.out.2.1.alloc (.cells #[.int .i64 1, .int .i32 (pl N : Nat)] 87)) ((Fr.of_below HP.out.1).alloc _) HNL.out (by omega) hm (cnt N + 1) (pl N) 1 (by rw [hc]; rfl)
  go_region
  all_goals
    go_end0
    exact ⟨rfl, HF⟩

/-- What is known is asked to add a clause. -/
def AddAsk (w : World) (K M : Nat) (L : Tag → Value) (s : St) (N : List Int) (X : (Tag → Value) → St → Prop) : Prop :=
  ∀ (w1 : World) (a' : Option Addr) (c' : Nat), Below w.heap.size w w1 → Apart w1 K M L a' N.length (gd N) → Mem w1 K M L s →
    Calls Try.prog 23 #[.pointer (some ⟨K, 0, none⟩), .slice a' N.length c'] w1 fun e w2 => ∃ L' s', e = .returned (.int .i32 (s.nc : Nat)) ∧ Tn K M w1 L w2 L' s' ∧ X L' s'
/-- Behind it: the place is stored, and the count. -/
theorem padd_store {w W1 w4 : World} {P Q K M m : Nat} {L L' : Tag → Value} {s s' : St} {cnt pl : List Int → Nat} {A0 B0 : Value} (hW : w.heap.size ≤ W1.heap.size) (h : PMem W1 P Q K M m L s cnt pl) (hf : Fr (fun b => Bl K M L b ∨ b = Q) w W1) (T : Tn K M (W1.alloc (.cells #[A0, B0] 87)) L w4 L' s') (x y : Value) :
    w4.cell? ⟨W1.heap.size, 0, none⟩ = some A0 ∧ w4.cell? ⟨W1.heap.size, 1, none⟩ = some B0 ∧ w4.frozen? ⟨W1.heap.size, 0, none⟩ = false ∧ w4.frozen? ⟨W1.heap.size, 1, none⟩ = false ∧
      PMem ((w4.setCell ⟨W1.heap.size, 1, none⟩ x).setCell ⟨W1.heap.size, 0, none⟩ y) P Q K M m L' s' cnt pl ∧ Fr (fun b => Bl K M L b ∨ b = Q) w ((w4.setCell ⟨W1.heap.size, 1, none⟩ x).setCell ⟨W1.heap.size, 0, none⟩ y) ∧
      ((w4.setCell ⟨W1.heap.size, 1, none⟩ x).setCell ⟨W1.heap.size, 0, none⟩ y).cell? ⟨W1.heap.size, 0, none⟩ = some y ∧ ((w4.setCell ⟨W1.heap.size, 1, none⟩ x).setCell ⟨W1.heap.size, 0, none⟩ y).cell? ⟨W1.heap.size, 1, none⟩ = some x := by
  have hg : ¬ Bl K M L W1.heap.size := fun e => by have := h.mem.lt e; omega
  have hlt : W1.heap.size < (W1.alloc (.cells #[A0, B0] 87)).heap.size := by simp
  obtain ⟨k1, k2, k3, k4⟩ := T.side hlt hg
  have hrow : (W1.alloc (.cells #[A0, B0] 87)).rowIs W1.heap.size 87 2 (fun j => if j = 0 then A0 else B0) := World.rowIs_alloc W1 #[A0, B0] 87 _ (fun i hi => by
    have hi' : i < 2 := hi
    match i, hi' with
    | 0, _ | 1, _ => rfl)
  have hrow4 := T.fr.rowIs hrow hg
  have hP := (h.alloc (.cells #[A0, B0] 87)).tn T
  have hPne : P ≠ W1.heap.size := fun e => by have := h.pr.lt; omega
  have hQne : Q ≠ W1.heap.size := fun e => by obtain ⟨D, hD, _⟩ := h.mp; have := hD.lt; omega
  have hff : Fr (fun b => b = W1.heap.size) w4 ((w4.setCell ⟨W1.heap.size, 1, none⟩ x).setCell ⟨W1.heap.size, 0, none⟩ y) := (Fr.set (B := fun b => b = W1.heap.size) (p := ⟨W1.heap.size, 1, none⟩) (Fr.refl _ w4) rfl x).set (p := ⟨W1.heap.size, 0, none⟩) rfl y
  have hrow5 := (hrow4.set 1 x).set 0 y
  refine ⟨hrow4.cell (by omega), hrow4.cell (by omega), hrow4.frozen 0, hrow4.frozen 1, ?_, ?_, hrow5.cell (by omega), hrow5.cell (by omega)⟩
  · obtain ⟨D, hD, hND⟩ := hP.mp
    exact ⟨hP.mem.keep hff fun b hb e => k4 (e ▸ hb), hff.rowIs hP.pr hPne, ⟨D, ownsCp_of_block hD (hff.block _ hD.lt hQne), hND⟩, hP.pb, hP.qb, hP.pq⟩
  · have h1 : Fr (fun b => Bl K M L b ∨ b = Q) w w4 := (hf.alloc _).then T.fr fun b hb => .inl (.inl hb)
    exact h1.then hff fun b hb => .inr (by rw [hb]; exact hW)

set_option maxHeartbeats 4000000 in
theorem padd_new {w : World} {P Q K M m : Nat} {L : Tag → Value} {s : St} {cnt pl : List Int → Nat} (h : PMem w P Q K M m L s cnt pl) {a : Option Addr} {n c : Nat} {f : Nat → Int} (hn : n ≤ 1000) (hf : Has w a n f) (hl : litF f n = true)
    (hm : m ≤ 1000000) (hc : cnt (nfv (lof f n)) = 0) (ht : tautv (lof f n) = false) {X : (Tag → Value) → St → Prop} (hX : AddAsk w K M L s (nfv (lof f n)) X) :
    Calls Try.prog 30 #[.pointer (some ⟨P, 0, none⟩), .slice a n c] w fun e w' => e = .returned (.tuple #[]) ∧ ∃ L' s', X L' s' ∧ (∀ b, Bl K M L' b → Bl K M L b ∨ w.heap.size ≤ b) ∧ Hid (Fr (fun b => Bl K M L b ∨ b = Q) w w' ∧ PMem w' P Q K M (m + 1) L' s' (fun G => if G = nfv (lof f n) then cnt (nfv (lof f n)) + 1 else cnt G) (fun G => if G = nfv (lof f n) then s.nc else pl G)) := by
  have hno := norm_any a n c f w (by omega) hf
  unfold NormPost at hno
  rw [ht] at hno
  have hlf := litF_mem hl
  have hle := nfv_le (lof f n)
  rw [lof_length] at hle
  have hky := padd_key h hlf (by omega)
  have HKL := Lib.hid (key_lit (F := nfv (lof f n)) (by omega))
  have hNl : ∀ x ∈ nfv (lof f n), lit x = true := fun x hx => hlf x ((nfv_mem hlf x).1 hx)
  have HM := Lib.hid h.mem
  generalize hN : nfv (lof f n) = N at *
  have HN := Lib.hid hno
  have HKY := Lib.hid hky
  have HX := Lib.hid hX
  have hasks : ∀ (w2 : World) (a' : Option Addr) (c' : Nat), (Below w.heap.size w w2 ∧ PMem w2 P Q K M m L s cnt pl ∧ Has w2 a' N.length (gd N) ∧ NewB w.heap.size a' N.length) → ∀ o, (w2.alloc o).cell? ⟨P, 0, none⟩ = some (.pointer (some ⟨K, 0, none⟩)) ∧
      Calls Try.prog 23 #[.pointer (some ⟨K, 0, none⟩), .slice a' N.length c'] (w2.alloc o) fun e w4 => ∃ L' s', e = .returned (.int .i32 (s.nc : Nat)) ∧ Hid (Tn K M (w2.alloc o) L w4 L' s' ∧ X L' s') := fun w2 a' c' hh o => by
    have hb : Below w.heap.size w (w2.alloc o) := hh.1.alloc hh.1.size o
    refine ⟨(hh.2.1.alloc o).pr.cell (by omega), (HX.out (w2.alloc o) a' c' hb (apart_new HM.out (hh.2.2.1.below ((Below.refl _ w2).alloc (Nat.le_refl _) o)) hh.2.2.2) (hh.2.1.alloc o).mem).mono ?_⟩
    rintro e w4 ⟨L', s', rfl, h1, h2⟩
    exact ⟨L', s', rfl, Lib.hid ⟨h1, h2⟩⟩
  have HAS := Lib.hid hasks
  clear hno hky hf hl hlf h hX hasks
  have HNL := Lib.hid hNl
  clear hNl
  go_enter Try.func30, Try.ntmps30
  go_wp2_with (first
    | (go_at_call 22; refine HN.out.mono ?_; rintro e w1 ⟨a', c', rfl, n1, -, n3, n4⟩; have HK1 := Lib.hid (HKY.out w1 a' c' n3 n1 n4); clear n1 n3 n4)
    | (go_at_call 59; refine HK1.out.mono ?_; rintro e w2 ⟨rfl, k1, HP⟩; obtain ⟨D, hD, hND⟩ := HP.out.2.1.mp; have HD := Lib.hid hD; clear hD)
    | (at_lookup; refine wpList_lookup_cp _ rfl _ _ 82 9 87 rfl (string_keyed Try.underlying9) Try.underlying82 (zero87 _) Q m D rfl HD.out _ _ rfl HKL.out 0 (pl N) (by have := hND.2 N HNL.out; rw [hc] at this; exact this) ?_; obtain ⟨k2, hask⟩ := HAS.out w2 a' c' HP.out (.cells #[.int .i64 0, .int .i32 (pl N : Nat)] 87); have HC := Lib.hid hask; clear hask)
    | (go_at_call 23; refine HC.out.mono ?_; rintro e w4 ⟨L', s', rfl, HT⟩; obtain ⟨y1, y2, y3, y4, y5, y6, z0, z1⟩ := padd_store HP.out.1.size HP.out.2.1 (Fr.of_below HP.out.1) HT.out.1 (.int .i32 (s.nc : Nat)) (.int .i64 1); have HS := Lib.hid (And.intro y5 y6); clear y5 y6))
  obtain ⟨k3, w3, hrun, HF⟩ := padd_put HS.out.1 HS.out.2 HNL.out (by omega) hm (cnt N + 1) s.nc 1 (by rw [hc]; rfl)
  have HG := Lib.hid (show ∀ b, Bl K M L' b → Bl K M L b ∨ w.heap.size ≤ b from fun b hb => (HT.out.1.gr b hb).imp id fun e => by have := HP.out.1.size; simp at e; omega)
  go_region
  all_goals
    go_end0
    exact ⟨rfl, L', s', HT.out.2, HG.out, HF⟩
end Go.Proofs.Ytoffhgiljnagcaa
