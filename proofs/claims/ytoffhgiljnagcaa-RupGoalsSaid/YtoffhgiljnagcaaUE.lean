/- Contracts: a clause is taken from what is present. -/
import Derived.Test.YtoffhgiljnagcaaQE
import Derived.Test.YtoffhgiljnagcaaZe
import Derived.Maps.OwnSet
namespace Go.Proofs.Ytoffhgiljnagcaa
open Go.RowKit Go.Lib Go.Maps
set_option maxRecDepth 100000

theorem NumC.del {D : DataW TypeId} {cnt pl : List Int → Nat} (h : NumC D cnt pl) {F : List Int} (hF : ∀ x ∈ F, lit x = true) :
    NumC (D.del (.string (kb F))) (fun G => if G = F then 0 else cnt G) (fun G => if G = F then 0 else pl G) := by
  refine ⟨?_, fun G hG => ?_⟩
  · obtain ⟨es, rfl⟩ := h.1
    exact ⟨_, rfl⟩
  · by_cases e : G = F
    · subst e
      rw [atKey_del_same]; simp
    · rw [atKey_del_other (fun e2 => e (kb_inj hG hF (by injection e2)))]
      simp only [if_neg e]
      exact h.2 G hG

set_option maxHeartbeats 2000000 in
theorem prem_none {w : World} {P Q K M m : Nat} {L : Tag → Value} {s : St} {cnt pl : List Int → Nat} (h : PMem w P Q K M m L s cnt pl) {a : Option Addr} {n c : Nat} {f : Nat → Int} (hn : n ≤ 1000) (hf : Has w a n f) (hl : litF f n = true)
    (hc : cnt (nfv (lof f n)) = 0) :
    Calls Try.prog 60 #[.pointer (some ⟨P, 0, none⟩), .slice a n c] w fun e w' => e = .returned (.bool false) ∧ Hid (Below w.heap.size w w' ∧ PMem w' P Q K M m L s cnt pl) := by
  have hno := norm_any a n c f w (by omega) hf
  unfold NormPost at hno
  have hlf := litF_mem hl
  have hle := nfv_le (lof f n)
  rw [lof_length] at hle
  have hky := padd_key h hlf (by omega)
  have HKL := Lib.hid (key_lit (F := nfv (lof f n)) (by omega))
  have hNl : ∀ x ∈ nfv (lof f n), lit x = true := fun x hx => hlf x ((nfv_mem hlf x).1 hx)
  generalize hN : nfv (lof f n) = N at *
  have HN := Lib.hid hno
  have HKY := Lib.hid hky
  clear hno hky hf hl hlf h
  have HNL := Lib.hid hNl
  clear hNl
  go_enter Try.func60, Try.ntmps60
  go_wp2_with (first
    | (go_at_call 22; refine HN.out.mono ?_; rintro e w1 ⟨a', c', rfl, n1, -, n3, n4⟩; have HK1 := Lib.hid (HKY.out w1 a' c' n3 n1 n4); clear n1 n3 n4)
    | (go_at_call 59; refine HK1.out.mono ?_; rintro e w2 ⟨rfl, k1, HP⟩; obtain ⟨D, hD, hND⟩ := HP.out.2.1.mp; have HD := Lib.hid hD; clear hD)
    | (at_lookup; refine wpList_lookup_cp _ rfl _ _ 82 9 87 rfl (string_keyed Try.underlying9) Try.underlying82 (zero87 _) Q m D rfl HD.out _ _ rfl HKL.out 0 (pl N) (by have := hND.2 N HNL.out; rw [hc] at this; exact this) ?_))
  go_ret
  exact ⟨rfl, Lib.hid ⟨HP.out.1.alloc HP.out.1.size _, HP.out.2.1.alloc _⟩⟩

set_option maxHeartbeats 2000000 in
theorem prem_less {w : World} {P Q K M m : Nat} {L : Tag → Value} {s : St} {cnt pl : List Int → Nat} (h : PMem w P Q K M m L s cnt pl) {a : Option Addr} {n c : Nat} {f : Nat → Int} (hn : n ≤ 1000) (hf : Has w a n f) (hl : litF f n = true)
    (hm : m ≤ 1000000) (hc : 1 < cnt (nfv (lof f n))) (hcb : cnt (nfv (lof f n)) ≤ 1000000) :
    Calls Try.prog 60 #[.pointer (some ⟨P, 0, none⟩), .slice a n c] w fun e w' => e = .returned (.bool true) ∧ Hid (Fr (fun b => Bl K M L b ∨ b = Q) w w' ∧ PMem w' P Q K M (m + 1) L s (fun G => if G = nfv (lof f n) then cnt (nfv (lof f n)) - 1 else cnt G) (fun G => if G = nfv (lof f n) then pl (nfv (lof f n)) else pl G)) := by
  have hno := norm_any a n c f w (by omega) hf
  unfold NormPost at hno
  have hlf := litF_mem hl
  have hle := nfv_le (lof f n)
  rw [lof_length] at hle
  have hky := padd_key h hlf (by omega)
  have HKL := Lib.hid (key_lit (F := nfv (lof f n)) (by omega))
  have hNl : ∀ x ∈ nfv (lof f n), lit x = true := fun x hx => hlf x ((nfv_mem hlf x).1 hx)
  generalize hN : nfv (lof f n) = N at *
  have HN := Lib.hid hno
  have HKY := Lib.hid hky
  clear hno hky hf hl hlf h
  have HNL := Lib.hid hNl
  have hA : (1 : Int) < ((cnt N : Nat) : Int) := by omega
  have hA0 : (((cnt N : Nat) : Int) == 0) = false := by rw [beq_eq_false_iff_ne]; omega
  clear hNl
  go_enter Try.func60, Try.ntmps60
  go_wp2_with (first
    | (go_at_call 22; refine HN.out.mono ?_; rintro e w1 ⟨a', c', rfl, n1, -, n3, n4⟩; have HK1 := Lib.hid (HKY.out w1 a' c' n3 n1 n4); clear n1 n3 n4)
    | (go_at_call 59; refine HK1.out.mono ?_; rintro e w2 ⟨rfl, k1, HP⟩; obtain ⟨D, hD, hND⟩ := HP.out.2.1.mp; have HD := Lib.hid hD; clear hD)
    | (at_lookup; refine wpList_lookup_cp _ rfl _ _ 82 9 87 rfl (string_keyed Try.underlying9) Try.underlying82 (zero87 _) Q m D rfl HD.out _ _ rfl HKL.out (cnt N) (pl N) (hND.2 N HNL.out) ?_))
  obtain ⟨k3, w3, hrun, HF⟩ := padd_put (HP.out.2.1.alloc (.cells #[.int .i64 ((cnt N : Nat) - 1), .int .i32 (pl N : Nat)] 87)) ((Fr.of_below HP.out.1).alloc _) HNL.out (by omega) hm (cnt N - 1) (pl N) ((cnt N : Nat) - 1) (by omega)
  go_region
  all_goals
    go_wp2
    go_ret
    exact ⟨rfl, HF⟩

/-- The entry goes. -/
theorem pdel_fin {w W : World} {P Q K M m : Nat} {L0 L : Tag → Value} {s : St} {cnt pl : List Int → Nat} (hP : PMem W P Q K M m L s cnt pl) (hb : Fr (fun b => Bl K M L0 b ∨ b = Q) w W) {N : List Int} (hN : ∀ x ∈ N, lit x = true) {D : DataW TypeId} (hND : NumC D cnt pl) {w3 : World} (hown : w3.ownsMap Try.prog 9 cpR Q m (D.del (.string (kb N)))) (ht : W.mapTurned w3 Q) :
    Fr (fun b => Bl K M L0 b ∨ b = Q) w w3 ∧ PMem w3 P Q K M m L s (fun G => if G = N then 0 else cnt G) (fun G => if G = N then 0 else pl G) := by
  have hf : Fr (fun b => b = Q) W w3 := (Fr.refl _ W).grown ht.grown (fun k e _ => by cases e; rfl)
  exact ⟨hb.then hf fun b e => .inl (.inr e), ⟨hP.mem.keep hf fun b hb e => hP.qb (e ▸ hb), hf.rowIs hP.pr hP.pq, ⟨_, hown, hND.del hN⟩, hP.pb, hP.qb, hP.pq⟩⟩

set_option maxHeartbeats 2000000 in
theorem prem_taut {w : World} {P Q K M m : Nat} {L : Tag → Value} {s : St} {cnt pl : List Int → Nat} (h : PMem w P Q K M m L s cnt pl) {a : Option Addr} {n c : Nat} {f : Nat → Int} (hn : n ≤ 1000) (hf : Has w a n f) (hl : litF f n = true)
    (hc : cnt (nfv (lof f n)) = 1) (hp : pl (nfv (lof f n)) = 0) :
    Calls Try.prog 60 #[.pointer (some ⟨P, 0, none⟩), .slice a n c] w fun e w' => e = .returned (.bool true) ∧ Hid (Fr (fun b => Bl K M L b ∨ b = Q) w w' ∧ PMem w' P Q K M m L s (fun G => if G = nfv (lof f n) then 0 else cnt G) (fun G => if G = nfv (lof f n) then 0 else pl G)) := by
  have hno := norm_any a n c f w (by omega) hf
  unfold NormPost at hno
  have hlf := litF_mem hl
  have hle := nfv_le (lof f n)
  rw [lof_length] at hle
  have hky := padd_key h hlf (by omega)
  have HKL := Lib.hid (key_lit (F := nfv (lof f n)) (by omega))
  have hNl : ∀ x ∈ nfv (lof f n), lit x = true := fun x hx => hlf x ((nfv_mem hlf x).1 hx)
  generalize hN : nfv (lof f n) = N at *
  have HN := Lib.hid hno
  have HKY := Lib.hid hky
  clear hno hky hf hl hlf h
  have HNL := Lib.hid hNl
  clear hNl
  go_enter Try.func60, Try.ntmps60
  go_wp2_with (first
    | (go_at_call 22; refine HN.out.mono ?_; rintro e w1 ⟨a', c', rfl, n1, -, n3, n4⟩; have HK1 := Lib.hid (HKY.out w1 a' c' n3 n1 n4); clear n1 n3 n4)
    | (go_at_call 59; refine HK1.out.mono ?_; rintro e w2 ⟨rfl, k1, HP⟩; obtain ⟨D, hD, hND⟩ := HP.out.2.1.mp; have HD := Lib.hid hD; have HND := Lib.hid hND; clear hD hND)
    | (at_lookup; refine wpList_lookup_cp _ rfl _ _ 82 9 87 rfl (string_keyed Try.underlying9) Try.underlying82 (zero87 _) Q m D rfl HD.out _ _ rfl HKL.out 1 0 (by have := HND.out.2 N HNL.out; rw [hc, hp] at this; exact this) ?_; have k2 : (w2.alloc (.cells #[.int .i64 1, .int .i32 0] 87)).cell? ⟨P, 1, none⟩ = some (.map (some Q)) := (HP.out.2.1.alloc _).pr.cell (by omega); have HD2 := Lib.hid (ownsCp_of_block HD.out (((Fr.refl (fun _ => False) w2).alloc (.cells #[.int .i64 1, .int .i32 0] 87)).block _ HD.out.lt id)))
    | (at_delete; refine wpList_delete_own _ rfl _ _ 82 9 rfl 87 (string_keyed Try.underlying9) Try.underlying82 cpR Q m D rfl HD2.out _ _ rfl HKL.out ?_; intro w3 o3 t3; have HF := Lib.hid (pdel_fin (HP.out.2.1.alloc (.cells #[.int .i64 1, .int .i32 0] 87)) ((Fr.of_below (B := fun b => Bl K M L b ∨ b = Q) HP.out.1).alloc _) HNL.out HND.out o3 t3); clear o3 t3))
  go_ret
  exact ⟨rfl, HF⟩

/-- What is known is asked to remove a clause. -/
def RemAsk (w : World) (K M : Nat) (L : Tag → Value) (s : St) (x : Nat) (X : (Tag → Value) → St → Prop) : Prop :=
  ∀ (w1 : World), Below w.heap.size w w1 → Mem w1 K M L s →
    Calls Try.prog 77 #[.pointer (some ⟨K, 0, none⟩), .int .i32 x] w1 fun e w2 => e = .returned (.tuple #[]) ∧ ∃ L' s', Tn K M w1 L w2 L' s' ∧ X L' s'
set_option maxHeartbeats 2000000 in
theorem prem_last {w : World} {P Q K M m : Nat} {L : Tag → Value} {s : St} {cnt pl : List Int → Nat} (h : PMem w P Q K M m L s cnt pl) {a : Option Addr} {n c : Nat} {f : Nat → Int} (hn : n ≤ 1000) (hf : Has w a n f) (hl : litF f n = true)
    (hc : cnt (nfv (lof f n)) = 1) (hp : pl (nfv (lof f n)) ≠ 0) {X : (Tag → Value) → St → Prop} (hX : RemAsk w K M L s (pl (nfv (lof f n))) X) :
    Calls Try.prog 60 #[.pointer (some ⟨P, 0, none⟩), .slice a n c] w fun e w' => e = .returned (.bool true) ∧ ∃ L' s', X L' s' ∧ (∀ b, Bl K M L' b → Bl K M L b ∨ w.heap.size ≤ b) ∧ Hid (Fr (fun b => Bl K M L b ∨ b = Q) w w' ∧ PMem w' P Q K M m L' s' (fun G => if G = nfv (lof f n) then 0 else cnt G) (fun G => if G = nfv (lof f n) then 0 else pl G)) := by
  have hno := norm_any a n c f w (by omega) hf
  unfold NormPost at hno
  have hlf := litF_mem hl
  have hle := nfv_le (lof f n)
  rw [lof_length] at hle
  have hky := padd_key h hlf (by omega)
  have HKL := Lib.hid (key_lit (F := nfv (lof f n)) (by omega))
  have hNl : ∀ x ∈ nfv (lof f n), lit x = true := fun x hx => hlf x ((nfv_mem hlf x).1 hx)
  generalize hN : nfv (lof f n) = N at *
  have HN := Lib.hid hno
  have HKY := Lib.hid hky
  have hasks : ∀ (w2 : World) (o : Obj) (q : Nat), Below w.heap.size w w2 → PMem w2 P Q K M m L s cnt pl → Calls Try.prog 77 #[.pointer (some ⟨K, 0, none⟩), .int .i32 (pl N : Nat)] ((w2.alloc o).drewN q) fun e w4 => e = .returned (.tuple #[]) ∧ w4.cell? ⟨P, 1, none⟩ = some (.map (some Q)) ∧ Hid (∃ L' s', X L' s' ∧ (∀ b, Bl K M L' b → Bl K M L b ∨ w.heap.size ≤ b) ∧ Fr (fun b => Bl K M L b ∨ b = Q) w w4 ∧ PMem w4 P Q K M m L' s' cnt pl) := fun w2 o q hb hP => by
    have hb' : Below w.heap.size w ((w2.alloc o).drewN q) := below_drewN (hb.alloc hb.size o) q
    have hP' : PMem ((w2.alloc o).drewN q) P Q K M m L s cnt pl := (hP.alloc o).below (below_drewN (Below.refl _ _) q)
    refine (hX _ hb' hP'.mem).mono ?_
    rintro e w4 ⟨rfl, L', s', T, hx⟩
    have hP4 := hP'.tn T
    refine ⟨rfl, hP4.pr.cell (by omega), Lib.hid ⟨L', s', hx, fun b hb => (T.gr b hb).imp id fun e => Nat.le_trans hb'.size e, ?_, hP4⟩⟩
    exact (Fr.of_below hb').then T.fr fun b hb => .inl (.inl hb)
  have HAS := Lib.hid hasks
  clear hno hky hf hl hlf h hX hasks
  have HNL := Lib.hid hNl
  have hpz : ((pl N : Int) != 0) = true := by rw [bne_iff_ne]; omega
  clear hNl
  go_enter Try.func60, Try.ntmps60
  go_wp2_with (first
    | (go_at_call 22; refine HN.out.mono ?_; rintro e w1 ⟨a', c', rfl, n1, -, n3, n4⟩; have HK1 := Lib.hid (HKY.out w1 a' c' n3 n1 n4); clear n1 n3 n4)
    | (go_at_call 59; refine HK1.out.mono ?_; rintro e w2 ⟨rfl, k1, HP⟩; obtain ⟨D, hD, hND⟩ := HP.out.2.1.mp; have HD := Lib.hid hD; have HND := Lib.hid hND; clear hD hND)
    | (at_lookup; refine wpList_lookup_cp _ rfl _ _ 82 9 87 rfl (string_keyed Try.underlying9) Try.underlying82 (zero87 _) Q m D rfl HD.out _ _ rfl HKL.out 1 (pl N) (by have := HND.out.2 N HNL.out; rw [hc] at this; exact this) ?_; have k0 : (w2.alloc (.cells #[.int .i64 1, .int .i32 (pl N : Nat)] 87)).cell? ⟨P, 0, none⟩ = some (.pointer (some ⟨K, 0, none⟩)) := (HP.out.2.1.alloc _).pr.cell (by omega); have HC := Lib.hid (fun q => HAS.out w2 (.cells #[.int .i64 1, .int .i32 (pl N : Nat)] 87) q HP.out.1 HP.out.2.1)))
  go_region_with (go_at_call 77; refine (HC.out _).mono ?_; rintro e w4 ⟨rfl, k4, H4⟩)
  all_goals
    obtain ⟨L', s', hx, hgr, hfr, hP4⟩ := H4.out
    obtain ⟨D4, hD4, hND4⟩ := hP4.mp
    have HD4 := Lib.hid hD4
    have H5 := Lib.hid (show ∀ w3, w3.ownsMap Try.prog 9 cpR Q m (D4.del (.string (kb N))) → w4.mapTurned w3 Q → _ from fun w3 o t => pdel_fin hP4 hfr HNL.out hND4 o t)
    have HX' := Lib.hid (And.intro hx hgr)
    clear hx hgr hfr hP4 hD4 hND4
    go_wp2_with (at_delete; refine wpList_delete_own _ rfl _ _ 82 9 rfl 87 (string_keyed Try.underlying9) Try.underlying82 cpR Q m D4 rfl HD4.out _ _ rfl HKL.out ?_; intro w3 o3 t3; have HF := Lib.hid (H5.out w3 o3 t3); clear o3 t3)
    go_ret
    exact ⟨rfl, L', s', HX'.out.1, HX'.out.2, HF⟩
end Go.Proofs.Ytoffhgiljnagcaa
