/- Joined: UF, UG, UH. -/
import Derived.Test.YtoffhgiljnagcaaZd
import Derived.Test.YtoffhgiljnagcaaQB
import Derived.Test.YtoffhgiljnagcaaRO
/- What is present: mathematics. -/
namespace Go.Proofs.Ytoffhgiljnagcaa
open Go.RowKit Go.Lib Go.Maps

def tautN (F : List Int) : Bool := oppF (gd F) F.length
theorem tautN_nfv (l : List Int) : tautN (nfv l) = tautv l := rfl
/-- The clauses that are present. -/
def PCl (cnt : List Int → Nat) (c : List Int) : Prop := ∃ F, cnt F ≠ 0 ∧ Alike c F
/-- Forms of clauses. -/
def Frm (cnt : List Int → Nat) : Prop := ∀ F, cnt F ≠ 0 → ∃ l, (∀ x ∈ l, lit x = true) ∧ nfv l = F
structure PI (s : St) (cnt pl : List Int → Nat) : Prop where
  inv : St.Inv s
  frm : Frm cnt
  pin : ∀ F, cnt F ≠ 0 → tautN F = false → s.At (pl F) F
  ptt : ∀ F, cnt F ≠ 0 → tautN F = true → pl F = 0
  pz : ∀ F, cnt F = 0 → pl F = 0
  pall : ∀ a c, s.At a c → ∃ F, cnt F ≠ 0 ∧ tautN F = false ∧ pl F = a
theorem at_alike {s : St} {a : Nat} {c d : List Int} (h : s.At a c) (k : s.At a d) : Alike c d := fun x => (h.2 x).trans (k.2 x).symm
theorem PI.conf {s : St} {cnt pl : List Int → Nat} (h : PI s cnt pl) (so : Int → Prop) : Conf s.Cl so ↔ Conf (PCl cnt) so := by
  constructor
  · intro hc
    refine hc.sub (fun c hcc => .inl ?_) _ fun _ h => h
    obtain ⟨a, ha⟩ := hcc
    obtain ⟨F, h1, h2, rfl⟩ := h.pall a c ha
    exact ⟨c, ⟨F, h1, at_alike ha (h.pin F h1 h2)⟩, .refl c⟩
  · intro hc
    refine hc.sub (fun c hcc => ?_) _ fun _ h => h
    obtain ⟨F, h1, h2⟩ := hcc
    cases ht : tautN F
    · exact .inl ⟨F, ⟨pl F, h.pin F h1 ht⟩, h2.symm⟩
    · obtain ⟨l, hl, rfl⟩ := h.frm F h1
      rw [tautN_nfv] at ht
      obtain ⟨x, hx, hy⟩ := (tautv_iff hl).1 ht
      refine .inr ⟨⟨x, (h2 x).2 ((nfv_mem hl x).2 hx), (h2 (-x)).2 ((nfv_mem hl _).2 hy)⟩, fun h0 => ?_⟩
      have := (lit_iff.1 (hl 0 ((nfv_mem hl 0).1 ((h2 0).1 h0)))).1
      omega
/-- One more. -/
def inc (cnt : List Int → Nat) (N : List Int) : List Int → Nat := fun G => if G = N then cnt N + 1 else cnt G
def dec (cnt : List Int → Nat) (N : List Int) : List Int → Nat := fun G => if G = N then cnt N - 1 else cnt G
def pst (pl : List Int → Nat) (N : List Int) (x : Nat) : List Int → Nat := fun G => if G = N then x else pl G
theorem inc_at (cnt : List Int → Nat) (N : List Int) : inc cnt N N = cnt N + 1 := if_pos rfl
theorem inc_ne {cnt : List Int → Nat} {N G : List Int} (h : G ≠ N) : inc cnt N G = cnt G := if_neg h
theorem dec_at (cnt : List Int → Nat) (N : List Int) : dec cnt N N = cnt N - 1 := if_pos rfl
theorem dec_ne {cnt : List Int → Nat} {N G : List Int} (h : G ≠ N) : dec cnt N G = cnt G := if_neg h
theorem pst_at (pl : List Int → Nat) (N : List Int) (x : Nat) : pst pl N x N = x := if_pos rfl
theorem pst_ne {pl : List Int → Nat} {N G : List Int} {x : Nat} (h : G ≠ N) : pst pl N x G = pl G := if_neg h
theorem Frm.inc {cnt : List Int → Nat} (h : Frm cnt) {l : List Int} (hl : ∀ x ∈ l, lit x = true) : Frm (inc cnt (nfv l)) := fun F hF => by
  by_cases e : F = nfv l
  · exact ⟨l, hl, e.symm⟩
  · rw [inc_ne e] at hF; exact h F hF
theorem Frm.dec {cnt : List Int → Nat} (h : Frm cnt) (N : List Int) : Frm (dec cnt N) := fun F hF => by
  by_cases e : F = N
  · subst e
    rw [dec_at] at hF
    exact h F (by omega)
  · rw [dec_ne e] at hF; exact h F hF
theorem pst_self (pl : List Int → Nat) (N : List Int) : pst pl N (pl N) = pl := by
  funext G; unfold pst; split
  · next e => rw [e]
  · rfl
/-- It was there, or it is a tautology. -/
theorem PI.again {s : St} {cnt pl : List Int → Nat} (h : PI s cnt pl) {l : List Int} (hl : ∀ x ∈ l, lit x = true) (hc : cnt (nfv l) ≠ 0 ∨ tautv l = true) : PI s (inc cnt (nfv l)) pl := by
  refine ⟨h.inv, h.frm.inc hl, fun F hF ht => ?_, fun F hF ht => ?_, fun F hF => ?_, fun a c ha => ?_⟩
  · by_cases e : F = nfv l
    · subst e
      rcases hc with hc | hc
      · exact h.pin _ hc ht
      · rw [tautN_nfv, hc] at ht; cases ht
    · rw [inc_ne e] at hF; exact h.pin F hF ht
  · by_cases e : F = nfv l
    · subst e
      by_cases h0 : cnt (nfv l) = 0
      · exact h.pz _ h0
      · exact h.ptt _ h0 ht
    · rw [inc_ne e] at hF; exact h.ptt F hF ht
  · by_cases e : F = nfv l
    · subst e; rw [inc_at] at hF; omega
    · rw [inc_ne e] at hF; exact h.pz F hF
  · obtain ⟨F, h1, h2, h3⟩ := h.pall a c ha
    refine ⟨F, ?_, h2, h3⟩
    by_cases e : F = nfv l
    · subst e; rw [inc_at]; omega
    · rw [inc_ne e]; exact h1
theorem PI.new {K M : Nat} {w w' : World} {L L' : Tag → Value} {s s' : St} {cnt pl : List Int → Nat} (h : PI s cnt pl) {l : List Int} (hl : ∀ x ∈ l, lit x = true) (hc : cnt (nfv l) = 0) (ht : tautv l = false) (ho : AddOut K M w L s (gd (nfv l)) (nfv l).length w' L' s') : PI s' (inc cnt (nfv l)) (pst pl (nfv l) s.nc) := by
  have hne : ∀ F, cnt F ≠ 0 → F ≠ nfv l := fun F hF e => hF (e ▸ hc)
  refine ⟨⟨ho.base, ho.inv⟩, h.frm.inc hl, fun F hF hT => ?_, fun F hF hT => ?_, fun F hF => ?_, fun a c ha => ?_⟩
  · by_cases e : F = nfv l
    · subst e
      rw [pst_at]
      exact (ho.new _).2 fun x => mem_gd
    · rw [inc_ne e] at hF
      rw [pst_ne e]
      have := h.pin F hF hT
      exact (ho.old _ _ (by have := this.1.2.1; omega)).2 this
  · by_cases e : F = nfv l
    · subst e; rw [tautN_nfv, ht] at hT; cases hT
    · rw [inc_ne e] at hF; rw [pst_ne e]; exact h.ptt F hF hT
  · by_cases e : F = nfv l
    · subst e; rw [inc_at] at hF; omega
    · rw [inc_ne e] at hF; rw [pst_ne e]; exact h.pz F hF
  · by_cases e : a = s.nc
    · exact ⟨nfv l, by rw [inc_at]; omega, by rw [tautN_nfv]; exact ht, by rw [pst_at]; exact e.symm⟩
    · obtain ⟨F, h1, h2, h3⟩ := h.pall a c ((ho.old a c e).1 ha)
      exact ⟨F, by rw [inc_ne (hne F h1)]; exact h1, h2, by rw [pst_ne (hne F h1)]; exact h3⟩
theorem PI.less {s : St} {cnt pl : List Int → Nat} (h : PI s cnt pl) {N : List Int} (hc : 1 < cnt N) : PI s (dec cnt N) pl := by
  have hiff : ∀ F, dec cnt N F ≠ 0 ↔ cnt F ≠ 0 := fun F => by
    by_cases e : F = N
    · subst e; rw [dec_at]; omega
    · rw [dec_ne e]
  refine ⟨h.inv, h.frm.dec N, fun F hF => h.pin F ((hiff F).1 hF), fun F hF => h.ptt F ((hiff F).1 hF), fun F hF => h.pz F ?_, fun a c ha => ?_⟩
  · by_cases e : cnt F = 0
    · exact e
    · exact absurd hF ((hiff F).2 e)
  · obtain ⟨F, h1, h2, h3⟩ := h.pall a c ha
    exact ⟨F, (hiff F).2 h1, h2, h3⟩
theorem PI.lastT {s : St} {cnt pl : List Int → Nat} (h : PI s cnt pl) {N : List Int} (hc : cnt N = 1) (ht : tautN N = true) : PI s (dec cnt N) (pst pl N 0) := by
  have hp := h.ptt N (by omega) ht
  have hpl : pst pl N 0 = pl := by rw [← hp]; exact pst_self pl N
  rw [hpl]
  have hz : dec cnt N N = 0 := by rw [dec_at]; omega
  refine ⟨h.inv, h.frm.dec N, fun F hF hT => ?_, fun F hF hT => ?_, fun F hF => ?_, fun a c ha => ?_⟩
  · have e : F ≠ N := fun e => hF (e ▸ hz)
    rw [dec_ne e] at hF; exact h.pin F hF hT
  · have e : F ≠ N := fun e => hF (e ▸ hz)
    rw [dec_ne e] at hF; exact h.ptt F hF hT
  · by_cases e : F = N
    · rw [e]; exact hp
    · rw [dec_ne e] at hF; exact h.pz F hF
  · obtain ⟨F, h1, h2, h3⟩ := h.pall a c ha
    have e : F ≠ N := fun e => by rw [e, ht] at h2; cases h2
    exact ⟨F, by rw [dec_ne e]; exact h1, h2, h3⟩
theorem PI.last {K M : Nat} {w w' : World} {L L' : Tag → Value} {s s' : St} {cnt pl : List Int → Nat} (h : PI s cnt pl) {N : List Int} (hc : cnt N = 1) (ht : tautN N = false) (hu : ∀ F, cnt F ≠ 0 → Alike F N → F = N) (ho : RemOut K M w L s (pl N) w' L' s') : PI s' (dec cnt N) (pst pl N 0) := by
  have hz : dec cnt N N = 0 := by rw [dec_at]; omega
  have hpN := h.pin N (by omega) ht
  have hne : ∀ F, F ≠ N → cnt F ≠ 0 → tautN F = false → pl F ≠ pl N := fun F e hF hT e2 => by
    have h1 := h.pin F hF hT
    rw [e2] at h1
    exact e (hu F hF (at_alike h1 hpN))
  refine ⟨⟨ho.base, ho.inv⟩, h.frm.dec N, fun F hF hT => ?_, fun F hF hT => ?_, fun F hF => ?_, fun a c ha => ?_⟩
  · have e : F ≠ N := fun e => hF (e ▸ hz)
    rw [dec_ne e] at hF
    rw [pst_ne e]
    exact (ho.at_ _ _).2 ⟨hne F e hF hT, h.pin F hF hT⟩
  · have e : F ≠ N := fun e => hF (e ▸ hz)
    rw [dec_ne e] at hF
    rw [pst_ne e]; exact h.ptt F hF hT
  · by_cases e : F = N
    · rw [e, pst_at]
    · rw [dec_ne e] at hF; rw [pst_ne e]; exact h.pz F hF
  · obtain ⟨h1, h2⟩ := (ho.at_ a c).1 ha
    obtain ⟨F, x1, x2, x3⟩ := h.pall a c h2
    have e : F ≠ N := fun e => h1 (by rw [← x3, e])
    exact ⟨F, by rw [dec_ne e]; exact x1, x2, by rw [pst_ne e]; exact x3⟩
theorem PI.start : PI St0 (fun _ => 0) (fun _ => 0) :=
  ⟨⟨base0, fun e => by cases e⟩, fun F h => absurd rfl h, fun F h => absurd rfl h, fun F h => absurd rfl h, fun _ _ => rfl, fun a c ha => absurd ⟨a, ha⟩ (cl0 c)⟩
end Go.Proofs.Ytoffhgiljnagcaa
/- Contracts: what is present: add, remove, implies, process. -/
namespace Go.Proofs.Ytoffhgiljnagcaa
open Go.RowKit Go.Lib Go.Maps
set_option maxRecDepth 100000

/-- What is present, in memory, behind k steps. -/
structure PR (w : World) (P Q K M k : Nat) (wr : World) (L : Tag → Value) (s : St) (cnt pl : List Int → Nat) : Prop where
  pm : PMem wr P Q K M k L s cnt pl
  pi : PI s cnt pl
  nv : s.nv ≤ k * 1000
  nc : s.nc ≤ k + 1
  ck : ∀ F, cnt F ≤ k
  bel : Below w.heap.size w wr
  new : ∀ b, Bl K M L b → w.heap.size ≤ b
  pn : w.heap.size ≤ P
  qn : w.heap.size ≤ Q
/-- What a step leaves alone. -/
structure Stp (Q K M : Nat) (wr : World) (L : Tag → Value) (w' : World) (L' : Tag → Value) : Prop where
  fr : Fr (fun b => Bl K M L b ∨ b = Q) wr w'
  gr : ∀ b, Bl K M L' b → Bl K M L b ∨ wr.heap.size ≤ b
theorem Stp.of_below {Q K M : Nat} {wr w' : World} {L : Tag → Value} (h : Below wr.heap.size wr w') : Stp Q K M wr L w' L := ⟨.of_below h, fun _ => .inl⟩
theorem Stp.trans {Q K M : Nat} {a b c : World} {L L' L'' : Tag → Value} (h : Stp Q K M a L b L') (k : Stp Q K M b L' c L'') : Stp Q K M a L c L'' :=
  ⟨h.fr.then k.fr fun x hx => hx.elim (fun e => (h.gr x e).imp .inl id) fun e => .inl (.inr e), fun x hx => (k.gr x hx).elim (h.gr x) fun e => .inr (Nat.le_trans h.fr.size e)⟩
/-- Another block stays. -/
theorem Stp.keep {Q K M : Nat} {wr w' : World} {L L' : Tag → Value} (h : Stp Q K M wr L w' L') {g : Nat} (hg : g < wr.heap.size) (h1 : ¬ Bl K M L g) (h2 : g ≠ Q) : w'.heap[g]? = wr.heap[g]? ∧ g < w'.heap.size ∧ ¬ Bl K M L' g :=
  ⟨h.fr.block g hg fun e => e.elim h1 h2, Nat.lt_of_lt_of_le hg h.fr.size, fun e => (h.gr g e).elim h1 fun e => by omega⟩
theorem PMem.more {w : World} {P Q K M m : Nat} {L : Tag → Value} {s : St} {cnt pl : List Int → Nat} (h : PMem w P Q K M m L s cnt pl) : PMem w P Q K M (m + 1) L s cnt pl := by
  obtain ⟨D, ⟨es, clock, hb, F, hs, hD⟩, h2⟩ := h.mp
  exact ⟨h.mem, h.pr, ⟨D, ⟨es, clock, hb, F, Nat.le_succ_of_le hs, hD⟩, h2⟩, h.pb, h.qb, h.pq⟩
section
variable {w : World} {P Q K M k : Nat} {wr : World} {L : Tag → Value} {s : St} {cnt pl : List Int → Nat}
theorem PR.then (h : PR w P Q K M k wr L s cnt pl) {w' : World} (hb : Below wr.heap.size wr w') : PR w P Q K M k w' L s cnt pl :=
  ⟨h.pm.below hb, h.pi, h.nv, h.nc, h.ck, h.bel.trans (hb.mono h.bel.size), h.new, h.pn, h.qn⟩
theorem PR.next (h : PR w P Q K M k wr L s cnt pl) {w' : World} {L' : Tag → Value} {s' : St} {cnt' pl' : List Int → Nat} (hS : Stp Q K M wr L w' L') (hP : PMem w' P Q K M (k + 1) L' s' cnt' pl') (hI : PI s' cnt' pl') (h1 : s'.nv ≤ s.nv + 1000) (h2 : s'.nc ≤ s.nc + 1) (h3 : ∀ F, cnt' F ≤ k + 1) : PR w P Q K M (k + 1) w' L' s' cnt' pl' := by
  have hsz := h.bel.size
  refine ⟨hP, hI, by have := h.nv; omega, by have := h.nc; omega, h3, h.bel.trans (hS.fr.below hsz fun b hb => hb.elim (h.new b) fun e => e ▸ h.qn), fun b hb => (hS.gr b hb).elim (h.new b) fun e => by omega, h.pn, h.qn⟩
theorem PR.inc_le (h : PR w P Q K M k wr L s cnt pl) (N : List Int) : ∀ F, inc cnt N F ≤ k + 1 := fun F => by
  have h1 := h.ck F
  have h2 := h.ck N
  unfold inc; split <;> omega
theorem PR.dec_le (h : PR w P Q K M k wr L s cnt pl) (N : List Int) : ∀ F, dec cnt N F ≤ k + 1 := fun F => by
  have h1 := h.ck F
  have h2 := h.ck N
  unfold dec; split <;> omega

/-- A clause is added. -/
theorem pr_add (h : PR w P Q K M k wr L s cnt pl) (hk : k ≤ 1000) {a : Option Addr} {n : Nat} {f : Nat → Int} (hn : n ≤ 1000) (hf : Has wr a n f) (hl : litF f n = true) (c : Nat) :
    Calls Try.prog 30 #[.pointer (some ⟨P, 0, none⟩), .slice a n c] wr fun e w' => e = .returned (.tuple #[]) ∧ ∃ L' s' pl', Hid (Stp Q K M wr L w' L' ∧ PR w P Q K M (k + 1) w' L' s' (inc cnt (nfv (lof f n))) pl') := by
  have hlf := litF_mem hl
  have hle := nfv_le (lof f n)
  rw [lof_length] at hle
  by_cases hc : cnt (nfv (lof f n)) = 0
  · cases ht : tautv (lof f n)
    · have hask : AddAsk wr K M L s (nfv (lof f n)) (fun L' s' => ∃ w1 w2, AddOut K M w1 L s (gd (nfv (lof f n))) (nfv (lof f n)).length w2 L' s') := by
        intro w1 a' c' hb hA hm
        have h1 := h.nv
        have h2 := h.nc
        refine (add_any hm h.pi.inv hA (fun j hj => hlf _ ((nfv_mem hlf _).1 (mem_gd.2 ⟨j, hj, rfl⟩))) (fun i j hi hj e => nfv_inj hlf hi hj e) (fun i j hi hj => nfv_no hlf ht hi hj) (by omega) (by omega) (by omega)).mono ?_
        rintro e w' ⟨rfl, L', s', ho⟩
        exact ⟨L', s', rfl, ho.tn, w1, w', ho⟩
      refine (padd_new h.pm hn hf hl (by omega) hc ht hask).mono ?_
      rintro e w' ⟨rfl, L', s', ⟨w1, w2, ho⟩, hgr, HF⟩
      have hS : Stp Q K M wr L w' L' := ⟨HF.out.1, hgr⟩
      have hP : PMem w' P Q K M (k + 1) L' s' (inc cnt (nfv (lof f n))) (pst pl (nfv (lof f n)) s.nc) := HF.out.2
      refine ⟨rfl, L', s', _, Lib.hid ⟨hS, h.next hS hP (h.pi.new hlf hc ht ho) ?_ ?_ (h.inc_le _)⟩⟩
      · have := ho.nv; omega
      · have := ho.nc; omega
    · refine (padd_taut h.pm hn hf hl (by omega) hc ht).mono ?_
      rintro e w' ⟨rfl, HF⟩
      have hS : Stp Q K M wr L w' L := ⟨HF.out.1, fun _ => .inl⟩
      have hP : PMem w' P Q K M (k + 1) L s (inc cnt (nfv (lof f n))) (pst pl (nfv (lof f n)) (pl (nfv (lof f n)))) := HF.out.2
      rw [pst_self] at hP
      exact ⟨rfl, L, s, _, Lib.hid ⟨hS, h.next hS hP (h.pi.again hlf (.inr ht)) (by omega) (by omega) (h.inc_le _)⟩⟩
  · refine (padd_old h.pm hn hf hl (by omega) hc (by have := h.ck (nfv (lof f n)); omega)).mono ?_
    rintro e w' ⟨rfl, HF⟩
    have hS : Stp Q K M wr L w' L := ⟨HF.out.1, fun _ => .inl⟩
    have hP : PMem w' P Q K M (k + 1) L s (inc cnt (nfv (lof f n))) (pst pl (nfv (lof f n)) (pl (nfv (lof f n)))) := HF.out.2
    rw [pst_self] at hP
    exact ⟨rfl, L, s, _, Lib.hid ⟨hS, h.next hS hP (h.pi.again hlf (.inl hc)) (by omega) (by omega) (h.inc_le _)⟩⟩
/-- A clause is taken away. -/
theorem pr_rem (h : PR w P Q K M k wr L s cnt pl) (hk : k ≤ 1000) {a : Option Addr} {n : Nat} {f : Nat → Int} (hn : n ≤ 1000) (hf : Has wr a n f) (hl : litF f n = true) (c : Nat) :
    Calls Try.prog 60 #[.pointer (some ⟨P, 0, none⟩), .slice a n c] wr fun e w' => ∃ b : Bool, e = .returned (.bool b) ∧ ∃ L' s' cnt' pl', Hid (Stp Q K M wr L w' L' ∧ PR w P Q K M (k + 1) w' L' s' cnt' pl' ∧ (b = true ↔ cnt (nfv (lof f n)) ≠ 0) ∧ (b = true → cnt' = dec cnt (nfv (lof f n)))) := by
  have hlf := litF_mem hl
  have hck := h.ck (nfv (lof f n))
  by_cases hc : cnt (nfv (lof f n)) = 0
  · refine (prem_none h.pm hn hf hl hc).mono ?_
    rintro e w' ⟨rfl, HF⟩
    have hS : Stp Q K M wr L w' L := .of_below HF.out.1
    exact ⟨false, rfl, L, s, cnt, pl, Lib.hid ⟨hS, h.next hS HF.out.2.more h.pi (by omega) (by omega) (fun F => by have := h.ck F; omega), ⟨fun e => by simp at e, fun e => absurd hc e⟩, fun e => by simp at e⟩⟩
  · by_cases hc1 : 1 < cnt (nfv (lof f n))
    · refine (prem_less h.pm hn hf hl (by omega) hc1 (by omega)).mono ?_
      rintro e w' ⟨rfl, HF⟩
      have hS : Stp Q K M wr L w' L := ⟨HF.out.1, fun _ => .inl⟩
      have hP : PMem w' P Q K M (k + 1) L s (dec cnt (nfv (lof f n))) (pst pl (nfv (lof f n)) (pl (nfv (lof f n)))) := HF.out.2
      rw [pst_self] at hP
      exact ⟨true, rfl, L, s, _, pl, Lib.hid ⟨hS, h.next hS hP (h.pi.less hc1) (by omega) (by omega) (h.dec_le _), ⟨fun _ => hc, fun _ => rfl⟩, fun _ => rfl⟩⟩
    · have hc1 : cnt (nfv (lof f n)) = 1 := by omega
      have hdz : (fun G => if G = nfv (lof f n) then 0 else cnt G) = dec cnt (nfv (lof f n)) := by
        funext G; unfold dec; split
        · omega
        · rfl
      cases ht : tautv (lof f n)
      · have hpin := h.pi.pin _ hc ht
        have hask : RemAsk wr K M L s (pl (nfv (lof f n))) (fun L' s' => ∃ w1 w2, RemOut K M w1 L s (pl (nfv (lof f n))) w2 L' s') := by
          intro w1 hb hm
          have h1 := h.nv
          have h2 := h.nc
          refine (remove_any hm h.pi.inv hpin.1 (by omega) (by omega)).mono ?_
          rintro e w' ⟨rfl, L', s', ho⟩
          exact ⟨rfl, L', s', ho.tn, w1, w', ho⟩
        refine (prem_last h.pm hn hf hl hc1 (by have := hpin.1.1; omega) hask).mono ?_
        rintro e w' ⟨rfl, L', s', ⟨w1, w2, ho⟩, hgr, HF⟩
        have hS : Stp Q K M wr L w' L' := ⟨HF.out.1, hgr⟩
        have hP := HF.out.2
        rw [hdz] at hP
        refine ⟨true, rfl, L', s', _, pst pl (nfv (lof f n)) 0, Lib.hid ⟨hS, h.next hS (PMem.more hP) (h.pi.last hc1 ht (fun F hF hA => ?_) ho) (by have := ho.nv; omega) (by have := ho.nc; omega) (h.dec_le _), ⟨fun _ => hc, fun _ => rfl⟩, fun _ => rfl⟩⟩
        obtain ⟨l, hl', rfl⟩ := h.pi.frm F hF
        exact asc_unique (nfv_asc hl') (nfv_asc hlf) hA
      · refine (prem_taut h.pm hn hf hl hc1 (h.pi.ptt _ hc ht)).mono ?_
        rintro e w' ⟨rfl, HF⟩
        have hS : Stp Q K M wr L w' L := ⟨HF.out.1, fun _ => .inl⟩
        have hP := HF.out.2
        rw [hdz] at hP
        exact ⟨true, rfl, L, s, _, pst pl (nfv (lof f n)) 0, Lib.hid ⟨hS, h.next hS (PMem.more hP) (h.pi.lastT hc1 ht) (by omega) (by omega) (h.dec_le _), ⟨fun _ => hc, fun _ => rfl⟩, fun _ => rfl⟩⟩
end
end Go.Proofs.Ytoffhgiljnagcaa
/- Contracts: what is present: implies, process. -/
namespace Go.Proofs.Ytoffhgiljnagcaa
open Go.RowKit Go.Lib Go.Maps
set_option maxRecDepth 100000

theorem nv_bound {s s' : St} {n : Nat} (h : s'.nv ≤ s.nv + n) (hn : n ≤ 1000) : s'.nv ≤ s.nv + 1000 := by omega
theorem PI.imp {s s' : St} {cnt pl : List Int → Nat} (h : PI s cnt pl) (hI : St.Inv s') (hC : St.Core s s') : PI s' cnt pl := by
  have hc := h.inv.base.cls
  exact ⟨hI, h.frm, fun F hF ht => (hC.at_iff hc _ _).2 (h.pin F hF ht), h.ptt, h.pz, fun a c ha => h.pall a c ((hC.at_iff hc _ _).1 ha)⟩
section
variable {w : World} {P Q K M k : Nat} {wr : World} {L : Tag → Value} {s : St} {cnt pl : List Int → Nat}
theorem apart_old {w wr : World} {K M : Nat} {L : Tag → Value} (hb : Below w.heap.size w wr) (hn : ∀ b, Bl K M L b → w.heap.size ≤ b) {a : Option Addr} {n : Nat} {f : Nat → Int} (hf : Has w a n f) : Apart wr K M L a n f := by
  rcases hf with h0 | ⟨b, off, e, hlt, hc⟩
  · exact .inl h0
  · exact .inr ⟨b, off, e, Nat.lt_of_lt_of_le hlt hb.size, fun hB => by have := hn b hB; omega, fun j hj => (hb.cell (p := ⟨b, off + j, none⟩) hlt).trans (hc j hj)⟩
/-- Does a clause follow? -/
def ImpOk (w : World) (P Q K M k : Nat) (wr : World) (L : Tag → Value) (cnt pl : List Int → Nat) (f : Nat → Int) (n : Nat) (e : Ending) (w' : World) : Prop :=
  ∃ (b : Bool) (L' : Tag → Value) (s' : St), e = .returned (.bool b) ∧ Hid ((b = true ↔ Conf (PCl cnt) (Den f n)) ∧ Stp Q K M wr L w' L' ∧ PR w P Q K M (k + 1) w' L' s' cnt pl)
theorem pr_imp (h : PR w P Q K M k wr L s cnt pl) (hk : k ≤ 1000) {a : Option Addr} {n : Nat} {f : Nat → Int} (hn : n ≤ 1000) (hf : Has w a n f) (hl : litF f n = true) (c : Nat) :
    Calls Try.prog 34 #[.pointer (some ⟨P, 0, none⟩), .slice a n c] wr (ImpOk w P Q K M k wr L cnt pl f n) := by
  have h1 := h.nv
  have h2 := h.nc
  have HI := Lib.hid (show Calls Try.prog 24 #[.pointer (some ⟨K, 0, none⟩), .slice a n c] wr (ImpOk w P Q K M k wr L cnt pl f n) from by
    refine (implies_any h.pm.mem h.pi.inv (apart_old h.bel h.new hf) (fun j hj => litF_mem hl _ (lof_mem.2 ⟨j, hj, rfl⟩)) (by omega) (by omega) (by omega)).mono ?_
    rintro e w' ⟨b, L', s', rfl, ho⟩
    have hS : Stp Q K M wr L w' L' := ⟨ho.tn.fr.weak fun _ _ => .inl, ho.tn.gr⟩
    exact ⟨b, L', s', rfl, Lib.hid ⟨ho.ok.trans (h.pi.conf _), hS, h.next hS (h.pm.tn ho.tn).more (h.pi.imp ho.inv ho.core) (nv_bound ho.nv hn) (by rw [ho.core.nc]; omega) (fun F => by have := h.ck F; omega)⟩⟩)
  have k0 : wr.cell? ⟨P, 0, none⟩ = some (.pointer (some ⟨K, 0, none⟩)) := h.pm.pr.cell (by omega)
  clear h h1 h2 hf hl
  go_enter Try.func34, Try.ntmps34
  go_wp2_with (go_at_call 24; refine HI.out.mono ?_; rintro e w' ⟨b, L', s', rfl, HO⟩)
  go_ret
  exact ⟨b, L', s', rfl, HO⟩

/-- Is a line correct? -/
def okL (cnt : List Int → Nat) (d : Bool) (f : Nat → Int) (n : Nat) : Prop := litF f n = true ∧ ((d = true ∧ cnt (nfv (lof f n)) ≠ 0) ∨ (d = false ∧ Conf (PCl cnt) (Den f n)))
/-- What is present behind it. -/
def nxt (cnt : List Int → Nat) (d : Bool) (f : Nat → Int) (n : Nat) : List Int → Nat := if d then dec cnt (nfv (lof f n)) else inc cnt (nfv (lof f n))
def ProOk (w : World) (P Q K M k : Nat) (wr : World) (L : Tag → Value) (cnt : List Int → Nat) (d : Bool) (f : Nat → Int) (n : Nat) (e : Ending) (w' : World) : Prop :=
  ∃ (b : Bool) (k' : Nat) (L' : Tag → Value) (s' : St) (cnt' pl' : List Int → Nat), e = .returned (.bool b) ∧ Hid ((b = true ↔ okL cnt d f n) ∧ (b = true → cnt' = nxt cnt d f n) ∧ Stp Q K M wr L w' L' ∧ k' ≤ k + 2 ∧ PR w P Q K M k' w' L' s' cnt' pl')

set_option maxHeartbeats 4000000 in
theorem process_any (h : PR w P Q K M k wr L s cnt pl) (hk : k ≤ 900) {a : Option Addr} {n : Nat} {f : Nat → Int} (hn : n ≤ 1000) (hf : Has w a n f) (c : Nat) (d : Bool) :
    Calls Try.prog 32 #[.pointer (some ⟨P, 0, none⟩), .agg #[.bool d, .slice a n c]] wr (ProOk w P Q K M k wr L cnt d f n) := by
  have hb0 : Below wr.heap.size wr (wr.alloc (.cells #[.bool d, .slice a n c] 31)) := (Below.refl _ _).alloc (Nat.le_refl _) _
  have H0 := h.then hb0
  have hfr : Has (wr.alloc (.cells #[.bool d, .slice a n c] 31)) a n f := hf.below H0.bel
  have hrt := right_any a n c f (wr.alloc (.cells #[.bool d, .slice a n c] 31)) (by omega) hfr
  unfold RightPost at hrt
  have HP : ∀ q, PR w P Q K M k ((wr.alloc (.cells #[.bool d, .slice a n c] 31)).drewN q) L s cnt pl ∧ Stp Q K M wr L ((wr.alloc (.cells #[.bool d, .slice a n c] 31)).drewN q) L := fun q => ⟨H0.then (below_drewN (Below.refl _ _) q), .of_below (below_drewN hb0 q)⟩
  cases hl : litF f n
  · rw [hl] at hrt
    have HR := Lib.hid hrt
    have HO := Lib.hid (show ∀ q, ProOk w P Q K M k wr L cnt d f n (.returned (.bool false)) ((wr.alloc (.cells #[.bool d, .slice a n c] 31)).drewN q) from fun q => ⟨false, k, L, s, cnt, pl, rfl, Lib.hid ⟨⟨fun e => by simp at e, fun e => by have := e.1; rw [hl] at this; cases this⟩, fun e => by simp at e, (HP q).2, by omega, (HP q).1⟩⟩)
    clear hrt HP H0 hfr hb0 h hf hl
    go_enter Try.func32, Try.ntmps32
    go_wp2_with (go_at_call 42; refine HR.out.mono ?_; rintro e w1 ⟨rfl, q, rfl⟩)
    go_ret
    exact HO.out q
  · rw [hl] at hrt
    have HR := Lib.hid hrt
    cases d with
    | true =>
      have HRM := Lib.hid (show ∀ q, Calls Try.prog 60 #[.pointer (some ⟨P, 0, none⟩), .slice a n c] ((wr.alloc (.cells #[.bool true, .slice a n c] 31)).drewN q) fun e w' => ∃ b : Bool, e = .returned (.bool b) ∧ Hid (ProOk w P Q K M k wr L cnt true f n (.returned (.bool b)) w') from fun q =>
        (pr_rem (HP q).1 (by omega) hn (hf.below (HP q).1.bel) hl c).mono fun e w' ⟨b, he, L', s', cnt', pl', HH⟩ => ⟨b, he, Lib.hid ⟨b, k + 1, L', s', cnt', pl', rfl, Lib.hid ⟨⟨fun e => ⟨hl, .inl ⟨rfl, HH.out.2.2.1.1 e⟩⟩, fun e => HH.out.2.2.1.2 (by
          rcases e.2 with ⟨_, e⟩ | ⟨e, _⟩
          · exact e
          · cases e)⟩, fun e => HH.out.2.2.2 e, (HP q).2.trans HH.out.1, by omega, HH.out.2.1⟩⟩⟩)
      clear hrt HP H0 hfr hb0 h hf hl
      go_enter Try.func32, Try.ntmps32
      go_wp2_with (first
        | (go_at_call 42; refine HR.out.mono ?_; rintro e w1 ⟨rfl, q, rfl⟩)
        | (go_at_call 60; refine (HRM.out q).mono ?_; rintro e w2 ⟨b, rfl, HO⟩))
      go_ret
      exact HO.out
    | false =>
      have HIM := Lib.hid (show ∀ q, Calls Try.prog 34 #[.pointer (some ⟨P, 0, none⟩), .slice a n c] ((wr.alloc (.cells #[.bool false, .slice a n c] 31)).drewN q) fun e w' => ∃ b : Bool, e = .returned (.bool b) ∧ w'.cell? ⟨wr.heap.size, 1, none⟩ = some (.slice a n c) ∧ Hid ((b = false → ProOk w P Q K M k wr L cnt false f n (.returned (.bool false)) w') ∧ (b = true → Calls Try.prog 30 #[.pointer (some ⟨P, 0, none⟩), .slice a n c] w' fun e w'' => e = .returned (.tuple #[]) ∧ Hid (ProOk w P Q K M k wr L cnt false f n (.returned (.bool true)) w''))) from fun q =>
        (pr_imp (HP q).1 (by omega) hn hf hl c).mono fun e w' ⟨b, L', s', he, HH⟩ => by
          obtain ⟨x1, x2, x3⟩ := HH.out
          have hlt : wr.heap.size < ((wr.alloc (.cells #[.bool false, .slice a n c] 31)).drewN q).heap.size := by simp [World.drewN]
          have hk2 := x2.keep hlt (fun e => by have := h.pm.mem.lt e; omega) (fun e => by obtain ⟨D, hD, _⟩ := h.pm.mp; have := hD.lt; omega)
          have hce : w'.cell? ⟨wr.heap.size, 1, none⟩ = some (.slice a n c) := (World.cell?_of_block (a := ⟨wr.heap.size, 1, none⟩) hk2.1).trans (two_at wr _ rfl rfl 1 _ rfl)
          refine ⟨b, he, hce, Lib.hid ⟨fun e => ?_, fun e => ?_⟩⟩
          · subst e
            exact ⟨false, k + 1, L', s', cnt, pl, rfl, Lib.hid ⟨⟨fun e => by simp at e, fun e => by
              rcases e.2 with ⟨e, _⟩ | ⟨_, e⟩
              · cases e
              · exact absurd (x1.2 e) (by simp)⟩, fun e => by simp at e, (HP q).2.trans x2, by omega, x3⟩⟩
          · subst e
            refine (pr_add x3 (by omega) hn (hf.below x3.bel) hl c).mono fun e w'' ⟨he, L2, s2, pl2, H2⟩ => ⟨he, Lib.hid ⟨true, k + 2, L2, s2, _, pl2, rfl, Lib.hid ⟨⟨fun _ => ⟨hl, .inr ⟨rfl, x1.1 rfl⟩⟩, fun _ => rfl⟩, fun _ => rfl, ((HP q).2.trans x2).trans H2.out.1, by omega, H2.out.2⟩⟩⟩)
      clear hrt HP H0 hfr hb0 h hf hl
      go_enter Try.func32, Try.ntmps32
      go_wp2_with (first
        | (go_at_call 42; refine HR.out.mono ?_; rintro e w1 ⟨rfl, q, rfl⟩)
        | (go_at_call 34; refine (HIM.out q).mono ?_; rintro e w2 ⟨b, rfl, hce, HO⟩)
        | (go_at_call 30; refine (HO.out.2 (by simp_all)).mono ?_; rintro e w3 ⟨rfl, H3⟩))
      · have hb : b = false := by simp_all
        have hO := Lib.hid (HO.out.1 hb)
        clear hb
        go_ret
        exact hO.out
      · go_ret
        exact H3.out
end

/-- A line. -/
structure Lin where
  d : Bool
  a : Option Addr
  n : Nat
  c : Nat
  f : Nat → Int
/-- Lines, in memory. -/
def Lns (w : World) (a : Option Addr) (m : Nat) (X : Nat → Lin) : Prop :=
  m = 0 ∨ ∃ b off, a = some ⟨b, off, none⟩ ∧ b < w.heap.size ∧ ∀ j, j < m → w.cell? ⟨b, off + j * 2, none⟩ = some (.bool (X j).d) ∧ w.cell? ⟨b, off + j * 2 + 1, none⟩ = some (.slice (X j).a (X j).n (X j).c) ∧ Has w (X j).a (X j).n (X j).f
/-- What is present behind the first j lines. -/
def runL (cnt : List Int → Nat) (X : Nat → Lin) : Nat → List Int → Nat
  | 0 => cnt
  | j + 1 => nxt (runL cnt X j) (X j).d (X j).f (X j).n
/-- The first j lines are correct. -/
def okTo (cnt : List Int → Nat) (X : Nat → Lin) (j : Nat) : Prop := ∀ i, i < j → okL (runL cnt X i) (X i).d (X i).f (X i).n
theorem okTo_zero (cnt : List Int → Nat) (X : Nat → Lin) : okTo cnt X 0 := fun i h => absurd h (Nat.not_lt_zero _)
theorem okTo_succ {cnt : List Int → Nat} {X : Nat → Lin} {j : Nat} (h : okTo cnt X j) (h2 : okL (runL cnt X j) (X j).d (X j).f (X j).n) : okTo cnt X (j + 1) := fun i hi => by
  by_cases e : i = j
  · subst e; exact h2
  · exact h i (by omega)
/-- What is present, with the variable that holds it. -/
structure PG (w : World) (P Q K M g k : Nat) (wr : World) (L : Tag → Value) (s : St) (cnt pl : List Int → Nat) : Prop where
  pr : PR w P Q K M k wr L s cnt pl
  gr : wr.rowIs g 53 1 fun _ => .pointer (some ⟨P, 0, none⟩)
  gb : ¬ Bl K M L g
  gq : g ≠ Q
theorem PG.step {w : World} {P Q K M g k k' : Nat} {wr w' : World} {L L' : Tag → Value} {s s' : St} {cnt pl cnt' pl' : List Int → Nat} (h : PG w P Q K M g k wr L s cnt pl) (hS : Stp Q K M wr L w' L') (hP : PR w P Q K M k' w' L' s' cnt' pl') : PG w P Q K M g k' w' L' s' cnt' pl' := by
  obtain ⟨x1, _, x3⟩ := hS.keep h.gr.lt h.gb h.gq
  exact ⟨hP, h.gr.of_block x1, x3, h.gq⟩
theorem PG.drewN {w : World} {P Q K M g k : Nat} {wr : World} {L : Tag → Value} {s : St} {cnt pl : List Int → Nat} (h : PG w P Q K M g k wr L s cnt pl) {w' : World} (hb : Below wr.heap.size wr w') : PG w P Q K M g k w' L s cnt pl :=
  h.step (.of_below hb) (h.pr.then hb)

/-- Is a line wrong? -/
def WrgOk (w : World) (P Q K M g k : Nat) (cnt : List Int → Nat) (X : Lin) (e : Ending) (w' : World) : Prop :=
  ∃ (b : Bool) (k' : Nat) (L' : Tag → Value) (s' : St) (cnt' pl' : List Int → Nat), e = .returned (.bool (!b)) ∧ Hid ((b = true ↔ okL cnt X.d X.f X.n) ∧ (b = true → cnt' = nxt cnt X.d X.f X.n) ∧ k' ≤ k + 2 ∧ PG w P Q K M g k' w' L' s' cnt' pl')
set_option maxHeartbeats 1000000 in
theorem wrong_any {w : World} {P Q K M g k : Nat} {wr : World} {L : Tag → Value} {s : St} {cnt pl : List Int → Nat} (h : PG w P Q K M g k wr L s cnt pl) (hk : k ≤ 900) (X : Lin) (hn : X.n ≤ 1000) (hf : Has w X.a X.n X.f) :
    Calls Try.prog 31 #[.agg #[.bool X.d, .slice X.a X.n X.c], .pointer (some ⟨g, 0, none⟩)] wr (WrgOk w P Q K M g k cnt X) := by
  have hb0 : Below wr.heap.size wr (wr.alloc (.cells #[.bool X.d, .slice X.a X.n X.c] 31)) := (Below.refl _ _).alloc (Nat.le_refl _) _
  have H0 := h.drewN hb0
  have kg : (wr.alloc (.cells #[.bool X.d, .slice X.a X.n X.c] 31)).cell? ⟨g, 0, none⟩ = some (.pointer (some ⟨P, 0, none⟩)) := H0.gr.cell (by omega)
  have HPR := Lib.hid (show Calls Try.prog 32 #[.pointer (some ⟨P, 0, none⟩), .agg #[.bool X.d, .slice X.a X.n X.c]] (wr.alloc (.cells #[.bool X.d, .slice X.a X.n X.c] 31)) fun e w' => ∃ b : Bool, e = .returned (.bool b) ∧ Hid (WrgOk w P Q K M g k cnt X (.returned (.bool (!b))) w') from
    (process_any H0.pr hk hn hf X.c X.d).mono fun e w' ⟨b, k', L', s', cnt', pl', he, HH⟩ =>
      ⟨b, he, Lib.hid ⟨b, k', L', s', cnt', pl', rfl, Lib.hid ⟨HH.out.1, HH.out.2.1, HH.out.2.2.2.1, H0.step HH.out.2.2.1 HH.out.2.2.2.2⟩⟩⟩)
  clear h H0 hb0 hf
  go_enter Try.func31, Try.ntmps31
  go_wp2_with (go_at_call 32; refine HPR.out.mono ?_; rintro e w' ⟨b, rfl, HO⟩)
  go_ret
  exact HO.out

/-- Where the first wrong line is. -/
def IdxL (w : World) (P Q K M g k : Nat) (cnt : List Int → Nat) (X : Nat → Lin) (m : Nat) (e : Ending) (w' : World) : Prop :=
  ∃ r : Int, e = .returned (.int .i64 r) ∧ Hid ((r = -1 ∧ okTo cnt X m ∧ ∃ k' L' s' pl', k' ≤ k + 2 * m ∧ PG w P Q K M g k' w' L' s' (runL cnt X m) pl') ∨ (∃ i : Nat, r = i ∧ i < m ∧ okTo cnt X i ∧ ¬ okL (runL cnt X i) (X i).d (X i).f (X i).n ∧ Below w.heap.size w w'))
set_option maxHeartbeats 2000000 in
theorem indexL_any {w : World} {P Q K M g k : Nat} {wr : World} {L : Tag → Value} {s : St} {cnt pl : List Int → Nat} (h : PG w P Q K M g k wr L s cnt pl) {a : Option Addr} {m c : Nat} {X : Nat → Lin} (hk : k + 2 * m ≤ 900) (hX : Lns w a m X) (hn : ∀ j, j < m → (X j).n ≤ 1000) :
    Calls Try.prog 33 #[.slice a m c, .func (.func 31) #[] #[.pointer (some ⟨g, 0, none⟩)]] wr (IdxL w P Q K M g k cnt X m) := by
  have H0 := Lib.hid (show ∃ k' L' s' pl', k' ≤ k + 2 * 0 ∧ PG w P Q K M g k' wr L' s' (runL cnt X 0) pl' from ⟨k, L, s, pl, Nat.le_refl _, h⟩)
  have HX := Lib.hid (And.intro hX hn)
  clear h hX hn
  go_enter Try.func33, Try.ntmps33
  go_wp2
  go_loopw [8, 5] (fun v _ wr => ∃ t : Nat, t ≤ m ∧ v = .int .i64 t ∧ Hid (okTo cnt X t) ∧ Hid (∃ k' L' s' pl', k' ≤ k + 2 * t ∧ PG w P Q K M g k' wr L' s' (runL cnt X t) pl')) (fun v _ _ => m - (intOf v).toNat)
  case atStart => exact ⟨0, Nat.zero_le _, rfl, Lib.hid (okTo_zero cnt X), H0⟩
  case round =>
    obtain ⟨t, ht, rfl, HT, HG⟩ := hrel
    clear H0
    obtain ⟨k', L', s', pl', hk', hG⟩ := HG.out
    by_cases hlt : t < m
    · have hltI : (t : Int) < (m : Int) := by omega
      rcases HX.out.1 with h0 | ⟨b, off, rfl, hb, hc⟩
      · omega
      obtain ⟨c1, c2, c3⟩ := hc t hlt
      have x1 := (hG.pr.bel.cell (p := ⟨b, off + t * 2, none⟩) hb).trans c1
      have x2 := (hG.pr.bel.cell (p := ⟨b, off + t * 2 + 1, none⟩) hb).trans c2
      have HW := Lib.hid (wrong_any hG (by omega) (X t) (HX.out.2 t hlt) c3)
      clear hc c1 c2 c3 hb hG
      go_wp2_with (go_at_call 31; refine HW.out.mono ?_; rintro e w' ⟨bb, k2, L2, s2, cnt2, pl2, rfl, HO⟩)
      · have hb : bb = false := by simp_all
        have HN := Lib.hid (show IdxL w P Q K M g k cnt X m (.returned (.int .i64 (t : Nat))) w' from ⟨t, rfl, Lib.hid (.inr ⟨t, rfl, hlt, HT.out, (fun ho => absurd (HO.out.1.2 ho) (by rw [hb]; simp)), HO.out.2.2.2.pr.bel⟩)⟩)
        clear hb
        go_ret
        exact HN.out
      · have hb : bb = true := by simp_all
        have HN := Lib.hid (show okTo cnt X (t + 1) ∧ ∃ k' L' s' pl', k' ≤ k + 2 * (t + 1) ∧ PG w P Q K M g k' w' L' s' (runL cnt X (t + 1)) pl' from
          ⟨okTo_succ HT.out (HO.out.1.1 hb), k2, L2, s2, pl2, by have := HO.out.2.2.1; omega, by rw [show runL cnt X (t + 1) = cnt2 from (HO.out.2.1 hb).symm]; exact HO.out.2.2.2⟩)
        clear hb
        go_roundw
        case rel => exact ⟨t + 1, by omega, by go_num, Lib.hid HN.out.1, Lib.hid HN.out.2⟩
        case measure => simp [intOf]; omega
    · have hq : ¬ (t : Int) < (m : Int) := by omega
      obtain rfl : t = m := by omega
      have HO := Lib.hid (show IdxL w P Q K M g k cnt X t (.returned (.int .i64 (-1))) _ from ⟨-1, rfl, Lib.hid (.inl ⟨rfl, HT.out, k', L', s', pl', hk', hG⟩)⟩)
      clear hG
      go_wp2
      go_ret
      exact HO.out
end Go.Proofs.Ytoffhgiljnagcaa
