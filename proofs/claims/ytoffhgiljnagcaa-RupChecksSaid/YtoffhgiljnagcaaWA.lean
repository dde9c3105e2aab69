/- Contracts: negation, set. -/
import Derived.Test.YtoffhgiljnagcaaM
import Derived.Deep.RegionWith
namespace Go.Proofs.Ytoffhgiljnagcaa
open Go.RowKit Go.Lib Go.Maps

theorem xor_neg (p : Nat) : p ^^^ 1 = neg p := by
  have h1 : (p ^^^ 1) / 2 = p / 2 := by rw [Nat.xor_div_two]; simp
  have h2 := @Nat.xor_mod_two_eq_one p 1
  unfold neg; split <;> omega
theorem bits_neg (p : Nat) (hp : p < 1000000000) : bits BinOp.xor IntKind.i32 (p : Int) 1 = (neg p : Nat) := by
  have hn : neg p < 1000000001 := by unfold neg; split <;> omega
  show IntKind.i32.wrap (((BitVec.ofInt 32 (p : Int)) ^^^ (BitVec.ofInt 32 1)).toNat : Int) = _
  rw [BitVec.toNat_xor, show BitVec.ofInt 32 (p : Int) = BitVec.ofNat 32 p from BitVec.ofInt_natCast _ _, BitVec.toNat_ofNat, show (BitVec.ofInt 32 1).toNat = 1 by decide, Nat.mod_eq_of_lt (by omega), xor_neg]
  exact IntWalk.i32_in _ (by omega)
theorem negation_any (p : Nat) (hp : p < 1000000000) (w : World) :
    Calls Try.prog 71 #[.int .i32 p] w fun e w' => e = .returned (.int .i32 (neg p)) ∧ w = w' := by
  have hb := bits_neg p hp
  go_enter Try.func71, Try.ntmps71
  go_wp2
  go_ret
  exact ⟨rfl, rfl⟩

theorem info71 : (Try.prog.info? 71).map (fun i => (i.zero, i.size, i.bytes)) = some (some (.int .i32 0), 1, 4) := by kernel_rfl

set_option maxHeartbeats 1000000 in
set_option maxRecDepth 100000 in
theorem set_any {K M : Nat} {w : World} {L : Tag → Value} {s : St} (h : Mem w K M L s) (hl : s.ev = 2 * s.nv ∧ s.er = 2 * s.nv) (hnv : s.nv ≤ 100000000) (hnt : s.nt ≤ 2 * s.nv) {p r : Nat} (hp : p < 2 * s.nv) :
    Calls Try.prog 72 #[.pointer (some ⟨K, 0, none⟩), .int .i32 p, .int .i32 r] w fun e w' => e = .returned (.tuple #[]) ∧ ∃ v, Tn K M w L w' (up L .tra v) (s.put p r) := by
  obtain ⟨gv, cv, hL4, _⟩ := (h.row .vals).pos (show 0 < s.ev by omega)
  obtain ⟨gr, cr, hL5, _⟩ := (h.row .rsns).pos (show 0 < s.er by omega)
  obtain ⟨at_, ct, hL6, _⟩ := (h.row .tra).shape
  replace hL4 : L .vals = .slice (some ⟨gv, 0, none⟩) s.ev cv := hL4
  replace hL5 : L .rsns = .slice (some ⟨gr, 0, none⟩) s.er cr := hL5
  replace hL6 : L .tra = .slice at_ s.nt ct := hL6
  have hnp := neg_lt hp
  have c4 : w.cell? ⟨K, 4, none⟩ = some (.slice (some ⟨gv, 0, none⟩) s.ev cv) := (h.c 4 (by omega)).trans (congrArg some hL4)
  have c5 : w.cell? ⟨K, 5, none⟩ = some (.slice (some ⟨gr, 0, none⟩) s.er cr) := (h.c 5 (by omega)).trans (congrArg some hL5)
  have c6 : w.cell? ⟨K, 6, none⟩ = some (.slice at_ s.nt ct) := (h.c 6 (by omega)).trans (congrArg some hL6)
  have f4 := h.fz hL4
  have f5 := h.fz hL5
  have fK := h.fk
  have n1 := h.ne hL4
  have n2 := h.ne hL5
  have n3 := h.ne2 hL4 hL5 (by decide)
  have x1 : w.cell? ⟨gv, p, none⟩ = some (.int .i8 (s.val p)) := h.rc hL4 (show p < s.ev * 1 by omega)
  have x2 : w.cell? ⟨gv, neg p, none⟩ = some (.int .i8 (s.val (neg p))) := h.rc hL4 (show neg p < s.ev * 1 by omega)
  have x3 : w.cell? ⟨gr, p, none⟩ = some (.int .i32 (s.rsn p)) := h.rc hL5 (show p < s.er * 1 by omega)
  have T1 := h.stVal hL4 p 1
  have T2 := T1.mem.stVal hL4 (neg p) (-1)
  have T3 := (T2.mem.drewN 1).stRsn hL5 p r
  have hown := ((T3.mem.alloc (.cells #[.int .i32 p] 71)).row .tra).owns
  rw [hL6] at hown
  replace hown := owns_heap (w' := ((((w.setCell ⟨gv, p, none⟩ (.int .i8 1)).setCell ⟨gv, neg p, none⟩ (.int .i8 (-1))).setCell ⟨gr, p, none⟩ (.int .i32 r)).alloc (.cells #[.int .i32 p] 71)).drew) hown rfl
  have HO := Lib.hid hown; clear hown
  have HT := Lib.hid (And.intro T1 (And.intro T2 T3))
  clear T1 T2 T3
  have HN := Lib.hid (negation_any p (by omega))
  have hq : neg p ≠ p := neg_ne p
  obtain ⟨i0, hi, hz0, hz1, hz2⟩ := info_parts info71
  have HL := Lib.hid (And.intro hL4 (And.intro hL5 hL6))
  have HH := Lib.hid h
  have hp1 : (p : Int) < (s.ev : Int) := by omega
  have hp2 : (neg p : Int) < (s.ev : Int) := by omega
  have hp3 : (p : Int) < (s.er : Int) := by omega
  have hnt2 : s.nt < 1000000000 := by omega
  clear h hL4 hL5 hL6 hl hnp hnt hp
  generalize s.val p = y1 at *
  generalize s.val (neg p) = y2 at *
  generalize s.rsn p = y3 at *
  go_enter Try.func72, Try.ntmps72
  go_wp2
  go_region_with (go_at_call 71; refine (HN.out _).mono ?_; rintro e w' ⟨rfl, rfl⟩)
  all_goals
    go_wp2_with (at_builtin; refine wpList_append_own_at _ rfl _ _ 65 rfl 0 71 i0 (.int .i32 0) 1 4 Try.underlying65 hi hz0 hz1 hz2 rfl (by decide) _ s.nt (lst (fOf L s .tra) (s.nt * 1)) rfl ?hown ⟨_, 0, none⟩ 1 1 [.int .i32 p] rfl rfl ?c1 ?c2 ?c3 ?c4 ?c5 ?_)
    case hown => exact HO.out
    case c1 => exact one_at (((w.setCell ⟨gv, p, none⟩ (.int .i8 1)).setCell ⟨gv, neg p, none⟩ (.int .i8 (-1))).setCell ⟨gr, p, none⟩ (.int .i32 r)) _ rfl (by simp)
    case c2 => intro u hu; simp at hu; subst hu; rfl
    case c3 => unfold maxLen; omega
    case c4 => omega
    case c5 => exact Nat.zero_le _
    intro v w1 hown1 hg1 _ hat1
    obtain ⟨av, cv', rfl⟩ := owns_shape hown1
    have T3 := HT.out.2.2
    have hg2 := grown_same (w0 := (((((w.setCell ⟨gv, p, none⟩ (.int .i8 1)).setCell ⟨gv, neg p, none⟩ (.int .i8 (-1))).drewN 1).setCell ⟨gr, p, none⟩ (.int .i32 r)).alloc (.cells #[.int .i32 p] 71))) hg1 rfl rfl rfl rfl
    rw [← HL.out.2.2] at hg2
    have hd1 := T3.mem.app_head hg2
    have fK1 := hd1.frozen 6
    have c61 := hd1.cell (i := 6) (by omega)
    have HG2 := Lib.hid hg2
    have HO1 := Lib.hid (And.intro hown1 hat1)
    clear hown1 hg1 hat1 T3 hg2 hd1
    go_wp2
    go_end0
    refine ⟨rfl, .slice av (s.nt + 1) cv', ?_⟩
    have hL6 := HL.out.2.2
    have TA := HT.out.2.2.mem.app (s' := s.put p r) (τ := .tra) (i := 6) (m := 1) (news := [.int .i32 p]) (by show w1.ownsRow 0 71 1 _ (s.nt + 1) (lst (fOf L s .tra) (s.nt * 1) ++ [.int .i32 p]); rw [Nat.mul_one]; exact HO1.out.1) HG2.out (by rw [hL6]; exact HO1.out.2.imp id fun e => e.trans (by simp)) rfl
      (by intro j hj; obtain rfl : j = 0 := by (have : j < 1 := hj); omega
          show some (Value.int .i32 p) = some (.int .i32 ((if s.nt * 1 + 0 = s.nt then p else s.tr (s.nt * 1 + 0) : Nat)))
          rw [if_pos (by omega)])
      (by intro j hj
          show Value.int .i32 ((if j = s.nt then p else s.tr j : Nat)) = .int .i32 (s.tr j)
          rw [if_neg (by have : j < s.nt * 1 := hj; omega)])
      (by intro t ht
          refine ⟨by cases t <;> first | rfl | exact absurd rfl ht, fun j _ => ?_⟩
          cases t
          case vals =>
            show Value.int .i8 (if j = neg p then -1 else if j = p then 1 else s.val j) = .int .i8 (if j = p then 1 else if j = neg p then -1 else s.val j)
            by_cases e1 : j = neg p
            · rw [if_pos e1, if_neg (fun e => hq (e1.symm.trans e)), if_pos e1]
            · rw [if_neg e1]; by_cases e2 : j = p
              · rw [if_pos e2, if_pos e2]
              · rw [if_neg e2, if_neg e2, if_neg e1]
          all_goals first | rfl | exact absurd rfl ht)
      (by intro j hj
          match j, hj with
          | 0, _ | 1, _ | 2, _ | 3, _ | 4, _ | 5, _ | 6, _ | 7, _ | 8, _ | 9, _ => rfl)
      ⟨rfl, rfl⟩ (fun l hl => HH.out.farw l hl)
    exact HT.out.1.trans ((HT.out.2.1.drewN 1).trans (HT.out.2.2.trans TA))
end Go.Proofs.Ytoffhgiljnagcaa
