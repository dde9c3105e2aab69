/- The answers' maker: Need, of an and. -/
import Derived.Test.YtpniffcojmlboaaED
import Derived.Test.YtpniffcojmlboaaRK
namespace Go.Proofs.Ytpniffcojmlboaa
open Go.RowKit Go.Lib Go.Maps
set_option maxRecDepth 100000

variable {w w' : World} {R T : Nat} {lv cv tv lv' cv' : Value} {hs hs' : Nat → Value} {V V' : List Nat} {C C' : List (List Int)} {s : Gr}
theorem infoRow : (Try.prog.info? 26).map (fun i => (i.zero, i.size, i.bytes)) = some (some (.slice none 0 0), 1, 24) := by kernel_rfl
theorem New.drew {w W : World} {y : Value} {r : List Int} (h : New w W y r) : New w W.drew y r := h
/-- What is asked of the calls of itself. -/
def Asks (s : Gr) (R T : Nat) (tv : Value) (n : Nat) : Prop :=
  ∀ m, m < n → ∀ (w : World) (lv cv : Value) (hs : Nat → Value) (V : List Nat) (C : List (List Int)), Rm w R T lv cv hs V C → Rg w T tv s → RApart T tv R lv cv C.length hs → Vs s V → C.length ≤ 3 * V.length →
    Calls Try.prog 33 #[.pointer (some ⟨R, 0, none⟩), .int .i64 m] w (NeedIs s w R T lv cv hs C.length (need s (V, C) m))
theorem row_one {y : Value} {l : List Int} (h : Row w y l) : y.oneCell' = true := by obtain ⟨b, rfl, _⟩ := h; rfl
set_option maxHeartbeats 16000000 in
theorem rneed_and (h : Rm w R T lv cv hs V C) (hg : Rg w T tv s) (ha : RApart T tv R lv cv C.length hs) (ok : s.Ok) (hsn : s.n ≤ 1000) (hV : Vs s V) (hl : C.length ≤ 3 * V.length) (n : Nat) (hn : n ≤ s.n) (hN : n ∉ V) {a b : Nat} (e : nd s n = some (a, b)) (IH : Asks s R T tv n) :
    Calls Try.prog 33 #[.pointer (some ⟨R, 0, none⟩), .int .i64 n] w (NeedIs s w R T lv cv hs C.length (need s (V, C) n)) := by
  obtain ⟨la, lb, la2, lb2, lbn, lab⟩ := nd_lt ok hn e
  have HV := Lib.hid (var_any h (by have := hV.few; omega) n)
  rw [vr_no hN] at HV
  have c0 := h.c0
  rw [need_and ok (st := (V, C)) hn hN e]
  -- the two calls of itself
  have HNa := Lib.hid (IH (a / 2) la w lv cv hs V C h hg ha hV hl)
  obtain ⟨g1, m1⟩ := need_gw ok (n := a / 2) (V, C) (by omega)
  have v1 := hV.need ok (st := (V, C)) (n := a / 2) (by omega)
  have l1 := need_len3 ok (st := (V, C)) (n := a / 2) (by omega) hl
  have hN1 := g1.not (x := n) hN la
  generalize need s (V, C) (a / 2) = Z1 at *
  have HNb := Lib.hid (show ∀ w1 lv1 cv1 hs1, RmT R T w lv cv hs C.length w1 lv1 cv1 hs1 Z1.1 Z1.2 → Calls Try.prog 33 #[.pointer (some ⟨R, 0, none⟩), .int .i64 (b / 2 : Nat)] w1 (NeedIs s w1 R T lv1 cv1 hs1 Z1.2.length (need s Z1 (b / 2))) from fun w1 lv1 cv1 hs1 K1 => by
    obtain ⟨hg1, ha1⟩ := ha.next hg K1
    exact IH (b / 2) lb w1 lv1 cv1 hs1 Z1.1 Z1.2 K1.rm hg1 ha1 v1 l1)
  obtain ⟨g2, m2⟩ := need_gw ok (n := b / 2) Z1 (by omega)
  have v2 := v1.need ok (st := Z1) (n := b / 2) (by omega)
  have l2 := need_len3 ok (st := Z1) (n := b / 2) (by omega) l1
  have hN2 := g2.not (x := n) hN1 lb
  generalize need s Z1 (b / 2) = Z2 at *
  have hf2 := v2.few
  rw [show put s Z2 n = (Z2.1 ++ [n], Z2.2 ++ [[-((Z2.1.length : Int) + 1), lit Z2.1 a], [-((Z2.1.length : Int) + 1), lit Z2.1 b], [(Z2.1.length : Int) + 1, -lit Z2.1 a, -lit Z2.1 b]]) by simp [put, e, cls]]
  have HLa := Lib.hid (show ∀ w2 lv2 cv2 hs2, Rm w2 R T lv2 cv2 hs2 (Z2.1 ++ [n]) Z2.2 → Calls Try.prog 34 #[.pointer (some ⟨R, 0, none⟩), .int .i64 a] w2 fun r w' => r = .returned (.int .i64 (lit Z2.1 a)) ∧ w2 = w' from fun w2 lv2 cv2 hs2 K => by
    have := rlit_any K (by simp; omega) a (by omega)
    rwa [show lit (Z2.1 ++ [n]) a = lit Z2.1 a by unfold lit; rw [vr_other (by omega)]] at this)
  have HLb := Lib.hid (show ∀ w2 lv2 cv2 hs2, Rm w2 R T lv2 cv2 hs2 (Z2.1 ++ [n]) Z2.2 → Calls Try.prog 34 #[.pointer (some ⟨R, 0, none⟩), .int .i64 b] w2 fun r w' => r = .returned (.int .i64 (lit Z2.1 b)) ∧ w2 = w' from fun w2 lv2 cv2 hs2 K => by
    have := rlit_any K (by simp; omega) b (by omega)
    rwa [show lit (Z2.1 ++ [n]) b = lit Z2.1 b by unfold lit; rw [vr_other (by omega)]] at this)
  have ba := lit_abs (V := Z2.1) a
  have bb := lit_abs (V := Z2.1) b
  have m2' : IntKind.i64.wrap (-lit Z2.1 a) = -lit Z2.1 a := neg_in ba (Nat.le_trans hf2 (by omega))
  have m3' : IntKind.i64.wrap (-lit Z2.1 b) = -lit Z2.1 b := neg_in bb (Nat.le_trans hf2 (by omega))
  generalize lit Z2.1 a = xa at *
  generalize lit Z2.1 b = xb at *
  clear ba bb
  obtain ⟨q, hq⟩ : ∃ q, q = Z2.1.length := ⟨_, rfl⟩
  obtain ⟨qc, hqc⟩ : ∃ qc, qc = Z2.2.length := ⟨_, rfl⟩
  have hqb : q ≤ 1001 := by omega
  have hqcb : qc ≤ 4000 := by omega
  rw [← hq]
  have m1' : IntKind.i64.wrap (-((q : Int) + 1)) = -((q : Int) + 1) := IntWalk.i64_in _ ⟨by omega, by omega⟩
  -- the graph's cells
  obtain ⟨p, rfl⟩ : ∃ p, n = p + 1 := ⟨n - 1, by unfold nd at e; by_cases k : n = 0 <;> simp [k] at e; omega⟩
  have hp : p < s.n := by omega
  have hL : s.L p = some (a, b) := by simpa [nd] using e
  obtain ⟨g, c, hv, _, _, hgl⟩ := hg.sl.pos (by omega)
  subst hv
  have x0 := hg.sl.cell (j := p * 3) (by omega)
  have x1 := hg.sl.cell (j := p * 3 + 1) (by omega)
  have x2 := hg.sl.cell (j := p * 3 + 2) (by omega)
  rw [(ndV_cells s p).1, hL] at x0
  rw [((ndV_cells s p).2 a b hL).1] at x1
  rw [((ndV_cells s p).2 a b hL).2] at x2
  replace x0 : w.cell? ⟨g, p * 3, none⟩ = some (.bool false) := x0
  have t0 : w.cell? ⟨T, 0, none⟩ = some (.slice (some ⟨g, 0, none⟩) s.n c) := hg.hd.cell (i := 0) (by omega)
  have hpI : (p : Int) < (s.n : Int) := by omega
  have hpJ : (0 : Int) ≤ (p : Int) := by omega
  have hpK : (0 : Int) < (p : Int) + 1 := by omega
  have t1 : ((a : Int)).tdiv 2 = ((a / 2 : Nat) : Int) := by rw [Int.tdiv_eq_ediv_of_nonneg (by omega)]; omega
  have t2 : ((b : Int)).tdiv 2 = ((b / 2 : Nat) : Int) := by rw [Int.tdiv_eq_ediv_of_nonneg (by omega)]; omega
  have t3 : (a : Int) / 2 = ((a / 2 : Nat) : Int) := by omega
  have t4 : (b : Int) / 2 = ((b / 2 : Nat) : Int) := by omega
  have HSH := Lib.hid (show ∀ w2 lv2 cv2 hs2, RmT R T w lv cv hs C.length w2 lv2 cv2 hs2 Z2.1 Z2.2 → (∃ al cl, lv2 = .slice al q cl) ∧ w2.cell? ⟨R, 1, none⟩ = some lv2 ∧ Hid (Sl w2 3 1 lv2 q (nodV Z2.1)) from fun w2 lv2 cv2 hs2 K => by
    obtain ⟨al, cl, e1, _⟩ := K.rm.lsl.shape
    exact ⟨⟨al, cl, by rw [e1, hq]⟩, K.rm.c1, Lib.hid (by rw [hq]; exact K.rm.lsl)⟩)
  have HLL := Lib.hid (show ∀ w2 lv2 cv2 hs2 a3 c3 (w3 : World), RmT R T w lv cv hs C.length w2 lv2 cv2 hs2 Z2.1 Z2.2 → Sl w3 3 1 (.slice a3 (q + 1) c3) (q + 1) (catV (nodV Z2.1) q (fun _ => .int .i64 (p + 1 : Nat))) → Fr (fun b => lv2.ownBlock = some b) (w2.alloc (.cells #[.int .i64 (p + 1 : Nat)] 3)) w3 →
      ((Value.slice a3 (q + 1) c3).ownBlock = lv2.ownBlock ∨ (Value.slice a3 (q + 1) c3).ownBlock = some (w2.alloc (.cells #[.int .i64 (p + 1 : Nat)] 3)).heap.size) →
      w3.rowIs R 39 3 (hdR T lv2 cv2) ∧ RmT R T w lv cv hs C.length (w3.setCell ⟨R, 1, none⟩ (.slice a3 (q + 1) c3)) (.slice a3 (q + 1) c3) cv2 hs2 (Z2.1 ++ [p + 1]) Z2.2 from fun w2 lv2 cv2 hs2 a3 c3 w3 K h1 h2 h3 => by
    subst hq
    obtain ⟨k1, k2⟩ := K.rm.putL h1 h2 h3
    exact ⟨k1, K.trans k2⟩)
  have hua : a / 2 ≤ 1000 := by omega
  have hub : b / 2 ≤ 1000 := by omega
  obtain ⟨i0, hi0, hz0, hz1, hz2⟩ := info_parts infoRow
  have HQC := Lib.hid hqc
  clear h hg ha ok hV hl hN IH hn e la lb la2 lb2 lbn lab g1 m1 v1 l1 hN1 g2 m2 v2 l2 hN2 hf2 hq hL hqc
  generalize a / 2 = ua at *
  generalize b / 2 = ub at *
  go_enter Try.func33, Try.ntmps33
  go_wp2_with (first
    | (go_at_call 19; refine HV.out.mono ?_; rintro e w1 ⟨rfl, rfl⟩)
    | (go_at_call 33; (with_reducible refine (HNb.out _ _ _ _ K1.out).mono ?_); rintro e w2 ⟨rfl, lv2, cv2, hs2, K2⟩; have K3 := Lib.hid (K1.out.trans K2.out); clear K2; obtain ⟨⟨al, cl, rfl⟩, y1, HS2⟩ := HSH.out _ _ _ _ K3.out)
    | (go_at_call 33; (with_reducible refine HNa.out.mono ?_); rintro e w1 ⟨rfl, lv1, cv1, hs1, K1⟩)
    | (at_builtin; refine Sl.app1 elemInt HS2 (.int .i64 (p + 1 : Nat)) rfl (by unfold maxLen; omega) (by omega) rfl _ _ rfl rfl rfl ?_; intro a3 c3 w3 q1 q2 q3; obtain ⟨hd3, T3⟩ := HLL.out _ _ _ _ _ _ _ K3.out q1.out q2.out q3.out; have e31 := hd3.cell (i := 1) (by omega); have f31 := hd3.frozen 1; have H3 := Lib.hid T3; clear T3 hd3 q1 q2 q3))
  generalize hw4 : w3.setCell ⟨R, 1, none⟩ (.slice a3 (q + 1) c3) = w4 at *
  have K4 := H3.out.rm
  have KT := H3.out
  obtain ⟨ac, cc, ecv, _, _⟩ := K4.csl.shape
  rw [← HQC.out] at ecv
  subst ecv
  have x2 := K4.c2
  have hR : R < w4.heap.size := K4.hd.lt
  have HLa2 := Lib.hid (show ∀ W, Below w4.heap.size w4 W → Calls Try.prog 34 #[.pointer (some ⟨R, 0, none⟩), .int .i64 a] W fun r w' => r = .returned (.int .i64 xa) ∧ W = w' from fun W hb => HLa.out W _ _ _ (K4.below hb))
  have HLb2 := Lib.hid (show ∀ W, Below w4.heap.size w4 W → Calls Try.prog 34 #[.pointer (some ⟨R, 0, none⟩), .int .i64 b] W fun r w' => r = .returned (.int .i64 xb) ∧ W = w' from fun W hb => HLb.out W _ _ _ (K4.below hb))
  have HOWN := Lib.hid (show ∀ W0, Below w4.heap.size w4 W0 → W0.ownsRow 0 26 1 (.slice ac qc cc) qc (lst hs2 (qc * 1)) from fun W0 hb => by
    have := (K4.below hb).csl.owns
    rwa [← HQC.out] at this)
  have HPUT := Lib.hid (show ∀ (W0 w6 : World) (v6 y1 y2 yy : Value), Below w4.heap.size w4 W0 → New w4 W0 y1 [-((q : Int) + 1), xa] → New w4 W0 y2 [-((q : Int) + 1), xb] → New w4 W0 yy [(q : Int) + 1, -xa, -xb] →
      w6.ownsRow 0 26 1 v6 (qc + 3) (lst hs2 (qc * 1) ++ [y1, y2, yy]) → W0.grownBy w6 (Value.slice ac qc cc).ownBlock → (v6.ownBlock = (Value.slice ac qc cc).ownBlock ∨ v6.ownBlock = some W0.heap.size) →
      (∃ a c, v6 = .slice a (qc + 3) c) ∧ w6.cell? ⟨R, 2, none⟩ = some (.slice ac qc cc) ∧ w6.frozen? ⟨R, 2, none⟩ = false ∧ Hid (∃ hs', RmT R T w lv cv hs C.length (w6.setCell ⟨R, 2, none⟩ v6) (.slice a3 (q + 1) c3) v6 hs' (Z2.1 ++ [p + 1]) (Z2.2 ++ [[-((q : Int) + 1), xa], [-((q : Int) + 1), xb], [(q : Int) + 1, -xa, -xb]])) from fun W0 w6 v6 y1 y2 yy hb n1 n2 n3 g1 g2 g3 => by
    have hQ := HQC.out
    rw [hQ] at g1
    obtain ⟨⟨a6, c6, e6⟩, k2, k3⟩ := K4.putC (by exact hb) n1 n2 n3 g1 g2 g3
    exact ⟨⟨a6, c6, by rw [e6, hQ]⟩, k2.cell (i := 2) (by omega), k2.frozen 2, Lib.hid ⟨_, KT.trans k3⟩⟩)
  have HC2 := Lib.hid (show ∀ W, Below w4.heap.size w4 W → W.cell? ⟨R, 2, none⟩ = some (.slice ac qc cc) from fun W hb => (K4.below hb).c2)
  clear K4 KT hw4 x0 x1 t0 e31 f31 y1
  refine wp_region_K (S := Till 28 (fun W => Below w4.heap.size w4 W)) (by kernel_rfl) ?_
  refine wpAnyK_take0 (i := 0) (oi := { dst := some 78, op := Go.Op.move (Go.Operand.tmp 0), type := 33, pos := "ref.go:50", after := #[], guard := none }) (v := .pointer (some ⟨R, 0, none⟩)) rfl (by kernel_rfl) (by kernel_rfl) (by kernel_rfl) (fun _ _ _ h => h) (by decide) ⟨rfl, rfl⟩ (by intro w; go_simp) (Till.of (Below.refl _ _).drew) ?_
  try simp only [Act.put, List.setIfInBounds_toArray, List.set_cons_zero, List.set_cons_succ]
  refine wpAnyK_take0 (i := 1) (oi := { dst := some 79, op := Go.Op.move (Go.Operand.tmp 0), type := 33, pos := "ref.go:50", after := #[], guard := none }) (v := .pointer (some ⟨R, 0, none⟩)) rfl (by kernel_rfl) (by kernel_rfl) (by kernel_rfl) (fun _ _ _ h => h) (by decide) ⟨rfl, rfl⟩ (by intro w; go_simp) (Till.of (Below.refl _ _).drew) ?_
  try simp only [Act.put, List.setIfInBounds_toArray, List.set_cons_zero, List.set_cons_succ]
  refine wpAnyK_take0 (i := 2) (oi := { dst := some 80, op := Go.Op.nilCheck (Go.Operand.tmp 79), type := 0, pos := "ref.go:50", after := #[{ on := 1, ground := Go.Ground.data }], guard := none }) (v := .pointer (some ⟨R, 0, none⟩)) rfl (by kernel_rfl) (by kernel_rfl) (by kernel_rfl) (fun _ _ _ h => h) (by decide) ⟨rfl, rfl⟩ (by intro w; go_simp) (Till.of (Below.refl _ _).drew) ?_
  try simp only [Act.put, List.setIfInBounds_toArray, List.set_cons_zero, List.set_cons_succ]
  refine wpAnyK_take0 (i := 3) (oi := { dst := some 81, op := Go.Op.fieldAddr 39 (Go.Operand.tmp 80) 2, type := 0, pos := "ref.go:50", after := #[{ on := 2, ground := Go.Ground.data }], guard := none }) (v := .pointer (some ⟨R, 2, none⟩)) rfl (by kernel_rfl) (by kernel_rfl) (by kernel_rfl) (fun _ _ _ h => h) (by decide) ⟨rfl, rfl⟩ (by intro w; go_simp) (Till.of (Below.refl _ _).drew) ?_
  try simp only [Act.put, List.setIfInBounds_toArray, List.set_cons_zero, List.set_cons_succ]
  refine wpAnyK_take (i := 4) (oi := { dst := some 82, op := Go.Op.load 35 (Go.Operand.tmp 81), type := 35, pos := "ref.go:50", after := #[{ on := 3, ground := Go.Ground.data }], guard := none }) (v := .slice ac qc cc) [28] rfl (by kernel_rfl) (by kernel_rfl) (by kernel_rfl) (fun _ _ _ h => h) (by decide) (by decide) (by kernel_rfl) (by decide) ⟨rfl, rfl⟩ (fun W hW => .inl (by have hc2 := HC2.out W hW; go_simp)) (Below.refl _ _).drew ?_
  try simp only [Act.put, List.setIfInBounds_toArray, List.set_cons_zero, List.set_cons_succ]
  refine wpAnyK_take0 (i := 5) (oi := { dst := some 83, op := Go.Op.move (Go.Operand.tmp 7), type := 3, pos := "ref.go:50", after := #[], guard := none }) (v := .int .i64 ((q : Int) + 1)) rfl (by kernel_rfl) (by kernel_rfl) (by kernel_rfl) (fun _ _ _ h => h) (by decide) ⟨rfl, rfl⟩ (by intro w; go_simp) (Till.of (Below.refl _ _).drew) ?_
  try simp only [Act.put, List.setIfInBounds_toArray, List.set_cons_zero, List.set_cons_succ]
  refine wpAnyK_take0 (i := 6) (oi := { dst := some 84, op := Go.Op.unOp Go.UnOp.neg 3 (Go.Operand.tmp 83), type := 3, pos := "ref.go:50", after := #[{ on := 5, ground := Go.Ground.data }], guard := none }) (v := .int .i64 (-((q : Int) + 1))) rfl (by kernel_rfl) (by kernel_rfl) (by kernel_rfl) (fun _ _ _ h => h) (by decide) ⟨rfl, rfl⟩ (by intro w; go_simp) (Till.of (Below.refl _ _).drew) ?_
  try simp only [Act.put, List.setIfInBounds_toArray, List.set_cons_zero, List.set_cons_succ]
  refine wpAnyK_take0 (i := 7) (oi := { dst := some 85, op := Go.Op.move (Go.Operand.tmp 0), type := 33, pos := "ref.go:50", after := #[], guard := none }) (v := .pointer (some ⟨R, 0, none⟩)) rfl (by kernel_rfl) (by kernel_rfl) (by kernel_rfl) (fun _ _ _ h => h) (by decide) ⟨rfl, rfl⟩ (by intro w; go_simp) (Till.of (Below.refl _ _).drew) ?_
  try simp only [Act.put, List.setIfInBounds_toArray, List.set_cons_zero, List.set_cons_succ]
  refine wpAnyK_take0 (i := 8) (oi := { dst := some 86, op := Go.Op.move (Go.Operand.tmp 5), type := 3, pos := "ref.go:50", after := #[], guard := none }) (v := .int .i64 a) rfl (by kernel_rfl) (by kernel_rfl) (by kernel_rfl) (fun _ _ _ h => h) (by decide) ⟨rfl, rfl⟩ (by intro w; go_simp) (Till.of (Below.refl _ _).drew) ?_
  try simp only [Act.put, List.setIfInBounds_toArray, List.set_cons_zero, List.set_cons_succ]
  refine wpAnyK_take (i := 9) (oi := { dst := some 87, op := Go.Op.call { callee := Go.Callee.value (Go.Operand.func 34), args := #[Go.Operand.tmp 85, Go.Operand.tmp 86], argTypes := #[33, 3] }, type := 3, pos := "ref.go:50", after := #[{ on := 7, ground := Go.Ground.data }, { on := 8, ground := Go.Ground.data }], guard := none }) (v := .int .i64 xa) [15, 20, 24, 28] rfl (by kernel_rfl) (by kernel_rfl) (by kernel_rfl) (fun _ _ _ h => h) (by decide) (by decide) (by kernel_rfl) (by decide) ⟨rfl, rfl⟩ (fun W hW => .inr ⟨34, #[.pointer (some ⟨R, 0, none⟩), .int .i64 a], (by first | (simp [execOp, resolve, invoke, Act.eval]; done) | (go_simp; done)), HLa2.out W hW⟩) (Below.refl _ _).drew ?_
  try simp only [Act.put, List.setIfInBounds_toArray, List.set_cons_zero, List.set_cons_succ]
  refine wpAnyK_take0 (i := 11) (oi := { dst := some 89, op := Go.Op.move (Go.Operand.tmp 7), type := 3, pos := "ref.go:50", after := #[], guard := none }) (v := .int .i64 ((q : Int) + 1)) rfl (by kernel_rfl) (by kernel_rfl) (by kernel_rfl) (fun _ _ _ h => h) (by decide) ⟨rfl, rfl⟩ (by intro w; go_simp) (Till.of (Below.refl _ _).drew) ?_
  try simp only [Act.put, List.setIfInBounds_toArray, List.set_cons_zero, List.set_cons_succ]
  refine wpAnyK_take0 (i := 12) (oi := { dst := some 90, op := Go.Op.unOp Go.UnOp.neg 3 (Go.Operand.tmp 89), type := 3, pos := "ref.go:50", after := #[{ on := 11, ground := Go.Ground.data }], guard := none }) (v := .int .i64 (-((q : Int) + 1))) rfl (by kernel_rfl) (by kernel_rfl) (by kernel_rfl) (fun _ _ _ h => h) (by decide) ⟨rfl, rfl⟩ (by intro w; go_simp) (Till.of (Below.refl _ _).drew) ?_
  try simp only [Act.put, List.setIfInBounds_toArray, List.set_cons_zero, List.set_cons_succ]
  refine wpAnyK_take0 (i := 13) (oi := { dst := some 91, op := Go.Op.move (Go.Operand.tmp 0), type := 33, pos := "ref.go:50", after := #[], guard := none }) (v := .pointer (some ⟨R, 0, none⟩)) rfl (by kernel_rfl) (by kernel_rfl) (by kernel_rfl) (fun _ _ _ h => h) (by decide) ⟨rfl, rfl⟩ (by intro w; go_simp) (Till.of (Below.refl _ _).drew) ?_
  try simp only [Act.put, List.setIfInBounds_toArray, List.set_cons_zero, List.set_cons_succ]
  refine wpAnyK_take0 (i := 14) (oi := { dst := some 92, op := Go.Op.move (Go.Operand.tmp 6), type := 3, pos := "ref.go:50", after := #[], guard := none }) (v := .int .i64 b) rfl (by kernel_rfl) (by kernel_rfl) (by kernel_rfl) (fun _ _ _ h => h) (by decide) ⟨rfl, rfl⟩ (by intro w; go_simp) (Till.of (Below.refl _ _).drew) ?_
  try simp only [Act.put, List.setIfInBounds_toArray, List.set_cons_zero, List.set_cons_succ]
  refine wpAnyK_take (i := 15) (oi := { dst := some 93, op := Go.Op.call { callee := Go.Callee.value (Go.Operand.func 34), args := #[Go.Operand.tmp 91, Go.Operand.tmp 92], argTypes := #[33, 3] }, type := 3, pos := "ref.go:50", after := #[{ on := 13, ground := Go.Ground.data }, { on := 14, ground := Go.Ground.data }, { on := 9, ground := Go.Ground.chain }], guard := none }) (v := .int .i64 xb) [20, 24, 28] rfl (by kernel_rfl) (by kernel_rfl) (by kernel_rfl) (fun _ _ _ h => h) (by decide) (by decide) (by kernel_rfl) (by decide) ⟨rfl, rfl⟩ (fun W hW => .inr ⟨34, #[.pointer (some ⟨R, 0, none⟩), .int .i64 b], (by first | (simp [execOp, resolve, invoke, Act.eval]; done) | (go_simp; done)), HLb2.out W hW⟩) (Below.refl _ _).drew ?_
  try simp only [Act.put, List.setIfInBounds_toArray, List.set_cons_zero, List.set_cons_succ]
  refine wpAnyK_take0 (i := 17) (oi := { dst := some 95, op := Go.Op.move (Go.Operand.tmp 7), type := 3, pos := "ref.go:50", after := #[], guard := none }) (v := .int .i64 ((q : Int) + 1)) rfl (by kernel_rfl) (by kernel_rfl) (by kernel_rfl) (fun _ _ _ h => h) (by decide) ⟨rfl, rfl⟩ (by intro w; go_simp) (Till.of (Below.refl _ _).drew) ?_
  try simp only [Act.put, List.setIfInBounds_toArray, List.set_cons_zero, List.set_cons_succ]
  refine wpAnyK_take0 (i := 18) (oi := { dst := some 96, op := Go.Op.move (Go.Operand.tmp 0), type := 33, pos := "ref.go:50", after := #[], guard := none }) (v := .pointer (some ⟨R, 0, none⟩)) rfl (by kernel_rfl) (by kernel_rfl) (by kernel_rfl) (fun _ _ _ h => h) (by decide) ⟨rfl, rfl⟩ (by intro w; go_simp) (Till.of (Below.refl _ _).drew) ?_
  try simp only [Act.put, List.setIfInBounds_toArray, List.set_cons_zero, List.set_cons_succ]
  refine wpAnyK_take0 (i := 19) (oi := { dst := some 97, op := Go.Op.move (Go.Operand.tmp 5), type := 3, pos := "ref.go:50", after := #[], guard := none }) (v := .int .i64 a) rfl (by kernel_rfl) (by kernel_rfl) (by kernel_rfl) (fun _ _ _ h => h) (by decide) ⟨rfl, rfl⟩ (by intro w; go_simp) (Till.of (Below.refl _ _).drew) ?_
  try simp only [Act.put, List.setIfInBounds_toArray, List.set_cons_zero, List.set_cons_succ]
  refine wpAnyK_take (i := 20) (oi := { dst := some 98, op := Go.Op.call { callee := Go.Callee.value (Go.Operand.func 34), args := #[Go.Operand.tmp 96, Go.Operand.tmp 97], argTypes := #[33, 3] }, type := 3, pos := "ref.go:50", after := #[{ on := 18, ground := Go.Ground.data }, { on := 19, ground := Go.Ground.data }, { on := 15, ground := Go.Ground.chain }], guard := none }) (v := .int .i64 xa) [24, 28] rfl (by kernel_rfl) (by kernel_rfl) (by kernel_rfl) (fun _ _ _ h => h) (by decide) (by decide) (by kernel_rfl) (by decide) ⟨rfl, rfl⟩ (fun W hW => .inr ⟨34, #[.pointer (some ⟨R, 0, none⟩), .int .i64 a], (by first | (simp [execOp, resolve, invoke, Act.eval]; done) | (go_simp; done)), HLa2.out W hW⟩) (Below.refl _ _).drew ?_
  try simp only [Act.put, List.setIfInBounds_toArray, List.set_cons_zero, List.set_cons_succ]
  refine wpAnyK_take0 (i := 21) (oi := { dst := some 99, op := Go.Op.unOp Go.UnOp.neg 3 (Go.Operand.tmp 98), type := 3, pos := "ref.go:50", after := #[{ on := 20, ground := Go.Ground.data }], guard := none }) (v := .int .i64 (-xa)) rfl (by kernel_rfl) (by kernel_rfl) (by kernel_rfl) (fun _ _ _ h => h) (by decide) ⟨rfl, rfl⟩ (by intro w; go_simp) (Till.of (Below.refl _ _).drew) ?_
  try simp only [Act.put, List.setIfInBounds_toArray, List.set_cons_zero, List.set_cons_succ]
  refine wpAnyK_take0 (i := 22) (oi := { dst := some 100, op := Go.Op.move (Go.Operand.tmp 0), type := 33, pos := "ref.go:50", after := #[], guard := none }) (v := .pointer (some ⟨R, 0, none⟩)) rfl (by kernel_rfl) (by kernel_rfl) (by kernel_rfl) (fun _ _ _ h => h) (by decide) ⟨rfl, rfl⟩ (by intro w; go_simp) (Till.of (Below.refl _ _).drew) ?_
  try simp only [Act.put, List.setIfInBounds_toArray, List.set_cons_zero, List.set_cons_succ]
  refine wpAnyK_take0 (i := 23) (oi := { dst := some 101, op := Go.Op.move (Go.Operand.tmp 6), type := 3, pos := "ref.go:50", after := #[], guard := none }) (v := .int .i64 b) rfl (by kernel_rfl) (by kernel_rfl) (by kernel_rfl) (fun _ _ _ h => h) (by decide) ⟨rfl, rfl⟩ (by intro w; go_simp) (Till.of (Below.refl _ _).drew) ?_
  try simp only [Act.put, List.setIfInBounds_toArray, List.set_cons_zero, List.set_cons_succ]
  refine wpAnyK_take (i := 24) (oi := { dst := some 102, op := Go.Op.call { callee := Go.Callee.value (Go.Operand.func 34), args := #[Go.Operand.tmp 100, Go.Operand.tmp 101], argTypes := #[33, 3] }, type := 3, pos := "ref.go:50", after := #[{ on := 22, ground := Go.Ground.data }, { on := 23, ground := Go.Ground.data }, { on := 20, ground := Go.Ground.chain }], guard := none }) (v := .int .i64 xb) [28] rfl (by kernel_rfl) (by kernel_rfl) (by kernel_rfl) (fun _ _ _ h => h) (by decide) (by decide) (by kernel_rfl) (by decide) ⟨rfl, rfl⟩ (fun W hW => .inr ⟨34, #[.pointer (some ⟨R, 0, none⟩), .int .i64 b], (by first | (simp [execOp, resolve, invoke, Act.eval]; done) | (go_simp; done)), HLb2.out W hW⟩) (Below.refl _ _).drew ?_
  try simp only [Act.put, List.setIfInBounds_toArray, List.set_cons_zero, List.set_cons_succ]
  refine wpAnyK_take0 (i := 25) (oi := { dst := some 103, op := Go.Op.unOp Go.UnOp.neg 3 (Go.Operand.tmp 102), type := 3, pos := "ref.go:50", after := #[{ on := 24, ground := Go.Ground.data }], guard := none }) (v := .int .i64 (-xb)) rfl (by kernel_rfl) (by kernel_rfl) (by kernel_rfl) (fun _ _ _ h => h) (by decide) ⟨rfl, rfl⟩ (by intro w; go_simp) (Till.of (Below.refl _ _).drew) ?_
  try simp only [Act.put, List.setIfInBounds_toArray, List.set_cons_zero, List.set_cons_succ]
  clear m1' m2' m3' hpI hpJ hpK t1 t2 t3 t4 x2 c0 hua hub HLa HLb HLa2 HLb2 HV HNa HNb HSH HLL
  refine wpAnyK_ready (rs := [10, 16, 26]) (by kernel_rfl) (by simp) ?_
  refine AllReadyK.cons (o := { dst := some 88, op := Go.Op.buildSlice 26 2 #[(0, Go.Operand.tmp 84), (1, Go.Operand.tmp 87)], type := 26, pos := "ref.go:50", after := #[{ on := 6, ground := Go.Ground.data }, { on := 9, ground := Go.Ground.data }], guard := none }) rfl (fun K hK => ?_) ?_
  · go_simp
    refine hK.out _ _ (Till.of (bela (Below.refl _ _)).drew) ?_
    clear hK K
    try simp only [Act.put, List.setIfInBounds_toArray, List.set_cons_zero, List.set_cons_succ]
    refine wpAnyK_ready (rs := [16, 26]) (by kernel_rfl) (by simp) ?_
    refine AllReadyK.cons (o := { dst := some 94, op := Go.Op.buildSlice 26 2 #[(0, Go.Operand.tmp 90), (1, Go.Operand.tmp 93)], type := 26, pos := "ref.go:50", after := #[{ on := 12, ground := Go.Ground.data }, { on := 15, ground := Go.Ground.data }], guard := none }) rfl (fun K hK => ?_) ?_
    · go_simp
      refine hK.out _ _ (Till.of (bela (bela (Below.refl _ _))).drew) ?_
      clear hK K
      try simp only [Act.put, List.setIfInBounds_toArray, List.set_cons_zero, List.set_cons_succ]
      refine wpAnyK_ready (rs := [26]) (by kernel_rfl) (by simp) ?_
      refine AllReadyK.cons (o := { dst := some 104, op := Go.Op.buildSlice 26 3 #[(0, Go.Operand.tmp 95), (1, Go.Operand.tmp 99), (2, Go.Operand.tmp 103)], type := 26, pos := "ref.go:50", after := #[{ on := 17, ground := Go.Ground.data }, { on := 21, ground := Go.Ground.data }, { on := 25, ground := Go.Ground.data }], guard := none }) rfl (fun K hK => ?_) ?_
      · go_simp
        refine hK.out _ _ (Till.of (bela (bela (bela (Below.refl _ _)))).drew) ?_
        clear hK K
        try simp only [Act.put, List.setIfInBounds_toArray, List.set_cons_zero, List.set_cons_succ]
        refine wpAnyK_ready (rs := [27]) (by kernel_rfl) (by simp) ?_
        refine AllReadyK.cons (o := { dst := some 105, op := Go.Op.buildSlice 35 3 #[(0, Go.Operand.tmp 88), (1, Go.Operand.tmp 94), (2, Go.Operand.tmp 104)], type := 35, pos := "ref.go:50", after := #[{ on := 10, ground := Go.Ground.data }, { on := 16, ground := Go.Ground.data }, { on := 26, ground := Go.Ground.data }], guard := none }) rfl (fun K hK => ?_) AllReadyK.nil
        go_simp
        refine hK.out _ _ (Till.of (bela (bela (bela (bela (Below.refl _ _))))).drew) ?_
        clear hK K
        try simp only [Act.put, List.setIfInBounds_toArray, List.set_cons_zero, List.set_cons_succ]
        refine wpAnyK_ready (rs := [28]) (by kernel_rfl) (by simp) ?_
        refine AllReadyK.cons (o := { dst := some 106, op := Go.Op.call { callee := Go.Callee.builtin Go.Builtin.append, args := #[Go.Operand.tmp 82, Go.Operand.tmp 105], argTypes := #[35, 35] }, type := 35, pos := "ref.go:50", after := #[{ on := 4, ground := Go.Ground.data }, { on := 27, ground := Go.Ground.data }, { on := 24, ground := Go.Ground.chain }], guard := none }) rfl (fun K hK => ?_) AllReadyK.nil
        refine step_append_own rfl (.tmp 82) (.tmp 105) 35 rfl 0 26 i0 (.slice none 0 0) 1 24 Try.underlying35 hi0 hz0 hz1 hz2 rfl (by decide) (.slice ac qc cc) qc (lst hs2 (qc * 1)) (by rfl) (HOWN.out _ (bela (bela (bela (bela (Below.refl _ _))))).drew) ⟨w4.heap.size + 1 + 1 + 1, 0, none⟩ 3 3 [_, _, _] (by rfl) rfl (three_at _ _ rfl (by simp)) (by intro u hu; simp at hu; rcases hu with rfl | rfl | rfl <;> rfl) (by unfold maxLen; omega) (by omega) (Nat.zero_le _) ?_
        intro v6 w6 g1 g2 g3; obtain ⟨⟨av, cv6, rfl⟩, z1, z2, HF⟩ := HPUT.out _ _ _ _ _ _ (bela (bela (bela (bela (Below.refl _ _))))).drew (by first | exact New.drew (rowp0 (by rfl) (by rfl)) | exact New.drew (rowp1 (by rfl) (by rfl)) | exact New.drew (rowp2 (by rfl) (by rfl))) (by first | exact New.drew (rowp0 (by rfl) (by rfl)) | exact New.drew (rowp1 (by rfl) (by rfl)) | exact New.drew (rowp2 (by rfl) (by rfl))) (by first | exact New.drew (rowp0 (by rfl) (by rfl)) | exact New.drew (rowp1 (by rfl) (by rfl)) | exact New.drew (rowp2 (by rfl) (by rfl))) g1 g2 g3; clear g1 g2 g3
        refine hK.out _ _ (Till.late (by kernel_rfl)) ?_
        clear hK K
        try simp only [Act.put, List.setIfInBounds_toArray, List.set_cons_zero, List.set_cons_succ]
        refine wpAnyK_take0 (i := 29) (oi := { dst := some 107, op := Go.Op.nilCheck (Go.Operand.tmp 78), type := 0, pos := "ref.go:50", after := #[{ on := 0, ground := Go.Ground.data }, { on := 0, ground := Go.Ground.phase }, { on := 1, ground := Go.Ground.phase }, { on := 2, ground := Go.Ground.phase }, { on := 3, ground := Go.Ground.phase }, { on := 4, ground := Go.Ground.phase }, { on := 5, ground := Go.Ground.phase }, { on := 6, ground := Go.Ground.phase }, { on := 7, ground := Go.Ground.phase }, { on := 8, ground := Go.Ground.phase }, { on := 9, ground := Go.Ground.phase }, { on := 10, ground := Go.Ground.phase }, { on := 11, ground := Go.Ground.phase }, { on := 12, ground := Go.Ground.phase }, { on := 13, ground := Go.Ground.phase }, { on := 14, ground := Go.Ground.phase }, { on := 15, ground := Go.Ground.phase }, { on := 16, ground := Go.Ground.phase }, { on := 17, ground := Go.Ground.phase }, { on := 18, ground := Go.Ground.phase }, { on := 19, ground := Go.Ground.phase }, { on := 20, ground := Go.Ground.phase }, { on := 21, ground := Go.Ground.phase }, { on := 22, ground := Go.Ground.phase }, { on := 23, ground := Go.Ground.phase }, { on := 24, ground := Go.Ground.phase }, { on := 25, ground := Go.Ground.phase }, { on := 26, ground := Go.Ground.phase }, { on := 27, ground := Go.Ground.phase }, { on := 28, ground := Go.Ground.phase }], guard := none }) (v := .pointer (some ⟨R, 0, none⟩)) rfl (by kernel_rfl) (by kernel_rfl) (by kernel_rfl) (fun _ _ _ h => h) (by decide) ⟨rfl, rfl⟩ (by intro w; go_simp) (Till.late (by kernel_rfl)) ?_
        try simp only [Act.put, List.setIfInBounds_toArray, List.set_cons_zero, List.set_cons_succ]
        refine wpAnyK_take0 (i := 30) (oi := { dst := some 108, op := Go.Op.fieldAddr 39 (Go.Operand.tmp 107) 2, type := 0, pos := "ref.go:50", after := #[{ on := 29, ground := Go.Ground.data }, { on := 0, ground := Go.Ground.phase }, { on := 1, ground := Go.Ground.phase }, { on := 2, ground := Go.Ground.phase }, { on := 3, ground := Go.Ground.phase }, { on := 4, ground := Go.Ground.phase }, { on := 5, ground := Go.Ground.phase }, { on := 6, ground := Go.Ground.phase }, { on := 7, ground := Go.Ground.phase }, { on := 8, ground := Go.Ground.phase }, { on := 9, ground := Go.Ground.phase }, { on := 10, ground := Go.Ground.phase }, { on := 11, ground := Go.Ground.phase }, { on := 12, ground := Go.Ground.phase }, { on := 13, ground := Go.Ground.phase }, { on := 14, ground := Go.Ground.phase }, { on := 15, ground := Go.Ground.phase }, { on := 16, ground := Go.Ground.phase }, { on := 17, ground := Go.Ground.phase }, { on := 18, ground := Go.Ground.phase }, { on := 19, ground := Go.Ground.phase }, { on := 20, ground := Go.Ground.phase }, { on := 21, ground := Go.Ground.phase }, { on := 22, ground := Go.Ground.phase }, { on := 23, ground := Go.Ground.phase }, { on := 24, ground := Go.Ground.phase }, { on := 25, ground := Go.Ground.phase }, { on := 26, ground := Go.Ground.phase }, { on := 27, ground := Go.Ground.phase }, { on := 28, ground := Go.Ground.phase }], guard := none }) (v := .pointer (some ⟨R, 2, none⟩)) rfl (by kernel_rfl) (by kernel_rfl) (by kernel_rfl) (fun _ _ _ h => h) (by decide) ⟨rfl, rfl⟩ (by intro w; go_simp) (Till.late (by kernel_rfl)) ?_
        try simp only [Act.put, List.setIfInBounds_toArray, List.set_cons_zero, List.set_cons_succ]
        refine wpAnyK_ready (rs := [31]) (by kernel_rfl) (by simp) ?_
        refine AllReadyK.cons (o := { dst := none, op := Go.Op.store 35 (Go.Operand.tmp 108) (Go.Operand.tmp 106), type := 0, pos := "ref.go:50", after := #[{ on := 30, ground := Go.Ground.data }, { on := 28, ground := Go.Ground.data }, { on := 28, ground := Go.Ground.chain }, { on := 0, ground := Go.Ground.phase }, { on := 1, ground := Go.Ground.phase }, { on := 2, ground := Go.Ground.phase }, { on := 3, ground := Go.Ground.phase }, { on := 4, ground := Go.Ground.phase }, { on := 5, ground := Go.Ground.phase }, { on := 6, ground := Go.Ground.phase }, { on := 7, ground := Go.Ground.phase }, { on := 8, ground := Go.Ground.phase }, { on := 9, ground := Go.Ground.phase }, { on := 10, ground := Go.Ground.phase }, { on := 11, ground := Go.Ground.phase }, { on := 12, ground := Go.Ground.phase }, { on := 13, ground := Go.Ground.phase }, { on := 14, ground := Go.Ground.phase }, { on := 15, ground := Go.Ground.phase }, { on := 16, ground := Go.Ground.phase }, { on := 17, ground := Go.Ground.phase }, { on := 18, ground := Go.Ground.phase }, { on := 19, ground := Go.Ground.phase }, { on := 20, ground := Go.Ground.phase }, { on := 21, ground := Go.Ground.phase }, { on := 22, ground := Go.Ground.phase }, { on := 23, ground := Go.Ground.phase }, { on := 24, ground := Go.Ground.phase }, { on := 25, ground := Go.Ground.phase }, { on := 26, ground := Go.Ground.phase }, { on := 27, ground := Go.Ground.phase }, { on := 28, ground := Go.Ground.phase }], guard := none }) rfl (fun K hK => ?_) AllReadyK.nil
        go_simp
        refine hK.out _ _ (Till.late (by kernel_rfl)) ?_
        clear hK K
        try simp only [Act.put, List.setIfInBounds_toArray, List.set_cons_zero, List.set_cons_succ]
        refine wpAnyK_done (by kernel_rfl) ?_ _
        go_wp2
        go_end0
        obtain ⟨hs', TT⟩ := HF.out
        exact ⟨rfl, _, _, hs', Lib.hid TT⟩
      exact AllReadyK.nil
    refine AllReadyK.cons (o := { dst := some 104, op := Go.Op.buildSlice 26 3 #[(0, Go.Operand.tmp 95), (1, Go.Operand.tmp 99), (2, Go.Operand.tmp 103)], type := 26, pos := "ref.go:50", after := #[{ on := 17, ground := Go.Ground.data }, { on := 21, ground := Go.Ground.data }, { on := 25, ground := Go.Ground.data }], guard := none }) rfl (fun K hK => ?_) ?_
    · go_simp
      refine hK.out _ _ (Till.of (bela (bela (Below.refl _ _))).drew) ?_
      clear hK K
      try simp only [Act.put, List.setIfInBounds_toArray, List.set_cons_zero, List.set_cons_succ]
      refine wpAnyK_ready (rs := [16]) (by kernel_rfl) (by simp) ?_
      refine AllReadyK.cons (o := { dst := some 94, op := Go.Op.buildSlice 26 2 #[(0, Go.Operand.tmp 90), (1, Go.Operand.tmp 93)], type := 26, pos := "ref.go:50", after := #[{ on := 12, ground := Go.Ground.data }, { on := 15, ground := Go.Ground.data }], guard := none }) rfl (fun K hK => ?_) ?_
      · go_simp
        refine hK.out _ _ (Till.of (bela (bela (bela (Below.refl _ _)))).drew) ?_
        clear hK K
        try simp only [Act.put, List.setIfInBounds_toArray, List.set_cons_zero, List.set_cons_succ]
        refine wpAnyK_ready (rs := [27]) (by kernel_rfl) (by simp) ?_
        refine AllReadyK.cons (o := { dst := some 105, op := Go.Op.buildSlice 35 3 #[(0, Go.Operand.tmp 88), (1, Go.Operand.tmp 94), (2, Go.Operand.tmp 104)], type := 35, pos := "ref.go:50", after := #[{ on := 10, ground := Go.Ground.data }, { on := 16, ground := Go.Ground.data }, { on := 26, ground := Go.Ground.data }], guard := none }) rfl (fun K hK => ?_) AllReadyK.nil
        go_simp
        refine hK.out _ _ (Till.of (bela (bela (bela (bela (Below.refl _ _))))).drew) ?_
        clear hK K
        try simp only [Act.put, List.setIfInBounds_toArray, List.set_cons_zero, List.set_cons_succ]
        refine wpAnyK_ready (rs := [28]) (by kernel_rfl) (by simp) ?_
        refine AllReadyK.cons (o := { dst := some 106, op := Go.Op.call { callee := Go.Callee.builtin Go.Builtin.append, args := #[Go.Operand.tmp 82, Go.Operand.tmp 105], argTypes := #[35, 35] }, type := 35, pos := "ref.go:50", after := #[{ on := 4, ground := Go.Ground.data }, { on := 27, ground := Go.Ground.data }, { on := 24, ground := Go.Ground.chain }], guard := none }) rfl (fun K hK => ?_) AllReadyK.nil
        refine step_append_own rfl (.tmp 82) (.tmp 105) 35 rfl 0 26 i0 (.slice none 0 0) 1 24 Try.underlying35 hi0 hz0 hz1 hz2 rfl (by decide) (.slice ac qc cc) qc (lst hs2 (qc * 1)) (by rfl) (HOWN.out _ (bela (bela (bela (bela (Below.refl _ _))))).drew) ⟨w4.heap.size + 1 + 1 + 1, 0, none⟩ 3 3 [_, _, _] (by rfl) rfl (three_at _ _ rfl (by simp)) (by intro u hu; simp at hu; rcases hu with rfl | rfl | rfl <;> rfl) (by unfold maxLen; omega) (by omega) (Nat.zero_le _) ?_
        intro v6 w6 g1 g2 g3; obtain ⟨⟨av, cv6, rfl⟩, z1, z2, HF⟩ := HPUT.out _ _ _ _ _ _ (bela (bela (bela (bela (Below.refl _ _))))).drew (by first | exact New.drew (rowp0 (by rfl) (by rfl)) | exact New.drew (rowp1 (by rfl) (by rfl)) | exact New.drew (rowp2 (by rfl) (by rfl))) (by first | exact New.drew (rowp0 (by rfl) (by rfl)) | exact New.drew (rowp1 (by rfl) (by rfl)) | exact New.drew (rowp2 (by rfl) (by rfl))) (by first | exact New.drew (rowp0 (by rfl) (by rfl)) | exact New.drew (rowp1 (by rfl) (by rfl)) | exact New.drew (rowp2 (by rfl) (by rfl))) g1 g2 g3; clear g1 g2 g3
        refine hK.out _ _ (Till.late (by kernel_rfl)) ?_
        clear hK K
        try simp only [Act.put, List.setIfInBounds_toArray, List.set_cons_zero, List.set_cons_succ]
        refine wpAnyK_take0 (i := 29) (oi := { dst := some 107, op := Go.Op.nilCheck (Go.Operand.tmp 78), type := 0, pos := "ref.go:50", after := #[{ on := 0, ground := Go.Ground.data }, { on := 0, ground := Go.Ground.phase }, { on := 1, ground := Go.Ground.phase }, { on := 2, ground := Go.Ground.phase }, { on := 3, ground := Go.Ground.phase }, { on := 4, ground := Go.Ground.phase }, { on := 5, ground := Go.Ground.phase }, { on := 6, ground := Go.Ground.phase }, { on := 7, ground := Go.Ground.phase }, { on := 8, ground := Go.Ground.phase }, { on := 9, ground := Go.Ground.phase }, { on := 10, ground := Go.Ground.phase }, { on := 11, ground := Go.Ground.phase }, { on := 12, ground := Go.Ground.phase }, { on := 13, ground := Go.Ground.phase }, { on := 14, ground := Go.Ground.phase }, { on := 15, ground := Go.Ground.phase }, { on := 16, ground := Go.Ground.phase }, { on := 17, ground := Go.Ground.phase }, { on := 18, ground := Go.Ground.phase }, { on := 19, ground := Go.Ground.phase }, { on := 20, ground := Go.Ground.phase }, { on := 21, ground := Go.Ground.phase }, { on := 22, ground := Go.Ground.phase }, { on := 23, ground := Go.Ground.phase }, { on := 24, ground := Go.Ground.phase }, { on := 25, ground := Go.Ground.phase }, { on := 26, ground := Go.Ground.phase }, { on := 27, ground := Go.Ground.phase }, { on := 28, ground := Go.Ground.phase }], guard := none }) (v := .pointer (some ⟨R, 0, none⟩)) rfl (by kernel_rfl) (by kernel_rfl) (by kernel_rfl) (fun _ _ _ h => h) (by decide) ⟨rfl, rfl⟩ (by intro w; go_simp) (Till.late (by kernel_rfl)) ?_
        try simp only [Act.put, List.setIfInBounds_toArray, List.set_cons_zero, List.set_cons_succ]
        refine wpAnyK_take0 (i := 30) (oi := { dst := some 108, op := Go.Op.fieldAddr 39 (Go.Operand.tmp 107) 2, type := 0, pos := "ref.go:50", after := #[{ on := 29, ground := Go.Ground.data }, { on := 0, ground := Go.Ground.phase }, { on := 1, ground := Go.Ground.phase }, { on := 2, ground := Go.Ground.phase }, { on := 3, ground := Go.Ground.phase }, { on := 4, ground := Go.Ground.phase }, { on := 5, ground := Go.Ground.phase }, { on := 6, ground := Go.Ground.phase }, { on := 7, ground := Go.Ground.phase }, { on := 8, ground := Go.Ground.phase }, { on := 9, ground := Go.Ground.phase }, { on := 10, ground := Go.Ground.phase }, { on := 11, ground := Go.Ground.phase }, { on := 12, ground := Go.Ground.phase }, { on := 13, ground := Go.Ground.phase }, { on := 14, ground := Go.Ground.phase }, { on := 15, ground := Go.Ground.phase }, { on := 16, ground := Go.Ground.phase }, { on := 17, ground := Go.Ground.phase }, { on := 18, ground := Go.Ground.phase }, { on := 19, ground := Go.Ground.phase }, { on := 20, ground := Go.Ground.phase }, { on := 21, ground := Go.Ground.phase }, { on := 22, ground := Go.Ground.phase }, { on := 23, ground := Go.Ground.phase }, { on := 24, ground := Go.Ground.phase }, { on := 25, ground := Go.Ground.phase }, { on := 26, ground := Go.Ground.phase }, { on := 27, ground := Go.Ground.phase }, { on := 28, ground := Go.Ground.phase }], guard := none }) (v := .pointer (some ⟨R, 2, none⟩)) rfl (by kernel_rfl) (by kernel_rfl) (by kernel_rfl) (fun _ _ _ h => h) (by decide) ⟨rfl, rfl⟩ (by intro w; go_simp) (Till.late (by kernel_rfl)) ?_
        try simp only [Act.put, List.setIfInBounds_toArray, List.set_cons_zero, List.set_cons_succ]
        refine wpAnyK_ready (rs := [31]) (by kernel_rfl) (by simp) ?_
        refine AllReadyK.cons (o := { dst := none, op := Go.Op.store 35 (Go.Operand.tmp 108) (Go.Operand.tmp 106), type := 0, pos := "ref.go:50", after := #[{ on := 30, ground := Go.Ground.data }, { on := 28, ground := Go.Ground.data }, { on := 28, ground := Go.Ground.chain }, { on := 0, ground := Go.Ground.phase }, { on := 1, ground := Go.Ground.phase }, { on := 2, ground := Go.Ground.phase }, { on := 3, ground := Go.Ground.phase }, { on := 4, ground := Go.Ground.phase }, { on := 5, ground := Go.Ground.phase }, { on := 6, ground := Go.Ground.phase }, { on := 7, ground := Go.Ground.phase }, { on := 8, ground := Go.Ground.phase }, { on := 9, ground := Go.Ground.phase }, { on := 10, ground := Go.Ground.phase }, { on := 11, ground := Go.Ground.phase }, { on := 12, ground := Go.Ground.phase }, { on := 13, ground := Go.Ground.phase }, { on := 14, ground := Go.Ground.phase }, { on := 15, ground := Go.Ground.phase }, { on := 16, ground := Go.Ground.phase }, { on := 17, ground := Go.Ground.phase }, { on := 18, ground := Go.Ground.phase }, { on := 19, ground := Go.Ground.phase }, { on := 20, ground := Go.Ground.phase }, { on := 21, ground := Go.Ground.phase }, { on := 22, ground := Go.Ground.phase }, { on := 23, ground := Go.Ground.phase }, { on := 24, ground := Go.Ground.phase }, { on := 25, ground := Go.Ground.phase }, { on := 26, ground := Go.Ground.phase }, { on := 27, ground := Go.Ground.phase }, { on := 28, ground := Go.Ground.phase }], guard := none }) rfl (fun K hK => ?_) AllReadyK.nil
        go_simp
        refine hK.out _ _ (Till.late (by kernel_rfl)) ?_
        clear hK K
        try simp only [Act.put, List.setIfInBounds_toArray, List.set_cons_zero, List.set_cons_succ]
        refine wpAnyK_done (by kernel_rfl) ?_ _
        go_wp2
        go_end0
        obtain ⟨hs', TT⟩ := HF.out
        exact ⟨rfl, _, _, hs', Lib.hid TT⟩
      exact AllReadyK.nil
    exact AllReadyK.nil
  refine AllReadyK.cons (o := { dst := some 94, op := Go.Op.buildSlice 26 2 #[(0, Go.Operand.tmp 90), (1, Go.Operand.tmp 93)], type := 26, pos := "ref.go:50", after := #[{ on := 12, ground := Go.Ground.data }, { on := 15, ground := Go.Ground.data }], guard := none }) rfl (fun K hK => ?_) ?_
  · go_simp
    refine hK.out _ _ (Till.of (bela (Below.refl _ _)).drew) ?_
    clear hK K
    try simp only [Act.put, List.setIfInBounds_toArray, List.set_cons_zero, List.set_cons_succ]
    refine wpAnyK_ready (rs := [10, 26]) (by kernel_rfl) (by simp) ?_
    refine AllReadyK.cons (o := { dst := some 88, op := Go.Op.buildSlice 26 2 #[(0, Go.Operand.tmp 84), (1, Go.Operand.tmp 87)], type := 26, pos := "ref.go:50", after := #[{ on := 6, ground := Go.Ground.data }, { on := 9, ground := Go.Ground.data }], guard := none }) rfl (fun K hK => ?_) ?_
    · go_simp
      refine hK.out _ _ (Till.of (bela (bela (Below.refl _ _))).drew) ?_
      clear hK K
      try simp only [Act.put, List.setIfInBounds_toArray, List.set_cons_zero, List.set_cons_succ]
      refine wpAnyK_ready (rs := [26]) (by kernel_rfl) (by simp) ?_
      refine AllReadyK.cons (o := { dst := some 104, op := Go.Op.buildSlice 26 3 #[(0, Go.Operand.tmp 95), (1, Go.Operand.tmp 99), (2, Go.Operand.tmp 103)], type := 26, pos := "ref.go:50", after := #[{ on := 17, ground := Go.Ground.data }, { on := 21, ground := Go.Ground.data }, { on := 25, ground := Go.Ground.data }], guard := none }) rfl (fun K hK => ?_) ?_
      · go_simp
        refine hK.out _ _ (Till.of (bela (bela (bela (Below.refl _ _)))).drew) ?_
        clear hK K
        try simp only [Act.put, List.setIfInBounds_toArray, List.set_cons_zero, List.set_cons_succ]
        refine wpAnyK_ready (rs := [27]) (by kernel_rfl) (by simp) ?_
        refine AllReadyK.cons (o := { dst := some 105, op := Go.Op.buildSlice 35 3 #[(0, Go.Operand.tmp 88), (1, Go.Operand.tmp 94), (2, Go.Operand.tmp 104)], type := 35, pos := "ref.go:50", after := #[{ on := 10, ground := Go.Ground.data }, { on := 16, ground := Go.Ground.data }, { on := 26, ground := Go.Ground.data }], guard := none }) rfl (fun K hK => ?_) AllReadyK.nil
        go_simp
        refine hK.out _ _ (Till.of (bela (bela (bela (bela (Below.refl _ _))))).drew) ?_
        clear hK K
        try simp only [Act.put, List.setIfInBounds_toArray, List.set_cons_zero, List.set_cons_succ]
        refine wpAnyK_ready (rs := [28]) (by kernel_rfl) (by simp) ?_
        refine AllReadyK.cons (o := { dst := some 106, op := Go.Op.call { callee := Go.Callee.builtin Go.Builtin.append, args := #[Go.Operand.tmp 82, Go.Operand.tmp 105], argTypes := #[35, 35] }, type := 35, pos := "ref.go:50", after := #[{ on := 4, ground := Go.Ground.data }, { on := 27, ground := Go.Ground.data }, { on := 24, ground := Go.Ground.chain }], guard := none }) rfl (fun K hK => ?_) AllReadyK.nil
        refine step_append_own rfl (.tmp 82) (.tmp 105) 35 rfl 0 26 i0 (.slice none 0 0) 1 24 Try.underlying35 hi0 hz0 hz1 hz2 rfl (by decide) (.slice ac qc cc) qc (lst hs2 (qc * 1)) (by rfl) (HOWN.out _ (bela (bela (bela (bela (Below.refl _ _))))).drew) ⟨w4.heap.size + 1 + 1 + 1, 0, none⟩ 3 3 [_, _, _] (by rfl) rfl (three_at _ _ rfl (by simp)) (by intro u hu; simp at hu; rcases hu with rfl | rfl | rfl <;> rfl) (by unfold maxLen; omega) (by omega) (Nat.zero_le _) ?_
        intro v6 w6 g1 g2 g3; obtain ⟨⟨av, cv6, rfl⟩, z1, z2, HF⟩ := HPUT.out _ _ _ _ _ _ (bela (bela (bela (bela (Below.refl _ _))))).drew (by first | exact New.drew (rowp0 (by rfl) (by rfl)) | exact New.drew (rowp1 (by rfl) (by rfl)) | exact New.drew (rowp2 (by rfl) (by rfl))) (by first | exact New.drew (rowp0 (by rfl) (by rfl)) | exact New.drew (rowp1 (by rfl) (by rfl)) | exact New.drew (rowp2 (by rfl) (by rfl))) (by first | exact New.drew (rowp0 (by rfl) (by rfl)) | exact New.drew (rowp1 (by rfl) (by rfl)) | exact New.drew (rowp2 (by rfl) (by rfl))) g1 g2 g3; clear g1 g2 g3
        refine hK.out _ _ (Till.late (by kernel_rfl)) ?_
        clear hK K
        try simp only [Act.put, List.setIfInBounds_toArray, List.set_cons_zero, List.set_cons_succ]
        refine wpAnyK_take0 (i := 29) (oi := { dst := some 107, op := Go.Op.nilCheck (Go.Operand.tmp 78), type := 0, pos := "ref.go:50", after := #[{ on := 0, ground := Go.Ground.data }, { on := 0, ground := Go.Ground.phase }, { on := 1, ground := Go.Ground.phase }, { on := 2, ground := Go.Ground.phase }, { on := 3, ground := Go.Ground.phase }, { on := 4, ground := Go.Ground.phase }, { on := 5, ground := Go.Ground.phase }, { on := 6, ground := Go.Ground.phase }, { on := 7, ground := Go.Ground.phase }, { on := 8, ground := Go.Ground.phase }, { on := 9, ground := Go.Ground.phase }, { on := 10, ground := Go.Ground.phase }, { on := 11, ground := Go.Ground.phase }, { on := 12, ground := Go.Ground.phase }, { on := 13, ground := Go.Ground.phase }, { on := 14, ground := Go.Ground.phase }, { on := 15, ground := Go.Ground.phase }, { on := 16, ground := Go.Ground.phase }, { on := 17, ground := Go.Ground.phase }, { on := 18, ground := Go.Ground.phase }, { on := 19, ground := Go.Ground.phase }, { on := 20, ground := Go.Ground.phase }, { on := 21, ground := Go.Ground.phase }, { on := 22, ground := Go.Ground.phase }, { on := 23, ground := Go.Ground.phase }, { on := 24, ground := Go.Ground.phase }, { on := 25, ground := Go.Ground.phase }, { on := 26, ground := Go.Ground.phase }, { on := 27, ground := Go.Ground.phase }, { on := 28, ground := Go.Ground.phase }], guard := none }) (v := .pointer (some ⟨R, 0, none⟩)) rfl (by kernel_rfl) (by kernel_rfl) (by kernel_rfl) (fun _ _ _ h => h) (by decide) ⟨rfl, rfl⟩ (by intro w; go_simp) (Till.late (by kernel_rfl)) ?_
        try simp only [Act.put, List.setIfInBounds_toArray, List.set_cons_zero, List.set_cons_succ]
        refine wpAnyK_take0 (i := 30) (oi := { dst := some 108, op := Go.Op.fieldAddr 39 (Go.Operand.tmp 107) 2, type := 0, pos := "ref.go:50", after := #[{ on := 29, ground := Go.Ground.data }, { on := 0, ground := Go.Ground.phase }, { on := 1, ground := Go.Ground.phase }, { on := 2, ground := Go.Ground.phase }, { on := 3, ground := Go.Ground.phase }, { on := 4, ground := Go.Ground.phase }, { on := 5, ground := Go.Ground.phase }, { on := 6, ground := Go.Ground.phase }, { on := 7, ground := Go.Ground.phase }, { on := 8, ground := Go.Ground.phase }, { on := 9, ground := Go.Ground.phase }, { on := 10, ground := Go.Ground.phase }, { on := 11, ground := Go.Ground.phase }, { on := 12, ground := Go.Ground.phase }, { on := 13, ground := Go.Ground.phase }, { on := 14, ground := Go.Ground.phase }, { on := 15, ground := Go.Ground.phase }, { on := 16, ground := Go.Ground.phase }, { on := 17, ground := Go.Ground.phase }, { on := 18, ground := Go.Ground.phase }, { on := 19, ground := Go.Ground.phase }, { on := 20, ground := Go.Ground.phase }, { on := 21, ground := Go.Ground.phase }, { on := 22, ground := Go.Ground.phase }, { on := 23, ground := Go.Ground.phase }, { on := 24, ground := Go.Ground.phase }, { on := 25, ground := Go.Ground.phase }, { on := 26, ground := Go.Ground.phase }, { on := 27, ground := Go.Ground.phase }, { on := 28, ground := Go.Ground.phase }], guard := none }) (v := .pointer (some ⟨R, 2, none⟩)) rfl (by kernel_rfl) (by kernel_rfl) (by kernel_rfl) (fun _ _ _ h => h) (by decide) ⟨rfl, rfl⟩ (by intro w; go_simp) (Till.late (by kernel_rfl)) ?_
        try simp only [Act.put, List.setIfInBounds_toArray, List.set_cons_zero, List.set_cons_succ]
        refine wpAnyK_ready (rs := [31]) (by kernel_rfl) (by simp) ?_
        refine AllReadyK.cons (o := { dst := none, op := Go.Op.store 35 (Go.Operand.tmp 108) (Go.Operand.tmp 106), type := 0, pos := "ref.go:50", after := #[{ on := 30, ground := Go.Ground.data }, { on := 28, ground := Go.Ground.data }, { on := 28, ground := Go.Ground.chain }, { on := 0, ground := Go.Ground.phase }, { on := 1, ground := Go.Ground.phase }, { on := 2, ground := Go.Ground.phase }, { on := 3, ground := Go.Ground.phase }, { on := 4, ground := Go.Ground.phase }, { on := 5, ground := Go.Ground.phase }, { on := 6, ground := Go.Ground.phase }, { on := 7, ground := Go.Ground.phase }, { on := 8, ground := Go.Ground.phase }, { on := 9, ground := Go.Ground.phase }, { on := 10, ground := Go.Ground.phase }, { on := 11, ground := Go.Ground.phase }, { on := 12, ground := Go.Ground.phase }, { on := 13, ground := Go.Ground.phase }, { on := 14, ground := Go.Ground.phase }, { on := 15, ground := Go.Ground.phase }, { on := 16, ground := Go.Ground.phase }, { on := 17, ground := Go.Ground.phase }, { on := 18, ground := Go.Ground.phase }, { on := 19, ground := Go.Ground.phase }, { on := 20, ground := Go.Ground.phase }, { on := 21, ground := Go.Ground.phase }, { on := 22, ground := Go.Ground.phase }, { on := 23, ground := Go.Ground.phase }, { on := 24, ground := Go.Ground.phase }, { on := 25, ground := Go.Ground.phase }, { on := 26, ground := Go.Ground.phase }, { on := 27, ground := Go.Ground.phase }, { on := 28, ground := Go.Ground.phase }], guard := none }) rfl (fun K hK => ?_) AllReadyK.nil
        go_simp
        refine hK.out _ _ (Till.late (by kernel_rfl)) ?_
        clear hK K
        try simp only [Act.put, List.setIfInBounds_toArray, List.set_cons_zero, List.set_cons_succ]
        refine wpAnyK_done (by kernel_rfl) ?_ _
        go_wp2
        go_end0
        obtain ⟨hs', TT⟩ := HF.out
        exact ⟨rfl, _, _, hs', Lib.hid TT⟩
      exact AllReadyK.nil
    refine AllReadyK.cons (o := { dst := some 104, op := Go.Op.buildSlice 26 3 #[(0, Go.Operand.tmp 95), (1, Go.Operand.tmp 99), (2, Go.Operand.tmp 103)], type := 26, pos := "ref.go:50", after := #[{ on := 17, ground := Go.Ground.data }, { on := 21, ground := Go.Ground.data }, { on := 25, ground := Go.Ground.data }], guard := none }) rfl (fun K hK => ?_) ?_
    · go_simp
      refine hK.out _ _ (Till.of (bela (bela (Below.refl _ _))).drew) ?_
      clear hK K
      try simp only [Act.put, List.setIfInBounds_toArray, List.set_cons_zero, List.set_cons_succ]
      refine wpAnyK_ready (rs := [10]) (by kernel_rfl) (by simp) ?_
      refine AllReadyK.cons (o := { dst := some 88, op := Go.Op.buildSlice 26 2 #[(0, Go.Operand.tmp 84), (1, Go.Operand.tmp 87)], type := 26, pos := "ref.go:50", after := #[{ on := 6, ground := Go.Ground.data }, { on := 9, ground := Go.Ground.data }], guard := none }) rfl (fun K hK => ?_) ?_
      · go_simp
        refine hK.out _ _ (Till.of (bela (bela (bela (Below.refl _ _)))).drew) ?_
        clear hK K
        try simp only [Act.put, List.setIfInBounds_toArray, List.set_cons_zero, List.set_cons_succ]
        refine wpAnyK_ready (rs := [27]) (by kernel_rfl) (by simp) ?_
        refine AllReadyK.cons (o := { dst := some 105, op := Go.Op.buildSlice 35 3 #[(0, Go.Operand.tmp 88), (1, Go.Operand.tmp 94), (2, Go.Operand.tmp 104)], type := 35, pos := "ref.go:50", after := #[{ on := 10, ground := Go.Ground.data }, { on := 16, ground := Go.Ground.data }, { on := 26, ground := Go.Ground.data }], guard := none }) rfl (fun K hK => ?_) AllReadyK.nil
        go_simp
        refine hK.out _ _ (Till.of (bela (bela (bela (bela (Below.refl _ _))))).drew) ?_
        clear hK K
        try simp only [Act.put, List.setIfInBounds_toArray, List.set_cons_zero, List.set_cons_succ]
        refine wpAnyK_ready (rs := [28]) (by kernel_rfl) (by simp) ?_
        refine AllReadyK.cons (o := { dst := some 106, op := Go.Op.call { callee := Go.Callee.builtin Go.Builtin.append, args := #[Go.Operand.tmp 82, Go.Operand.tmp 105], argTypes := #[35, 35] }, type := 35, pos := "ref.go:50", after := #[{ on := 4, ground := Go.Ground.data }, { on := 27, ground := Go.Ground.data }, { on := 24, ground := Go.Ground.chain }], guard := none }) rfl (fun K hK => ?_) AllReadyK.nil
        refine step_append_own rfl (.tmp 82) (.tmp 105) 35 rfl 0 26 i0 (.slice none 0 0) 1 24 Try.underlying35 hi0 hz0 hz1 hz2 rfl (by decide) (.slice ac qc cc) qc (lst hs2 (qc * 1)) (by rfl) (HOWN.out _ (bela (bela (bela (bela (Below.refl _ _))))).drew) ⟨w4.heap.size + 1 + 1 + 1, 0, none⟩ 3 3 [_, _, _] (by rfl) rfl (three_at _ _ rfl (by simp)) (by intro u hu; simp at hu; rcases hu with rfl | rfl | rfl <;> rfl) (by unfold maxLen; omega) (by omega) (Nat.zero_le _) ?_
        intro v6 w6 g1 g2 g3; obtain ⟨⟨av, cv6, rfl⟩, z1, z2, HF⟩ := HPUT.out _ _ _ _ _ _ (bela (bela (bela (bela (Below.refl _ _))))).drew (by first | exact New.drew (rowp0 (by rfl) (by rfl)) | exact New.drew (rowp1 (by rfl) (by rfl)) | exact New.drew (rowp2 (by rfl) (by rfl))) (by first | exact New.drew (rowp0 (by rfl) (by rfl)) | exact New.drew (rowp1 (by rfl) (by rfl)) | exact New.drew (rowp2 (by rfl) (by rfl))) (by first | exact New.drew (rowp0 (by rfl) (by rfl)) | exact New.drew (rowp1 (by rfl) (by rfl)) | exact New.drew (rowp2 (by rfl) (by rfl))) g1 g2 g3; clear g1 g2 g3
        refine hK.out _ _ (Till.late (by kernel_rfl)) ?_
        clear hK K
        try simp only [Act.put, List.setIfInBounds_toArray, List.set_cons_zero, List.set_cons_succ]
        refine wpAnyK_take0 (i := 29) (oi := { dst := some 107, op := Go.Op.nilCheck (Go.Operand.tmp 78), type := 0, pos := "ref.go:50", after := #[{ on := 0, ground := Go.Ground.data }, { on := 0, ground := Go.Ground.phase }, { on := 1, ground := Go.Ground.phase }, { on := 2, ground := Go.Ground.phase }, { on := 3, ground := Go.Ground.phase }, { on := 4, ground := Go.Ground.phase }, { on := 5, ground := Go.Ground.phase }, { on := 6, ground := Go.Ground.phase }, { on := 7, ground := Go.Ground.phase }, { on := 8, ground := Go.Ground.phase }, { on := 9, ground := Go.Ground.phase }, { on := 10, ground := Go.Ground.phase }, { on := 11, ground := Go.Ground.phase }, { on := 12, ground := Go.Ground.phase }, { on := 13, ground := Go.Ground.phase }, { on := 14, ground := Go.Ground.phase }, { on := 15, ground := Go.Ground.phase }, { on := 16, ground := Go.Ground.phase }, { on := 17, ground := Go.Ground.phase }, { on := 18, ground := Go.Ground.phase }, { on := 19, ground := Go.Ground.phase }, { on := 20, ground := Go.Ground.phase }, { on := 21, ground := Go.Ground.phase }, { on := 22, ground := Go.Ground.phase }, { on := 23, ground := Go.Ground.phase }, { on := 24, ground := Go.Ground.phase }, { on := 25, ground := Go.Ground.phase }, { on := 26, ground := Go.Ground.phase }, { on := 27, ground := Go.Ground.phase }, { on := 28, ground := Go.Ground.phase }], guard := none }) (v := .pointer (some ⟨R, 0, none⟩)) rfl (by kernel_rfl) (by kernel_rfl) (by kernel_rfl) (fun _ _ _ h => h) (by decide) ⟨rfl, rfl⟩ (by intro w; go_simp) (Till.late (by kernel_rfl)) ?_
        try simp only [Act.put, List.setIfInBounds_toArray, List.set_cons_zero, List.set_cons_succ]
        refine wpAnyK_take0 (i := 30) (oi := { dst := some 108, op := Go.Op.fieldAddr 39 (Go.Operand.tmp 107) 2, type := 0, pos := "ref.go:50", after := #[{ on := 29, ground := Go.Ground.data }, { on := 0, ground := Go.Ground.phase }, { on := 1, ground := Go.Ground.phase }, { on := 2, ground := Go.Ground.phase }, { on := 3, ground := Go.Ground.phase }, { on := 4, ground := Go.Ground.phase }, { on := 5, ground := Go.Ground.phase }, { on := 6, ground := Go.Ground.phase }, { on := 7, ground := Go.Ground.phase }, { on := 8, ground := Go.Ground.phase }, { on := 9, ground := Go.Ground.phase }, { on := 10, ground := Go.Ground.phase }, { on := 11, ground := Go.Ground.phase }, { on := 12, ground := Go.Ground.phase }, { on := 13, ground := Go.Ground.phase }, { on := 14, ground := Go.Ground.phase }, { on := 15, ground := Go.Ground.phase }, { on := 16, ground := Go.Ground.phase }, { on := 17, ground := Go.Ground.phase }, { on := 18, ground := Go.Ground.phase }, { on := 19, ground := Go.Ground.phase }, { on := 20, ground := Go.Ground.phase }, { on := 21, ground := Go.Ground.phase }, { on := 22, ground := Go.Ground.phase }, { on := 23, ground := Go.Ground.phase }, { on := 24, ground := Go.Ground.phase }, { on := 25, ground := Go.Ground.phase }, { on := 26, ground := Go.Ground.phase }, { on := 27, ground := Go.Ground.phase }, { on := 28, ground := Go.Ground.phase }], guard := none }) (v := .pointer (some ⟨R, 2, none⟩)) rfl (by kernel_rfl) (by kernel_rfl) (by kernel_rfl) (fun _ _ _ h => h) (by decide) ⟨rfl, rfl⟩ (by intro w; go_simp) (Till.late (by kernel_rfl)) ?_
        try simp only [Act.put, List.setIfInBounds_toArray, List.set_cons_zero, List.set_cons_succ]
        refine wpAnyK_ready (rs := [31]) (by kernel_rfl) (by simp) ?_
        refine AllReadyK.cons (o := { dst := none, op := Go.Op.store 35 (Go.Operand.tmp 108) (Go.Operand.tmp 106), type := 0, pos := "ref.go:50", after := #[{ on := 30, ground := Go.Ground.data }, { on := 28, ground := Go.Ground.data }, { on := 28, ground := Go.Ground.chain }, { on := 0, ground := Go.Ground.phase }, { on := 1, ground := Go.Ground.phase }, { on := 2, ground := Go.Ground.phase }, { on := 3, ground := Go.Ground.phase }, { on := 4, ground := Go.Ground.phase }, { on := 5, ground := Go.Ground.phase }, { on := 6, ground := Go.Ground.phase }, { on := 7, ground := Go.Ground.phase }, { on := 8, ground := Go.Ground.phase }, { on := 9, ground := Go.Ground.phase }, { on := 10, ground := Go.Ground.phase }, { on := 11, ground := Go.Ground.phase }, { on := 12, ground := Go.Ground.phase }, { on := 13, ground := Go.Ground.phase }, { on := 14, ground := Go.Ground.phase }, { on := 15, ground := Go.Ground.phase }, { on := 16, ground := Go.Ground.phase }, { on := 17, ground := Go.Ground.phase }, { on := 18, ground := Go.Ground.phase }, { on := 19, ground := Go.Ground.phase }, { on := 20, ground := Go.Ground.phase }, { on := 21, ground := Go.Ground.phase }, { on := 22, ground := Go.Ground.phase }, { on := 23, ground := Go.Ground.phase }, { on := 24, ground := Go.Ground.phase }, { on := 25, ground := Go.Ground.phase }, { on := 26, ground := Go.Ground.phase }, { on := 27, ground := Go.Ground.phase }, { on := 28, ground := Go.Ground.phase }], guard := none }) rfl (fun K hK => ?_) AllReadyK.nil
        go_simp
        refine hK.out _ _ (Till.late (by kernel_rfl)) ?_
        clear hK K
        try simp only [Act.put, List.setIfInBounds_toArray, List.set_cons_zero, List.set_cons_succ]
        refine wpAnyK_done (by kernel_rfl) ?_ _
        go_wp2
        go_end0
        obtain ⟨hs', TT⟩ := HF.out
        exact ⟨rfl, _, _, hs', Lib.hid TT⟩
      exact AllReadyK.nil
    exact AllReadyK.nil
  refine AllReadyK.cons (o := { dst := some 104, op := Go.Op.buildSlice 26 3 #[(0, Go.Operand.tmp 95), (1, Go.Operand.tmp 99), (2, Go.Operand.tmp 103)], type := 26, pos := "ref.go:50", after := #[{ on := 17, ground := Go.Ground.data }, { on := 21, ground := Go.Ground.data }, { on := 25, ground := Go.Ground.data }], guard := none }) rfl (fun K hK => ?_) ?_
  · go_simp
    refine hK.out _ _ (Till.of (bela (Below.refl _ _)).drew) ?_
    clear hK K
    try simp only [Act.put, List.setIfInBounds_toArray, List.set_cons_zero, List.set_cons_succ]
    refine wpAnyK_ready (rs := [10, 16]) (by kernel_rfl) (by simp) ?_
    refine AllReadyK.cons (o := { dst := some 88, op := Go.Op.buildSlice 26 2 #[(0, Go.Operand.tmp 84), (1, Go.Operand.tmp 87)], type := 26, pos := "ref.go:50", after := #[{ on := 6, ground := Go.Ground.data }, { on := 9, ground := Go.Ground.data }], guard := none }) rfl (fun K hK => ?_) ?_
    · go_simp
      refine hK.out _ _ (Till.of (bela (bela (Below.refl _ _))).drew) ?_
      clear hK K
      try simp only [Act.put, List.setIfInBounds_toArray, List.set_cons_zero, List.set_cons_succ]
      refine wpAnyK_ready (rs := [16]) (by kernel_rfl) (by simp) ?_
      refine AllReadyK.cons (o := { dst := some 94, op := Go.Op.buildSlice 26 2 #[(0, Go.Operand.tmp 90), (1, Go.Operand.tmp 93)], type := 26, pos := "ref.go:50", after := #[{ on := 12, ground := Go.Ground.data }, { on := 15, ground := Go.Ground.data }], guard := none }) rfl (fun K hK => ?_) ?_
      · go_simp
        refine hK.out _ _ (Till.of (bela (bela (bela (Below.refl _ _)))).drew) ?_
        clear hK K
        try simp only [Act.put, List.setIfInBounds_toArray, List.set_cons_zero, List.set_cons_succ]
        refine wpAnyK_ready (rs := [27]) (by kernel_rfl) (by simp) ?_
        refine AllReadyK.cons (o := { dst := some 105, op := Go.Op.buildSlice 35 3 #[(0, Go.Operand.tmp 88), (1, Go.Operand.tmp 94), (2, Go.Operand.tmp 104)], type := 35, pos := "ref.go:50", after := #[{ on := 10, ground := Go.Ground.data }, { on := 16, ground := Go.Ground.data }, { on := 26, ground := Go.Ground.data }], guard := none }) rfl (fun K hK => ?_) AllReadyK.nil
        go_simp
        refine hK.out _ _ (Till.of (bela (bela (bela (bela (Below.refl _ _))))).drew) ?_
        clear hK K
        try simp only [Act.put, List.setIfInBounds_toArray, List.set_cons_zero, List.set_cons_succ]
        refine wpAnyK_ready (rs := [28]) (by kernel_rfl) (by simp) ?_
        refine AllReadyK.cons (o := { dst := some 106, op := Go.Op.call { callee := Go.Callee.builtin Go.Builtin.append, args := #[Go.Operand.tmp 82, Go.Operand.tmp 105], argTypes := #[35, 35] }, type := 35, pos := "ref.go:50", after := #[{ on := 4, ground := Go.Ground.data }, { on := 27, ground := Go.Ground.data }, { on := 24, ground := Go.Ground.chain }], guard := none }) rfl (fun K hK => ?_) AllReadyK.nil
        refine step_append_own rfl (.tmp 82) (.tmp 105) 35 rfl 0 26 i0 (.slice none 0 0) 1 24 Try.underlying35 hi0 hz0 hz1 hz2 rfl (by decide) (.slice ac qc cc) qc (lst hs2 (qc * 1)) (by rfl) (HOWN.out _ (bela (bela (bela (bela (Below.refl _ _))))).drew) ⟨w4.heap.size + 1 + 1 + 1, 0, none⟩ 3 3 [_, _, _] (by rfl) rfl (three_at _ _ rfl (by simp)) (by intro u hu; simp at hu; rcases hu with rfl | rfl | rfl <;> rfl) (by unfold maxLen; omega) (by omega) (Nat.zero_le _) ?_
        intro v6 w6 g1 g2 g3; obtain ⟨⟨av, cv6, rfl⟩, z1, z2, HF⟩ := HPUT.out _ _ _ _ _ _ (bela (bela (bela (bela (Below.refl _ _))))).drew (by first | exact New.drew (rowp0 (by rfl) (by rfl)) | exact New.drew (rowp1 (by rfl) (by rfl)) | exact New.drew (rowp2 (by rfl) (by rfl))) (by first | exact New.drew (rowp0 (by rfl) (by rfl)) | exact New.drew (rowp1 (by rfl) (by rfl)) | exact New.drew (rowp2 (by rfl) (by rfl))) (by first | exact New.drew (rowp0 (by rfl) (by rfl)) | exact New.drew (rowp1 (by rfl) (by rfl)) | exact New.drew (rowp2 (by rfl) (by rfl))) g1 g2 g3; clear g1 g2 g3
        refine hK.out _ _ (Till.late (by kernel_rfl)) ?_
        clear hK K
        try simp only [Act.put, List.setIfInBounds_toArray, List.set_cons_zero, List.set_cons_succ]
        refine wpAnyK_take0 (i := 29) (oi := { dst := some 107, op := Go.Op.nilCheck (Go.Operand.tmp 78), type := 0, pos := "ref.go:50", after := #[{ on := 0, ground := Go.Ground.data }, { on := 0, ground := Go.Ground.phase }, { on := 1, ground := Go.Ground.phase }, { on := 2, ground := Go.Ground.phase }, { on := 3, ground := Go.Ground.phase }, { on := 4, ground := Go.Ground.phase }, { on := 5, ground := Go.Ground.phase }, { on := 6, ground := Go.Ground.phase }, { on := 7, ground := Go.Ground.phase }, { on := 8, ground := Go.Ground.phase }, { on := 9, ground := Go.Ground.phase }, { on := 10, ground := Go.Ground.phase }, { on := 11, ground := Go.Ground.phase }, { on := 12, ground := Go.Ground.phase }, { on := 13, ground := Go.Ground.phase }, { on := 14, ground := Go.Ground.phase }, { on := 15, ground := Go.Ground.phase }, { on := 16, ground := Go.Ground.phase }, { on := 17, ground := Go.Ground.phase }, { on := 18, ground := Go.Ground.phase }, { on := 19, ground := Go.Ground.phase }, { on := 20, ground := Go.Ground.phase }, { on := 21, ground := Go.Ground.phase }, { on := 22, ground := Go.Ground.phase }, { on := 23, ground := Go.Ground.phase }, { on := 24, ground := Go.Ground.phase }, { on := 25, ground := Go.Ground.phase }, { on := 26, ground := Go.Ground.phase }, { on := 27, ground := Go.Ground.phase }, { on := 28, ground := Go.Ground.phase }], guard := none }) (v := .pointer (some ⟨R, 0, none⟩)) rfl (by kernel_rfl) (by kernel_rfl) (by kernel_rfl) (fun _ _ _ h => h) (by decide) ⟨rfl, rfl⟩ (by intro w; go_simp) (Till.late (by kernel_rfl)) ?_
        try simp only [Act.put, List.setIfInBounds_toArray, List.set_cons_zero, List.set_cons_succ]
        refine wpAnyK_take0 (i := 30) (oi := { dst := some 108, op := Go.Op.fieldAddr 39 (Go.Operand.tmp 107) 2, type := 0, pos := "ref.go:50", after := #[{ on := 29, ground := Go.Ground.data }, { on := 0, ground := Go.Ground.phase }, { on := 1, ground := Go.Ground.phase }, { on := 2, ground := Go.Ground.phase }, { on := 3, ground := Go.Ground.phase }, { on := 4, ground := Go.Ground.phase }, { on := 5, ground := Go.Ground.phase }, { on := 6, ground := Go.Ground.phase }, { on := 7, ground := Go.Ground.phase }, { on := 8, ground := Go.Ground.phase }, { on := 9, ground := Go.Ground.phase }, { on := 10, ground := Go.Ground.phase }, { on := 11, ground := Go.Ground.phase }, { on := 12, ground := Go.Ground.phase }, { on := 13, ground := Go.Ground.phase }, { on := 14, ground := Go.Ground.phase }, { on := 15, ground := Go.Ground.phase }, { on := 16, ground := Go.Ground.phase }, { on := 17, ground := Go.Ground.phase }, { on := 18, ground := Go.Ground.phase }, { on := 19, ground := Go.Ground.phase }, { on := 20, ground := Go.Ground.phase }, { on := 21, ground := Go.Ground.phase }, { on := 22, ground := Go.Ground.phase }, { on := 23, ground := Go.Ground.phase }, { on := 24, ground := Go.Ground.phase }, { on := 25, ground := Go.Ground.phase }, { on := 26, ground := Go.Ground.phase }, { on := 27, ground := Go.Ground.phase }, { on := 28, ground := Go.Ground.phase }], guard := none }) (v := .pointer (some ⟨R, 2, none⟩)) rfl (by kernel_rfl) (by kernel_rfl) (by kernel_rfl) (fun _ _ _ h => h) (by decide) ⟨rfl, rfl⟩ (by intro w; go_simp) (Till.late (by kernel_rfl)) ?_
        try simp only [Act.put, List.setIfInBounds_toArray, List.set_cons_zero, List.set_cons_succ]
        refine wpAnyK_ready (rs := [31]) (by kernel_rfl) (by simp) ?_
        refine AllReadyK.cons (o := { dst := none, op := Go.Op.store 35 (Go.Operand.tmp 108) (Go.Operand.tmp 106), type := 0, pos := "ref.go:50", after := #[{ on := 30, ground := Go.Ground.data }, { on := 28, ground := Go.Ground.data }, { on := 28, ground := Go.Ground.chain }, { on := 0, ground := Go.Ground.phase }, { on := 1, ground := Go.Ground.phase }, { on := 2, ground := Go.Ground.phase }, { on := 3, ground := Go.Ground.phase }, { on := 4, ground := Go.Ground.phase }, { on := 5, ground := Go.Ground.phase }, { on := 6, ground := Go.Ground.phase }, { on := 7, ground := Go.Ground.phase }, { on := 8, ground := Go.Ground.phase }, { on := 9, ground := Go.Ground.phase }, { on := 10, ground := Go.Ground.phase }, { on := 11, ground := Go.Ground.phase }, { on := 12, ground := Go.Ground.phase }, { on := 13, ground := Go.Ground.phase }, { on := 14, ground := Go.Ground.phase }, { on := 15, ground := Go.Ground.phase }, { on := 16, ground := Go.Ground.phase }, { on := 17, ground := Go.Ground.phase }, { on := 18, ground := Go.Ground.phase }, { on := 19, ground := Go.Ground.phase }, { on := 20, ground := Go.Ground.phase }, { on := 21, ground := Go.Ground.phase }, { on := 22, ground := Go.Ground.phase }, { on := 23, ground := Go.Ground.phase }, { on := 24, ground := Go.Ground.phase }, { on := 25, ground := Go.Ground.phase }, { on := 26, ground := Go.Ground.phase }, { on := 27, ground := Go.Ground.phase }, { on := 28, ground := Go.Ground.phase }], guard := none }) rfl (fun K hK => ?_) AllReadyK.nil
        go_simp
        refine hK.out _ _ (Till.late (by kernel_rfl)) ?_
        clear hK K
        try simp only [Act.put, List.setIfInBounds_toArray, List.set_cons_zero, List.set_cons_succ]
        refine wpAnyK_done (by kernel_rfl) ?_ _
        go_wp2
        go_end0
        obtain ⟨hs', TT⟩ := HF.out
        exact ⟨rfl, _, _, hs', Lib.hid TT⟩
      exact AllReadyK.nil
    refine AllReadyK.cons (o := { dst := some 94, op := Go.Op.buildSlice 26 2 #[(0, Go.Operand.tmp 90), (1, Go.Operand.tmp 93)], type := 26, pos := "ref.go:50", after := #[{ on := 12, ground := Go.Ground.data }, { on := 15, ground := Go.Ground.data }], guard := none }) rfl (fun K hK => ?_) ?_
    · go_simp
      refine hK.out _ _ (Till.of (bela (bela (Below.refl _ _))).drew) ?_
      clear hK K
      try simp only [Act.put, List.setIfInBounds_toArray, List.set_cons_zero, List.set_cons_succ]
      refine wpAnyK_ready (rs := [10]) (by kernel_rfl) (by simp) ?_
      refine AllReadyK.cons (o := { dst := some 88, op := Go.Op.buildSlice 26 2 #[(0, Go.Operand.tmp 84), (1, Go.Operand.tmp 87)], type := 26, pos := "ref.go:50", after := #[{ on := 6, ground := Go.Ground.data }, { on := 9, ground := Go.Ground.data }], guard := none }) rfl (fun K hK => ?_) ?_
      · go_simp
        refine hK.out _ _ (Till.of (bela (bela (bela (Below.refl _ _)))).drew) ?_
        clear hK K
        try simp only [Act.put, List.setIfInBounds_toArray, List.set_cons_zero, List.set_cons_succ]
        refine wpAnyK_ready (rs := [27]) (by kernel_rfl) (by simp) ?_
        refine AllReadyK.cons (o := { dst := some 105, op := Go.Op.buildSlice 35 3 #[(0, Go.Operand.tmp 88), (1, Go.Operand.tmp 94), (2, Go.Operand.tmp 104)], type := 35, pos := "ref.go:50", after := #[{ on := 10, ground := Go.Ground.data }, { on := 16, ground := Go.Ground.data }, { on := 26, ground := Go.Ground.data }], guard := none }) rfl (fun K hK => ?_) AllReadyK.nil
        go_simp
        refine hK.out _ _ (Till.of (bela (bela (bela (bela (Below.refl _ _))))).drew) ?_
        clear hK K
        try simp only [Act.put, List.setIfInBounds_toArray, List.set_cons_zero, List.set_cons_succ]
        refine wpAnyK_ready (rs := [28]) (by kernel_rfl) (by simp) ?_
        refine AllReadyK.cons (o := { dst := some 106, op := Go.Op.call { callee := Go.Callee.builtin Go.Builtin.append, args := #[Go.Operand.tmp 82, Go.Operand.tmp 105], argTypes := #[35, 35] }, type := 35, pos := "ref.go:50", after := #[{ on := 4, ground := Go.Ground.data }, { on := 27, ground := Go.Ground.data }, { on := 24, ground := Go.Ground.chain }], guard := none }) rfl (fun K hK => ?_) AllReadyK.nil
        refine step_append_own rfl (.tmp 82) (.tmp 105) 35 rfl 0 26 i0 (.slice none 0 0) 1 24 Try.underlying35 hi0 hz0 hz1 hz2 rfl (by decide) (.slice ac qc cc) qc (lst hs2 (qc * 1)) (by rfl) (HOWN.out _ (bela (bela (bela (bela (Below.refl _ _))))).drew) ⟨w4.heap.size + 1 + 1 + 1, 0, none⟩ 3 3 [_, _, _] (by rfl) rfl (three_at _ _ rfl (by simp)) (by intro u hu; simp at hu; rcases hu with rfl | rfl | rfl <;> rfl) (by unfold maxLen; omega) (by omega) (Nat.zero_le _) ?_
        intro v6 w6 g1 g2 g3; obtain ⟨⟨av, cv6, rfl⟩, z1, z2, HF⟩ := HPUT.out _ _ _ _ _ _ (bela (bela (bela (bela (Below.refl _ _))))).drew (by first | exact New.drew (rowp0 (by rfl) (by rfl)) | exact New.drew (rowp1 (by rfl) (by rfl)) | exact New.drew (rowp2 (by rfl) (by rfl))) (by first | exact New.drew (rowp0 (by rfl) (by rfl)) | exact New.drew (rowp1 (by rfl) (by rfl)) | exact New.drew (rowp2 (by rfl) (by rfl))) (by first | exact New.drew (rowp0 (by rfl) (by rfl)) | exact New.drew (rowp1 (by rfl) (by rfl)) | exact New.drew (rowp2 (by rfl) (by rfl))) g1 g2 g3; clear g1 g2 g3
        refine hK.out _ _ (Till.late (by kernel_rfl)) ?_
        clear hK K
        try simp only [Act.put, List.setIfInBounds_toArray, List.set_cons_zero, List.set_cons_succ]
        refine wpAnyK_take0 (i := 29) (oi := { dst := some 107, op := Go.Op.nilCheck (Go.Operand.tmp 78), type := 0, pos := "ref.go:50", after := #[{ on := 0, ground := Go.Ground.data }, { on := 0, ground := Go.Ground.phase }, { on := 1, ground := Go.Ground.phase }, { on := 2, ground := Go.Ground.phase }, { on := 3, ground := Go.Ground.phase }, { on := 4, ground := Go.Ground.phase }, { on := 5, ground := Go.Ground.phase }, { on := 6, ground := Go.Ground.phase }, { on := 7, ground := Go.Ground.phase }, { on := 8, ground := Go.Ground.phase }, { on := 9, ground := Go.Ground.phase }, { on := 10, ground := Go.Ground.phase }, { on := 11, ground := Go.Ground.phase }, { on := 12, ground := Go.Ground.phase }, { on := 13, ground := Go.Ground.phase }, { on := 14, ground := Go.Ground.phase }, { on := 15, ground := Go.Ground.phase }, { on := 16, ground := Go.Ground.phase }, { on := 17, ground := Go.Ground.phase }, { on := 18, ground := Go.Ground.phase }, { on := 19, ground := Go.Ground.phase }, { on := 20, ground := Go.Ground.phase }, { on := 21, ground := Go.Ground.phase }, { on := 22, ground := Go.Ground.phase }, { on := 23, ground := Go.Ground.phase }, { on := 24, ground := Go.Ground.phase }, { on := 25, ground := Go.Ground.phase }, { on := 26, ground := Go.Ground.phase }, { on := 27, ground := Go.Ground.phase }, { on := 28, ground := Go.Ground.phase }], guard := none }) (v := .pointer (some ⟨R, 0, none⟩)) rfl (by kernel_rfl) (by kernel_rfl) (by kernel_rfl) (fun _ _ _ h => h) (by decide) ⟨rfl, rfl⟩ (by intro w; go_simp) (Till.late (by kernel_rfl)) ?_
        try simp only [Act.put, List.setIfInBounds_toArray, List.set_cons_zero, List.set_cons_succ]
        refine wpAnyK_take0 (i := 30) (oi := { dst := some 108, op := Go.Op.fieldAddr 39 (Go.Operand.tmp 107) 2, type := 0, pos := "ref.go:50", after := #[{ on := 29, ground := Go.Ground.data }, { on := 0, ground := Go.Ground.phase }, { on := 1, ground := Go.Ground.phase }, { on := 2, ground := Go.Ground.phase }, { on := 3, ground := Go.Ground.phase }, { on := 4, ground := Go.Ground.phase }, { on := 5, ground := Go.Ground.phase }, { on := 6, ground := Go.Ground.phase }, { on := 7, ground := Go.Ground.phase }, { on := 8, ground := Go.Ground.phase }, { on := 9, ground := Go.Ground.phase }, { on := 10, ground := Go.Ground.phase }, { on := 11, ground := Go.Ground.phase }, { on := 12, ground := Go.Ground.phase }, { on := 13, ground := Go.Ground.phase }, { on := 14, ground := Go.Ground.phase }, { on := 15, ground := Go.Ground.phase }, { on := 16, ground := Go.Ground.phase }, { on := 17, ground := Go.Ground.phase }, { on := 18, ground := Go.Ground.phase }, { on := 19, ground := Go.Ground.phase }, { on := 20, ground := Go.Ground.phase }, { on := 21, ground := Go.Ground.phase }, { on := 22, ground := Go.Ground.phase }, { on := 23, ground := Go.Ground.phase }, { on := 24, ground := Go.Ground.phase }, { on := 25, ground := Go.Ground.phase }, { on := 26, ground := Go.Ground.phase }, { on := 27, ground := Go.Ground.phase }, { on := 28, ground := Go.Ground.phase }], guard := none }) (v := .pointer (some ⟨R, 2, none⟩)) rfl (by kernel_rfl) (by kernel_rfl) (by kernel_rfl) (fun _ _ _ h => h) (by decide) ⟨rfl, rfl⟩ (by intro w; go_simp) (Till.late (by kernel_rfl)) ?_
        try simp only [Act.put, List.setIfInBounds_toArray, List.set_cons_zero, List.set_cons_succ]
        refine wpAnyK_ready (rs := [31]) (by kernel_rfl) (by simp) ?_
        refine AllReadyK.cons (o := { dst := none, op := Go.Op.store 35 (Go.Operand.tmp 108) (Go.Operand.tmp 106), type := 0, pos := "ref.go:50", after := #[{ on := 30, ground := Go.Ground.data }, { on := 28, ground := Go.Ground.data }, { on := 28, ground := Go.Ground.chain }, { on := 0, ground := Go.Ground.phase }, { on := 1, ground := Go.Ground.phase }, { on := 2, ground := Go.Ground.phase }, { on := 3, ground := Go.Ground.phase }, { on := 4, ground := Go.Ground.phase }, { on := 5, ground := Go.Ground.phase }, { on := 6, ground := Go.Ground.phase }, { on := 7, ground := Go.Ground.phase }, { on := 8, ground := Go.Ground.phase }, { on := 9, ground := Go.Ground.phase }, { on := 10, ground := Go.Ground.phase }, { on := 11, ground := Go.Ground.phase }, { on := 12, ground := Go.Ground.phase }, { on := 13, ground := Go.Ground.phase }, { on := 14, ground := Go.Ground.phase }, { on := 15, ground := Go.Ground.phase }, { on := 16, ground := Go.Ground.phase }, { on := 17, ground := Go.Ground.phase }, { on := 18, ground := Go.Ground.phase }, { on := 19, ground := Go.Ground.phase }, { on := 20, ground := Go.Ground.phase }, { on := 21, ground := Go.Ground.phase }, { on := 22, ground := Go.Ground.phase }, { on := 23, ground := Go.Ground.phase }, { on := 24, ground := Go.Ground.phase }, { on := 25, ground := Go.Ground.phase }, { on := 26, ground := Go.Ground.phase }, { on := 27, ground := Go.Ground.phase }, { on := 28, ground := Go.Ground.phase }], guard := none }) rfl (fun K hK => ?_) AllReadyK.nil
        go_simp
        refine hK.out _ _ (Till.late (by kernel_rfl)) ?_
        clear hK K
        try simp only [Act.put, List.setIfInBounds_toArray, List.set_cons_zero, List.set_cons_succ]
        refine wpAnyK_done (by kernel_rfl) ?_ _
        go_wp2
        go_end0
        obtain ⟨hs', TT⟩ := HF.out
        exact ⟨rfl, _, _, hs', Lib.hid TT⟩
      exact AllReadyK.nil
    exact AllReadyK.nil
  exact AllReadyK.nil
end Go.Proofs.Ytpniffcojmlboaa
