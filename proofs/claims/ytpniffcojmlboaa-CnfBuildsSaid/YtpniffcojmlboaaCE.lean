/- Contracts: need. -/
import Derived.Test.YtpniffcojmlboaaCD
import Derived.Test.YtpniffcojmlboaaMB
import Derived.Deep.LoopGhost
namespace Go.Proofs.Ytpniffcojmlboaa
open Go.RowKit Go.Lib Go.Maps
set_option maxRecDepth 100000

def wayV (W : List Nat) (j : Nat) : Value := .int .i64 (wayN W j : Nat)
/-- In the loop. -/
structure NL (w : World) (K G Mv : Nat) (fv : Value) (hs : Nat → Value) (m : Nat) (s : Gr) (Z : St) (wr : World) (fv' : Value) (hs' : Nat → Value) (wv : Value) (W : List Nat) (st : St) : Prop where
  T : CmT K G Mv w fv hs m wr fv' hs' st.1 st.2
  row : Sl wr 3 1 wv W.length (wayV W)
  new : ∀ b, wv.ownBlock = some b → w.heap.size ≤ b
  ap : ∀ b, wv.ownBlock = some b → ¬ Oc K Mv fv' st.2.length hs' b
  way : Way s Z st W m
variable {w wr w' : World} {K G M Mv : Nat} {v iv fv fv' wv : Value} {hs hs' : Nat → Value} {s : Gr} {m : Nat} {V W r : List Nat} {ls : List (List Int)} {Z st : St} {x : Nat}
theorem NL.quiet (h : NL w K G Mv fv hs m s Z wr fv' hs' wv W st) (hb : Below wr.heap.size wr w') : NL w K G Mv fv hs m s Z w' fv' hs' wv W st :=
  ⟨h.T.below hb, h.row.of_block fun b e => hb.block b (h.row.lt e), h.new, h.ap, h.way⟩
theorem NL.cell {a : Option Addr} {n c : Nat} (h : NL w K G Mv fv hs m s Z wr fv' hs' (.slice a n c) (x :: r) st) : ∃ g, a = some ⟨g, 0, none⟩ ∧ wr.cell? ⟨g, r.length, none⟩ = some (.int .i64 x) := by
  obtain ⟨g, c', e1, _, _, _⟩ := h.row.pos (by simp)
  cases e1
  refine ⟨g, rfl, ?_⟩
  rw [h.row.cell (j := r.length) (by simp), wayV, wayN_top]
/-- One node less. -/
theorem NL.pop {g c n : Nat} (h : NL w K G Mv fv hs m s Z wr fv' hs' (.slice (some ⟨g, 0, none⟩) n c) (x :: r) st) (hw : Way s Z st r m) : NL w K G Mv fv hs m s Z wr fv' hs' (.slice (some ⟨g, 0, none⟩) r.length c) r st :=
  ⟨h.T, (h.row.trunc (m' := r.length) (by simp)).congr fun j hj => by unfold wayV; rw [wayN_old x r (by omega)], fun b e => h.new b e, fun b e => h.ap b e, hw⟩
/-- One node more. -/
theorem NL.push {a2 : Option Addr} {c2 y k : Nat} (h : NL w K G Mv fv hs m s Z wr fv' hs' wv W st) (hk : k = W.length) {w1 w2 : World} (hb : Below wr.heap.size wr w1) (hF : Sl w2 3 1 (.slice a2 (k + 1) c2) (k + 1) (catV (wayV W) k (fun _ => .int .i64 (y : Nat)))) (hfr : Fr (fun b => wv.ownBlock = some b) w1 w2)
    (h3 : (Value.slice a2 (k + 1) c2).ownBlock = wv.ownBlock ∨ (Value.slice a2 (k + 1) c2).ownBlock = some w1.heap.size) (hw : Way s Z st (y :: W) m) : NL w K G Mv fv hs m s Z w2 fv' hs' (.slice a2 (k + 1) c2) (y :: W) st := by
  subst hk
  have ho : ∀ b, (Value.slice a2 (W.length + 1) c2).ownBlock = some b → wv.ownBlock = some b ∨ wr.heap.size ≤ b := fun b e => by
    rcases h3 with g | g
    · exact .inl (g ▸ e)
    · rw [g] at e; injection e with e; have := hb.size; exact .inr (by omega)
  replace hfr : Fr (fun b => wv.ownBlock = some b) wr w2 := (Fr.of_below hb).trans (hfr.weak fun _ _ e => e)
  have hsz := h.T.fr.size
  have hblk : ∀ b, Oc K Mv fv' st.2.length hs' b → w2.heap[b]? = wr.heap[b]? := fun b e => hfr.block b (h.T.cm.lt e) fun k => h.ap b k e
  refine ⟨⟨h.T.cm.of_block hfr.size hblk, h.T.fr.then hfr fun b e => .inr (h.new b e), h.T.own⟩, ?_, fun b e => (ho b e).elim (h.new b) fun e => by omega, fun b e k => (ho b e).elim (fun e => h.ap b e k) fun e => by have := h.T.cm.lt k; omega, hw⟩
  refine hF.congr fun j hj => ?_
  unfold catV wayV
  by_cases e : j < W.length
  · rw [if_pos e, wayN_old y W e]
  · rw [if_neg e, show j = W.length by omega, wayN_top]
/-- A node comes. -/
theorem NL.add {fv2 : Value} {hs2 : Nat → Value} (h : NL w K G Mv fv hs m s Z wr fv' hs' wv W st) {w2 : World} {st2 : St} (T : CmT K G Mv wr fv' hs' st.2.length w2 fv2 hs2 st2.1 st2.2) (hw : Way s Z st2 W m) : NL w K G Mv fv hs m s Z w2 fv2 hs2 wv W st2 := by
  exact ⟨h.T.trans T, h.row.of_block fun b e => T.fr.block b (h.row.lt e) (h.ap b e), h.new, fun b e k => (T.own b k).elim (h.ap b e) fun e2 => by have := h.row.lt e; omega, hw⟩
theorem NL.start (h : Cm w K G Mv fv hs V ls) (hs' : s.Ok) (hV : Vs s V) (hx : x ≤ s.n) : NL w K G Mv fv hs ls.length s (need s (V, ls) x) (w.alloc (.cells #[.int .i64 (x : Nat)] 3)) fv hs (.slice (some ⟨w.heap.size, 0, none⟩) 1 1) [x] (V, ls) := by
  refine ⟨h.refl.below ((Below.refl _ w).alloc (Nat.le_refl _) _), (Frs.made (e := 3) (Below.refl _ w) #[.int .i64 (x : Nat)] (wayV [x]) (fun j hj => ?_) (by unfold maxLen; simp)).own, fun b e => ?_, fun b e k => ?_, Way.start hs' hV hx⟩
  · obtain rfl : j = 0 := by simp at hj; omega
    rfl
  · injection e with e; simp at e; omega
  · injection e with e; simp at e; have := h.lt k; omega
/-- append of one that was just made. -/
theorem Sl.app1 {t e : TypeId} {bytes : Nat} (he : Elem t e bytes) {v : Value} {n : Nat} {F : Nat → Value} {w0 : World} (h : Hid (Sl w0 e 1 v n F)) (u : Value) (hu : u.oneCell' = true) (h63 : n + 1 ≤ maxLen) (hbytes : (n + 1) * bytes ≤ 140737488355328)
    {ops : Array Oper} {rest : List Oper} {o : Oper} {a : Act} {Q : Exit → Act → World → Prop} (hgd : o.guard = none) (s x : Operand)
    (ho : o.op = .call { callee := .builtin .append, args := #[s, x], argTypes := #[t, t] }) (hs : a.eval s = v) (hx : a.eval x = .slice (some ⟨w0.heap.size, 0, none⟩) 1 1)
    (k : ∀ a' c' w', Hid (Sl w' e 1 (.slice a' (n + 1) c') (n + 1) (catV F n (fun _ => u))) → Hid (Fr (fun b => v.ownBlock = some b) (w0.alloc (.cells #[u] e)) w') → Hid ((Value.slice a' (n + 1) c').ownBlock = v.ownBlock ∨ (Value.slice a' (n + 1) c').ownBlock = some (w0.alloc (.cells #[u] e)).heap.size) → wpList Try.prog ops Q rest (a.put o.dst (.slice a' (n + 1) c')) w') :
    wpList Try.prog ops Q (o :: rest) a (w0.alloc (.cells #[u] e)) := by
  refine Sl.app (G := fun _ => u) he h ((Below.refl _ w0).alloc (Nat.le_refl _) _) (.inr ⟨_, rfl, fun j hj => ⟨?_, hu⟩⟩) h63 hbytes hgd s x ho hs hx k
  obtain rfl : j = 0 := by omega
  exact one_at w0 w0.heap.size rfl rfl 0 u rfl
set_option maxHeartbeats 4000000 in
/-- need -/
theorem need_any (h : Cm w K G Mv fv hs V ls) (hg : Gm w G M v iv s) (ha : Apart G M v iv K Mv fv ls.length hs) (hn : s.n ≤ 100000) (hV : Vs s V) (hl : ls.length ≤ 100000) (n : Nat) (hnn : n ≤ s.n) :
    Calls Try.prog 31 #[.pointer (some ⟨K, 0, none⟩), .int .i64 n] w fun e w' => e = .returned (.tuple #[]) ∧ ∃ fv' hs', Hid (CmT K G Mv w fv hs ls.length w' fv' hs' (need s (V, ls) n).1 (need s (V, ls) n).2) := by
  have H0 := Lib.hid (NL.start h hg.ok hV hnn)
  generalize need s (V, ls) n = Z at *
  have HGA := Lib.hid (show ∀ wr fv' hs' (st : St), CmT K G Mv w fv hs ls.length wr fv' hs' st.1 st.2 → Gm wr G M v iv s ∧ Apart G M v iv K Mv fv' st.2.length hs' from fun wr fv' hs' st T => ha.gm hg T)
  have hok := Lib.hid hg.ok
  clear h hg ha hV
  go_enter Try.func31, Try.ntmps31
  go_wp2
  go_loopg [4] (mu s V [n]) (fun k wv wr => ∃ (W : List Nat) (st : St) (fv' : Value) (hs' : Nat → Value) (a : Option Addr) (c : Nat), wv = .slice a W.length c ∧ Hid (k = mu s st.1 W) ∧ Hid (NL w K G Mv fv hs ls.length s Z wr fv' hs' (.slice a W.length c) W st))
  case atStart => exact ⟨[n], (V, ls), fv, hs, _, _, rfl, Lib.hid rfl, H0⟩
  case round =>
    obtain ⟨W, st, fv', hs', a, c, rfl, HK, HR⟩ := hrel
    cases W with
    | nil =>
      obtain ⟨n0, hn0⟩ : ∃ n0 : Nat, n0 = 0 := ⟨0, rfl⟩
      rw [show ([] : List Nat).length = n0 from hn0.symm] at HR ⊢
      have hz : ¬ (0 : Int) < (n0 : Int) := by omega
      go_wp2
      go_end0
      have hf : st = Z := HR.out.way.fin
      subst hf
      exact ⟨rfl, _, _, Lib.hid HR.out.T⟩
    | cons x r =>
      obtain ⟨q, hq⟩ : ∃ q, q = r.length := ⟨_, rfl⟩
      have hqs : q ≤ 100000 := by have := HR.out.way.short; simp at this; omega
      obtain ⟨g, rfl, hc⟩ := HR.out.cell
      have hx := HR.out.way.le x (by simp)
      have hV2 := HR.out.way.vs.few
      have hl2 := HR.out.way.len
      obtain ⟨hgm, hap⟩ := HGA.out _ _ _ _ HR.out.T
      have c0 := HR.out.T.cm.c0
      have HN := Lib.hid (node_any hgm hn x (by omega))
      rw [ndO_nat s hx] at HN
      have HND := Lib.hid (show ∀ w2 (k : Nat), k ≤ 1000000 → Below wr.heap.size wr w2 → Calls Try.prog 40 #[.pointer (some ⟨K, 0, none⟩), .int .i64 k] w2 fun e w' => e = .returned (.bool (decide (k ∈ st.1))) ∧ w2 = w' from fun w2 k hk hb => needed_any (HR.out.T.cm.below hb) k hk)
      have HADD := Lib.hid (show x ∉ st.1 → ∀ w2, Below wr.heap.size wr w2 → Calls Try.prog 41 #[.pointer (some ⟨K, 0, none⟩), .int .i64 x] w2 fun e w' => e = .returned (.tuple #[]) ∧ ∃ fv2 hs2, Hid (CmT K G Mv w2 fv' hs' st.2.length w' fv2 hs2 (put s st x).1 (put s st x).2) from fun hx0 w2 hb =>
        add_any (HR.out.T.cm.below hb) (hgm.below hb) hap hn (by omega) (by omega) x hx hx0)
      have HCB := Lib.hid (show ∀ w2, Below wr.heap.size wr w2 → w2.cell? ⟨g, r.length, none⟩ = some (.int .i64 x) from fun w2 hb => by
        obtain ⟨g', e1, e2⟩ := (HR.out.quiet hb).cell
        cases e1; exact e2)
      rw [show (x :: r).length = r.length + 1 from rfl] at HR ⊢
      rw [← hq] at hc HR ⊢
      have hql : (0 : Int) < ((q + 1 : Nat) : Int) := by omega
      have hqc : q + 1 ≤ c := by
        obtain ⟨g', c', e1, e2, _⟩ := HR.out.row.pos (by simp)
        cases e1; simpa [hq] using e2
      have hqc0 : (q : Int) ≤ (c : Int) := by omega
      have hqc1 : ¬ (c : Int) < (q : Int) := by omega
      have HQ := Lib.hid hq
      clear hgm hap hV2 hl2 hq HCB
      by_cases hin : x ∈ st.1
      · have HX := Lib.hid (show ∀ w2, Below wr.heap.size wr w2 → Calls Try.prog 40 #[.pointer (some ⟨K, 0, none⟩), .int .i64 x] w2 fun e w' => e = .returned (.bool true) ∧ w2 = w' from fun w2 hb => by have := HND.out w2 x (by omega) hb; rwa [decide_eq_true hin] at this)
        obtain ⟨o, ho⟩ : ∃ o, o = nd s x := ⟨_, rfl⟩
        rw [← ho] at HN
        obtain ⟨ta, tb, tc, htt⟩ : ∃ ta tb tc, ndT o = .tuple #[.int .i64 ta, .int .i64 tb, .bool tc] := ⟨_, _, _, rfl⟩
        rw [htt] at HN
        have HP := Lib.hid hin
        clear ho htt hin
        go_wp2_with (first
          | (go_at_call 21; refine HN.out.mono ?_; rintro e w2 ⟨rfl, hb2⟩; have HB2 := Lib.hid hb2; clear hb2)
          | (go_at_call 40; (with_reducible refine (HX.out _ HB2.out).mono ?_); rintro e w' ⟨rfl, rfl⟩))
        obtain ⟨hw, hm⟩ := HR.out.way.pop HP.out
        go_roundg (mu s st.1 r)
        case measure => rw [HK.out]; exact hm
        case rel => exact ⟨r, st, fv', hs', _, _, by rw [HQ.out], Lib.hid rfl, Lib.hid (by have := (HR.out.quiet HB2.out).pop hw; rwa [← HQ.out] at *)⟩
      · have HX := Lib.hid (show ∀ w2, Below wr.heap.size wr w2 → Calls Try.prog 40 #[.pointer (some ⟨K, 0, none⟩), .int .i64 x] w2 fun e w' => e = .returned (.bool false) ∧ w2 = w' from fun w2 hb => by have := HND.out w2 x (by omega) hb; rwa [decide_eq_false hin] at this)
        have HP := Lib.hid hin
        have HSL := Lib.hid (show ∀ w2, Below wr.heap.size wr w2 → Hid (Sl w2 3 1 (.slice (some ⟨g, 0, none⟩) (q + 1) c) (q + 1) (wayV (x :: r))) from fun w2 hb => Lib.hid (by have := (HR.out.quiet hb).row; rwa [show (x :: r).length = q + 1 by rw [HQ.out]; rfl] at this))
        cases e : nd s x with
        | none =>
          rw [e, show ndT none = .tuple #[.int .i64 0, .int .i64 0, .bool false] from rfl] at HN
          have HW := Lib.hid (HR.out.way.put hok.out hin fun a b k => by rw [e] at k; cases k)
          clear hin e
          go_wp2_with (first
            | (go_at_call 21; refine HN.out.mono ?_; rintro e w2 ⟨rfl, hb2⟩; have HB2 := Lib.hid hb2; clear hb2)
            | (go_at_call 40; (with_reducible refine (HX.out _ HB2.out).mono ?_); rintro e w' ⟨rfl, rfl⟩)
            | (go_at_call 41; refine (HADD.out HP.out _ HB2.out).mono ?_; rintro e w3 ⟨rfl, fv2, hs2, T2⟩))
          go_roundg (mu s (put s st x).1 (x :: r))
          case measure => rw [HK.out]; exact HW.out.2
          case rel => exact ⟨x :: r, put s st x, fv2, hs2, _, c, by rw [HQ.out]; rfl, Lib.hid rfl, Lib.hid (by have := (HR.out.quiet HB2.out).add T2.out HW.out.1; rwa [show (x :: r).length = q + 1 by rw [HQ.out]; rfl])⟩
        | some p =>
          obtain ⟨a, b⟩ := p
          obtain ⟨hla, hlb, hla2, hlb2, _, _⟩ := nd_lt hok.out hx e
          rw [e, show ndT (some (a, b)) = .tuple #[.int .i64 a, .int .i64 b, .bool true] from rfl] at HN
          have HA := HND.out
          have HBb := HND.out
          have hf := fun h => HR.out.way.first hok.out hin e h
          have hs2 := fun h h2 => HR.out.way.second hok.out hin e h h2
          have hpt := fun h1 h2 => HR.out.way.put hok.out hin fun a' b' k => by rw [e] at k; cases k; exact ⟨h1, h2⟩
          have t1 : ((a : Int)).tdiv 2 = ((a / 2 : Nat) : Int) := by rw [Int.tdiv_eq_ediv_of_nonneg (by omega)]; omega
          have t2 : ((b : Int)).tdiv 2 = ((b / 2 : Nat) : Int) := by rw [Int.tdiv_eq_ediv_of_nonneg (by omega)]; omega
          have t3 : (a : Int) / 2 = ((a / 2 : Nat) : Int) := by omega
          have t4 : (b : Int) / 2 = ((b / 2 : Nat) : Int) := by omega
          replace HA := fun w2 => HA w2 (a / 2) (by omega)
          replace HBb := fun w2 => HBb w2 (b / 2) (by omega)
          clear hin e hla hlb
          generalize a / 2 = ua at *
          generalize b / 2 = ub at *
          by_cases k1 : ua ∈ st.1
          · rw [decide_eq_true k1] at HA
            by_cases k2 : ub ∈ st.1
            · rw [decide_eq_true k2] at HBb
              have HW := Lib.hid (hpt k1 k2)
              replace HA := Lib.hid HA
              replace HBb := Lib.hid HBb
              clear hf hs2 hpt k1 k2
              go_wp2_with (first
                | (go_at_call 21; refine HN.out.mono ?_; rintro e w2 ⟨rfl, hb2⟩; have HB2 := Lib.hid hb2; clear hb2)
                | (go_at_call 40; (with_reducible refine (HX.out _ HB2.out).mono ?_); rintro e w' ⟨rfl, rfl⟩)
                | (go_at_call 40; (with_reducible refine (HA.out _ HB2.out).mono ?_); rintro e w' ⟨rfl, rfl⟩)
                | (go_at_call 40; (with_reducible refine (HBb.out _ HB2.out).mono ?_); rintro e w' ⟨rfl, rfl⟩)
                | (go_at_call 41; refine (HADD.out HP.out _ HB2.out).mono ?_; rintro e w3 ⟨rfl, fv2, hs2, T2⟩))
              go_roundg (mu s (put s st x).1 (x :: r))
              case measure => rw [HK.out]; exact HW.out.2
              case rel => exact ⟨x :: r, put s st x, fv2, hs2, _, c, by rw [HQ.out]; rfl, Lib.hid rfl, Lib.hid (by have := (HR.out.quiet HB2.out).add T2.out HW.out.1; rwa [show (x :: r).length = q + 1 by rw [HQ.out]; rfl])⟩
            · rw [decide_eq_false k2] at HBb
              have HW := Lib.hid (hs2 k1 k2)
              replace HA := Lib.hid HA
              replace HBb := Lib.hid HBb
              clear hf hs2 hpt k1 k2
              go_wp2_with (first
                | (go_at_call 21; refine HN.out.mono ?_; rintro e w2 ⟨rfl, hb2⟩; have HS := HSL.out _ hb2; have HB2 := Lib.hid hb2; clear hb2)
                | (go_at_call 40; (with_reducible refine (HX.out _ HB2.out).mono ?_); rintro e w' ⟨rfl, rfl⟩)
                | (go_at_call 40; (with_reducible refine (HA.out _ HB2.out).mono ?_); rintro e w' ⟨rfl, rfl⟩)
                | (go_at_call 40; (with_reducible refine (HBb.out _ HB2.out).mono ?_); rintro e w' ⟨rfl, rfl⟩)
                | (at_builtin; refine Sl.app1 elemInt HS (.int .i64 (ub : Nat)) rfl (by unfold maxLen; omega) (by omega) rfl _ _ rfl rfl rfl ?_; intro a3 c3 w3 H1 H2 H3))
              go_roundg (mu s st.1 (ub :: x :: r))
              case measure => rw [HK.out]; exact HW.out.2
              case rel => exact ⟨ub :: x :: r, st, fv', hs', a3, c3, by simp [HQ.out], Lib.hid rfl, Lib.hid (by have := HR.out.push (by rw [HQ.out]; rfl) (HB2.out.alloc HB2.out.size _) H1.out H2.out H3.out HW.out.1; rwa [show (ub :: x :: r).length = q + 1 + 1 by rw [HQ.out]; rfl])⟩
          · rw [decide_eq_false k1] at HA
            have HW := Lib.hid (hf k1)
            replace HA := Lib.hid HA
            replace HBb := Lib.hid HBb
            clear hf hs2 hpt k1
            go_wp2_with (first
              | (go_at_call 21; refine HN.out.mono ?_; rintro e w2 ⟨rfl, hb2⟩; have HS := HSL.out _ hb2; have HB2 := Lib.hid hb2; clear hb2)
              | (go_at_call 40; (with_reducible refine (HX.out _ HB2.out).mono ?_); rintro e w' ⟨rfl, rfl⟩)
              | (go_at_call 40; (with_reducible refine (HA.out _ HB2.out).mono ?_); rintro e w' ⟨rfl, rfl⟩)
              | (go_at_call 40; (with_reducible refine (HBb.out _ HB2.out).mono ?_); rintro e w' ⟨rfl, rfl⟩)
              | (at_builtin; refine Sl.app1 elemInt HS (.int .i64 (ua : Nat)) rfl (by unfold maxLen; omega) (by omega) rfl _ _ rfl rfl rfl ?_; intro a3 c3 w3 H1 H2 H3))
            go_roundg (mu s st.1 (ua :: x :: r))
            case measure => rw [HK.out]; exact HW.out.2
            case rel => exact ⟨ua :: x :: r, st, fv', hs', a3, c3, by simp [HQ.out], Lib.hid rfl, Lib.hid (by have := HR.out.push (by rw [HQ.out]; rfl) (HB2.out.alloc HB2.out.size _) H1.out H2.out H3.out HW.out.1; rwa [show (ua :: x :: r).length = q + 1 + 1 by rw [HQ.out]; rfl])⟩
end Go.Proofs.Ytpniffcojmlboaa
