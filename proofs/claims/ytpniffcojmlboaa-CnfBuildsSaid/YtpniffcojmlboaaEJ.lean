/- The law CnfBuilds: its first loop. -/
import Derived.Test.YtpniffcojmlboaaEI
import Derived.Test.YtpniffcojmlboaaMD
import Derived.Test.YtpniffcojmlboaaEF
import Derived.Test.YtpniffcojmlboaaEH
namespace Go.Proofs.Ytpniffcojmlboaa
open Go.RowKit Go.Lib Go.Maps
set_option maxRecDepth 100000

variable {w0 w w1 w2 : World} {G M K Mv T R q nx ny : Nat} {v iv fv ev tv lv cv dv xv yv dv' : Value} {s : Gr} {fh rh dh X Y : Nat → Value} {V U : List Nat} {ls C D : List (List Int)} {F : Nat → Int}
/-- It begins. -/
theorem Lb.new {w3 w4 : World} {Fn : Nat → Nat} (h : Md w0 w1 G M v iv s ev q Fn) (t : Tl w1 w2 T tv s) (c : Cn w2 K G Mv w3 fv fh [0] [[-1]]) (r : Rn w3 R T w4 lv cv rh [0] [[-1]]) :
    Lb w0 w4 G M v iv s K Mv fv fh [0] [[-1]] ev q (fun j => (Fn j : Int)) T tv R lv cv rh [0] [[-1]] (.slice none 0 0) [] (fun _ => .bool false) (.slice none 0 0) 0 (fun _ => .bool false) (.slice none 0 0) 0 (fun _ => .bool false) := by
  classical
  obtain ⟨κ, hκ⟩ : ∃ κ : Nat → Nat, κ = fun b => if b < w0.heap.size then 0 else if Bg G M v iv b then 1 else 3 := ⟨_, rfl⟩
  have hB : Base w0 w1 κ := ⟨h.lw.gn.bel, fun b e => ⟨Nat.lt_of_lt_of_le e h.lw.gn.bel.size, by rw [hκ]; exact if_pos e⟩, fun w' hw => by
    have h1 : Fr (fun b => w0.heap.size ≤ b) w1 w' := hw.weak fun b _ e => by omega
    exact h.lw.gn.bel.trans (h1.below h.lw.gn.bel.size fun _ e => e)⟩
  have hG : TG w1 κ G M v iv s := ⟨h.lw.gn.gm, fun b e => ⟨h.lw.gn.gm.lt e, by rw [hκ]; show (if _ then _ else _) = 1; rw [if_neg (by have := h.lw.gn.new b e; omega), if_pos e]⟩, fun w' hw => gm_st h.lw.gn.gm hw⟩
  have hE : TS w1 κ 3 3 ev q (inI fun j => (Fn j : Int)) := ⟨h.lw.row.own, fun b e => ⟨h.lw.row.own.lt e, by rw [hκ]; show (if _ then _ else _) = 3; rw [if_neg (by have := h.lw.row.new b e; omega), if_neg (h.lw.ap b e)]⟩, fun w' hw => sl_st h.lw.row.own hw⟩
  obtain ⟨κ1, o1, t1⟩ := Ti.new (O := fun b => b = T ∨ tv.ownBlock = some b) (P := fun w => Rg w T tv s) κ 4 t.bel t.new t.rg (fun b e => t.rg.lt e) fun w2 k => rg_st t.rg k
  obtain ⟨κ2, o2, c2⟩ := TM.new κ1 c
  obtain ⟨κ3, o3, r3⟩ := Ti.new (O := Om R lv cv ([[-1]] : List (List Int)).length rh) (P := fun w => Rm w R T lv cv rh [0] [[-1]]) κ2 5 r.bel r.new r.rm (fun b e => r.rm.lt e) fun w2 k => rm_st r.rm k
  exact ⟨κ3, Ti.keep (Ti.keep (Ti.keep hB o1 (by decide)) o2 (by decide)) o3 (by decide), Ti.keep (Ti.keep (Ti.keep hG o1 (by decide)) o2 (by decide)) o3 (by decide), Ti.keep c2 o3 (by decide), Ti.keep (Ti.keep (Ti.keep hE o1 (by decide)) o2 (by decide)) o3 (by decide), Ti.keep (Ti.keep t1 o2 (by decide)) o3 (by decide), r3, TS.nil _ _ _ _ _, ⟨fun j hj => absurd hj (Nat.not_lt_zero _), fun b ⟨j, hj, _⟩ => absurd hj (Nat.not_lt_zero _), fun _ _ j hj => absurd hj (Nat.not_lt_zero _)⟩, TS.nil _ _ _ _ _, TS.nil _ _ _ _ _⟩
theorem Lb.dv_take (h : Lb w0 w G M v iv s K Mv fv fh V ls ev q F T tv R lv cv rh U C dv D dh xv nx X yv ny Y) (T0 : Taken w K G Mv fv fh w1 V ls) : Sl w1 26 1 dv D.length dh := by
  obtain ⟨κ, base, g, m, e, t, r, d, o, x, y⟩ := h.all
  obtain ⟨κ', o', _⟩ := m.take3 T0
  exact TS.sl (Ti.keep d o' (by decide))
theorem Rws.src {a : Option Addr} {n c : Nat} (h : Rws w (.slice a n c) fh ls) (hn : n = ls.length) : Src w a n c fh := by
  subst hn
  rcases h.sl with ⟨e, h0⟩ | ⟨g, c', F', e, _, _, h4, h5⟩
  · injection e with e1 e2 e3; exact .inl ⟨e1, h0, e3⟩
  · injection e with e1 e2 e3
    subst e1
    refine .inr ⟨_, rfl, fun j hj => ⟨?_, row_one (h.row j hj)⟩⟩
    rw [adr, Nat.zero_add]; exact h.sl.cell (j := j) (by omega)
/-- Lit, in the law's memory -/
theorem Lb.lit (h : Lb w0 w G M v iv s K Mv fv fh V ls ev q F T tv R lv cv rh U C dv D dh xv nx X yv ny Y) (hn : s.n ≤ 1000) (hV : Vs s V) (hl : ls.length ≤ 100000) (e : Nat) (he : e < 2 * (s.n + 1)) :
    Calls Try.prog 11 #[.pointer (some ⟨K, 0, none⟩), .int .i64 e] w fun r w' => r = .returned (.int .i64 (Go.Proofs.Ytpniffcojmlboaa.lit (need s (V, ls) (e / 2)).1 e)) ∧ ∃ fv' fh', Hid (Lb w0 w' G M v iv s K Mv fv' fh' (need s (V, ls) (e / 2)).1 (need s (V, ls) (e / 2)).2 ev q F T tv R lv cv rh U C dv D dh xv nx X yv ny Y) :=
  (lit_any h.cm h.gm h.apart (by omega) hV hl e he).mono fun r w' ⟨h1, fv', hs', T⟩ => ⟨h1, fv', hs', Lib.hid (h.maker T.out)⟩
theorem Lb.litN (h : Lb w0 w G M v iv s K Mv fv fh V ls ev q F T tv R lv cv rh U C dv D dh xv nx X yv ny Y) (hn : s.n ≤ 1000) (hV : Vs s V) (hl : ls.length ≤ 100000) :
    Calls Try.prog 11 #[.pointer (some ⟨K, 0, none⟩), .int .i64 (-5)] w fun r w' => r = .returned (.int .i64 1) ∧ ∃ fv' fh', Hid (Lb w0 w' G M v iv s K Mv fv' fh' V ls ev q F T tv R lv cv rh U C dv D dh xv nx X yv ny Y) :=
  (lit_neg h.cm h.gm h.apart (by omega) hV hl (-5) (by omega)).mono fun r w' ⟨h1, fv', hs', T⟩ => ⟨h1, fv', hs', Lib.hid (h.maker T.out)⟩
theorem Lb.litR (h : Lb w0 w G M v iv s K Mv fv fh V ls ev q F T tv R lv cv rh U C dv D dh xv nx X yv ny Y) (hn : s.n ≤ 1000) (hU : Vs s U) (hl : C.length ≤ 3 * U.length) (e : Nat) (he : e < 2 * (s.n + 1)) :
    Calls Try.prog 12 #[.pointer (some ⟨R, 0, none⟩), .int .i64 e] w fun r w' => r = .returned (.int .i64 (Go.Proofs.Ytpniffcojmlboaa.lit (need s (U, C) (e / 2)).1 e)) ∧ ∃ lv' cv' rh', Hid (Lb w0 w' G M v iv s K Mv fv fh V ls ev q F T tv R lv' cv' rh' (need s (U, C) (e / 2)).1 (need s (U, C) (e / 2)).2 dv D dh xv nx X yv ny Y) :=
  (rLit_any h.gm.ok hn h.rm h.rg h.rapart hU hl e he).mono fun r w' ⟨h1, lv', cv', hs', T⟩ => ⟨h1, lv', cv', hs', Lib.hid (h.ref T.out)⟩
end Go.Proofs.Ytpniffcojmlboaa
