/- The laws' memory: a graph, its maker, a list of edges, a list of literals. -/
import Derived.Test.YtpniffcojmlboaaDB
namespace Go.Proofs.Ytpniffcojmlboaa
open Go.RowKit Go.Lib Go.Maps
set_option maxRecDepth 100000

def TM (w : World) (κ : Nat → Nat) (K G Mv : Nat) (fv : Value) (hs : Nat → Value) (V : List Nat) (ls : List (List Int)) : Prop := Ti w κ 2 (Oc K Mv fv ls.length hs) (fun w => Cm w K G Mv fv hs V ls)
def TR (w : World) (κ : Nat → Nat) (i : Nat) (v : Value) (hs : Nat → Value) (ls : List (List Int)) : Prop := Ti w κ i (Orw v ls.length hs) (fun w => Rws w v hs ls)
variable {w0 w w' : World} {κ κ' : Nat → Nat} {i G M K Mv : Nat} {v iv fv v' iv' fv' : Value} {hs hs' : Nat → Value} {s s' : Gr} {V V' : List Nat} {ls ls' : List (List Int)}
theorem cm_st (h : Cm w K G Mv fv hs V ls) (k : Fr (fun b => ¬ Oc K Mv fv ls.length hs b) w w') : Cm w' K G Mv fv hs V ls := h.of_block k.size fun b e => k.block b (h.lt e) fun hn => hn e
theorem rws_st (h : Rws w v hs ls) (k : Fr (fun b => ¬ Orw v ls.length hs b) w w') : Rws w' v hs ls := h.of_block k.size fun b e => k.block b (h.lt e) fun hn => hn e
theorem TM.cm (h : TM w κ K G Mv fv hs V ls) : Cm w K G Mv fv hs V ls := h.at'
theorem TR.rws (h : TR w κ i v hs ls) : Rws w v hs ls := h.at'
theorem TM.call (h : TM w κ K G Mv fv hs V ls) (T : CmT K G Mv w fv hs ls.length w' fv' hs' V' ls') : ∃ κ', Ot w κ 2 w' κ' ∧ TM w' κ' K G Mv fv' hs' V' ls' :=
  Ti.call h T.fr T.own T.cm (fun b e => T.cm.lt e) fun w2 k => cm_st T.cm k
theorem TM.new (κ : Nat → Nat) (h : Cn w K G Mv w' fv hs V ls) : ∃ κ', Ot w κ 2 w' κ' ∧ TM w' κ' K G Mv fv hs V ls :=
  Ti.new κ 2 h.bel h.new h.cm (fun b e => h.cm.lt e) fun w2 k => cm_st h.cm k
/-- What was taken gets a colour of its own. -/
theorem TM.take (h : TM w κ K G Mv fv hs V ls) (T : Taken w K G Mv fv hs w' V ls) (j : Nat) : ∃ κ', Ot w κ 2 w' κ' ∧ TM w' κ' K G Mv (.slice none 0 0) hs V [] ∧ TR w' κ' j fv hs ls := by
  have h1 : ∀ b, Oc K Mv (.slice none 0 0) ([] : List (List Int)).length hs b → b = K ∨ b = Mv := by
    rintro b ((e | e | e) | ⟨j, hj, _⟩)
    · exact .inl e
    · exact .inr e
    · cases e
    · exact absurd hj (Nat.not_lt_zero _)
  refine Ti.call2 h (T.fr.weak fun b _ e => .inl (.inl e)) (fun b e => .inl (.inl ((h1 b e).imp id .inl))) (fun b e => .inl (e.imp (fun e => .inr (.inr e)) id)) (fun b e k => ?_) T.cm (fun b e => T.cm.lt e) (fun w2 k => cm_st T.cm k) T.rws (fun b e => T.rws.lt e) (fun w2 k => rws_st T.rws k) j
  rcases k with k | ⟨j, hj, k⟩
  · rcases h1 b e with rfl | rfl
    · exact h.cm.n1 k
    · exact h.cm.n3 k
  · rcases h1 b e with rfl | rfl
    · exact h.cm.out j hj _ k (.inl rfl)
    · exact h.cm.out j hj _ k (.inr (.inl rfl))
theorem TG.apart (h : TG w κ G M v iv s) (k : TM w κ K G Mv fv hs V ls) : Apart G M v iv K Mv fv ls.length hs := fun b e e2 => by
  have h1 := (h.own b e).2
  have h2 := (k.own b e2).2
  omega
/-- A slice of its own, of edges or literals. -/
def inI (F : Nat → Int) (j : Nat) : Value := .int .i64 (F j)
def HasI (w : World) (a : Option Addr) (n : Nat) (g : Nat → Int) : Prop := n = 0 ∨ ∃ b off, a = some ⟨b, off, none⟩ ∧ b < w.heap.size ∧ ∀ j, j < n → w.cell? ⟨b, off + j, none⟩ = some (.int .i64 (g j))
theorem HasI.below {a : Option Addr} {n : Nat} {g : Nat → Int} (h : HasI w a n g) (hb : Below w.heap.size w w') : HasI w' a n g := by
  rcases h with h | ⟨b, off, ha, hlt, hc⟩
  · exact .inl h
  · exact .inr ⟨b, off, ha, Nat.lt_of_lt_of_le hlt hb.size, fun j hj => by rw [← hc j hj]; exact hb.cell (p := ⟨b, off + j, none⟩) hlt⟩
theorem Sl.hasI {a : Option Addr} {n c : Nat} {F : Nat → Int} (h : Sl w 3 1 (.slice a n c) n (inI F)) : HasI w a n F := by
  by_cases h0 : n = 0
  · exact .inl h0
  · obtain ⟨g, rfl, hlt, hc⟩ := h.cells1 (by omega)
    exact .inr ⟨g, 0, rfl, hlt, fun j hj => by rw [Nat.zero_add]; exact hc j hj⟩
theorem Row.hasI {a : Option Addr} {n c : Nat} {l : List Int} (h : Row w (.slice a n c) l) : n = l.length ∧ HasI w a n (fun j => l.getD j 0) := by
  obtain ⟨b, e, hb, hc⟩ := h
  cases e
  refine ⟨rfl, .inr ⟨b, 0, rfl, hb, fun j hj => ?_⟩⟩
  rw [Nat.zero_add, hc j hj]
  simp [hj]
theorem Row.shape {l : List Int} (h : Row w v l) : ∃ a c, v = .slice a l.length c := by
  obtain ⟨b, e, _⟩ := h
  exact ⟨_, _, e⟩

/-- The memory. -/
structure Lo (w0 wr : World) (G M : Nat) (v iv : Value) (s : Gr) (K Mv : Nat) (fv : Value) (hs : Nat → Value) (V : List Nat) (ls : List (List Int)) (ev : Value) (n : Nat) (F : Nat → Int) (lv : Value) (m : Nat) (Lf : Nat → Int) : Prop where
  all : ∃ κ, Base w0 wr κ ∧ TG wr κ G M v iv s ∧ TM wr κ K G Mv fv hs V ls ∧ TS wr κ 3 3 ev n (inI F) ∧ TS wr κ 4 3 lv m (inI Lf)
variable {ev ev' lv lv' : Value} {n m : Nat} {F Lf : Nat → Int}
section
theorem Lo.gm (h : Lo w0 w G M v iv s K Mv fv hs V ls ev n F lv m Lf) : Gm w G M v iv s := by obtain ⟨κ, _, h, _⟩ := h.all; exact h.gm
theorem Lo.cm (h : Lo w0 w G M v iv s K Mv fv hs V ls ev n F lv m Lf) : Cm w K G Mv fv hs V ls := by obtain ⟨κ, _, _, h, _⟩ := h.all; exact h.cm
theorem Lo.apart (h : Lo w0 w G M v iv s K Mv fv hs V ls ev n F lv m Lf) : Apart G M v iv K Mv fv ls.length hs := by obtain ⟨κ, _, h, k, _⟩ := h.all; exact h.apart k
theorem Lo.bel (h : Lo w0 w G M v iv s K Mv fv hs V ls ev n F lv m Lf) : Below w0.heap.size w0 w := by obtain ⟨κ, h, _⟩ := h.all; exact h.at'
theorem Lo.es (h : Lo w0 w G M v iv s K Mv fv hs V ls ev n F lv m Lf) : Sl w 3 1 ev n (inI F) := by obtain ⟨κ, _, _, _, h, _⟩ := h.all; exact h.sl
theorem Lo.lits (h : Lo w0 w G M v iv s K Mv fv hs V ls ev n F lv m Lf) : Sl w 3 1 lv m (inI Lf) := by obtain ⟨κ, _, _, _, _, h⟩ := h.all; exact h.sl
theorem Lo.quiet (h : Lo w0 w G M v iv s K Mv fv hs V ls ev n F lv m Lf) (hb : Below w.heap.size w w') : Lo w0 w' G M v iv s K Mv fv hs V ls ev n F lv m Lf := by
  obtain ⟨κ, a, b, c, d, e⟩ := h.all
  exact ⟨κ, Ti.below a hb, Ti.below b hb, Ti.below c hb, Ti.below d hb, Ti.below e hb⟩
theorem Lo.maker (h : Lo w0 w G M v iv s K Mv fv hs V ls ev n F lv m Lf) (T : CmT K G Mv w fv hs ls.length w' fv' hs' V' ls') : Lo w0 w' G M v iv s K Mv fv' hs' V' ls' ev n F lv m Lf := by
  obtain ⟨κ, a, b, c, d, e⟩ := h.all
  obtain ⟨κ', o, c'⟩ := c.call T
  exact ⟨κ', Ti.keep a o (by decide), Ti.keep b o (by decide), c', Ti.keep d o (by decide), Ti.keep e o (by decide)⟩
theorem Lo.take (h : Lo w0 w G M v iv s K Mv fv hs V ls ev n F lv m Lf) (T : Taken w K G Mv fv hs w' V ls) : Lo w0 w' G M v iv s K Mv (.slice none 0 0) hs V [] ev n F lv m Lf := by
  obtain ⟨κ, a, b, c, d, e⟩ := h.all
  obtain ⟨κ', o, c', _⟩ := c.take T 9
  exact ⟨κ', Ti.keep a o (by decide), Ti.keep b o (by decide), c', Ti.keep d o (by decide), Ti.keep e o (by decide)⟩
theorem Lo.lay (h : Lo w0 w G M v iv s K Mv fv hs V ls ev n F lv m Lf) (T : GmT G M w v iv w' v' iv' s') : Lo w0 w' G M v' iv' s' K Mv fv hs V ls ev n F lv m Lf := by
  obtain ⟨κ, a, b, c, d, e⟩ := h.all
  obtain ⟨κ', o, b'⟩ := b.call T
  exact ⟨κ', Ti.keep a o (by decide), b', Ti.keep c o (by decide), Ti.keep d o (by decide), Ti.keep e o (by decide)⟩
theorem Lo.ees (h : Lo w0 w G M v iv s K Mv fv hs V ls ev n F lv m Lf) {n' : Nat} {F' : Nat → Int} (fr : Fr (fun b => ev.ownBlock = some b) w w') (own : ∀ b, ev'.ownBlock = some b → ev.ownBlock = some b ∨ w.heap.size ≤ b) (hs1 : Sl w' 3 1 ev' n' (inI F')) : Lo w0 w' G M v iv s K Mv fv hs V ls ev' n' F' lv m Lf := by
  obtain ⟨κ, a, b, c, d, e⟩ := h.all
  obtain ⟨κ', o, d'⟩ := d.call fr own hs1
  exact ⟨κ', Ti.keep a o (by decide), Ti.keep b o (by decide), Ti.keep c o (by decide), d', Ti.keep e o (by decide)⟩
theorem Lo.els (h : Lo w0 w G M v iv s K Mv fv hs V ls ev n F lv m Lf) {m' : Nat} {F' : Nat → Int} (fr : Fr (fun b => lv.ownBlock = some b) w w') (own : ∀ b, lv'.ownBlock = some b → lv.ownBlock = some b ∨ w.heap.size ≤ b) (hs1 : Sl w' 3 1 lv' m' (inI F')) : Lo w0 w' G M v iv s K Mv fv hs V ls ev n F lv' m' F' := by
  obtain ⟨κ, a, b, c, d, e⟩ := h.all
  obtain ⟨κ', o, e'⟩ := e.call fr own hs1
  exact ⟨κ', Ti.keep a o (by decide), Ti.keep b o (by decide), Ti.keep c o (by decide), Ti.keep d o (by decide), e'⟩
end
/-- It begins. -/
theorem Lo.new {Fn : Nat → Nat} (h : Lw w0 w G M v iv s ev n Fn) (k : Cn w K G Mv w' fv hs V ls) : Lo w0 w' G M v iv s K Mv fv hs V ls ev n (fun j => (Fn j : Int)) (.slice none 0 0) 0 (fun _ => 0) := by
  classical
  obtain ⟨κ, hκ⟩ : ∃ κ : Nat → Nat, κ = fun b => if b < w0.heap.size then 0 else if Bg G M v iv b then 1 else 3 := ⟨_, rfl⟩
  have hB : Base w0 w κ := ⟨h.gn.bel, fun b e => ⟨Nat.lt_of_lt_of_le e h.gn.bel.size, by rw [hκ]; exact if_pos e⟩, fun w' hw => by
    have h1 : Fr (fun b => w0.heap.size ≤ b) w w' := hw.weak fun b _ e => by omega
    exact h.gn.bel.trans (h1.below h.gn.bel.size fun _ e => e)⟩
  have hG : TG w κ G M v iv s := ⟨h.gn.gm, fun b e => ⟨h.gn.gm.lt e, by rw [hκ]; show (if _ then _ else _) = 1; rw [if_neg (by have := h.gn.new b e; omega), if_pos e]⟩, fun w' hw => gm_st h.gn.gm hw⟩
  have hE : TS w κ 3 3 ev n (inI fun j => (Fn j : Int)) := ⟨h.row.own, fun b e => ⟨h.row.own.lt e, by rw [hκ]; show (if _ then _ else _) = 3; rw [if_neg (by have := h.row.new b e; omega), if_neg (h.ap b e)]⟩, fun w' hw => sl_st h.row.own hw⟩
  obtain ⟨κ', o, c⟩ := TM.new κ k
  exact ⟨κ', Ti.keep hB o (by decide), Ti.keep hG o (by decide), c, Ti.keep hE o (by decide), TS.nil _ _ _ _ _⟩
/-- Lit, in the law's memory -/
theorem Lo.lit (h : Lo w0 w G M v iv s K Mv fv hs V ls ev n F lv m Lf) (hn : s.n ≤ 100000) (hV : Vs s V) (hl : ls.length ≤ 100000) (e : Nat) (he : e < 2 * (s.n + 1)) :
    Calls Try.prog 11 #[.pointer (some ⟨K, 0, none⟩), .int .i64 e] w fun r w' => r = .returned (.int .i64 (Go.Proofs.Ytpniffcojmlboaa.lit (need s (V, ls) (e / 2)).1 e)) ∧ ∃ fv' hs', Hid (Lo w0 w' G M v iv s K Mv fv' hs' (need s (V, ls) (e / 2)).1 (need s (V, ls) (e / 2)).2 ev n F lv m Lf) :=
  (lit_any h.cm h.gm h.apart hn hV hl e he).mono fun r w' ⟨h1, fv', hs', T⟩ => ⟨h1, fv', hs', Lib.hid (h.maker T.out)⟩
theorem Lo.takes (h : Lo w0 w G M v iv s K Mv fv hs V ls ev n F lv m Lf) :
    Calls Try.prog 14 #[.pointer (some ⟨K, 0, none⟩)] w fun r w' => (∃ a c, r = .returned (.slice a ls.length c)) ∧ Hid (Lo w0 w' G M v iv s K Mv (.slice none 0 0) hs V [] ev n F lv m Lf) :=
  (take_any h.cm).mono fun r w' ⟨h1, T⟩ => ⟨by obtain ⟨a, c, e, _⟩ := h.cm.sl.shape; exact ⟨a, c, by rw [h1, e]⟩, Lib.hid (h.take T.out)⟩
set_option maxHeartbeats 1000000 in
/-- Ints, of two lists that are the same -/
theorem ints_any {a a' : Option Addr} {n c c' : Nat} {g : Nat → Int} (h : HasI w a n g) (h' : HasI w a' n g) (hn : n ≤ 1000000) :
    Calls Try.prog 27 #[.slice a n c, .slice a' n c'] w fun e w' => e = .returned (.bool true) ∧ Below w.heap.size w w' := by
  have H := Lib.hid h
  have H' := Lib.hid h'
  clear h h'
  go_enter Try.func27, Try.ntmps27
  go_wp2
  go_loopw [5] (fun i wr => ∃ k : Nat, k ≤ n ∧ i = .int .i64 k ∧ Hid (Below w.heap.size w wr)) (fun i _ => n - (intOf i).toNat)
  case atStart => exact ⟨0, Nat.zero_le _, rfl, Lib.hid (Below.refl _ _)⟩
  case round =>
    obtain ⟨k, hk, rfl, HB⟩ := hrel
    by_cases hlt : k < n
    · have hltI : (k : Int) < (n : Int) := by omega
      rcases H.out.below HB.out with e | ⟨b, off, rfl, hb, hc⟩
      · omega
      rcases H'.out.below HB.out with e | ⟨b', off', rfl, hb', hc'⟩
      · omega
      have xa := hc k hlt
      have xb := hc' k hlt
      clear hc hc'
      generalize g k = gk at *
      go_wp2
      go_quiet (fail)
      go_wp2
      go_roundw
      case rel => exact ⟨k + 1, by omega, by go_num, Lib.hid (bel_drewN HB.out _)⟩
      case measure => simp [intOf]; omega
    · obtain rfl : k = n := by omega
      have hltI : ¬ (k : Int) < (k : Int) := by omega
      clear hlt
      go_wp2
      go_ret
      exact ⟨rfl, HB.out⟩
end Go.Proofs.Ytpniffcojmlboaa
