/- The law CnfOnce. -/
import Derived.Test.YtpniffcojmlboaaDE
namespace Go.Proofs.Ytpniffcojmlboaa
open Go.RowKit Go.Lib Go.Maps
set_option maxRecDepth 100000

theorem need_lenO {s : Gr} (hs : s.Ok) {st : St} {n N : Nat} (hn : n ≤ s.n) (h : N + st.2.length ≤ 3 * st.1.length) : N + (need s st n).2.length ≤ 3 * (need s st n).1.length :=
  (need_step hs (fun t => N + t.2.length ≤ 3 * t.1.length) (fun t n h hn e _ => by
    have h1 := put_len s t n
    have h2 : (put s t n).1.length = t.1.length + 1 := by simp [put]
    omega) n st hn h).1
/-- What holds of the first loop. -/
structure OP (s : Gr) (F : Nat → Nat) (k : Nat) (V : List Nat) (fl : List (List Int)) (Lf : Nat → Int) (N : Nat) : Prop where
  vs : Vs s V
  inn : ∀ j, j < k → F j / 2 ∈ V ∧ Lf j = lit V (F j)
  cnt : (N + fl.length) % 3 = 1
  len : N + fl.length ≤ 3 * V.length
  nil : 0 < k → fl = []
theorem OP.start (s : Gr) (F : Nat → Nat) : OP s F 0 [0] [[-1]] (fun _ => 0) 0 := ⟨vs_A s, fun j hj => absurd hj (Nat.not_lt_zero _), rfl, by simp, fun h => absurd h (Nat.lt_irrefl _)⟩
theorem OP.step {s : Gr} {F : Nat → Nat} {k : Nat} {V : List Nat} {fl : List (List Int)} {Lf : Nat → Int} {N : Nat} (h : OP s F k V fl Lf N) (ok : s.Ok) (hF : F k < 2 * (s.n + 1)) :
    OP s F (k + 1) (need s (V, fl) (F k / 2)).1 [] (fun j => if j < k then Lf j else lit (need s (V, fl) (F k / 2)).1 (F k)) (N + (need s (V, fl) (F k / 2)).2.length) := by
  obtain ⟨g, hm⟩ := need_gw ok (n := F k / 2) (V, fl) (by omega)
  refine ⟨h.vs.need ok (st := (V, fl)) (by omega), fun j hj => ?_, ?_, need_lenO ok (by omega) h.len, fun _ => rfl⟩
  · by_cases e : j < k
    · show _ ∧ (if j < k then _ else _) = _
      rw [if_pos e]
      obtain ⟨h1, h2⟩ := h.inn j e
      exact ⟨g.mem h1, by rw [h2, g.lit h1]⟩
    · obtain rfl : j = k := by omega
      show _ ∧ (if j < j then _ else _) = _
      rw [if_neg e]
      exact ⟨hm, rfl⟩
  · have := need_three ok (st := (V, fl)) (n := F k / 2) (by omega)
    have := h.cnt
    simp at *
    omega
variable {w0 w : World} {G M K Mv : Nat} {v iv fv : Value} {hs : Nat → Value} {s : Gr} {V : List Nat} {ls : List (List Int)} {ev lv : Value} {n m : Nat} {F Lf : Nat → Int}
/-- One literal more. -/
theorem Lo.lapp {w3 : World} {a3 : Option Addr} {c3 : Nat} {x : Int} (h : Lo w0 w G M v iv s K Mv fv hs V ls ev n F lv m Lf) (H1 : Sl w3 3 1 (.slice a3 (m + 1) c3) (m + 1) (catV (inI Lf) m (fun _ => .int .i64 x))) (H2 : Fr (fun b => lv.ownBlock = some b) (w.alloc (.cells #[.int .i64 x] 3)) w3)
    (H3 : (Value.slice a3 (m + 1) c3).ownBlock = lv.ownBlock ∨ (Value.slice a3 (m + 1) c3).ownBlock = some (w.alloc (.cells #[.int .i64 x] 3)).heap.size) :
    Lo w0 w3 G M v iv s K Mv fv hs V ls ev n F (.slice a3 (m + 1) c3) (m + 1) (fun j => if j < m then Lf j else x) := by
  refine h.els ((Fr.of_below ((Below.refl _ w).alloc (Nat.le_refl _) _)).trans (H2.weak fun _ _ e => e)) (fun b e => ?_) (H1.congr fun j hj => ?_)
  · rcases H3 with g3 | g3
    · exact .inl (g3 ▸ e)
    · rw [g3] at e; injection e with e; simp at e; exact .inr (by omega)
  · unfold catV inI
    show _ = Value.int .i64 (if j < m then Lf j else x)
    split <;> rfl
set_option maxHeartbeats 16000000 in
theorem once_walk (a0 : Option Addr) (n0 c0 : Nat) (K0 A0 B0 C0 : Nat → Int) (a1 : Option Addr) (n1 c1 : Nat) (f1 : Nat → Nat) (w : World) (h0 : n0 ≤ 25) (h1 : n1 ≤ 20) (hA0 : Acts w a0 n0 K0 A0 B0 C0) (hA1 : HasU w a1 n1 f1) :
    Calls Try.prog 4 #[.slice a0 n0 c0, .slice a1 n1 c1] w (laws w) := by
  have HAw := Lib.hid awake_any
  have HMd := Lib.hid (show ∀ w1, Below w.heap.size w w1 → Calls Try.prog 7 #[.slice a0 n0 c0] w1 fun e w' => ∃ G M v iv s a' c' F, e = .returned (.tuple #[.pointer (some ⟨G, 0, none⟩), .slice a' (n0 + 4) c']) ∧ Hid (Md w1 w' G M v iv s (.slice a' (n0 + 4) c') (n0 + 4) F) from fun w1 hb => made_any a0 n0 c0 _ _ _ _ w1 (by omega) (hA0.below hb))
  have HA := Lib.hid hA1
  obtain ⟨p0, hp0⟩ : ∃ p0, n0 + 4 = p0 + 1 := ⟨n0 + 3, rfl⟩
  have hnI : ¬ (25 : Int) < (n0 : Int) := by omega
  have hnJ : ¬ (20 : Int) < (n1 : Int) := by omega
  have hnD : decide ((25 : Int) < (n0 : Int)) = false := by simpa using hnI
  have hnE : decide ((20 : Int) < (n1 : Int)) = false := by simpa using hnJ
  rw [hp0] at HMd
  have hq1 : p0 ≤ 28 := by omega
  have HNEW := Lib.hid (show ∀ w1 w2 G M v iv s ev m F, Md w1 w2 G M v iv s ev m F → Calls Try.prog 9 #[.pointer (some ⟨G, 0, none⟩)] w2 fun e w' => ∃ K Mv fv hs, e = .returned (.pointer (some ⟨K, 0, none⟩)) ∧ Hid (Lo w1 w' G M v iv s K Mv fv hs [0] [[-1]] ev m (fun j => (F j : Int)) (.slice none 0 0) 0 (fun _ => 0)) from fun w1 w2 G M v iv s ev m F h =>
    (cnf_new w2 G).mono fun e w' ⟨K, Mv, fv, hs, h1, h2⟩ => ⟨K, Mv, fv, hs, h1, Lib.hid (Lo.new h.lw h2.out)⟩)
  clear hA0 hA1 hnI hnJ hp0
  go_enter Try.func4, Try.ntmps4
  go_wp2_with (first
    | (go_at_call 6; refine (HAw.out _).mono ?_; rintro e w1 ⟨rfl, hb1⟩; have HB1 := Lib.hid hb1; clear hb1)
    | (go_at_call 7; refine (HMd.out _ HB1.out).mono ?_; rintro e w2 ⟨G, M, v, iv, s, a', c', F, rfl, H2⟩)
    | (go_at_call 9; refine (HNEW.out _ _ _ _ _ _ _ _ _ _ H2.out).mono ?_; rintro e w3 ⟨K, Mv, fv, hs, rfl, H3⟩))
  have HOK := Lib.hid H2.out.lw.gn.gm.ok
  have hsn : s.n ≤ 100 := by have := H2.out.n; omega
  have HLT := Lib.hid H2.out.lt
  clear HNEW HMd HAw H2
  go_loopw [8, 9, 10] (fun lv nv i wr => ∃ (k N : Nat) (a2 : Option Addr) (c2 : Nat) (fv : Value) (hs : Nat → Value) (Z : St) (Lf : Nat → Int), k ≤ p0 + 1 ∧ lv = .slice a2 k c2 ∧ nv = .int .i64 N ∧ i = .int .i64 k ∧ Hid (Lo w1 wr G M v iv s K Mv fv hs Z.1 Z.2 (.slice a' (p0 + 1) c') (p0 + 1) (fun j => (F j : Int)) (.slice a2 k c2) k Lf) ∧ Hid (OP s F k Z.1 Z.2 Lf N)) (fun _ _ i _ => p0 + 1 - (intOf i).toNat)
  case atStart => exact ⟨0, 0, _, _, _, _, ([0], [[-1]]), fun _ => 0, Nat.zero_le _, rfl, rfl, rfl, H3, Lib.hid (OP.start s F)⟩
  case round =>
    obtain ⟨k, N, a2, c2, fv, hs, Z, Lf, hk, rfl, rfl, rfl, HR, HG⟩ := hrel
    clear H3
    by_cases hlt : k < p0 + 1
    · have hltI : (k : Int) < (p0 : Int) + 1 := by omega
      have hF := HLT.out k hlt
      obtain ⟨g, rfl, _, hc⟩ := HR.out.es.cells1 (by omega)
      have xc : wr.cell? ⟨g, k, none⟩ = some (.int .i64 (F k : Nat)) := hc k hlt
      have hlen : Z.2.length ≤ 100000 := by have := HG.out.len; have := HG.out.vs.few; omega
      have hLL := HR.out.lit (by omega) HG.out.vs hlen (F k) hF
      have hst := HG.out.step HOK.out hF
      have hb2 := hst.len
      have hb3 := hst.vs.few
      generalize lit (need s (Z.1, Z.2) (F k / 2)).1 (F k) = l at *
      generalize need s (Z.1, Z.2) (F k / 2) = Z' at *
      obtain ⟨d, hd⟩ : ∃ d, d = Z'.2.length := ⟨_, rfl⟩
      rw [← hd] at hst hb2
      have HLL := Lib.hid hLL
      have HST := Lib.hid hst
      have HTK := Lib.hid (show ∀ w6 fv hs lv m Lf, Lo w1 w6 G M v iv s K Mv fv hs Z'.1 Z'.2 (.slice (some ⟨g, 0, none⟩) (p0 + 1) c') (p0 + 1) (fun j => (F j : Int)) lv m Lf → Calls Try.prog 14 #[.pointer (some ⟨K, 0, none⟩)] w6 fun e w' => (∃ a c, e = .returned (.slice a d c)) ∧ Hid (Lo w1 w' G M v iv s K Mv (.slice none 0 0) hs Z'.1 [] (.slice (some ⟨g, 0, none⟩) (p0 + 1) c') (p0 + 1) (fun j => (F j : Int)) lv m Lf) from fun w6 fv hs lv m Lf h => hd ▸ h.takes)
      have hdb : N + d ≤ 100000 := by simp at hb2; omega
      clear hc hlen hLL hst hb2 hb3 hd hF
      generalize F k = fk at *
      go_wp2_with (first
        | (go_at_call 11; refine HLL.out.mono ?_; rintro e w5 ⟨rfl, fv5, hs5, H5⟩; have HS5 := Lib.hid H5.out.lits)
        | (at_builtin; refine Sl.app1 elemInt HS5 (.int .i64 l) rfl (by unfold maxLen; omega) (by omega) rfl _ _ rfl rfl rfl ?_; intro a6 c6 w6 q1 q2 q3; have H6 := Lib.hid (H5.out.lapp q1.out q2.out q3.out); clear q1 q2 q3)
        | (go_at_call 14; refine (HTK.out _ _ _ _ _ _ H6.out).mono ?_; rintro e w7 ⟨⟨a7, c7, rfl⟩, H7⟩))
      go_roundw
      case rel => exact ⟨k + 1, N + d, a6, c6, _, hs5, (Z'.1, []), _, by omega, rfl, by go_num, by go_num, H7, HST⟩
      case measure => simp [intOf]; omega
    · obtain rfl : k = p0 + 1 := by omega
      have hltI : ¬ (p0 : Int) + 1 < (p0 : Int) + 1 := by omega
      have hzn : Z.2 = [] := HG.out.nil (by omega)
      rw [hzn] at HR
      have hV := HG.out.vs
      have hcnt := HG.out.cnt
      have hlen := HG.out.len
      have hfew := hV.few
      rw [hzn] at hcnt hlen
      have hIN := HG.out.inn
      clear HG hzn
      obtain ⟨V, hVV⟩ : ∃ V, V = Z.1 := ⟨_, rfl⟩
      rw [← hVV] at HR hV hlen hfew hIN
      clear hVV
      obtain ⟨q2, hq2⟩ : ∃ q2, q2 = V.length := ⟨_, rfl⟩
      have HVar := Lib.hid (show ∀ w7 fv hs, Cm w7 K G Mv fv hs V [] → Calls Try.prog 13 #[.pointer (some ⟨K, 0, none⟩)] w7 fun r w' => r = .returned (.int .i64 q2) ∧ w7 = w' from fun w7 fv hs h => hq2 ▸ vars_any h)
      have hN1 : (1 : Int) ≤ (N : Int) := by simp at hcnt; omega
      have hN3 : (N : Int) % 3 = 1 := by simp at hcnt; omega
      have hN4 : ((N : Int) % 3 == 1) = true := by rw [beq_iff_eq]; exact hN3
      obtain ⟨g, rfl, _, hc⟩ := HR.out.es.cells1 (by omega)
      obtain ⟨g2, rfl, _, hc2⟩ := HR.out.lits.cells1 (by omega)
      have HIN := Lib.hid hIN
      have HVS := Lib.hid hV
      have HN3 := Lib.hid (And.intro hN3 hN4)
      have HTK := Lib.hid (show ∀ w6 fv hs lv m Lf, Lo w1 w6 G M v iv s K Mv fv hs V [] (.slice (some ⟨g, 0, none⟩) (p0 + 1) c') (p0 + 1) (fun j => (F j : Int)) lv m Lf → Calls Try.prog 14 #[.pointer (some ⟨K, 0, none⟩)] w6 fun e w' => (∃ a c, e = .returned (.slice a 0 c)) ∧ Hid (Lo w1 w' G M v iv s K Mv (.slice none 0 0) hs V [] (.slice (some ⟨g, 0, none⟩) (p0 + 1) c') (p0 + 1) (fun j => (F j : Int)) lv m Lf) from fun w6 fv hs lv m Lf h => h.takes)
      clear hc hc2 hIN hV hcnt hlen hfew hq2 hlt hN3 hN4
      go_wp2_with (go_at_call 13; refine (HVar.out _ _ _ HR.out.cm).mono ?_; rintro e w' ⟨rfl, rfl⟩)
      go_loopw [12] (fun i wr => ∃ (k : Nat) (fv : Value) (hs : Nat → Value), k ≤ n1 ∧ i = .int .i64 k ∧ Hid (Lo w1 wr G M v iv s K Mv fv hs V [] (.slice (some ⟨g, 0, none⟩) (p0 + 1) c') (p0 + 1) (fun j => (F j : Int)) (.slice (some ⟨g2, 0, none⟩) (p0 + 1) c2) (p0 + 1) Lf)) (fun i _ => n1 - (intOf i).toNat)
      case atStart => exact ⟨0, _, _, Nat.zero_le _, rfl, HR⟩
      case round =>
        obtain ⟨k, fv, hs, hk, rfl, HQ⟩ := hrel
        by_cases hlt : k < n1
        · have hltI : (k : Int) < (n1 : Int) := by omega
          have hI0 : (0 : Int) ≤ (k : Int) := by omega
          rcases HA.out.below (HB1.out.trans (HQ.out.bel.mono HB1.out.size)) with e | ⟨b, off, rfl, hb, hc⟩
          · omega
          obtain ⟨xP, hP⟩ := hc k hlt
          generalize f1 k = P at *
          have hm := Nat.mod_lt P (show 0 < p0 + 1 by omega)
          have qm : (P : Int) % ((p0 : Int) + 1) = ((P % (p0 + 1) : Nat) : Int) := by rw [Int.natCast_emod]; rfl
          generalize P % (p0 + 1) = kk at *
          have hmI : (kk : Int) < (p0 : Int) + 1 := by omega
          have hmJ : (0 : Int) ≤ (kk : Int) := by omega
          obtain ⟨hin, hlf⟩ := HIN.out kk hm
          have hF := HLT.out kk hm
          have hnt : nt (F kk) / 2 = F kk / 2 := by unfold nt; split <;> omega
          have hntl : nt (F kk) < 2 * (s.n + 1) := nt_lt hF
          obtain ⟨lab, lac⟩ := lit_abs (V := V) (F kk)
          have hfew := HVS.out.few
          have HLE := Lib.hid (show ∀ w6 fv hs, Lo w1 w6 G M v iv s K Mv fv hs V [] (.slice (some ⟨g, 0, none⟩) (p0 + 1) c') (p0 + 1) (fun j => (F j : Int)) (.slice (some ⟨g2, 0, none⟩) (p0 + 1) c2) (p0 + 1) Lf → Calls Try.prog 11 #[.pointer (some ⟨K, 0, none⟩), .int .i64 (F kk : Nat)] w6 fun r w' => r = .returned (.int .i64 (Lf kk)) ∧ ∃ fv' hs', Hid (Lo w1 w' G M v iv s K Mv fv' hs' V [] (.slice (some ⟨g, 0, none⟩) (p0 + 1) c') (p0 + 1) (fun j => (F j : Int)) (.slice (some ⟨g2, 0, none⟩) (p0 + 1) c2) (p0 + 1) Lf) from fun w6 fv hs h => by
            have := h.lit (by omega) HVS.out (by simp) (F kk) hF
            rw [need_in (st := (V, [])) hin, ← hlf] at this
            exact this)
          have HLN := Lib.hid (show ∀ w6 fv hs, Lo w1 w6 G M v iv s K Mv fv hs V [] (.slice (some ⟨g, 0, none⟩) (p0 + 1) c') (p0 + 1) (fun j => (F j : Int)) (.slice (some ⟨g2, 0, none⟩) (p0 + 1) c2) (p0 + 1) Lf → Calls Try.prog 11 #[.pointer (some ⟨K, 0, none⟩), .int .i64 (nt (F kk) : Nat)] w6 fun r w' => r = .returned (.int .i64 (-Lf kk)) ∧ ∃ fv' hs', Hid (Lo w1 w' G M v iv s K Mv fv' hs' V [] (.slice (some ⟨g, 0, none⟩) (p0 + 1) c') (p0 + 1) (fun j => (F j : Int)) (.slice (some ⟨g2, 0, none⟩) (p0 + 1) c2) (p0 + 1) Lf) from fun w6 fv hs h => by
            have := h.lit (by omega) HVS.out (by simp) (nt (F kk)) hntl
            rw [hnt, need_in (st := (V, [])) hin, lit_nt, ← hlf] at this
            exact this)
          have HCEL := Lib.hid (show ∀ w6 fv hs, Lo w1 w6 G M v iv s K Mv fv hs V [] (.slice (some ⟨g, 0, none⟩) (p0 + 1) c') (p0 + 1) (fun j => (F j : Int)) (.slice (some ⟨g2, 0, none⟩) (p0 + 1) c2) (p0 + 1) Lf → w6.cell? ⟨g, kk, none⟩ = some (.int .i64 (F kk : Nat)) ∧ w6.cell? ⟨g2, kk, none⟩ = some (.int .i64 (Lf kk)) from fun w6 fv hs h => by
            obtain ⟨g', e1, _, h1⟩ := h.es.cells1 (by omega)
            obtain ⟨g2', e2, _, h2⟩ := h.lits.cells1 (by omega)
            cases e1; cases e2
            exact ⟨h1 kk hm, h2 kk hm⟩)
          have HNot := Lib.hid (fun W => not_any (F kk) (by omega) W)
          have lneg : IntKind.i64.wrap (-(Lf kk)) = -(Lf kk) := by
            rw [hlf]; exact IntWalk.i64_in _ (by omega)
          have HQd := Lib.hid (HQ.out.quiet (Below.refl _ wr).drew)
          obtain ⟨xA, xB⟩ := HCEL.out _ _ _ HQd.out
          clear hc hin hF hnt hntl lab lac hfew
          clear hlf
          generalize F kk = fk at *
          generalize Lf kk = l at *
          go_wp2
          go_region_held3 (fun w' => w'.cell? ⟨g, kk, none⟩ = some (.int .i64 (fk : Nat)) ∧ w'.cell? ⟨g2, kk, none⟩ = some (.int .i64 l))
            (go_keep)
            (first
              | (go_at_call 22; (with_reducible refine (HNot.out _).mono ?_); rintro e w' ⟨rfl, rfl⟩)
              | (go_at_call 11; (with_reducible refine (HLN.out _ _ _ H5.out).mono ?_); rintro e w6 ⟨rfl, fv6, hs6, H6⟩; obtain ⟨zA, zB⟩ := HCEL.out _ _ _ H6.out)
              | (go_at_call 11; (with_reducible refine (HLE.out _ _ _ HQd.out).mono ?_); rintro e w5 ⟨rfl, fv5, hs5, H5⟩; obtain ⟨yA, yB⟩ := HCEL.out _ _ _ H5.out))
          all_goals
            go_wp2
            go_roundw
            case rel => exact ⟨k + 1, _, _, by omega, by go_num, H6⟩
            case measure => simp [intOf]; omega
        · obtain rfl : k = n1 := by omega
          have hltI2 : ¬ (k : Int) < (k : Int) := by omega
          obtain ⟨hN3, hN4⟩ := HN3.out
          have HBZ := Lib.hid HB1.out
          clear hlt
          go_wp2_with (first
            | (go_at_call 14; refine (HTK.out _ _ _ _ _ _ HQ.out).mono ?_; rintro e w7 ⟨⟨a7, c7, rfl⟩, H7⟩)
            | (go_at_call 13; refine (HVar.out _ _ _ H7.out.cm).mono ?_; rintro e w' ⟨rfl, rfl⟩))
          go_ret
          exact ⟨rfl, HBZ.out.trans (H7.out.bel.mono HBZ.out.size)⟩
set_option maxHeartbeats 2000000 in
theorem once_long (a0 : Option Addr) (n0 c0 : Nat) (a1 : Option Addr) (n1 c1 : Nat) (w : World) (h : 25 < n0 ∨ 20 < n1) (hn0 : n0 ≤ 9223372036854775807) (hn1 : n1 ≤ 9223372036854775807) :
    Calls Try.prog 4 #[.slice a0 n0 c0, .slice a1 n1 c1] w (laws w) := by
  have HA := Lib.hid awake_any
  have Hn0 := Lib.hid hn0
  have Hn1 := Lib.hid hn1
  clear hn0 hn1
  by_cases h0 : 25 < n0
  · have hnI : (25 : Int) < (n0 : Int) := by omega
    clear h h0
    go_enter Try.func4, Try.ntmps4
    go_wp2_with (first
      | (go_at_call 6; have := HB1; refine (HA.out _).mono ?_; rintro e w2 ⟨rfl, hb2⟩; have HB2 := Lib.hid (HB1.out.trans (hb2.mono HB1.out.size)); clear hb2)
      | (go_at_call 6; refine (HA.out _).mono ?_; rintro e w1 ⟨rfl, hb1⟩; have HB1 := Lib.hid hb1; clear hb1))
    go_ret
    exact ⟨rfl, HB2.out⟩
  · have hnJ : (20 : Int) < (n1 : Int) := by omega
    have hnI : ¬ (25 : Int) < (n0 : Int) := by omega
    clear h h0
    go_enter Try.func4, Try.ntmps4
    go_wp2_with (first
      | (go_at_call 6; have := HB1; refine (HA.out _).mono ?_; rintro e w2 ⟨rfl, hb2⟩; have HB2 := Lib.hid (HB1.out.trans (hb2.mono HB1.out.size)); clear hb2)
      | (go_at_call 6; refine (HA.out _).mono ?_; rintro e w1 ⟨rfl, hb1⟩; have HB1 := Lib.hid hb1; clear hb1))
    go_ret
    exact ⟨rfl, HB2.out⟩
theorem once_any (a0 : Option Addr) (n0 c0 : Nat) (f : (Nat → Int) × (Nat → Int) × (Nat → Int) × (Nat → Int)) (a1 : Option Addr) (n1 c1 : Nat) (g : Nat → Nat) (w : World) (hA0 : Acts w a0 n0 f.1 f.2.1 f.2.2.1 f.2.2.2) (hn0 : n0 ≤ 9223372036854775807) (hA1 : HasU w a1 n1 g) (hn1 : n1 ≤ 9223372036854775807) :
    Calls Try.prog 4 #[.slice a0 n0 c0, .slice a1 n1 c1] w (laws w) := by
  by_cases h : n0 ≤ 25 ∧ n1 ≤ 20
  · exact once_walk a0 n0 c0 _ _ _ _ a1 n1 c1 _ w h.1 h.2 hA0 hA1
  · exact once_long a0 n0 c0 a1 n1 c1 w (by omega) hn0 hn1
end Go.Proofs.Ytpniffcojmlboaa
