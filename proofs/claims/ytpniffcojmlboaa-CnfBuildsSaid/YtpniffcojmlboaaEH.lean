/- The answers' maker: Need of any node; Lit. -/
import Derived.Test.YtpniffcojmlboaaEE
import Derived.Test.YtpniffcojmlboaaEG
namespace Go.Proofs.Ytpniffcojmlboaa
open Go.RowKit Go.Lib Go.Maps
set_option maxRecDepth 100000

variable {w w' : World} {R T : Nat} {lv cv tv lv' cv' : Value} {hs hs' : Nat → Value} {V V' : List Nat} {C C' : List (List Int)} {s : Gr}
theorem rneed_asks (ok : s.Ok) (hsn : s.n ≤ 1000) (R T : Nat) (tv : Value) : ∀ n, n ≤ s.n + 1 → Asks s R T tv n
  | 0, _ => fun m hm => absurd hm (Nat.not_lt_zero _)
  | n + 1, hn => fun m hm w lv cv hs V C h hg ha hV hl => by
    have ih := rneed_asks ok hsn R T tv n (by omega)
    by_cases e : m < n
    · exact ih m e w lv cv hs V C h hg ha hV hl
    · obtain rfl : m = n := by omega
      have hf := hV.few
      by_cases hin : m ∈ V
      · rw [need_in (st := (V, C)) hin]
        exact rneed_in (s := s) h (by omega) m hin
      · cases e2 : nd s m with
        | none =>
          rw [need_leaf (st := (V, C)) hin e2]
          exact rneed_leaf h hg hsn (by omega) m (by omega) hin e2
        | some p =>
          obtain ⟨a, b⟩ := p
          exact rneed_and h hg ha ok hsn hV hl m (by omega) hin e2 ih
theorem rneed_any (ok : s.Ok) (hsn : s.n ≤ 1000) (h : Rm w R T lv cv hs V C) (hg : Rg w T tv s) (ha : RApart T tv R lv cv C.length hs) (hV : Vs s V) (hl : C.length ≤ 3 * V.length) (n : Nat) (hn : n ≤ s.n) :
    Calls Try.prog 33 #[.pointer (some ⟨R, 0, none⟩), .int .i64 n] w (NeedIs s w R T lv cv hs C.length (need s (V, C) n)) :=
  rneed_asks ok hsn R T tv (n + 1) (by omega) n (by omega) w lv cv hs V C h hg ha hV hl
set_option maxHeartbeats 2000000 in
/-- Lit, of the answers -/
theorem rLit_any (ok : s.Ok) (hsn : s.n ≤ 1000) (h : Rm w R T lv cv hs V C) (hg : Rg w T tv s) (ha : RApart T tv R lv cv C.length hs) (hV : Vs s V) (hl : C.length ≤ 3 * V.length) (e : Nat) (he : e < 2 * (s.n + 1)) :
    Calls Try.prog 12 #[.pointer (some ⟨R, 0, none⟩), .int .i64 e] w fun r w' => r = .returned (.int .i64 (lit (need s (V, C) (e / 2)).1 e)) ∧ ∃ lv' cv' hs', Hid (RmT R T w lv cv hs C.length w' lv' cv' hs' (need s (V, C) (e / 2)).1 (need s (V, C) (e / 2)).2) := by
  have HN := Lib.hid (rneed_any ok hsn h hg ha hV hl (e / 2) (by omega))
  have c0 := h.c0
  obtain ⟨at', ct, e1, _, _⟩ := hg.sl.shape
  have t0 : w.cell? ⟨T, 0, none⟩ = some (.slice at' s.n ct) := by rw [← e1]; exact hg.hd.cell (i := 0) (by omega)
  have hV2 := (hV.need ok (st := (V, C)) (n := e / 2) (by omega)).few
  have HL := Lib.hid (show ∀ w2 lv2 cv2 hs2, RmT R T w lv cv hs C.length w2 lv2 cv2 hs2 (need s (V, C) (e / 2)).1 (need s (V, C) (e / 2)).2 → Calls Try.prog 34 #[.pointer (some ⟨R, 0, none⟩), .int .i64 e] w2 fun r w' => r = .returned (.int .i64 (lit (need s (V, C) (e / 2)).1 e)) ∧ w2 = w' from fun w2 lv2 cv2 hs2 K => rlit_any K.rm (by omega) e (by omega))
  unfold NeedIs at HN
  generalize need s (V, C) (e / 2) = Z at *
  have h1 : ((e : Int)).tdiv 2 = ((e / 2 : Nat) : Int) := by rw [Int.tdiv_eq_ediv_of_nonneg (by omega)]; omega
  have h2 : (e : Int) / 2 = ((e / 2 : Nat) : Int) := by omega
  have h3 : ¬ ((s.n : Int) < ((e / 2 : Nat) : Int)) := by omega
  have h4 : ¬ (e : Int) < 0 := by omega
  have h5 : e / 2 ≤ 1000 := by omega
  clear h hg ha hV hV2 hl e1
  generalize e / 2 = u at *
  go_enter Try.func12, Try.ntmps12
  go_wp2_with (first
    | (go_at_call 33; refine HN.out.mono ?_; rintro e w2 ⟨rfl, lv2, cv2, hs2, T2⟩)
    | (go_at_call 34; refine (HL.out _ _ _ _ T2.out).mono ?_; rintro e w' ⟨rfl, rfl⟩))
  go_ret
  exact ⟨rfl, _, _, _, T2⟩
end Go.Proofs.Ytpniffcojmlboaa
