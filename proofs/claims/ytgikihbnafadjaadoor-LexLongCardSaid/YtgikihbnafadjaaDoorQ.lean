/- The law LexLong. -/
import Derived.Test.YtgikihbnafadjaaDoorP
import Derived.Laws.BytesArg
namespace Go.Proofs.YtgikihbnafadjaaDoor
open Go Go.RowKit Go.Lib Go.Maps

/-- What an element type is. -/
structure Elem (t e : TypeId) (bytes : Nat) : Prop where
  ht : Tryd.prog.underlying t = some (.slice e)
  info : ∃ i z, Tryd.prog.info? e = some i ∧ i.zero = some z ∧ i.size = 1 ∧ i.bytes = bytes ∧ z.cells.size = 1
theorem elem_of {t e : TypeId} {bytes : Nat} {z : Value} (ht : Tryd.prog.underlying t = some (.slice e)) (h : (Tryd.prog.info? e).map (fun i => (i.zero, i.size, i.bytes)) = some (some z, 1, bytes)) (hz : z.cells.size = 1) : Elem t e bytes := by
  obtain ⟨i, h1, h2, h3, h4⟩ := info_parts h
  exact ⟨ht, i, z, h1, h2, h3, h4, hz⟩
theorem elemByte : Elem 38 5 1 := elem_of Tryd.underlying38 (z := .int .u8 0) (by kernel_rfl) rfl

/-- One more behind. -/
def snV (F : Nat → Value) (n : Nat) (x : Value) (j : Nat) : Value := if j < n then F j else x
def catV (F : Nat → Value) (n : Nat) (G : Nat → Value) (j : Nat) : Value := if j < n then F j else G (j - n)
/-- It lies beyond what was there at W. -/
structure Frs (e : TypeId) (W w : World) (v : Value) (n : Nat) (F : Nat → Value) : Prop where
  own : Sl w e 1 v n F
  bel : Below W.heap.size W w
  new : ∀ b, v.ownBlock = some b → W.heap.size ≤ b
variable {a : Option Addr} {c : Nat} {e t : TypeId} {bytes : Nat} {W w w' : World} {v : Value} {n : Nat} {F : Nat → Value}
theorem Frs.congr (h : Frs e W w v n F) {F' : Nat → Value} (hf : ∀ j, j < n → F j = F' j) : Frs e W w v n F' :=
  ⟨h.own.congr fun j hj => hf j (by omega), h.bel, h.new⟩
theorem Frs.nil (hb : Below W.heap.size W w) (F : Nat → Value) : Frs e W w (.slice none 0 0) 0 F := ⟨Sl.nil, hb, fun b h => by cases h⟩
theorem Frs.then (h : Frs e W w v n F) (hb : Below w.heap.size w w') : Frs e W w' v n F :=
  ⟨h.own.of_block fun b e => hb.block b (h.own.lt e), h.bel.trans (hb.mono h.bel.size), h.new⟩
theorem Frs.made (hb : Below W.heap.size W w) (xs : Array Value) (F : Nat → Value) (hF : ∀ j, j < xs.size → xs[j]? = some (F j)) (hm : xs.size ≤ maxLen) : Frs e W (w.alloc (.cells xs e)) (.slice (some ⟨w.heap.size, 0, none⟩) xs.size xs.size) xs.size F := by
  refine ⟨.inr ⟨w.heap.size, xs.size, F, rfl, Nat.le_refl _, hm, ?_, fun _ _ => rfl⟩, hb.trans ((Below.refl W.heap.size w).alloc hb.size _), fun b e => ?_⟩
  · rw [Nat.mul_one]
    exact World.rowIs_alloc w xs e F (fun i hi => hF i hi)
  · cases e; exact hb.size

/-- The source of an append. -/
def Src (w : World) (a : Option Addr) (m c : Nat) (G : Nat → Value) : Prop :=
  (a = none ∧ m = 0 ∧ c = 0) ∨ ∃ ad, a = some ad ∧ ∀ j, j < m → w.cell? (ad.add j) = some (G j) ∧ (G j).oneCell' = true
theorem lst_get (G : Nat → Value) (m j : Nat) (u : Value) : (lst G m)[j]? = some u ↔ j < m ∧ G j = u := by
  simp only [lst, List.getElem?_map]
  by_cases h : j < m
  · simp [h]
  · simp [h]
theorem cat_eq (F G : Nat → Value) (n m : Nat) : ∀ j, j < (n + m) * 1 → (lst F (n * 1) ++ lst G m)[j]? = some (catV F n G j) := by
  intro j hj
  by_cases h : j < n
  · rw [List.getElem?_append_left (by simpa [lst] using h), catV, if_pos h]
    exact (lst_get _ _ _ _).2 ⟨by omega, rfl⟩
  · rw [List.getElem?_append_right (by simp [lst]; omega), catV, if_neg h]
    have : (lst F (n * 1)).length = n := by simp [lst]
    rw [this]
    exact (lst_get _ _ _ _).2 ⟨by omega, rfl⟩
theorem Frs.grown (h : Frs e W w v n F) {w0 w' : World} (h0 : Below W.heap.size W w0) (hs : w.heap.size ≤ w0.heap.size) {v' : Value} {m : Nat} {G : Nat → Value} (g1 : w'.ownsRow 0 e 1 v' (n + m) (lst F (n * 1) ++ lst G m)) (g2 : w0.grownBy w' v.ownBlock) (g3 : v'.ownBlock = v.ownBlock ∨ v'.ownBlock = some w0.heap.size) :
    Frs e W w' v' (n + m) (catV F n G) := by
  refine ⟨Sl.of_owns g1 (cat_eq F G n m), ?_, fun b hb => ?_⟩
  · have hf : Fr (fun b => v.ownBlock = some b) w0 w' := (Fr.refl _ w0).grown g2 (fun k e _ => e)
    exact h0.trans (hf.below h0.size fun b e => h.new b e)
  · rcases g3 with e | e
    · rw [e] at hb; exact h.new b hb
    · rw [e] at hb; cases hb; exact h0.size
/-- append of a slice, and what it leaves alone. -/
theorem Frs.appF (he : Elem t e bytes) (h : Hid (Frs e W w v n F)) {w0 : World} (h0 : Below w.heap.size w w0) {ao : Option Addr} {m c : Nat} {G : Nat → Value} (hsrc : Src w0 ao m c G) (h63 : n + m ≤ maxLen) (hbytes : (n + m) * bytes ≤ 140737488355328)
    {ops : Array Oper} {rest : List Oper} {o : Oper} {a : Act} {Q : Exit → Act → World → Prop} (hgd : o.guard = none) (s x : Operand)
    (ho : o.op = .call { callee := .builtin .append, args := #[s, x], argTypes := #[t, t] }) (hs : a.eval s = v) (hx : a.eval x = .slice ao m c)
    (k : ∀ a' c' w', Hid (Frs e W w' (.slice a' (n + m) c') (n + m) (catV F n G) ∧ Fr (fun b => v.ownBlock = some b) w0 w' ∧ ((Value.slice a' (n + m) c').ownBlock = v.ownBlock ∨ (Value.slice a' (n + m) c').ownBlock = some w0.heap.size)) → wpList Tryd.prog ops Q rest (a.put o.dst (.slice a' (n + m) c')) w') :
    wpList Tryd.prog ops Q (o :: rest) a w0 := by
  obtain ⟨i, z, hi, hz, hsz, hby, hzs⟩ := he.info
  have H0 : Frs e W w0 v n F := h.out.then h0
  have hown := H0.own.owns
  rcases hsrc with ⟨rfl, rfl, rfl⟩ | ⟨ad, rfl, hc⟩
  · obtain ⟨a', c', rfl, _⟩ := H0.own.shape
    refine wpList_append_own_none hgd s x t ho 0 e i 1 he.ht hi _ n _ hs hown hx (k a' c' w0 (Lib.hid ⟨H0.congr fun j hj => ?_, Fr.refl _ _, .inl rfl⟩))
    simp [catV, hj]
  · refine wpList_append_own_at _ hgd s x t ho 0 e i z 1 bytes he.ht hi hz hsz hby hzs (by decide) v n _ hs hown ad m c (lst G m) hx (by simp [lst]) (fun j u hj => ?_) (fun u hu => ?_) h63 hbytes (Nat.zero_le _) ?_
    · obtain ⟨hj1, rfl⟩ := (lst_get _ _ _ _).1 hj
      exact (hc j hj1).1
    · simp only [lst, List.mem_map, List.mem_range] at hu
      obtain ⟨j, hj, rfl⟩ := hu
      exact (hc j hj).2
    · intro v' w' g1 g2 _ g3
      have hF := Frs.grown H0 H0.bel (Nat.le_refl _) g1 g2 g3
      obtain ⟨a', c', rfl, _⟩ := hF.own.shape
      exact k a' c' w' (Lib.hid ⟨hF, (Fr.refl _ w0).grown g2 (fun k e _ => e), g3⟩)
/-- append of a slice. -/
theorem Frs.app (he : Elem t e bytes) (h : Hid (Frs e W w v n F)) {w0 : World} (h0 : Below w.heap.size w w0) {ao : Option Addr} {m c : Nat} {G : Nat → Value} (hsrc : Src w0 ao m c G) (h63 : n + m ≤ maxLen) (hbytes : (n + m) * bytes ≤ 140737488355328)
    {ops : Array Oper} {rest : List Oper} {o : Oper} {a : Act} {Q : Exit → Act → World → Prop} (hgd : o.guard = none) (s x : Operand)
    (ho : o.op = .call { callee := .builtin .append, args := #[s, x], argTypes := #[t, t] }) (hs : a.eval s = v) (hx : a.eval x = .slice ao m c)
    (k : ∀ a' c' w', Hid (Frs e W w' (.slice a' (n + m) c') (n + m) (catV F n G)) → wpList Tryd.prog ops Q rest (a.put o.dst (.slice a' (n + m) c')) w') :
    wpList Tryd.prog ops Q (o :: rest) a w0 :=
  Frs.appF he h h0 hsrc h63 hbytes hgd s x ho hs hx fun a' c' w' H => k a' c' w' (Lib.hid H.out.1)
/-- append of one. -/
theorem Frs.app1 (he : Elem t e bytes) (h : Hid (Frs e W w v n F)) {w0 : World} (h0 : Below w.heap.size w w0) (u : Value) (hu : u.oneCell' = true) (h63 : n + 1 ≤ maxLen) (hbytes : (n + 1) * bytes ≤ 140737488355328)
    {ops : Array Oper} {rest : List Oper} {o : Oper} {a : Act} {Q : Exit → Act → World → Prop} (hgd : o.guard = none) (s x : Operand)
    (ho : o.op = .call { callee := .builtin .append, args := #[s, x], argTypes := #[t, t] }) (hs : a.eval s = v) (hx : a.eval x = .slice (some ⟨w0.heap.size, 0, none⟩) 1 1)
    (k : ∀ a' c' w', Hid (Frs e W w' (.slice a' (n + 1) c') (n + 1) (snV F n u)) → wpList Tryd.prog ops Q rest (a.put o.dst (.slice a' (n + 1) c')) w') :
    wpList Tryd.prog ops Q (o :: rest) a (w0.alloc (.cells #[u] e)) := by
  refine Frs.app (G := fun _ => u) he h (h0.alloc h0.size _) (.inr ⟨_, rfl, fun j hj => ⟨?_, hu⟩⟩) h63 hbytes hgd s x ho hs hx (fun a' c' w' H => k a' c' w' (Lib.hid (H.out.congr fun j hj => ?_)))
  · obtain rfl : j = 0 := by omega
    exact by rw [adr, cell_new]; rfl
  · simp [catV, snV]

/-- Bytes that are all the same, as a text. -/
theorem Frs.conv {x : UInt8} (h : Frs 5 W w (.slice a n c) n (fun _ => .int .u8 (x.toNat : Int))) : (convert 38 9 (.slice a n c)).run Tryd.prog w = .ok (.string (bs (List.replicate n x))) w := by
  rcases h.own with ⟨e, h0⟩ | ⟨g, c', F, e, h2, h3, h4, h5⟩
  · cases e
    exact run_convert_bytes_nil w 38 5 Tryd.underlying38 Tryd.underlying5 0 0 9 Tryd.underlying9
  · cases e
    have := run_convert_bytes_back (P := Tryd.prog) w 38 9 5 ⟨g, 0, none⟩ c (List.replicate n x) Tryd.underlying38 Tryd.underlying5 Tryd.underlying9 (fun j hj => by
      rw [List.length_replicate] at hj
      rw [adr, Nat.zero_add, h.own.cell (by omega)]; simp)
    rw [List.length_replicate] at this
    exact this
theorem skip_rep (m : Nat) : skip (List.replicate m 32) = m := by
  induction m with
  | zero => exact skip_nil
  | succ m ih => rw [List.replicate_succ, skip_blank (by decide), ih]
theorem span_rep {p : UInt8 → Bool} {x : UInt8} (h : p x = true) (m : Nat) : span p (List.replicate m x) = m := by
  induction m with
  | zero => rfl
  | succ m ih => rw [List.replicate_succ]; simp [span, h, ih]
theorem lexR_blank (m : Nat) (h : m ≤ 4000) : lexR (List.replicate m 32) = ([⟨3, [], m⟩], 0, 0) := by
  have := lexR_good (l := List.replicate m 32) (T := []) (by simp; omega) (lex_end (by rw [skip_rep]; simp))
  rw [this]; simp
theorem dig_tok (m : Nat) : skip (List.replicate (m + 1) 55) = 0 ∧ tok (List.replicate (m + 1) 55) = (1, if m + 1 ≤ 6 then m + 1 else 0) := by
  have h1 : hd isL (List.replicate (m + 1) 55) = false := by rw [List.replicate_succ]; rfl
  have h2 : hd isD (List.replicate (m + 1) 55) = true := by rw [List.replicate_succ]; rfl
  refine ⟨?_, by rw [tok_num h1 h2, span_rep (by decide)]⟩
  rw [List.replicate_succ]
  exact skip_none (by decide) (fun h => by have := h.1; revert this; decide)
theorem lexR_dig (m : Nat) (h : m ≤ 12) : (m + 1 ≤ 6 → ∃ T, lexR (List.replicate (m + 1) 55) = (T, 0, 0) ∧ T.length = 2) ∧ (6 < m + 1 → lexR (List.replicate (m + 1) 55) = ([], 10, 0)) := by
  obtain ⟨h1, h2⟩ := dig_tok m
  constructor
  · intro h6
    rw [if_pos h6] at h2
    have := lex_one (i := 0) (l := List.replicate (m + 1) 55) (k := 1) (n := m + 1) (by rw [h1]; simp) (by rw [h1, List.drop_zero]; exact h2) (by omega)
    rw [h1, List.drop_zero, show (List.replicate (m + 1) (55 : UInt8)).drop (m + 1) = [] by simp, show ∀ i, lexL i [] = ([], none) from fun i => lex_end (Nat.zero_le _)] at this
    exact ⟨_, lexR_good (by simp; omega) this, by simp⟩
  · intro h6
    rw [if_neg (by omega)] at h2
    have := lex_bad (i := 0) (l := List.replicate (m + 1) 55) (by rw [h1]; simp) (by rw [h1, List.drop_zero, h2])
    rw [h1] at this
    exact lexR_bad (by simp; omega) (by rw [this])
theorem name_q (m : Nat) (h : m ≤ 20) : isName (List.replicate (m + 1) 113) = decide (m + 1 ≤ 12) := by
  have hk : ∀ k : Fin 21, isKey (List.replicate (k.val + 1) 113) = false := by decide
  have hk2 := hk ⟨m, by omega⟩
  simp only at hk2
  have hL : hd isL (List.replicate (m + 1) 113) = true := by rw [List.replicate_succ]; rfl
  have hW : (List.replicate (m + 1) (113 : UInt8)).all isW = true := by rw [all_span, span_rep (by decide)]; simp
  simp only [isName, hk2, hL, hW, List.length_replicate]
  simp

set_option maxRecDepth 100000 in
set_option maxHeartbeats 8000000 in
theorem lexLong_law (n z : Nat) (hn : n ≤ 65535) (hz : z ≤ 255) {w : World} (h : Gl w) : Calls Tryd.prog 6 #[.int .u16 (n : Int), .int .u8 (z : Int)] w (LawPost w) := by
  have HG := Lib.hid h
  have HA := Lib.hid (awake_any h)
  clear h
  have hz3 : z % 3 = 0 ∨ z % 3 = 1 ∨ z % 3 = 2 := by omega
  rcases hz3 with hz3 | hz3 | hz3
  · have hz4 : (z : Int) % 3 = 0 := by omega
    obtain ⟨M, hM⟩ : ∃ M, M = n % 5000 := ⟨_, rfl⟩
    have hMn : (n : Int) % 5000 = (M : Int) := by omega
    have hM2 : M ≤ 5000 := by omega
    have hz5 : Int.tmod (z : Int) 3 = 0 := by rw [Int.tmod_eq_emod_of_nonneg (by omega)]; exact hz4
    clear hM hz3
    go_enter Tryd.func6, Tryd.ntmps6
    go_wp2_with fail
    refine HA.out.mono ?_
    rintro e w1 ⟨rfl, hb1⟩
    have HB1 := Lib.hid hb1; clear hb1
    go_wp2
    go_loopw [5, 6] (fun s5 s6 wr => ∃ (k : Nat) (a : Option Addr) (c : Nat), k ≤ M ∧ s6 = .int .i64 k ∧ s5 = .slice a k c ∧ Hid (Frs 5 w1 wr (.slice a k c) k (fun _ => .int .u8 ((32 : UInt8).toNat : Int)))) (fun _ s6 _ => M - (Lib.intOf s6).toNat)
    case atStart => exact ⟨0, none, 0, Nat.zero_le _, rfl, rfl, Lib.hid (Frs.nil (Below.refl _ _) _)⟩
    case round =>
      obtain ⟨k, a, c, hk, rfl, rfl, HF⟩ := hrel
      by_cases hlt : k < M
      · skip
        go_wp2_with (first | (at_builtin; refine Frs.app1 elemByte HF (Below.refl _ _) (.int .u8 32) rfl (by unfold maxLen; omega) (by omega) rfl _ _ rfl rfl rfl ?_; intro a2 c2 w2 H2) | fail)
        go_roundw
        case rel => first
          | exact ⟨k + 1, a2, c2, by omega, by go_num, rfl, Lib.hid (H2.out.congr fun j hj => by unfold snV; split <;> rfl)⟩
          | ((repeat apply Exists.intro); exact ⟨⟨k + 1, a2, c2, by omega, by go_num, rfl, Lib.hid (H2.out.congr fun j hj => by unfold snV; split <;> rfl)⟩, by rw [hz4]; rfl⟩)
        case measure => simp [Lib.intOf]; omega
      · obtain rfl : k = M := by omega
        skip
        have hcv := HF.out.conv
        have HB2 := Lib.hid (HB1.out.trans (HF.out.bel.mono HB1.out.size))
        clear hlt
        go_wp2_with fail
        refine (tokens_any (List.replicate k 32) (by simp; omega) (HG.out.below HB2.out)).mono ?_
        rintro e w3 ⟨v3, rfl, hT3⟩
        have HB3 := Lib.hid (HB2.out.trans (hT3.bel.mono HB2.out.size))
        by_cases h4 : k ≤ 4000
        · have h4' : (k : Int) ≤ 4000 := by omega
          rw [lexR_blank k h4] at hT3 ⊢
          obtain ⟨a3, c3, rfl, _, _⟩ := hT3.own.shape
          clear hT3 h4
          go_wp2
          go_ret
          exact ⟨rfl, bel_alloc HB3.out _⟩
        · have h4' : decide ((k : Int) ≤ 4000) = false := decide_eq_false (by omega)
          rw [lexR_big (l := List.replicate k 32) (by simp; omega)] at hT3 ⊢
          obtain ⟨a3, c3, rfl, _, _⟩ := hT3.own.shape
          clear hT3 h4
          go_wp2
          go_ret
          exact ⟨rfl, bel_alloc HB3.out _⟩
  · have hz4 : (z : Int) % 3 = 1 := by omega
    obtain ⟨M, hM⟩ : ∃ M, M = n % 12 + 1 := ⟨_, rfl⟩
    have hMn : (n : Int) % 12 = (M : Int) - 1 := by omega
    have hM2 : M ≤ 12 := by omega
    have hz5 : Int.tmod (z : Int) 3 = 1 := by rw [Int.tmod_eq_emod_of_nonneg (by omega)]; exact hz4
    clear hM hz3
    go_enter Tryd.func6, Tryd.ntmps6
    go_wp2_with fail
    refine HA.out.mono ?_
    rintro e w1 ⟨rfl, hb1⟩
    have HB1 := Lib.hid hb1; clear hb1
    go_wp2
    go_loopw [5, 9] (fun s5 s6 wr => ∃ (k : Nat) (a : Option Addr) (c : Nat), k ≤ M ∧ s6 = .int .i64 k ∧ s5 = .slice a k c ∧ Hid (Frs 5 w1 wr (.slice a k c) k (fun _ => .int .u8 ((55 : UInt8).toNat : Int)))) (fun _ s6 _ => M - (Lib.intOf s6).toNat)
    case atStart => exact ⟨0, none, 0, Nat.zero_le _, rfl, rfl, Lib.hid (Frs.nil (Below.refl _ _) _)⟩
    case round =>
      obtain ⟨k, a, c, hk, rfl, rfl, HF⟩ := hrel
      by_cases hlt : k < M
      · have hle1 : (k : Int) ≤ (M : Int) - 1 := by omega
        go_wp2_with (first | (at_builtin; refine Frs.app1 elemByte HF (Below.refl _ _) (.int .u8 55) rfl (by unfold maxLen; omega) (by omega) rfl _ _ rfl rfl rfl ?_; intro a2 c2 w2 H2) | fail)
        go_roundw
        case rel => first
          | exact ⟨k + 1, a2, c2, by omega, by go_num, rfl, Lib.hid (H2.out.congr fun j hj => by unfold snV; split <;> rfl)⟩
          | ((repeat apply Exists.intro); exact ⟨⟨k + 1, a2, c2, by omega, by go_num, rfl, Lib.hid (H2.out.congr fun j hj => by unfold snV; split <;> rfl)⟩, by rw [hz4]; rfl⟩)
        case measure => simp [Lib.intOf]; omega
      · obtain rfl : k = M := by omega
        have hle1 : ¬ ((k : Int) ≤ (k : Int) - 1) := by omega
        have hk0 : 0 < k := by omega
        have hcv := HF.out.conv
        have HB2 := Lib.hid (HB1.out.trans (HF.out.bel.mono HB1.out.size))
        clear hlt
        obtain ⟨m, rfl⟩ : ∃ m, k = m + 1 := ⟨k - 1, by omega⟩
        go_wp2_with fail
        refine (tokens_any (List.replicate (m + 1) 55) (by simp; omega) (HG.out.below HB2.out)).mono ?_
        rintro e w3 ⟨v3, rfl, hT3⟩
        have HB3 := Lib.hid (HB2.out.trans (hT3.bel.mono HB2.out.size))
        obtain ⟨hd1, hd2⟩ := lexR_dig m (by omega)
        by_cases h4 : m + 1 ≤ 6
        · have h4' : ((m + 1 : Nat) : Int) ≤ 6 := by omega
          have h4a : (m : Int) + 1 ≤ 6 := by omega
          have h4b : (m : Int) ≤ 5 := by omega
          obtain ⟨T, hT, hTl⟩ := hd1 h4
          rw [hT] at hT3 ⊢
          obtain ⟨a3, c3, rfl, _, _⟩ := hT3.own.shape
          simp only [hTl]
          clear hT3 h4 hd1 hd2 hT hTl
          go_wp2
          go_ret
          exact ⟨rfl, bel_alloc HB3.out _⟩
        · have h4' : ¬ ((m + 1 : Nat) : Int) ≤ 6 := by omega
          have h4a : decide ((m : Int) + 1 ≤ 6) = false := decide_eq_false (by omega)
          rw [hd2 (by omega)] at hT3 ⊢
          obtain ⟨a3, c3, rfl, _, _⟩ := hT3.own.shape
          clear hT3 h4 hd1 hd2
          go_wp2
          go_ret
          exact ⟨rfl, bel_alloc HB3.out _⟩
  · have hz4 : (z : Int) % 3 = 2 := by omega
    obtain ⟨M, hM⟩ : ∃ M, M = n % 20 + 1 := ⟨_, rfl⟩
    have hMn : (n : Int) % 20 = (M : Int) - 1 := by omega
    have hM2 : M ≤ 20 := by omega
    have hz5 : Int.tmod (z : Int) 3 = 2 := by rw [Int.tmod_eq_emod_of_nonneg (by omega)]; exact hz4
    clear hM hz3
    go_enter Tryd.func6, Tryd.ntmps6
    go_wp2_with fail
    refine HA.out.mono ?_
    rintro e w1 ⟨rfl, hb1⟩
    have HB1 := Lib.hid hb1; clear hb1
    go_wp2
    go_loopw [5, 12] (fun s5 s6 wr => ∃ (k : Nat) (a : Option Addr) (c : Nat), k ≤ M ∧ s6 = .int .i64 k ∧ s5 = .slice a k c ∧ Hid (Frs 5 w1 wr (.slice a k c) k (fun _ => .int .u8 ((113 : UInt8).toNat : Int)))) (fun _ s6 _ => M - (Lib.intOf s6).toNat)
    case atStart => exact ⟨0, none, 0, Nat.zero_le _, rfl, rfl, Lib.hid (Frs.nil (Below.refl _ _) _)⟩
    case round =>
      obtain ⟨k, a, c, hk, rfl, rfl, HF⟩ := hrel
      by_cases hlt : k < M
      · have hle1 : (k : Int) ≤ (M : Int) - 1 := by omega
        go_wp2_with (first | (at_builtin; refine Frs.app1 elemByte HF (Below.refl _ _) (.int .u8 113) rfl (by unfold maxLen; omega) (by omega) rfl _ _ rfl rfl rfl ?_; intro a2 c2 w2 H2) | fail)
        go_roundw
        case rel => first
          | exact ⟨k + 1, a2, c2, by omega, by go_num, rfl, Lib.hid (H2.out.congr fun j hj => by unfold snV; split <;> rfl)⟩
          | ((repeat apply Exists.intro); exact ⟨⟨k + 1, a2, c2, by omega, by go_num, rfl, Lib.hid (H2.out.congr fun j hj => by unfold snV; split <;> rfl)⟩, by rw [hz4]; rfl⟩)
        case measure => simp [Lib.intOf]; omega
      · obtain rfl : k = M := by omega
        have hle1 : ¬ ((k : Int) ≤ (k : Int) - 1) := by omega
        have hk0 : 0 < k := by omega
        have hcv := HF.out.conv
        have HB2 := Lib.hid (HB1.out.trans (HF.out.bel.mono HB1.out.size))
        clear hlt
        obtain ⟨m, rfl⟩ : ∃ m, k = m + 1 := ⟨k - 1, by omega⟩
        have hnm := name_q m (by omega)
        have HNM := Lib.hid (name_any (List.replicate (m + 1) 113) (by simp; omega) (HG.out.below HB2.out))
        rw [hnm] at HNM
        clear hnm
        by_cases h4 : m + 1 ≤ 12
        · have h4' : ((m + 1 : Nat) : Int) ≤ 12 := by omega
          have h4a : (m : Int) + 1 ≤ 12 := by omega
          have h4b : (m : Int) ≤ 11 := by omega
          rw [decide_eq_true h4] at HNM
          go_wp2_with fail
          refine HNM.out.mono ?_
          rintro e w3 ⟨rfl, hb3⟩
          have HB3 := Lib.hid (HB2.out.trans (hb3.mono HB2.out.size)); clear hb3
          go_wp2
          go_ret
          exact ⟨rfl, HB3.out⟩
        · have h4' : ¬ ((m + 1 : Nat) : Int) ≤ 12 := by omega
          have h4a : decide ((m : Int) + 1 ≤ 12) = false := decide_eq_false (by omega)
          rw [decide_eq_false h4] at HNM
          go_wp2_with fail
          refine HNM.out.mono ?_
          rintro e w3 ⟨rfl, hb3⟩
          have HB3 := Lib.hid (HB2.out.trans (hb3.mono HB2.out.size)); clear hb3
          go_wp2
          go_ret
          exact ⟨rfl, HB3.out⟩
end Go.Proofs.YtgikihbnafadjaaDoor
