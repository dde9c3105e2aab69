/- The law: more clauses: the list with one row behind it. -/
import Derived.Test.YtoffhgiljnagcaaQJ
import Derived.Laws.AppendOwnNone
namespace Go.Proofs.Ytoffhgiljnagcaa
open Go.RowKit Go.Lib
set_option maxRecDepth 100000

/-- append, whatever its second argument. -/
theorem wpList_append_src {P : Program} {w : World} {ops : Array Oper} {rest : List Oper} {o : Oper} {a : Act} {Q : Exit → Act → World → Prop} (hgd : o.guard = none) (s x : Operand) (t : TypeId)
    (ho : o.op = .call { callee := .builtin .append, args := #[s, x], argTypes := #[t, t] })
    (base : Nat) (e : TypeId) (i : TypeInfo) (z : Value) (size bytes : Nat) (ht : P.underlying t = some (.slice e)) (hi : P.info? e = some i) (hz : i.zero = some z)
    (hsize : i.size = size) (hby : i.bytes = bytes) (hzs : z.cells.size = size) (hsz : 0 < size)
    (v : Value) (n : Nat) (xs : List Value) (hs : a.eval s = v) (hown : w.ownsRow base e size v n xs)
    (ao : Option Addr) (m c : Nat) (news : List Value) (hx : a.eval x = .slice ao m c)
    (hsrc : (ao = none ∧ m = 0 ∧ c = 0 ∧ news = []) ∨ ∃ ad, ao = some ad ∧ news.length = m * size ∧ (∀ j u, news[j]? = some u → w.cell? (ad.add j) = some u) ∧ ∀ u ∈ news, u.oneCell' = true)
    (h63 : n + m ≤ maxLen) (hbytes : (n + m) * bytes ≤ 140737488355328) (hbase : base ≤ w.heap.size)
    (h : ∀ v' w', w'.ownsRow base e size v' (n + m) (xs ++ news) → w.grownBy w' v.ownBlock → (v'.ownBlock = v.ownBlock ∨ v'.ownBlock = some w.heap.size) → wpList P ops Q rest (a.put o.dst v') w') :
    wpList P ops Q (o :: rest) a w := by
  rcases hsrc with ⟨rfl, rfl, rfl, rfl⟩ | ⟨ad, rfl, h1, h2, h3⟩
  · exact wpList_append_own_none hgd s x t ho base e i size ht hi v n xs hs hown hx (h v w (by simpa using hown) ⟨rfl, rfl, rfl, Nat.le_refl _, fun _ _ _ => rfl⟩ (.inl rfl))
  · exact wpList_append_own_at _ hgd s x t ho base e i z size bytes ht hi hz hsize hby hzs hsz v n xs hs hown ad m c news hx h1 h2 h3 h63 hbytes hbase (fun v' w' g1 g2 _ g3 => h v' w' g1 g2 g3)

/-- A list with one row behind it. -/
def snR (R : Nat → Row) (n : Nat) (r : Row) (j : Nat) : Row := if j < n then R j else r
def rwV (R : Nat → Row) (j : Nat) : Value := .slice (R j).a (R j).n (R j).c
theorem info23 : (Try.prog.info? 23).map (fun i => (i.zero, i.size, i.bytes)) = some (some (.slice none 0 0), 1, 24) := by kernel_rfl
/-- What lies behind a list of lists, as the source of an append. -/
theorem rws_src {w : World} {a : Option Addr} {n c : Nat} {R : Nat → Row} (h : Rws w a n R) (hnil : a = none → n = 0 ∧ c = 0) :
    (a = none ∧ n = 0 ∧ c = 0 ∧ lst (rwV R) n = []) ∨ ∃ ad, a = some ad ∧ (lst (rwV R) n).length = n * 1 ∧ (∀ j u, (lst (rwV R) n)[j]? = some u → w.cell? (ad.add j) = some u) ∧ ∀ u ∈ lst (rwV R) n, u.oneCell' = true := by
  cases ha : a with
  | none =>
    obtain ⟨h1, h2⟩ := hnil ha
    exact .inl ⟨rfl, h1, h2, by rw [h1]; rfl⟩
  | some ad =>
    refine .inr ⟨ad, rfl, by simp [lst], fun j u hj => ?_, fun u hu => ?_⟩
    · have hjn : j < n := by
        have := (List.getElem?_eq_some_iff.1 hj).1
        simpa [lst] using this
      rcases h with h0 | ⟨b, off, e, hlt, hc⟩
      · omega
      · rw [ha] at e; cases e
        have hu : rwV R j = u := by simpa [lst, hjn] using hj
        rw [← hu]
        rw [show (⟨b, off, none⟩ : Addr).add j = ⟨b, off + j, none⟩ by simp [Addr.add]]
        exact (hc j hjn).1
    · simp only [lst, List.mem_map] at hu
      obtain ⟨j, _, rfl⟩ := hu
      rfl
def RwsSrc (w : World) (a : Option Addr) (n c : Nat) (R : Nat → Row) : Prop :=
  (a = none ∧ n = 0 ∧ c = 0 ∧ lst (rwV R) n = []) ∨ ∃ ad, a = some ad ∧ (lst (rwV R) n).length = n * 1 ∧ (∀ j u, (lst (rwV R) n)[j]? = some u → w.cell? (ad.add j) = some u) ∧ ∀ u ∈ lst (rwV R) n, u.oneCell' = true
theorem owns_rws {w : World} {v : Value} {n : Nat} {R : Nat → Row} (h : w.ownsRow 0 23 1 v n (lst (rwV R) n)) (hR : ∀ j, j < n → Has w (R j).a (R j).n (R j).f) : ∃ a c, v = .slice a n c ∧ Rws w a n R := by
  have hs := Sl.of_owns (f := rwV R) h (fun j hj => by simp [lst, show j < n by omega])
  obtain ⟨a, c, rfl, _⟩ := hs.shape
  refine ⟨a, c, rfl, ?_⟩
  by_cases h0 : n = 0
  · exact .inl h0
  · obtain ⟨g, c', e, _, _, hlt⟩ := hs.pos (by omega)
    cases e
    exact .inr ⟨g, 0, rfl, hlt, fun j hj => ⟨by rw [Nat.zero_add]; exact hs.cell (by omega), hR j hj⟩⟩
theorem lst_snR (R : Nat → Row) (n : Nat) (r : Row) : lst (rwV R) n ++ [rwV (fun _ => r) 0] = lst (rwV (snR R n r)) (n + 1) := by
  simp only [lst, List.range_succ, List.map_append, List.map_cons, List.map_nil]
  congr 1
  · refine List.map_congr_left fun j hj => ?_
    have := List.mem_range.1 hj
    simp [rwV, snR, this]
  · simp [rwV, snR]
theorem snR_lt {R : Nat → Row} {n : Nat} {r : Row} {j : Nat} (h : j < n) : snR R n r j = R j := if_pos h
theorem snR_at (R : Nat → Row) (n : Nat) (r : Row) : snR R n r n = r := if_neg (Nat.lt_irrefl _)
theorem litR_sn (R : Nat → Row) (n : Nat) (r : Row) : litR (snR R n r) (n + 1) = (litR R n && litF r.f r.n) := by
  rw [litR_succ, snR_at]
  congr 1
  rw [Bool.eq_iff_iff, litR_iff, litR_iff]
  exact forall_congr' fun j => forall_congr' fun hj => by rw [snR_lt hj]
theorem rowC_sn {R : Nat → Row} {n : Nat} {r : Row} {c : List Int} (h : RowC R n c) : RowC (snR R n r) (n + 1) c := by
  obtain ⟨j, hj, rfl⟩ := h
  exact ⟨j, by omega, by rw [snR_lt hj]⟩
theorem more_conf (R : Nat → Row) (n : Nat) (r : Row) : Conf (RowC (snR R n r) (n + 1)) (Den r.f r.n) := by
  refine .none (lof r.f r.n) ⟨n, by omega, by rw [snR_at]⟩ fun l hl => ?_
  obtain ⟨j, hj, rfl⟩ := lof_mem.1 hl
  exact ⟨j, hj, rfl⟩

theorem owns_empty (w : World) (e : TypeId) : (w.alloc (.cells #[] e)).ownsRow 0 e 1 (.slice (some ⟨w.heap.size, 0, none⟩) 0 0) 0 [] :=
  ⟨rfl, .inr ⟨w.heap.size, 0, #[], rfl, Nat.zero_le _, heap_alloc_new w _, Nat.le_refl _, Nat.zero_le _, rfl, rfl⟩⟩
/-- Behind the first append. -/
theorem more_one {W w1 w2 : World} {v2 : Value} {n : Nat} {R : Nat → Row} (hb : Below W.heap.size W w1) (g1 : w2.ownsRow 0 23 1 v2 (0 + n) ([] ++ lst (rwV R) n)) (g2 : (w1.alloc (.cells #[] 23)).grownBy w2 (Value.slice (some ⟨w1.heap.size, 0, none⟩) 0 0).ownBlock)
    (g3 : v2.ownBlock = (Value.slice (some ⟨w1.heap.size, 0, none⟩) 0 0).ownBlock ∨ v2.ownBlock = some (w1.alloc (.cells #[] 23)).heap.size) :
    ∃ av cv, v2 = .slice av n cv ∧ Hid (w2.ownsRow 0 23 1 (.slice av n cv) n (lst (rwV R) n) ∧ Below W.heap.size W w2 ∧ ∀ b, (Value.slice av n cv).ownBlock = some b → W.heap.size ≤ b) := by
  rw [Nat.zero_add, List.nil_append] at g1
  obtain ⟨av, cv, rfl⟩ := owns_shape g1
  have hsz := hb.size
  refine ⟨av, cv, rfl, Lib.hid ⟨g1, ?_, fun b hb' => ?_⟩⟩
  · have hf : Fr (fun b => b = w1.heap.size) w1 w2 := ((Fr.refl _ w1).alloc _).grown g2 (fun k e _ => by cases e; rfl)
    exact hb.trans (hf.below hsz fun b e => by omega)
  · rcases g3 with e | e
    · rw [e] at hb'; cases hb'; exact hsz
    · rw [e] at hb'; cases hb'; simp; omega
/-- Behind the second. -/
theorem more_two {W w2 w3 : World} {v3 : Value} {av : Option Addr} {n cv : Nat} {R : Nat → Row} {a1 : Option Addr} {n1 c1 : Nat} {f1 : Nat → Int} (H : w2.ownsRow 0 23 1 (.slice av n cv) n (lst (rwV R) n) ∧ Below W.heap.size W w2 ∧ ∀ b, (Value.slice av n cv).ownBlock = some b → W.heap.size ≤ b)
    (hR : ∀ j, j < n → Has W (R j).a (R j).n (R j).f) (hf1 : Has W a1 n1 f1) (g1 : w3.ownsRow 0 23 1 v3 (n + 1) (lst (rwV R) n ++ [.slice a1 n1 c1])) (g2 : (w2.alloc (.cells #[.slice a1 n1 c1] 23)).grownBy w3 (Value.slice av n cv).ownBlock) :
    ∃ a c, v3 = .slice a (n + 1) c ∧ Hid (Rws w3 a (n + 1) (snR R n ⟨a1, n1, c1, f1⟩) ∧ Below W.heap.size W w3) := by
  have hb : Below W.heap.size W w3 := by
    have hf : Fr (fun b => (Value.slice av n cv).ownBlock = some b) w2 w3 := ((Fr.refl _ w2).alloc _).grown g2 (fun k e _ => e)
    exact H.2.1.trans (hf.below H.2.1.size fun b e => H.2.2 b e)
  have e := lst_snR R n ⟨a1, n1, c1, f1⟩
  rw [show rwV (fun _ => (⟨a1, n1, c1, f1⟩ : Row)) 0 = .slice a1 n1 c1 from rfl] at e
  rw [e] at g1
  obtain ⟨a, c, rfl, hr⟩ := owns_rws g1 (fun j hj => by
    by_cases h : j < n
    · rw [snR_lt h]; exact (hR j h).below hb
    · obtain rfl : j = n := by omega
      rw [snR_at]; exact hf1.below hb)
  exact ⟨a, c, rfl, Lib.hid ⟨hr, hb⟩⟩

/-- The second append, at the operation. -/
theorem more_step {W w2 : World} {av : Option Addr} {n cv : Nat} {R : Nat → Row} {a1 : Option Addr} {n1 c1 : Nat} {f1 : Nat → Int} (hn : n ≤ 1000)
    (HTWO : Hid (∀ (w2 w3 : World) (v3 : Value) (av : Option Addr) (cv : Nat), (w2.ownsRow 0 23 1 (Value.slice av n cv) n (lst (rwV R) n) ∧ Below W.heap.size W w2 ∧ ∀ (b : Nat), (Value.slice av n cv).ownBlock = some b → W.heap.size ≤ b) → w3.ownsRow 0 23 1 v3 (n + 1) (lst (rwV R) n ++ [Value.slice a1 n1 c1]) → (w2.alloc (Obj.cells #[Value.slice a1 n1 c1] 23)).grownBy w3 (Value.slice av n cv).ownBlock → ∃ a c, v3 = Value.slice a (n + 1) c ∧ Hid (Rws w3 a (n + 1) (snR R n { a := a1, n := n1, c := c1, f := f1 }) ∧ Below W.heap.size W w3)))
    (H1 : Hid (w2.ownsRow 0 23 1 (Value.slice av n cv) n (lst (rwV R) n) ∧ Below W.heap.size W w2 ∧ ∀ (b : Nat), (Value.slice av n cv).ownBlock = some b → W.heap.size ≤ b))
    {ops : Array Oper} {rest : List Oper} {o : Oper} {a : Act} {Q : Exit → Act → World → Prop} (hgd : o.guard = none) (s x : Operand)
    (ho : o.op = .call { callee := .builtin .append, args := #[s, x], argTypes := #[22, 22] }) (hs : a.eval s = .slice av n cv) (hx : a.eval x = .slice (some ⟨w2.heap.size, 0, none⟩) 1 1)
    (h : ∀ aw cw w3, Hid (Rws w3 aw (n + 1) (snR R n ⟨a1, n1, c1, f1⟩) ∧ Below W.heap.size W w3) → wpList Try.prog ops Q rest (a.put o.dst (.slice aw (n + 1) cw)) w3) :
    wpList Try.prog ops Q (o :: rest) a (w2.alloc (Obj.cells #[Value.slice a1 n1 c1] 23)) := by
  obtain ⟨i23, hi23, hz23, hs23, hb23⟩ := info_parts info23
  refine wpList_append_own_at _ hgd s x 22 ho 0 23 i23 (.slice none 0 0) 1 24 Try.underlying22 hi23 hz23 hs23 hb23 rfl (by decide) (.slice av n cv) n (lst (rwV R) n) hs (H1.out.1.alloc _) ⟨_, 0, none⟩ 1 1 [.slice a1 n1 c1] hx rfl (one_at w2 _ rfl rfl) (by intro u hu; simp at hu; subst hu; rfl) (by unfold maxLen; omega) (by omega) (Nat.zero_le _) ?_
  intro v3 w3 g1 g2 _ _
  obtain ⟨aw, cw, rfl, H2⟩ := HTWO.out _ _ _ _ _ H1.out g1 g2
  exact h aw cw w3 H2
end Go.Proofs.Ytoffhgiljnagcaa
