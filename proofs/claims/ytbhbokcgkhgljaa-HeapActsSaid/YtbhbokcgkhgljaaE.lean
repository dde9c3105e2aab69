/- A heap as a set of variables with activities: contracts of Has, Len, Activity, Put, Next, Bump. -/
import Derived.Test.YtbhbokcgkhgljaaD
import Derived.OwnWalk
namespace Go.Proofs.Ytbhbokcgkhgljaa
open Go.RowKit Go.Lib

/-- In w there is a heap of the variables from 1 to n: A their activities, In the contained ones. -/
def Heap (w : World) (hb ob pb ab n : Nat) (A : Nat → Int) (In : Nat → Bool) : Prop := n ≤ 100000 ∧ ∃ m O P, Mem w hb ob pb ab n m O P A ∧ Good n m O P A In
theorem Heap.drewN {w : World} {hb ob pb ab n : Nat} {A : Nat → Int} {In : Nat → Bool} (h : Heap w hb ob pb ab n A In) (q : Nat) : Heap (w.drewN q) hb ob pb ab n A In := by
  obtain ⟨hn, m, O, P, hM, hG⟩ := h
  exact ⟨hn, m, O, P, hM.drewN q, hG⟩
theorem Heap.fr {w : World} {hb ob pb ab n : Nat} {A : Nat → Int} {In : Nat → Bool} (h : Heap w hb ob pb ab n A In) {w' : World} {B : Nat → Prop} (hf : Fr B w w') (h1 : ¬ B hb) (h2 : ¬ B ob) (h3 : ¬ B pb) (h4 : ¬ B ab) : Heap w' hb ob pb ab n A In := by
  obtain ⟨hn, m, O, P, hM, hG⟩ := h
  exact ⟨hn, m, O, P, hM.fr hf h1 h2 h3 h4, hG⟩

section
variable {w : World} {hb ob pb ab n : Nat} {A : Nat → Int} {In : Nat → Bool}

theorem isV_nat {n v : Nat} : isV n (v : Int) = true ↔ 1 ≤ v ∧ v ≤ n := by rw [isV_iff]; omega

theorem has_any (h : Heap w hb ob pb ab n A In) (v : Int) :
    Calls Try.prog 21 #[.pointer (some ⟨hb, 0, none⟩), .int .i64 v] w fun e w' => e = .returned (.bool (isV n v && In v.toNat)) ∧ w = w' := by
  obtain ⟨hn, m, O, P, hM, hG⟩ := h
  have hh := has_core hb pb n v (P v.toNat) w (by omega) hM.c1 (fun hv => hM.cp (by have := isV_iff.1 hv; omega))
  have e : (isV n v && decide (P v.toNat ≠ -1)) = (isV n v && In v.toNat) := by
    cases hv : isV n v
    · rfl
    · have := isV_iff.1 hv
      rw [hG.in_iff (v := v.toNat) (by omega) (by omega)]
  rw [e] at hh
  exact hh
theorem len_any (h : Heap w hb ob pb ab n A In) :
    Calls Try.prog 19 #[.pointer (some ⟨hb, 0, none⟩)] w fun e w' => e = .returned (.int .i64 (cnt In n)) ∧ w = w' := by
  obtain ⟨hn, m, O, P, hM, hG⟩ := h
  rw [← hG.num]
  exact len_core hb ob n m w hM.c0
theorem activity_any (h : Heap w hb ob pb ab n A In) (v : Int) :
    Calls Try.prog 22 #[.pointer (some ⟨hb, 0, none⟩), .int .i64 v] w fun e w' => e = .returned (.int .i64 (if isV n v then A v.toNat else 0)) ∧ w = w' := by
  obtain ⟨hn, m, O, P, hM, hG⟩ := h
  exact activity_core hb pb ab n v (A v.toNat) w (by omega) hM.c1 hM.c2 (fun hv => hM.ca (by have := isV_iff.1 hv; omega))

theorem put_no (h : Heap w hb ob pb ab n A In) (v : Int) (hv : (isV n v && !In v.toNat) = false) :
    Calls Try.prog 11 #[.pointer (some ⟨hb, 0, none⟩), .int .i64 v] w fun e w' => e = .returned (.bool false) ∧ w = w' := by
  have hh := has_any h v
  obtain ⟨hn, m, O, P, hM, hG⟩ := h
  have hvv := variable_core hb pb n v w (by omega) hM.c1
  cases hb2 : isV n v
  · rw [hb2] at hvv
    have HV := Lib.hid hvv
    clear hvv hM hG hh hv hb2
    go_enter Try.func11, Try.ntmps11
    go_wp2_with fail
    refine HV.out.mono ?_
    rintro e w' ⟨rfl, rfl⟩
    go_wp2_with fail
    go_ret
    exact ⟨rfl, rfl⟩
  · have hi : In v.toNat = true := by rw [hb2] at hv; simpa using hv
    rw [hb2, hi] at hh
    rw [hb2] at hvv
    have HV := Lib.hid hvv
    have HH := Lib.hid hh
    clear hvv hM hG hh hv hb2 hi
    go_enter Try.func11, Try.ntmps11
    go_wp2_with fail
    refine HV.out.mono ?_
    rintro e w' ⟨rfl, rfl⟩
    go_wp2_with fail
    refine HH.out.mono ?_
    rintro e w' ⟨rfl, rfl⟩
    go_wp2_with fail
    go_ret
    exact ⟨rfl, rfl⟩

theorem own_of_row {w : World} {b m n : Nat} {t : TypeId} {F : Nat → Value} {g : Nat → Value} (h : w.rowIs b t n F) (hm : m ≤ n) (hn : n ≤ maxLen) (he : ∀ j, j < m → F j = g j) :
    w.ownsRow 0 t 1 (.slice (some ⟨b, 0, none⟩) m n) m ((List.range m).map g) := by
  obtain ⟨c, hb, hs, hc⟩ := h
  refine ⟨by simp, .inr ⟨b, n, c, rfl, Nat.zero_le _, hb, hm, hn, by omega, ?_⟩⟩
  refine List.ext_getElem? fun j => ?_
  by_cases hj : j < m
  · simp only [Nat.mul_one, List.getElem?_take, hj, if_true, Array.getElem?_toList, List.getElem?_map, List.getElem?_range hj, Option.map_some, hc j (by omega), he j hj]
  · simp [hj, List.getElem?_take]
theorem row_of_own {w : World} {b m n : Nat} {t : TypeId} {g : Nat → Value} (h : w.ownsRow 0 t 1 (.slice (some ⟨b, 0, none⟩) m n) m ((List.range m).map g)) :
    ∃ F, w.rowIs b t n F ∧ ∀ j, j < m → F j = g j := by
  rcases h.2 with ⟨h, _⟩ | ⟨b', n', c, hv, _, hb, hm, _, hs, ht⟩
  · cases h
  · simp only [Value.slice.injEq, Option.some.injEq, Addr.mk.injEq] at hv
    obtain ⟨⟨rfl, _⟩, _, rfl⟩ := hv
    refine ⟨fun i => c[i]?.getD (.int .i64 0), ⟨c, hb, by omega, fun i hi => ?_⟩, fun j hj => ?_⟩
    · have : i < c.size := by omega
      simp [this]
    · have e := congrArg (fun l => l[j]?) ht
      simp only [Nat.mul_one, List.getElem?_take, hj, if_true, Array.getElem?_toList, List.getElem?_map, List.getElem?_range hj, Option.map_some] at e
      show c[j]?.getD _ = _
      rw [e]; rfl
end

theorem infoInt : (Try.prog.info? 3).map (fun i => (i.zero, i.size, i.bytes)) = some (some (.int .i64 0), 1, 8) := by kernel_rfl

/-- What Put has done when it calls rise. -/
theorem Mem.put {w : World} {hb ob pb ab n m : Nat} {O : Nat → Nat} {P A : Nat → Int} (h : Mem w hb ob pb ab n m O P A) (hmn : m < n) (v : Nat) (x : Obj) {w3 : World}
    (ho : w3.ownsRow 0 3 1 (.slice (some ⟨ob, 0, none⟩) (m + 1) n) (m + 1) (((List.range m).map fun j => .int .i64 (O j)) ++ [.int .i64 v]))
    (hg : (((w.setCell ⟨pb, v, none⟩ (.int .i64 m)).alloc x).drew).grownBy w3 (some ob)) :
    Mem (w3.setCell ⟨hb, 0, none⟩ (.slice (some ⟨ob, 0, none⟩) (m + 1) n)) hb ob pb ab n (m + 1) (updO O m v) (updI P v m) A ∧
    Fr (Bk hb ob pb ab) w (w3.setCell ⟨hb, 0, none⟩ (.slice (some ⟨ob, 0, none⟩) (m + 1) n)) ∧
    w3.rowIs hb 48 3 (hdF ob pb ab n m) ∧ w3.rowIs pb 3 (n + 1) (fun j => .int .i64 (updI P v m j)) := by
  obtain ⟨n1, n2, n3, n4, n5, n6⟩ := h.ne
  have hk : ∀ k, k ≠ ob → k < w.heap.size → w3.heap[k]? = (w.setCell ⟨pb, v, none⟩ (.int .i64 m)).heap[k]? := fun k hk hs => by
    rw [hg.block k (by simp; omega) (fun e => hk (by simpa using e))]
    exact Below.heap_alloc _ _ _ (by simpa using hs)
  have r1 : w3.rowIs hb 48 3 (hdF ob pb ab n m) := (h.hd.setOther (a := ⟨pb, v, none⟩) n2 (.int .i64 m)).of_block (hk hb n1 h.hd.lt)
  have r2 : w3.rowIs pb 3 (n + 1) (fun j => .int .i64 (updI P v m j)) := ((h.pl.set v (.int .i64 m)).of_block (hk pb (Ne.symm n4) h.pl.lt)).congr fun j _ => by unfold updI; split <;> rfl
  have r3 : w3.rowIs ab 2 (n + 1) (fun j => .int .i64 (A j)) := (h.ac.setOther (a := ⟨pb, v, none⟩) (Ne.symm n6) (.int .i64 m)).of_block (hk ab (Ne.symm n5) h.ac.lt)
  obtain ⟨F, hF, he⟩ := row_of_own (g := fun j => .int .i64 (updO O m v j)) (by
    have e : ((List.range m).map fun j => Value.int .i64 (O j)) ++ [.int .i64 v] = (List.range (m + 1)).map fun j => Value.int .i64 (updO O m v j) := by
      rw [List.range_succ, List.map_append]
      congr 1
      · refine List.map_congr_left fun j hj => ?_
        rw [updO_other _ _ (by have := List.mem_range.1 hj; omega)]
      · simp [updO_same]
    rw [← e]; exact ho)
  refine ⟨⟨?_, ⟨F, hF.setOther (a := ⟨hb, 0, none⟩) (Ne.symm n1) _, he⟩, r2.setOther (a := ⟨hb, 0, none⟩) (Ne.symm n2) _, r3.setOther (a := ⟨hb, 0, none⟩) (Ne.symm n3) _, h.ne⟩, ?_, r1, r2⟩
  · refine (r1.set 0 _).congr fun j _ => ?_
    unfold hdF
    split <;> rfl
  · have f1 : Fr (Bk hb ob pb ab) w (((w.setCell ⟨pb, v, none⟩ (.int .i64 m)).alloc x).drew) := (((Fr.refl _ w).set (.inr (.inr (.inl rfl))) _).alloc x).drew
    have f2 : Fr (Bk hb ob pb ab) w w3 := f1.trans ⟨hg.os, hg.tape, hg.output, hg.size, fun k hk hB => hg.block k hk (fun e => hB (.inr (.inl (by simpa using e))))⟩
    exact f2.set (.inl rfl) _

set_option maxHeartbeats 4000000 in
theorem put_yes {w : World} {hb ob pb ab n : Nat} {A : Nat → Int} {In : Nat → Bool} (h : Heap w hb ob pb ab n A In) (v : Nat) (h1 : 1 ≤ v) (h2 : v ≤ n) (hv : In v = false) :
    Calls Try.prog 11 #[.pointer (some ⟨hb, 0, none⟩), .int .i64 v] w fun e w' => e = .returned (.bool true) ∧ Heap w' hb ob pb ab n A (upd In v true) ∧ Fr (Bk hb ob pb ab) w w' := by
  obtain ⟨i0, hi, hz0, hz1, hz2⟩ := info_parts infoInt
  have hh := has_any h v
  obtain ⟨hn, m, O, P, hM, hG⟩ := h
  have hvv := variable_core hb pb n v w (by omega) hM.c1
  have hb2 : isV n (v : Int) = true := isV_nat.2 ⟨h1, h2⟩
  rw [hb2, Int.toNat_natCast, hv] at hh
  rw [hb2] at hvv
  obtain ⟨hmn, hL, hR, hI, hN⟩ := put_mid hG h1 h2 hv
  have c0 := hM.c0
  have c1 := hM.c1
  have cv := hM.cp h2
  have fv := hM.pl.frozen v
  obtain ⟨n1, n2, n3, n4, n5, n6⟩ := hM.ne
  have HC := Lib.hid (show ∀ (x : Obj) (w3 : World), w3.ownsRow 0 3 1 (.slice (some ⟨ob, 0, none⟩) (m + 1) n) (m + 1) (((List.range m).map fun j => .int .i64 (O j)) ++ [.int .i64 v]) →
      (((w.setCell ⟨pb, v, none⟩ (.int .i64 m)).alloc x).drew).grownBy w3 (some ob) →
      Calls Try.prog 25 #[.pointer (some ⟨hb, 0, none⟩), .int .i64 m] (w3.setCell ⟨hb, 0, none⟩ (.slice (some ⟨ob, 0, none⟩) (m + 1) n)) (fun e w' => e = .returned (.tuple #[]) ∧ Heap w' hb ob pb ab n A (upd In v true) ∧ Fr (Bk hb ob pb ab) w w') ∧
      w3.rowIs hb 48 3 (hdF ob pb ab n m) ∧ w3.rowIs pb 3 (n + 1) (fun j => .int .i64 (updI P v m j)) from fun x w3 ho hg => by
    obtain ⟨hM', hF, r1, r2⟩ := hM.put hmn v x ho hg
    refine ⟨(rise_any hM' hL (by omega) (by omega) (by omega) hR).mono ?_, r1, r2⟩
    rintro e w' ⟨rfl, O', P', a1, a2, a3, a4, a5⟩
    exact ⟨rfl, ⟨hn, m + 1, O', P', a1, Good.sifted (O := updO O m v) hG.act hI hN a2 a3 a4⟩, hF.trans a5⟩)
  have hown : ∀ x, (((w.setCell ⟨pb, v, none⟩ (.int .i64 m)).alloc x).drew).ownsRow 0 3 1 (.slice (some ⟨ob, 0, none⟩) m n) m ((List.range m).map fun j => .int .i64 (O j)) := fun x => by
    obtain ⟨F, hF, he⟩ := hM.od
    exact own_of_row (((hF.setOther (a := ⟨pb, v, none⟩) n4 _).alloc x).drew) (by omega) (by unfold maxLen; omega) he
  have hd1 : ∀ x, ((w.setCell ⟨pb, v, none⟩ (.int .i64 m)).alloc x).cell? ⟨hb, 0, none⟩ = some (.slice (some ⟨ob, 0, none⟩) m n) := fun x => ((hM.hd.setOther (a := ⟨pb, v, none⟩) n2 _).alloc x).cell (i := 0) (by omega)
  have hp1 : (w.setCell ⟨pb, v, none⟩ (.int .i64 m)).cell? ⟨hb, 0, none⟩ = some (.slice (some ⟨ob, 0, none⟩) m n) := (hM.hd.setOther (a := ⟨pb, v, none⟩) n2 _).cell (i := 0) (by omega)
  have hnew : (((w.setCell ⟨pb, v, none⟩ (.int .i64 m)).alloc (.cells #[.int .i64 v] 3)).drew).cell? ⟨w.heap.size, 0, none⟩ = some (.int .i64 v) := by
    have := World.cell?_alloc_new (w.setCell ⟨pb, v, none⟩ (.int .i64 m)) #[.int .i64 v] 3 0
    simpa using this
  have HV := Lib.hid hvv
  have HH := Lib.hid hh
  have HO := Lib.hid hown
  have hlt : (v : Int) < (n : Int) + 1 := by omega
  clear hvv hh hown hM hG hL hR hI hN hv hb2
  go_enter Try.func11, Try.ntmps11
  go_wp2_with fail
  refine HV.out.mono ?_
  rintro e w' ⟨rfl, rfl⟩
  go_wp2_with fail
  refine HH.out.mono ?_
  rintro e w' ⟨rfl, rfl⟩
  go_wp2_with fail
  go_region
  go_wp2_with (first | (at_builtin; refine wpList_append_fits _ rfl (.tmp 29) (.tmp 31) 46 rfl 0 3 i0 1 Try.underlying46 hi hz1 ob m n _ rfl (HO.out _) ⟨w.heap.size, 0, none⟩ 1 1 [.int .i64 v] rfl rfl ?qc ?qo ?qm ?_) | fail)
  case qc =>
    intro j u hj
    match j, hj with
    | 0, hj => simp at hj; subst hj; exact hnew
  case qo => intro u hu; simp at hu; subst hu; rfl
  case qm => omega
  intro w3 ho hg
  obtain ⟨hC, r1, r2⟩ := HC.out _ w3 ho hg
  have d0 := r1.cell (i := 0) (by omega)
  have z0 := r1.frozen 0
  have d1 : (w3.setCell ⟨hb, 0, none⟩ (.slice (some ⟨ob, 0, none⟩) (m + 1) n)).cell? ⟨hb, 1, none⟩ = some (.slice (some ⟨pb, 0, none⟩) (n + 1) (n + 1)) := (r1.set 0 _).cell (i := 1) (by omega)
  have d2 : (w3.setCell ⟨hb, 0, none⟩ (.slice (some ⟨ob, 0, none⟩) (m + 1) n)).cell? ⟨pb, v, none⟩ = some (.int .i64 m) := by
    rw [(r2.setOther (a := ⟨hb, 0, none⟩) (Ne.symm n2) _).cell (i := v) (by omega), updI_same]
  have HCC := Lib.hid hC
  clear hC r1 r2 ho hg
  go_wp2_with fail
  refine HCC.out.mono ?_
  rintro e w' ⟨rfl, hH⟩
  have HH2 := Lib.hid hH; clear hH
  go_wp2_with fail
  go_ret
  exact ⟨rfl, HH2.out⟩
end Go.Proofs.Ytbhbokcgkhgljaa
