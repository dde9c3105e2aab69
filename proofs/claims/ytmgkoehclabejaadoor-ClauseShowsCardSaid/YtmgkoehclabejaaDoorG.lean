/- Contracts: Show. -/
import Derived.Test.YtmgkoehclabejaaDoorB
import Derived.Test.YtmgkoehclabejaaDoorD
import Derived.Lib.ItoaLen
import Derived.Lib.AppendIntMem
import Derived.WalkSmall
import Derived.Deep.LoopGhost
namespace Go.Proofs.YtmgkoehclabejaaDoor
open Go.RowKit Go.Lib

/-- The table that the library's numerals are read from. -/
def Tab (w : World) : Prop := Lib.TabIs Tryd.prog w "internal/strconv.uint64pow10" .u64 Lib.pow10Tab
theorem gTab : Tryd.prog.globalNamed "internal/strconv.uint64pow10" = some 0 := by kernel_rfl
theorem Tab.below {w w' : World} (h : Tab w) (hb : Below w.heap.size w w') : Tab w' := by
  refine var?_below hb gTab ?_ h
  unfold Tab Lib.TabIs World.var? at h
  rw [gTab] at h
  simp only [Option.bind_some] at h
  rcases Nat.lt_or_ge 0 w.heap.size with h' | h'
  · exact h'
  · rw [Array.getElem?_eq_none h'] at h; cases h

theorem builderAt_below {B b : Nat} {p : Value} {bs : List Value} {W W' : World} (h : Lib.BuilderAt 54 5 B b p bs W) (hb : Below W.heap.size W W') : Lib.BuilderAt 54 5 B b p bs W' := by
  have hlt := h.lt
  obtain ⟨hB, v, hv, hown, hne⟩ := h
  exact ⟨hB, v, (hb.block b hlt).trans hv, hown.kept (row := none) ⟨hb.os, hb.tape, hb.output, hb.size, fun k hk _ => hb.block k hk⟩ (Classical.em _), hne⟩
theorem isBuilder_below {B b : Nat} {bs : List Value} {W W' : World} (h : Lib.IsBuilder 54 5 B b bs W) (hb : Below W.heap.size W W') : Lib.IsBuilder 54 5 B b bs W' :=
  h.elim (fun x => .inl (builderAt_below x hb)) (fun x => .inr (builderAt_below x hb))
theorem isBuilder_lt {B b : Nat} {bs : List Value} {W : World} (h : Lib.IsBuilder 54 5 B b bs W) : b < W.heap.size := h.elim (fun x => x.lt) (fun x => x.lt)

/-- In wr, a later world than w, the builder that was made in w first holds s. -/
def SB (w : World) (s : List UInt8) (wr : World) : Prop := Below w.heap.size w wr ∧ Lib.IsBuilder 54 5 w.heap.size w.heap.size (Lib.byteCells s) wr

theorem sb_string (w wr : World) (s : List UInt8) (l : List UInt8) (h : SB w s wr) (hlen : s.length + l.length ≤ 140737488355328) :
    Calls Tryd.prog 44 #[.pointer (some ⟨w.heap.size, 0, none⟩), .string ⟨l.toArray⟩] wr fun e w' => ∃ k, e = .returned (.tuple #[.int .i64 k, .nilIface]) ∧ SB w (s ++ l) w' := by
  refine (writeString_any w.heap.size w.heap.size (Lib.byteCells s) ⟨l.toArray⟩ wr h.2 (by rw [Lib.byteCells_length]; exact hlen) h.1.size).mono ?_
  rintro e w' ⟨rfl, h1, h2⟩
  refine ⟨_, rfl, h.1.trans h2, ?_⟩
  rw [Lib.byteCells_append]
  exact .inr h1
theorem sb_byte (w wr : World) (s : List UInt8) (c : UInt8) (h : SB w s wr) (hlen : s.length + 1 ≤ 140737488355328) :
    Calls Tryd.prog 46 #[.pointer (some ⟨w.heap.size, 0, none⟩), .int .u8 c.toNat] wr fun e w' => e = .returned .nilIface ∧ SB w (s ++ [c]) w' := by
  refine (writeByte_any w.heap.size w.heap.size (Lib.byteCells s) c.toNat wr h.2 (by rw [Lib.byteCells_length]; exact hlen) h.1.size).mono ?_
  rintro e w' ⟨rfl, h1, h2⟩
  refine ⟨rfl, h.1.trans h2, ?_⟩
  rw [Lib.byteCells_append]
  exact .inr h1
theorem sb_space (w wr : World) (s : List UInt8) (h : SB w s wr) (hlen : s.length + 1 ≤ 140737488355328) :
    Calls Tryd.prog 46 #[.pointer (some ⟨w.heap.size, 0, none⟩), .int .u8 32] wr fun e w' => e = .returned .nilIface ∧ SB w (s ++ [32]) w' := sb_byte w wr s 32 h hlen
theorem sb_feed (w wr : World) (s : List UInt8) (h : SB w s wr) (hlen : s.length + 1 ≤ 140737488355328) :
    Calls Tryd.prog 46 #[.pointer (some ⟨w.heap.size, 0, none⟩), .int .u8 10] wr fun e w' => e = .returned .nilIface ∧ SB w (s ++ [10]) w' := sb_byte w wr s 10 h hlen

set_option maxHeartbeats 400000 in
theorem sb_number (w wr : World) (s : List UInt8) (x : Int) (hx1 : -1000000 ≤ x) (hx2 : x ≤ 1000000) (hT : Tab w) (h : SB w s wr) (hlen : s.length + 21 ≤ 140737488355328) :
    Calls Tryd.prog 43 #[.int .i64 x, .pointer (some ⟨w.heap.size, 0, none⟩)] wr fun e w' => e = .returned (.tuple #[]) ∧ SB w (s ++ itoa x) w' := by
  have hl := itoa_length_le x (by omega) (by omega)
  have hi : Calls Tryd.prog 45 #[.int .i64 x] wr fun e w' => e = .returned (.string ⟨(itoa x).toArray⟩) ∧ SB w s w' := by
    refine (Tryd.strconv_Itoa x (by omega) (by omega) wr (hT.below h.1)).mono ?_
    rintro e w' ⟨rfl, k, os, rfl⟩
    have hb := below_grow wr.heap.size wr (Nat.le_refl _) k os
    exact ⟨rfl, h.1.trans (hb.mono h.1.size), isBuilder_below h.2 hb⟩
  have hw := fun W h => sb_string w W s (itoa x) h (by omega)
  generalize itoa x = l at *
  have HI := Lib.hid hi; clear hi
  have HW := Lib.hid hw; clear hw h hT
  go_enter Tryd.func43, Tryd.ntmps43
  go_wp2_with fail
  refine HI.out.mono ?_
  rintro e w1 ⟨rfl, h1⟩
  go_wp2_with fail
  refine (HW.out _ h1).mono ?_
  rintro e w2 ⟨k, rfl, h2⟩
  go_wp2
  go_end0
  exact ⟨rfl, h2⟩

theorem sb_done (w wr : World) (s : List UInt8) (h : SB w s wr) :
    Calls Tryd.prog 47 #[.pointer (some ⟨w.heap.size, 0, none⟩)] wr fun e w' => e = .returned (.string ⟨s.toArray⟩) ∧ Below w.heap.size w w' := by
  refine (Tryd.Builder_String_any w.heap.size w.heap.size s wr h.2 h.1.size).mono ?_
  rintro e w' ⟨rfl, h2⟩
  exact ⟨rfl, h.1.trans h2⟩
end Go.Proofs.YtmgkoehclabejaaDoor
