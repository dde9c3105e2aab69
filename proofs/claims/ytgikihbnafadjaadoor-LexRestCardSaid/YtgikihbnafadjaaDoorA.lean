/- Mathematics: texts and tokens. -/
namespace Go.Proofs.YtgikihbnafadjaaDoor

abbrev Wd := List UInt8
def isB (c : UInt8) : Bool := c == 32 || c == 9 || c == 13 || c == 10
def isL (c : UInt8) : Bool := (decide (65 ≤ c.toNat) && decide (c.toNat ≤ 90)) || (decide (97 ≤ c.toNat) && decide (c.toNat ≤ 122))
def isD (c : UInt8) : Bool := decide (48 ≤ c.toNat) && decide (c.toNat ≤ 57)
def isW (c : UInt8) : Bool := isL c || isD c || c == 95
def sing : Wd := [123, 125, 91, 93, 40, 41, 59, 61, 60, 43, 45, 42, 47, 37, 33]
def isS (c : UInt8) : Bool := sing.contains c
def nl (c : UInt8) : Bool := c != 10

theorem all256 {P : UInt8 → Prop} (h : ∀ n : Fin 256, P (UInt8.ofNat n.val)) (c : UInt8) : P c := by
  have := h ⟨c.toNat, c.toNat_lt⟩
  simpa using this

/-- The tables of the program, by kind. -/
def kb : Nat → Wd
  | 0 => [32, 9, 13, 10]
  | 1 => [65, 66, 67, 68, 69, 70, 71, 72, 73, 74, 75, 76, 77, 78, 79, 80, 81, 82, 83, 84, 85, 86, 87, 88, 89, 90, 97, 98, 99, 100, 101, 102, 103, 104, 105, 106, 107, 108, 109, 110, 111, 112, 113, 114, 115, 116, 117, 118, 119, 120, 121, 122]
  | 2 => [48, 49, 50, 51, 52, 53, 54, 55, 56, 57]
  | _ => [95]
def isK (k : Nat) (c : UInt8) : Bool := (kb k).contains c
set_option maxRecDepth 100000 in
theorem isK0 (c : UInt8) : isK 0 c = isB c := all256 (P := fun c => isK 0 c = isB c) (by decide) c
set_option maxRecDepth 100000 in
theorem isK1 (c : UInt8) : isK 1 c = isL c := all256 (P := fun c => isK 1 c = isL c) (by decide) c
set_option maxRecDepth 100000 in
theorem isK2 (c : UInt8) : isK 2 c = isD c := all256 (P := fun c => isK 2 c = isD c) (by decide) c
set_option maxRecDepth 100000 in
theorem isK123 (c : UInt8) : (isK 1 c || isK 2 c || isK 3 c) = isW c := all256 (P := fun c => (isK 1 c || isK 2 c || isK 3 c) = isW c) (by decide) c
set_option maxRecDepth 100000 in
/-- The kinds of bytes are apart. -/
theorem apart (c : UInt8) : (isB c = true → isL c = false ∧ isD c = false ∧ isS c = false ∧ c ≠ 38 ∧ c ≠ 124) ∧ (isL c = true → isD c = false ∧ isS c = false ∧ c ≠ 38 ∧ c ≠ 124) ∧ (isD c = true → isS c = false ∧ c ≠ 38 ∧ c ≠ 124) :=
  all256 (P := fun c => (isB c = true → isL c = false ∧ isD c = false ∧ isS c = false ∧ c ≠ 38 ∧ c ≠ 124) ∧ (isL c = true → isD c = false ∧ isS c = false ∧ c ≠ 38 ∧ c ≠ 124) ∧ (isD c = true → isS c = false ∧ c ≠ 38 ∧ c ≠ 124)) (by decide) c

end Go.Proofs.YtgikihbnafadjaaDoor
