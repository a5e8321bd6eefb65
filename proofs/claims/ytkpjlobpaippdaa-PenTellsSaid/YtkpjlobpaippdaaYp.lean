/- Layer 12, plain: frames in cells with generations. -/
import Derived.Test.YtkpjlobpaippdaaKit
namespace Go.Proofs.Ytkpjlobpaippdaa
set_option linter.unusedVariables false
set_option linter.unusedSimpArgs false
open Go.RowKit

abbrev V := Int × Int
structure Slt where
  st : Int
  kat : Int
  kgn : Int
  tr : Int
  re : Int
  im : Int
deriving instance DecidableEq for Slt
/-- A frame. -/
structure Frm where
  fn : Int
  pc : Int
  stk : List V
  loc : List V
  slt : List Slt
  seed : Int
  spn : Int
  drw : Int
  st : Int
  wt : Int
  otr : Int
  ore : Int
  oim : Int
  uat : Int
  ugn : Int
  usl : Int
deriving instance DecidableEq for Frm
def frm0 : Frm := ⟨0, 0, [], [], [], 0, 0, 0, 0, 0, 0, 0, 0, 0, 0, 0⟩
/-- A cell, a pen. -/
structure Cel where
  gen : Int
  used : Bool
  frm : Frm
deriving instance DecidableEq for Cel
structure Zp where
  cells : List Cel
  free : List Int
  most : Int
deriving instance DecidableEq for Zp
def cel0 : Cel := ⟨0, false, frm0⟩
def zp0 : Zp := ⟨[], [], 0⟩
/-- The first numbers of a pen are right. -/
def topZ (p : Zp) : Prop := 1 ≤ p.most ∧ p.most ≤ 1024 ∧ (p.cells.length : Int) ≤ p.most
/-- The pen is valid. -/
structure OkZ (p : Zp) : Prop where
  top : topZ p
  rng : ∀ a ∈ p.free, 0 ≤ a ∧ a < (p.cells.length : Int)
  nod : p.free.Nodup
  use : ∀ i (h : i < p.cells.length), p.cells[i].used = true ↔ (i : Int) ∉ p.free
  gen : ∀ i (h : i < p.cells.length), 0 ≤ p.cells[i].gen ∧ p.cells[i].gen < 4294967296
noncomputable def okZ (p : Zp) : Bool := @decide (OkZ p) (Classical.propDecidable _)
theorem okZ_iff (p : Zp) : okZ p = true ↔ OkZ p := by unfold okZ; exact @decide_eq_true_iff _ (Classical.propDecidable _)
theorem okZ_no {p : Zp} (h : ¬ OkZ p) : okZ p = false := by
  rw [← Bool.not_eq_true, okZ_iff]
  exact h
/-- The ref has a cell. -/
def HasZ (p : Zp) (r : V) : Prop := ∃ i, ∃ h : i < p.cells.length, r.1 = (i : Int) ∧ p.cells[i].used = true ∧ p.cells[i].gen = r.2
noncomputable def hasZ (p : Zp) (r : V) : Bool := @decide (HasZ p r) (Classical.propDecidable _)
theorem hasZ_iff (p : Zp) (r : V) : hasZ p r = true ↔ HasZ p r := by unfold hasZ; exact @decide_eq_true_iff _ (Classical.propDecidable _)
theorem hasZ_no {p : Zp} {r : V} (h : ¬ HasZ p r) : hasZ p r = false := by
  rw [← Bool.not_eq_true, hasZ_iff]
  exact h
def newZ (most : Int) : Zp × Bool := if 1 ≤ most ∧ most ≤ 1024 then (⟨[], [], most⟩, true) else (zp0, false)
noncomputable def getZ (p : Zp) (r : V) : Frm × Bool := if okZ p = true ∧ hasZ p r = true then ((p.cells.getD r.1.toNat cel0).frm, true) else (frm0, false)
def genZ (p : Zp) (at_ : Int) : Int := (p.cells.getD at_.toNat cel0).gen
def lastZ (p : Zp) : Int := p.free.getD (p.free.length - 1) 0
noncomputable def layZ (p : Zp) (f : Frm) : Zp × V × Int :=
  if okZ p = false then (p, (0, 0), 1)
  else if p.free = [] then
    if (p.cells.length : Int) = p.most then (p, (0, 0), 120)
    else (⟨p.cells ++ [⟨0, true, f⟩], [], p.most⟩, ((p.cells.length : Int), 0), 0)
  else (⟨p.cells.set (lastZ p).toNat ⟨genZ p (lastZ p), true, f⟩, p.free.take (p.free.length - 1), p.most⟩, (lastZ p, genZ p (lastZ p)), 0)
noncomputable def setZ (p : Zp) (r : V) (f : Frm) : Zp × Int :=
  if okZ p = false then (p, 1) else if hasZ p r = false then (p, 121) else (⟨p.cells.set r.1.toNat ⟨r.2, true, f⟩, p.free, p.most⟩, 0)
noncomputable def dropZ (p : Zp) (r : V) : Zp × Int :=
  if okZ p = false then (p, 1) else if hasZ p r = false then (p, 121) else (⟨p.cells.set r.1.toNat ⟨(r.2 + 1) % 4294967296, false, frm0⟩, p.free ++ [r.1], p.most⟩, 0)
/-- The refs of the cells from place k on. -/
def refsL : List Cel → Nat → List V
  | [], _ => []
  | c :: l, k => if c.used then ((k : Int), c.gen) :: refsL l (k + 1) else refsL l (k + 1)
noncomputable def refsZ (p : Zp) : List V := if okZ p = true then refsL p.cells 0 else []
/-- Lengths that a walk may rely on. -/
structure FrmLen (f : Frm) : Prop where
  stk : f.stk.length ≤ 1000
  loc : f.loc.length ≤ 1000
  slt : f.slt.length ≤ 1000
structure LenZ (p : Zp) : Prop where
  cells : p.cells.length ≤ 2000
  free : p.free.length ≤ 2000
  frm : ∀ i (h : i < p.cells.length), FrmLen p.cells[i].frm
theorem frm0_len : FrmLen frm0 := ⟨by simp [frm0], by simp [frm0], by simp [frm0]⟩
theorem refsL_app : ∀ (l m : List Cel) (k : Nat), refsL (l ++ m) k = refsL l k ++ refsL m (k + l.length)
  | [], m, k => by simp [refsL]
  | c :: l, m, k => by
    have ih := refsL_app l m (k + 1)
    simp only [List.cons_append, refsL, ih, List.length_cons]
    have e : k + 1 + l.length = k + (l.length + 1) := by omega
    rw [e]
    split <;> simp
theorem refsL_len : ∀ (l : List Cel) (k : Nat), (refsL l k).length ≤ l.length
  | [], _ => by simp [refsL]
  | c :: l, k => by
    have := refsL_len l (k + 1)
    simp only [refsL]
    split <;> simp <;> omega
end Go.Proofs.Ytkpjlobpaippdaa
