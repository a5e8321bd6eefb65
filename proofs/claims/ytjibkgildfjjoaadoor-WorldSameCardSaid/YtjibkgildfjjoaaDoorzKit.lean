/- What a law's row asks, where the call has made memory of its own, and old memory is as it was. -/
import Derived.WalkKit
import Derived.ProofKit
import Derived.ChangeSame
import Derived.Below
import Derived.Lib.QuietBelow
import Derived.OpenShut
import Derived.Carry
import Derived.Deep.OwnRows
import Derived.Deep.WholeRow
namespace Go.Proofs.YtjibkgildfjjoaaDoor
set_option linter.unusedVariables false
set_option linter.unusedSimpArgs false
open Go Go.RowKit Go.WideShapes Go.ChangeShapes

/-- A call that gives v, and makes at most memory of its own. -/
def Ct (P : Program) (f : Nat) (args : Array Value) (v : Value) : Prop := ∀ W, Calls P f args W fun e w' => e = .returned v ∧ Below W.heap.size W w'
theorem Ct.go {P : Program} {f : Nat} {args : Array Value} {v : Value} (h : Ct P f args v) (W : World) : Calls P f args W fun e w' => e = .returned v ∧ Below W.heap.size W w' := h W
/-- A call that gives v, and turns nothing. -/
def Cs (P : Program) (f : Nat) (args : Array Value) (v : Value) : Prop := ∀ W, Calls P f args W fun e w' => e = .returned v ∧ W = w'
theorem Cs.go {P : Program} {f : Nat} {args : Array Value} {v : Value} (h : Cs P f args v) (W : World) : Calls P f args W fun e w' => e = .returned v ∧ W = w' := h W
theorem Below.step {w w1 w2 : World} (hb : Below w.heap.size w w1) (hb1 : Below w1.heap.size w1 w2) : Below w.heap.size w w2 := hb.trans (hb1.mono hb.size)

theorem below_drewN {B : Nat} {a w : World} (h : Below B a w) (n : Nat) : Below B a (w.drewN n) := ⟨h.os, h.tape, h.output, h.size, h.block⟩
theorem cell_at {w : World} {g : Nat} {cs : Array Value} {t : TypeId} (h : w.heap[g]? = some (.cells cs t (0, 0))) (i : Nat) : w.cell? ⟨g, i, none⟩ = cs[i]? := by simp [World.cell?, h]

theorem below_laid {w w1 : World} {o : Obj} (hb : Below (w.alloc o).heap.size (w.alloc o) w1) : Below w.heap.size w w1 := ((Below.refl w.heap.size w).alloc (Nat.le_refl _) o).trans (hb.mono (by simp))
theorem fz_at {w : World} {g : Nat} {cs : Array Value} {t : TypeId} (h : w.heap[g]? = some (.cells cs t (0, 0))) (i : Nat) : w.frozen? ⟨g, i, none⟩ = false := by simp [World.frozen?, h]

theorem below_of_regrown {w w' : World} (h : ∃ p : Regrown, w' = Sort.grow (redrawn w p.d) p.os) : Below w.heap.size w w' := by
  obtain ⟨p, rfl⟩ := h
  exact below_regrown _ _ _

theorem post_kept {H : Type} {enc : TypeId × Value → H} {P : Program} {f : Func} {s : ChangeSpec} {apart fresh handsOn again : Bool} {W W' : World} {args : Array Value} {v : Value} {ds gs : List (DataW H)} {before pa pv : List MemPlace}
    (hW : DataW.Whole enc P f.params.toList s.vars apart W args.toList ds gs before) (hb : Below W.heap.size W W')
    (hres : ∀ (b : Nat) (sp : Nat → Bool) (hd : Bool), DataW.TrodAll enc P W' b sp hd f.resultTypes.toList (v.resultList f.resultTypes.size) (s.fn H (ds ++ gs)).results [])
    (hargs : ∀ sp : Nat → Bool, (∀ p ∈ before, sp p.block = true) → DataW.TrodAll enc P W' 0 sp true f.params.toList args.toList (s.fn H (ds ++ gs)).args pa)
    (hvars : ∀ sp : Nat → Bool, (∀ p ∈ before, sp p.block = true) → DataW.TrodVars enc P W' sp s.vars (s.fn H (ds ++ gs)).vars pv)
    (hps : before = pa ++ pv)
    (hok : ∀ (j : Nat) (t : TypeId) (r : Value), f.resultTypes[j]? = some t → (v.resultList f.resultTypes.size)[j]? = some r → Value.okWide P W' .any 0 t r) :
    s.post enc P f apart fresh handsOn again W args v W' := by
  have hlt : ∀ p ∈ before, p.block < W.heap.size := fun p hp => hW.lt p hp
  have hold : ∀ p ∈ before, decide (p.block < W.heap.size) = true := fun p hp => decide_eq_true (hlt p hp)
  have hframe : W.keptBut W' (fun p => p ∈ before ∧ p ∈ [] ++ (pa ++ pv)) := World.keptBut_mono (fun p hp => ⟨hp, by rw [hps] at hp; simpa using hp⟩) (hb.frame (· ∈ before))
  refine ⟨ds, gs, before, [], pa, pv, hW, hres _ _ _, hargs _ hold, hvars _ hold, by simpa using hframe, fun _ => ?_⟩
  obtain ⟨_, _, _, _, _, hz, hn⟩ := hW
  refine ⟨hok, _, _, ([] ++ pa) ++ pv, ⟨[] ++ pa, pv, trodAll_append (hargs _ fun _ _ => rfl) (hres _ _ _), hvars _ fun _ _ => rfl, rfl, fun b off hp => ?_, fun ha => ?_⟩, fun p hp _ => ?_⟩
  · have hin : MemPlace.cell b off ∈ before := by rw [hps]; simpa using hp
    rw [hb.frozen (hlt _ hin)]
    exact hz b off hin
  · have h := hn ha
    rw [hps] at h
    simpa using h
  · rw [hps]
    simpa using hp

/-- The arguments read as they did, whatever their types, where old memory is as it was. -/
theorem trodAll_kept {H : Type} {enc : TypeId × Value → H} {P : Program} (hl : laidOutB P = true) {W W' : World} (hb : Below W.heap.size W W') : ∀ {ts : List TypeId}, (∀ t ∈ ts, P.readableRec t = true ∧ t < P.types.size) → ∀ {vs : List Value} {ds : List (DataW H)} {ps : List MemPlace},
    DataW.TrodAll enc P W 0 (fun _ => true) true ts vs ds ps → (∀ x ∈ ps, x.block < W.heap.size) → ∀ sp : Nat → Bool, (∀ x ∈ ps, sp x.block = true) → DataW.TrodAll enc P W' 0 sp true ts vs ds ps
  | [], _, vs, ds, ps, h, _, sp, _ => by
    obtain ⟨rfl, rfl, rfl⟩ := trodAll_nil h
    exact trodAll_mk0
  | t :: ts, hr, vs, ds, ps, h, hlt, sp, hsp => by
    obtain ⟨v, vs', d, ds', p, q, rfl, rfl, rfl, h0, h1⟩ := trodAll_cons h
    refine trodAll_cons_mk ?_ (trodAll_kept hl hb (fun u hu => hr u (by simp [hu])) h1 (fun x hx => hlt x (by simp [hx])) sp (fun x hx => hsp x (by simp [hx])))
    have hh := hr t (by simp)
    exact WideElems.Trod_stays hl hh.1 hh.2 h0 (fun x hx => hb.same (hlt x (by simp [hx]))) (fun x hx => hsp x (by simp [hx]))
theorem ret_int {k : IntKind} {a b : Int} (h : a = b) : Ending.returned (.int k a) = .returned (.int k b) := by rw [h]
theorem ret_str {a b : ByteArray} (h : a = b) : Ending.returned (.string a) = .returned (.string b) := by rw [h]
theorem ret_bool {a b : Bool} (h : a = b) : Ending.returned (.bool a) = .returned (.bool b) := by rw [h]
end Go.Proofs.YtjibkgildfjjoaaDoor

/- Frames, plain. -/
namespace Go.Proofs.YtjibkgildfjjoaaDoor
set_option linter.unusedVariables false
set_option linter.unusedSimpArgs false
open Go.RowKit

abbrev V := Int × Int
structure Slt where
  st : Int
  kat : Int
  kgn : Int
  tr : Int
  re : Int
  im : Int
deriving instance DecidableEq for Slt
/-- A frame. -/
structure Frm where
  fn : Int
  pc : Int
  stk : List V
  loc : List V
  slt : List Slt
  seed : Int
  spn : Int
  drw : Int
  st : Int
  wt : Int
  otr : Int
  ore : Int
  oim : Int
  uat : Int
  ugn : Int
  usl : Int
deriving instance DecidableEq for Frm
def frm0 : Frm := ⟨0, 0, [], [], [], 0, 0, 0, 0, 0, 0, 0, 0, 0, 0, 0⟩
/-- Lengths that a walk may rely on. -/
structure FrmLen (f : Frm) : Prop where
  stk : f.stk.length ≤ 1000
  loc : f.loc.length ≤ 1000
  slt : f.slt.length ≤ 1000
end Go.Proofs.YtjibkgildfjjoaaDoor

/- Layer 12, plain: frames in cells with generations. -/
namespace Go.Proofs.YtjibkgildfjjoaaDoor
set_option linter.unusedVariables false
set_option linter.unusedSimpArgs false
open Go.RowKit

/-- A cell, a pen. -/
structure Cel where
  gen : Int
  used : Bool
  frm : Frm
deriving instance DecidableEq for Cel
structure Zp where
  cells : List Cel
  free : List Int
  most : Int
deriving instance DecidableEq for Zp
def cel0 : Cel := ⟨0, false, frm0⟩
def zp0 : Zp := ⟨[], [], 0⟩
/-- The first numbers of a pen are right. -/
def topZ (p : Zp) : Prop := 1 ≤ p.most ∧ p.most ≤ 1024 ∧ (p.cells.length : Int) ≤ p.most
/-- The pen is valid. -/
structure OkZ (p : Zp) : Prop where
  top : topZ p
  rng : ∀ a ∈ p.free, 0 ≤ a ∧ a < (p.cells.length : Int)
  nod : p.free.Nodup
  use : ∀ i (h : i < p.cells.length), p.cells[i].used = true ↔ (i : Int) ∉ p.free
  gen : ∀ i (h : i < p.cells.length), 0 ≤ p.cells[i].gen ∧ p.cells[i].gen < 4294967296
noncomputable def okZ (p : Zp) : Bool := @decide (OkZ p) (Classical.propDecidable _)
theorem okZ_iff (p : Zp) : okZ p = true ↔ OkZ p := by unfold okZ; exact @decide_eq_true_iff _ (Classical.propDecidable _)
theorem okZ_no {p : Zp} (h : ¬ OkZ p) : okZ p = false := by
  rw [← Bool.not_eq_true, okZ_iff]
  exact h
def newZ (most : Int) : Zp × Bool := if 1 ≤ most ∧ most ≤ 1024 then (⟨[], [], most⟩, true) else (zp0, false)
def genZ (p : Zp) (at_ : Int) : Int := (p.cells.getD at_.toNat cel0).gen
def lastZ (p : Zp) : Int := p.free.getD (p.free.length - 1) 0
noncomputable def layZ (p : Zp) (f : Frm) : Zp × V × Int :=
  if okZ p = false then (p, (0, 0), 1)
  else if p.free = [] then
    if (p.cells.length : Int) = p.most then (p, (0, 0), 120)
    else (⟨p.cells ++ [⟨0, true, f⟩], [], p.most⟩, ((p.cells.length : Int), 0), 0)
  else (⟨p.cells.set (lastZ p).toNat ⟨genZ p (lastZ p), true, f⟩, p.free.take (p.free.length - 1), p.most⟩, (lastZ p, genZ p (lastZ p)), 0)
structure LenZ (p : Zp) : Prop where
  cells : p.cells.length ≤ 2000
  free : p.free.length ≤ 2000
  frm : ∀ i (h : i < p.cells.length), FrmLen p.cells[i].frm
def smB (f : Frm) : Bool := decide (f.stk.length ≤ 40) && decide (f.loc.length ≤ 40) && decide (f.slt.length ≤ 40)
def smZ (p : Zp) (k : Nat) : Bool := decide (p.cells.length ≤ k) && decide (p.free.length ≤ k) && p.cells.all fun c => smB c.frm
end Go.Proofs.YtjibkgildfjjoaaDoor

/- Layer 12, plain: what becomes of a valid pen. -/
namespace Go.Proofs.YtjibkgildfjjoaaDoor
set_option linter.unusedVariables false
set_option linter.unusedSimpArgs false
open Go.RowKit

/-- Sizes. -/
structure SmP (p : Zp) (k : Nat) : Prop where
  cells : p.cells.length ≤ k
  free : p.free.length ≤ k
  frm : ∀ c ∈ p.cells, FrmLen c.frm
theorem SmP.len {p : Zp} {k : Nat} (h : SmP p k) (hk : k ≤ 2000) : LenZ p := ⟨by have := h.cells; omega, by have := h.free; omega, fun i hi => h.frm _ (List.getElem_mem hi)⟩
end Go.Proofs.YtjibkgildfjjoaaDoor

/- Layer 11, plain: rings as lists. -/
namespace Go.Proofs.YtjibkgildfjjoaaDoor
set_option linter.unusedVariables false
set_option linter.unusedSimpArgs false
open Go

abbrev RefP := Int × Int
/-- A ring: its places, the first one's index, how many items, how many at most. -/
structure Rng where
  buf : List RefP
  head : Int
  many : Int
  most : Int
def mayN (n : Nat) (h m t : Int) : Bool := decide (1 ≤ t) && decide (t ≤ 1024) && (decide (1 ≤ (n : Int)) && decide ((n : Int) ≤ t)) && (decide (0 ≤ h) && decide (h < n)) && (decide (0 ≤ m) && decide (m ≤ n))
def mayR (r : Rng) : Bool := mayN r.buf.length r.head r.many r.most
theorem mayR_iff (r : Rng) : mayR r = true ↔ (1 ≤ r.most ∧ r.most ≤ 1024) ∧ (1 ≤ (r.buf.length : Int) ∧ (r.buf.length : Int) ≤ r.most) ∧ (0 ≤ r.head ∧ r.head < r.buf.length) ∧ 0 ≤ r.many ∧ r.many ≤ r.buf.length := by
  simp [mayR, mayN, and_assoc]
def idxR (h n i : Nat) : Nat := if n ≤ h + i then h + i - n else h + i
def itemsN (b : List RefP) (h m : Nat) : List RefP := (List.range m).map fun i => b.getD (idxR h b.length i) (0, 0)
def itemsR (r : Rng) : List RefP := if mayR r = true then itemsN r.buf r.head.toNat r.many.toNat else []
theorem itemsN_len (b : List RefP) (h m : Nat) : (itemsN b h m).length = m := by simp [itemsN]
theorem itemsN_get {b : List RefP} {h m i : Nat} (hi : i < m) : (itemsN b h m)[i]? = some (b.getD (idxR h b.length i) (0, 0)) := by
  simp [itemsN, hi]
theorem itemsN_succ (b : List RefP) (h m : Nat) : itemsN b h (m + 1) = itemsN b h m ++ [b.getD (idxR h b.length m) (0, 0)] := by
  simp [itemsN, List.range_succ]
theorem idxN_lt {h n i : Nat} (hh : h < n) (hi : i < n) : idxR h n i < n := by unfold idxR; split <;> omega
/-- Of a ring that may be. -/
theorem ring_nat {r : Rng} (h : mayR r = true) : ∃ (b : List RefP) (hd m t : Nat), r = ⟨b, hd, m, t⟩ ∧ 1 ≤ t ∧ t ≤ 1024 ∧ 1 ≤ b.length ∧ b.length ≤ t ∧ hd < b.length ∧ m ≤ b.length := by
  obtain ⟨⟨a1, a2⟩, ⟨b1, b2⟩, ⟨c1, c2⟩, d1, d2⟩ := (mayR_iff r).1 h
  obtain ⟨b, hd, m, t⟩ := r
  simp only at a1 a2 b1 b2 c1 c2 d1 d2
  refine ⟨b, hd.toNat, m.toNat, t.toNat, ?_, by omega, by omega, by omega, by omega, by omega, by omega⟩
  rw [Int.toNat_of_nonneg c1, Int.toNat_of_nonneg d1, Int.toNat_of_nonneg (by omega)]
theorem items_nat {b : List RefP} {hd m t : Nat} (h : mayR ⟨b, hd, m, t⟩ = true) : itemsR ⟨b, hd, m, t⟩ = itemsN b hd m := by
  unfold itemsR
  rw [if_pos h]
  simp only [Int.toNat_natCast]
theorem items_len {r : Rng} (h : mayR r = true) : ((itemsR r).length : Int) = r.many := by
  obtain ⟨b, hd, m, t, rfl, _⟩ := ring_nat h
  rw [items_nat h, itemsN_len]
def newR (room most : Int) : Rng × Bool := if 1 ≤ most ∧ most ≤ 1024 ∧ 1 ≤ room ∧ room ≤ most then (⟨List.replicate room.toNat (0, 0), 0, 0, most⟩, true) else (⟨[], 0, 0, 0⟩, false)
end Go.Proofs.YtjibkgildfjjoaaDoor

