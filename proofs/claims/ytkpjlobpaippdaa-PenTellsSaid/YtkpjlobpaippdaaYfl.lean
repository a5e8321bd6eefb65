/- Layer 12: plain facts of the calls that the document fixes. -/
import Derived.Test.YtkpjlobpaippdaaYl
import Derived.Test.YtkpjlobpaippdaaYz
import Derived.Deep.DeepCutAuto
namespace Go.Proofs.Ytkpjlobpaippdaa
set_option linter.unusedVariables false
set_option linter.unusedSimpArgs false
open Go.RowKit Go.ChangeShapes Go.WideShapes Go.ChangeAt Go.Sort

instance decTop (p : Zp) : Decidable (topZ p) := by unfold topZ; infer_instance
instance decCel (p : Zp) (i : Nat) : Decidable (celOk p i) := by unfold celOk; infer_instance
def okB (p : Zp) : Bool := decide (topZ p) && (List.range p.cells.length).all (fun i => decide (celOk p i)) && decide (p.free.length = unN p.cells p.cells.length)
theorem okZ_eq (p : Zp) : okZ p = okB p := by
  rw [Bool.eq_iff_iff, okZ_iff, ok_doc]
  unfold okB
  simp only [Bool.and_eq_true, decide_eq_true_eq, List.all_eq_true, List.mem_range]
  constructor
  · rintro ⟨a, b, c⟩
    exact ⟨⟨a, b⟩, c⟩
  · rintro ⟨⟨a, b⟩, c⟩
    exact ⟨a, b, c⟩
def hasB (p : Zp) (r : V) : Bool := (List.range p.cells.length).any fun i => decide (r.1 = (i : Int)) && (p.cells.getD i cel0).used && decide ((p.cells.getD i cel0).gen = r.2)
theorem hasZ_eq (p : Zp) (r : V) : hasZ p r = hasB p r := by
  rw [Bool.eq_iff_iff, hasZ_iff]
  unfold hasB
  simp only [List.any_eq_true, List.mem_range, Bool.and_eq_true, decide_eq_true_eq]
  constructor
  · rintro ⟨i, hi, e, hu, hg⟩
    refine ⟨i, hi, ⟨e, ?_⟩, ?_⟩
    · rw [List.getD_eq_getElem?_getD, List.getElem?_eq_getElem hi]; exact hu
    · rw [List.getD_eq_getElem?_getD, List.getElem?_eq_getElem hi]; exact hg
  · rintro ⟨i, hi, ⟨e, hu⟩, hg⟩
    rw [List.getD_eq_getElem?_getD, List.getElem?_eq_getElem hi] at hu hg
    exact ⟨i, hi, e, hu, hg⟩
abbrev ff : Frm := { frm0 with fn := 1 }
abbrev fg : Frm := { frm0 with fn := 2 }
abbrev ffc : Array Value := #[.int .i64 1, .int .i64 0, .slice none 0 0, .slice none 0 0, .slice none 0 0, .int .i64 0, .int .i64 0, .int .i64 0, .int .i64 0, .int .i64 0, .int .i64 0, .int .i64 0, .int .i64 0, .int .i64 0, .int .i64 0, .int .i64 0]
abbrev fgc : Array Value := #[.int .i64 2, .int .i64 0, .slice none 0 0, .slice none 0 0, .slice none 0 0, .int .i64 0, .int .i64 0, .int .i64 0, .int .i64 0, .int .i64 0, .int .i64 0, .int .i64 0, .int .i64 0, .int .i64 0, .int .i64 0, .int .i64 0]
def x0 : Zp := ⟨[], [], 2⟩
def x1 : Zp := ⟨[⟨0, true, ff⟩], [], 2⟩
def x2 : Zp := ⟨[⟨0, true, ff⟩, ⟨0, true, fg⟩], [], 2⟩
def xq : Zp := ⟨[⟨1, false, frm0⟩, ⟨0, true, fg⟩], [0], 2⟩
def xs : Zp := ⟨[⟨1, true, fg⟩, ⟨0, true, fg⟩], [], 2⟩
def xt : Zp := ⟨[⟨1, true, fg⟩, ⟨0, true, ff⟩], [], 2⟩
theorem ff_len : FrmLen ff := ⟨by simp [frm0], by simp [frm0], by simp [frm0]⟩
theorem fg_len : FrmLen fg := ⟨by simp [frm0], by simp [frm0], by simp [frm0]⟩
theorem fx_new : newZ 2 = (x0, true) := by kernel_rfl
theorem fx_new2 : newZ 1025 = (zp0, false) := by kernel_rfl
theorem fx1 : layZ x0 ff = (x1, (0, 0), 0) := by unfold layZ genZ; rw [okZ_eq]; kernel_rfl
theorem fx2 : layZ x1 fg = (x2, (1, 0), 0) := by unfold layZ genZ; rw [okZ_eq]; kernel_rfl
theorem fx3 : layZ x2 ff = (x2, (0, 0), 120) := by unfold layZ genZ; rw [okZ_eq]; kernel_rfl
theorem fx4 : dropZ x2 (0, 0) = (xq, 0) := by unfold dropZ; rw [okZ_eq, hasZ_eq]; kernel_rfl
theorem fx5 : getZ xq (0, 0) = (frm0, false) := by unfold getZ; rw [okZ_eq, hasZ_eq]; kernel_rfl
theorem fx6 : layZ xq fg = (xs, (0, 1), 0) := by unfold layZ genZ; rw [okZ_eq]; kernel_rfl
theorem fx7 : setZ xs (0, 0) ff = (xs, 121) := by unfold setZ; rw [okZ_eq, hasZ_eq]; kernel_rfl
theorem fx8 : setZ xs (1, 0) ff = (xt, 0) := by unfold setZ; rw [okZ_eq, hasZ_eq]; kernel_rfl
theorem fx9 : getZ xt (1, 0) = (ff, true) := by unfold getZ; rw [okZ_eq, hasZ_eq]; kernel_rfl
theorem fx10 : dropZ zp0 (0, 0) = (zp0, 1) := by unfold dropZ; rw [okZ_eq, hasZ_eq]; kernel_rfl
theorem fx11 : refsZ xt = [(0, 1), (1, 0)] := by unfold refsZ; rw [okZ_eq]; kernel_rfl
theorem fx12 : okZ xt = true := by rw [okZ_eq]; kernel_rfl
theorem fx13 : okZ zp0 = false := by rw [okZ_eq]; kernel_rfl
theorem fx14 : decide (xt = xt) = true := by simp
theorem fx15 : decide (xs = xt) = false := by kernel_rfl
theorem x_len {p : Zp} (h : p = zp0 ∨ p = x0 ∨ p = x1 ∨ p = x2 ∨ p = xq ∨ p = xs ∨ p = xt) : LenZ p := by
  have key : ∀ q : Zp, SmP q 2 → LenZ q := fun q hq => hq.len (by decide)
  refine key p ?_
  rcases h with rfl | rfl | rfl | rfl | rfl | rfl | rfl
  all_goals
    refine ⟨by decide, by decide, fun c hc => ?_⟩
    simp [zp0, x0, x1, x2, xq, xs, xt] at hc
  · subst hc; exact ff_len
  · rcases hc with rfl | rfl
    · exact ff_len
    · exact fg_len
  · rcases hc with rfl | rfl
    · exact frm0_len
    · exact fg_len
  · rcases hc with rfl | rfl
    · exact fg_len
    · exact fg_len
  · rcases hc with rfl | rfl
    · exact fg_len
    · exact ff_len
theorem ff_at (W : World) (B : Nat) : FrmAt W B (.agg ffc) ff := ⟨none, 0, none, 0, none, 0, rfl, VAt.nil _ _ _, VAt.nil _ _ _, SAt.nil _ _ _⟩
theorem fg_at (W : World) (B : Nat) : FrmAt W B (.agg fgc) fg := ⟨none, 0, none, 0, none, 0, rfl, VAt.nil _ _ _, VAt.nil _ _ _, SAt.nil _ _ _⟩
theorem two2_at {t : TypeId} {w : World} (x y z v : Int) : PAt (w.alloc (.cells #[.int .i64 x, .int .i64 y, .int .i64 z, .int .i64 v] t)) (w.alloc (.cells #[.int .i64 x, .int .i64 y, .int .i64 z, .int .i64 v] t)).heap.size (some ⟨w.heap.size, 0, none⟩) [(x, y), (z, v)] := fun _ => by
  have h := Held.new w t #[.int .i64 x, .int .i64 y, .int .i64 z, .int .i64 v]
  refine ⟨_, _, rfl, h.lt, fun j hj => ?_⟩
  have hj2 : j < 2 := by simpa using hj
  match j, hj2 with
  | 0, _ => exact ⟨h.cell 0, h.cell 1⟩
  | 1, _ => exact ⟨h.cell 2, h.cell 3⟩
theorem rrefs_n {l k : List V} {R : Bool} {n m : Nat} (hn : l.length = n) (hm : k.length = m) (hR : decide (l = k) = R) (h1 : n ≤ 100000) (h2 : m ≤ 100000) (c c2 : Nat) (W : World) {A A2 : Option Addr} (hp : PAt W W.heap.size A l) (hq : PAt W W.heap.size A2 k) :
    Calls Try.prog 24 #[.slice A n c, .slice A2 m c2] W fun e w' => e = .returned (.bool R) ∧ Below W.heap.size W w' := by
  subst hn hm
  exact rrefs_c hR h1 h2 c c2 W hp hq
theorem pat_later {w w' : World} {A : Option Addr} {l : List P2} (h : PAt w w.heap.size A l) (hb : Below w.heap.size w w') : PAt w' w'.heap.size A l := (h.below hb (Nat.le_refl _)).more hb.size
theorem own_later {w w' : World} {B : Nat} {v : Value} {l : List P2} (h : OwnR w B v l) (hb : Below w.heap.size w w') : OwnR w' B v l := r_later h hb
theorem own2_at' {w : World} {B n c : Nat} {A : Option Addr} {l : List P2} (h : OwnR w B (.slice A n c) l) : PAt w w.heap.size A l := own2_at h
theorem zp0_at (W : World) : PAtZ W W.heap.size none none zp0 := ⟨CAt.nil _ _ _, IAt.nil _ _ _⟩
end Go.Proofs.Ytkpjlobpaippdaa
