/- What a law's row asks, where the call has made memory of its own, and old memory is as it was. -/
import Derived.WalkKit
import Derived.ProofKit
import Derived.ChangeSame
import Derived.Below
import Derived.Lib.QuietBelow
import Derived.OpenShut
import Derived.Carry
import Derived.Deep.OwnRows
import Derived.Deep.WholeRow
namespace Go.Proofs.Ytkpjlobpaippdaa
set_option linter.unusedVariables false
set_option linter.unusedSimpArgs false
open Go Go.RowKit Go.WideShapes Go.ChangeShapes

/-- A call that gives v, and makes at most memory of its own. -/
def Ct (P : Program) (f : Nat) (args : Array Value) (v : Value) : Prop := ∀ W, Calls P f args W fun e w' => e = .returned v ∧ Below W.heap.size W w'
theorem Ct.go {P : Program} {f : Nat} {args : Array Value} {v : Value} (h : Ct P f args v) (W : World) : Calls P f args W fun e w' => e = .returned v ∧ Below W.heap.size W w' := h W
/-- A call that gives v, and turns nothing. -/
def Cs (P : Program) (f : Nat) (args : Array Value) (v : Value) : Prop := ∀ W, Calls P f args W fun e w' => e = .returned v ∧ W = w'
theorem Cs.go {P : Program} {f : Nat} {args : Array Value} {v : Value} (h : Cs P f args v) (W : World) : Calls P f args W fun e w' => e = .returned v ∧ W = w' := h W
theorem Below.step {w w1 w2 : World} (hb : Below w.heap.size w w1) (hb1 : Below w1.heap.size w1 w2) : Below w.heap.size w w2 := hb.trans (hb1.mono hb.size)

theorem below_drewN {B : Nat} {a w : World} (h : Below B a w) (n : Nat) : Below B a (w.drewN n) := ⟨h.os, h.tape, h.output, h.size, h.block⟩
/-- A block that a call laid ahead of another call, which turns block b alone, is as it was. -/
theorem laid_kept {w w1 : World} {b : Nat} {cs : Array Value} {t : TypeId} (ho : (w.alloc (.cells cs t)).grownBy w1 (some b)) (hb : b < w.heap.size) : w1.heap[w.heap.size]? = some (.cells cs t (0, 0)) :=
  (ho.block w.heap.size (by simp) (by simp; omega)).trans (heap_alloc_last w _)
theorem cell_at {w : World} {g : Nat} {cs : Array Value} {t : TypeId} (h : w.heap[g]? = some (.cells cs t (0, 0))) (i : Nat) : w.cell? ⟨g, i, none⟩ = cs[i]? := by simp [World.cell?, h]

theorem one_laid {w w1 : World} {c1 : Array Value} {t1 : TypeId} {B : Nat} (hB : w.heap.size + 1 ≤ B) (hb : Below B (w.alloc (.cells c1 t1)) w1) :
    w1.heap[w.heap.size]? = some (.cells c1 t1 (0, 0)) ∧ Below w.heap.size w w1 :=
  ⟨(hb.block _ (by omega)).trans (heap_alloc_last w _), ((Below.refl w.heap.size w).alloc (Nat.le_refl _) _).trans (hb.mono (by omega))⟩
theorem one_laid_d {w w1 : World} {c1 : Array Value} {t1 : TypeId} {B : Nat} (hB : w.heap.size + 1 ≤ B) (hb : Below B (w.alloc (.cells c1 t1)).drew w1) :
    w1.heap[w.heap.size]? = some (.cells c1 t1 (0, 0)) :=
  (hb.block _ (by omega)).trans (heap_alloc_last w _)
theorem below_laid {w w1 : World} {o : Obj} (hb : Below (w.alloc o).heap.size (w.alloc o) w1) : Below w.heap.size w w1 := ((Below.refl w.heap.size w).alloc (Nat.le_refl _) o).trans (hb.mono (by simp))
theorem below_laid_d {w w1 : World} {o : Obj} (hb : Below (w.alloc o).drew.heap.size (w.alloc o).drew w1) : Below w.heap.size w w1 := (((Below.refl w.heap.size w).alloc (Nat.le_refl _) o).drew).trans (hb.mono (by show _ ≤ (w.alloc o).heap.size; simp))
theorem below_drewn {w w1 : World} (hb : Below w.drew.heap.size w.drew w1) : Below w.heap.size w w1 := ((Below.refl w.heap.size w).drew).trans hb
theorem two_laid {w w1 : World} {c1 c2 : Array Value} {t1 t2 : TypeId} {B : Nat} (hB : w.heap.size + 2 ≤ B) (hb : Below B ((w.alloc (.cells c1 t1)).alloc (.cells c2 t2)) w1) :
    w1.heap[w.heap.size]? = some (.cells c1 t1 (0, 0)) ∧ w1.heap[w.heap.size + 1]? = some (.cells c2 t2 (0, 0)) ∧ Below w.heap.size w w1 := by
  refine ⟨(hb.block _ (by omega)).trans ?_, (hb.block _ (by omega)).trans ?_, ?_⟩
  · rw [Below.heap_alloc _ _ _ (by simp)]; exact heap_alloc_last w _
  · have := heap_alloc_last (w.alloc (.cells c1 t1)) (.cells c2 t2)
    simpa using this
  · exact (((Below.refl w.heap.size w).alloc (Nat.le_refl _) _).alloc (by simp) _).trans (hb.mono (by omega))
theorem fz_at {w : World} {g : Nat} {cs : Array Value} {t : TypeId} (h : w.heap[g]? = some (.cells cs t (0, 0))) (i : Nat) : w.frozen? ⟨g, i, none⟩ = false := by simp [World.frozen?, h]

theorem below_of_regrown {w w' : World} (h : ∃ p : Regrown, w' = Sort.grow (redrawn w p.d) p.os) : Below w.heap.size w w' := by
  obtain ⟨p, rfl⟩ := h
  exact below_regrown _ _ _

theorem post_kept {H : Type} {enc : TypeId × Value → H} {P : Program} {f : Func} {s : ChangeSpec} {apart fresh handsOn again : Bool} {W W' : World} {args : Array Value} {v : Value} {ds gs : List (DataW H)} {before pa pv : List MemPlace}
    (hW : DataW.Whole enc P f.params.toList s.vars apart W args.toList ds gs before) (hb : Below W.heap.size W W')
    (hres : ∀ (b : Nat) (sp : Nat → Bool) (hd : Bool), DataW.TrodAll enc P W' b sp hd f.resultTypes.toList (v.resultList f.resultTypes.size) (s.fn H (ds ++ gs)).results [])
    (hargs : ∀ sp : Nat → Bool, (∀ p ∈ before, sp p.block = true) → DataW.TrodAll enc P W' 0 sp true f.params.toList args.toList (s.fn H (ds ++ gs)).args pa)
    (hvars : ∀ sp : Nat → Bool, (∀ p ∈ before, sp p.block = true) → DataW.TrodVars enc P W' sp s.vars (s.fn H (ds ++ gs)).vars pv)
    (hps : before = pa ++ pv)
    (hok : ∀ (j : Nat) (t : TypeId) (r : Value), f.resultTypes[j]? = some t → (v.resultList f.resultTypes.size)[j]? = some r → Value.okWide P W' .any 0 t r) :
    s.post enc P f apart fresh handsOn again W args v W' := by
  have hlt : ∀ p ∈ before, p.block < W.heap.size := fun p hp => hW.lt p hp
  have hold : ∀ p ∈ before, decide (p.block < W.heap.size) = true := fun p hp => decide_eq_true (hlt p hp)
  have hframe : W.keptBut W' (fun p => p ∈ before ∧ p ∈ [] ++ (pa ++ pv)) := World.keptBut_mono (fun p hp => ⟨hp, by rw [hps] at hp; simpa using hp⟩) (hb.frame (· ∈ before))
  refine ⟨ds, gs, before, [], pa, pv, hW, hres _ _ _, hargs _ hold, hvars _ hold, by simpa using hframe, fun _ => ?_⟩
  obtain ⟨_, _, _, _, _, hz, hn⟩ := hW
  refine ⟨hok, _, _, ([] ++ pa) ++ pv, ⟨[] ++ pa, pv, trodAll_append (hargs _ fun _ _ => rfl) (hres _ _ _), hvars _ fun _ _ => rfl, rfl, fun b off hp => ?_, fun ha => ?_⟩, fun p hp _ => ?_⟩
  · have hin : MemPlace.cell b off ∈ before := by rw [hps]; simpa using hp
    rw [hb.frozen (hlt _ hin)]
    exact hz b off hin
  · have h := hn ha
    rw [hps] at h
    simpa using h
  · rw [hps]
    simpa using hp

/-- The arguments read as they did, whatever their types, where old memory is as it was. -/
theorem trodAll_kept {H : Type} {enc : TypeId × Value → H} {P : Program} (hl : laidOutB P = true) {W W' : World} (hb : Below W.heap.size W W') : ∀ {ts : List TypeId}, (∀ t ∈ ts, P.readableRec t = true ∧ t < P.types.size) → ∀ {vs : List Value} {ds : List (DataW H)} {ps : List MemPlace},
    DataW.TrodAll enc P W 0 (fun _ => true) true ts vs ds ps → (∀ x ∈ ps, x.block < W.heap.size) → ∀ sp : Nat → Bool, (∀ x ∈ ps, sp x.block = true) → DataW.TrodAll enc P W' 0 sp true ts vs ds ps
  | [], _, vs, ds, ps, h, _, sp, _ => by
    obtain ⟨rfl, rfl, rfl⟩ := trodAll_nil h
    exact trodAll_mk0
  | t :: ts, hr, vs, ds, ps, h, hlt, sp, hsp => by
    obtain ⟨v, vs', d, ds', p, q, rfl, rfl, rfl, h0, h1⟩ := trodAll_cons h
    refine trodAll_cons_mk ?_ (trodAll_kept hl hb (fun u hu => hr u (by simp [hu])) h1 (fun x hx => hlt x (by simp [hx])) sp (fun x hx => hsp x (by simp [hx])))
    have hh := hr t (by simp)
    exact WideElems.Trod_stays hl hh.1 hh.2 h0 (fun x hx => hb.same (hlt x (by simp [hx]))) (fun x hx => hsp x (by simp [hx]))
theorem ret_int {k : IntKind} {a b : Int} (h : a = b) : Ending.returned (.int k a) = .returned (.int k b) := by rw [h]
theorem ret_str {a b : ByteArray} (h : a = b) : Ending.returned (.string a) = .returned (.string b) := by rw [h]
theorem below_of_eq {w w' : World} (h : w = w') (B : Nat) : Below B w w' := h ▸ Below.refl B w
theorem drop_cons (s : ByteArray) (i : Nat) (h : i < s.size) : s.data.toList.drop i = s[i] :: s.data.toList.drop (i + 1) := by
  rw [List.drop_eq_getElem_cons (by simpa using h)]; rfl
theorem ret_bool {a b : Bool} (h : a = b) : Ending.returned (.bool a) = .returned (.bool b) := by rw [h]
end Go.Proofs.Ytkpjlobpaippdaa
