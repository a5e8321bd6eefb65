/- Layer 10, plain: empty slots are all zero on the way, of frames that begin. -/
import Derived.Test.YtoeinpiekfmbgaaGreatDoorzSo
import Derived.Test.YtoeinpiekfmbgaaGreatDoorzRen
namespace Go.Proofs.YtoeinpiekfmbgaaGreatDoor
set_option linter.unusedVariables false
set_option linter.unusedSimpArgs false
open Gm Go Go.RowKit

/-- An empty slot is all zero. -/
def InvZ (f : Frm) : Prop := ∀ s ∈ f.slt, s.st = 0 → s = slt0
theorem InvZ.same {f g : Frm} (h : InvZ f) (e : g.slt = f.slt) : InvZ g := fun s hs h0 => h s (e ▸ hs) h0
theorem InvZ.set {f : Frm} (h : InvZ f) (i : Nat) {x : Slt} (hx : x.st = 0 → x = slt0) {g : Frm} (e : g.slt = f.slt.set i x) : InvZ g := fun s hs h0 => by
  rw [e] at hs
  rcases List.mem_or_eq_of_mem_set hs with hs | rfl
  · exact h s hs h0
  · exact hx h0
theorem move_slt (f : Frm) (x : Int × Int × Int) : (moveF f x).slt = f.slt := by
  unfold moveF
  repeat' split
  all_goals rfl
theorem exec_z {p : List Fun} {f : Frm} (h : InvZ f) (x : Int × Int × Int) : InvZ (execF p f x).1 := by
  unfold execF
  by_cases h16 : x.1 = 16
  · rw [if_pos h16]; exact h
  rw [if_neg h16]
  by_cases h15 : x.1 = 15
  · rw [if_pos h15]; exact h.same rfl
  rw [if_neg h15]
  by_cases h13 : x.1 = 13
  · rw [if_pos h13]
    unfold spawnF
    split
    · exact h
    · exact h.set x.2.2.toNat (x := { sltAt f x.2.2 with st := 1, kat := -1, kgn := 0 }) (fun e => by simp at e) rfl
  rw [if_neg h13]
  by_cases h14 : x.1 = 14
  · rw [if_pos h14]
    unfold joinF
    split
    · exact h.same rfl
    · split
      · split
        · exact h.set x.2.1.toNat (x := slt0) (fun _ => rfl) rfl
        · exact h.set x.2.1.toNat (x := slt0) (fun _ => rfl) rfl
      · exact h
  rw [if_neg h14]
  by_cases hc : x.1 = 3 ∨ x.1 = 4 ∨ x.1 = 5 ∨ x.1 = 6
  · rw [if_pos hc]
    unfold compF
    split
    · exact h.same rfl
    · exact h
  rw [if_neg hc]
  by_cases h10 : x.1 = 10
  · rw [if_pos h10]; exact h.same rfl
  rw [if_neg h10]
  by_cases h11 : x.1 = 11
  · rw [if_pos h11]
    split
    · exact h.same rfl
    · exact h.same rfl
  rw [if_neg h11]
  exact h.same (move_slt f x)
theorem do_z {p : List Fun} {f : Frm} (h : InvZ f) : InvZ (doF p f).1 := by
  unfold doF
  split
  · exact h
  · unfold runF
    split
    · exact h.same rfl
    · split
      · exact h.same rfl
      · have hx := exec_z (p := p) h (fetchF p f).1
        split
        · exact hx.same rfl
        · exact hx
theorem give_z {f : Frm} (h : InvZ f) (sl : Int) (o : OutP) : InvZ (giveO f sl o) := by
  unfold giveO giveF
  split
  · split
    · exact h.set sl.toNat (x := ⟨2, -1, 0, o.1, o.2.1, o.2.2⟩) (fun e => by simp at e) rfl
    · exact h.set sl.toNat (x := ⟨2, -1, 0, o.1, o.2.1, o.2.2⟩) (fun e => by simp at e) rfl
  · exact h
theorem new_z (p : List Fun) (fn : Int) (args : List V) (s : Int) : InvZ (newF p fn args s).1 := by
  have hz : InvZ frm0 := fun s hs => by simp [frm0] at hs
  unfold newF
  split
  · split
    · split
      · exact fun s hs _ => (List.mem_replicate.1 hs).2
      · exact hz
    · exact hz
  · exact hz
end Go.Proofs.YtoeinpiekfmbgaaGreatDoor

/- Layer 9: the document's trap. -/
namespace Go.Proofs.YtoeinpiekfmbgaaGreatDoor
set_option linter.unusedVariables false
set_option linter.unusedSimpArgs false
open Gm Go.RowKit Go.ChangeShapes Go.WideShapes Go.ChangeAt Go.Sort

/-- What a function leaves in the two cells of its results: a frame, what is asked for. -/
theorem two_ret {P : Program} {W : World} {g1 g2 : Nat} {c1 c2 : Array Value} {fn : Func} {p q : Tmp} (hP : P = Tryz.prog) (h : fn.results = #[.cell p 45, .cell q 77]) (tmps : Array Value) (h1 : Held W g1 45 c1) (h2 : Held W g2 77 c2)
    (n1 : c1.size = 16) (n2 : c2.size = 5)
    (hp : tmps.getD p undef = .pointer (some ⟨g1, 0, none⟩)) (hq : tmps.getD q undef = .pointer (some ⟨g2, 0, none⟩)) : (results fn tmps).run P W = .ok (.tuple #[.agg c1, .agg c2]) W := by
  subst hP
  have l1 := run_loadVar_row (P := Tryz.prog) _ g1 45 45 _ (0, 0) _ h1 Tryz.underlying45 rfl (by rw [n1]; kernel_rfl)
  have l2 := run_loadVar_row (P := Tryz.prog) _ g2 77 77 _ (0, 0) _ h2 Tryz.underlying77 rfl (by rw [n2]; kernel_rfl)
  exact results_two h _ _ hp hq l1 l2
set_option maxHeartbeats 4000000 in
set_option maxRecDepth 100000 in
theorem r9trap_any (f : Frm) (s l o : Value) (t : Int) (w : World) (hs : ∃ A n c, s = .slice A n c) (hl : ∃ A n c, l = .slice A n c) (ho : ∃ A n c, o = .slice A n c) :
    Calls Tryz.prog 50 #[fv f s l o, .int .i64 t] w fun e w' => e = .returned (.tuple #[fv (endF f t (0, 0)) s l o, .agg ac4]) ∧ Below w.heap.size w w' := by
  obtain ⟨As, ns, cs, rfl⟩ := hs
  obtain ⟨Al, nl, cl, rfl⟩ := hl
  obtain ⟨Ao, no, co, rfl⟩ := ho
  have CE := fun W => Lib.hid (r9end_any f (.slice As ns cs) (.slice Al nl cl) (.slice Ao no co) t 0 0 W ⟨_, _, _, rfl⟩ ⟨_, _, _, rfl⟩ ⟨_, _, _, rfl⟩)
  go_enter Tryz.func50, Tryz.ntmps50
  go_upto_region 1 with (fail)
  have h4 := (Held.new1 w (.cells (fcA f (.slice As ns cs) (.slice Al nl cl) (.slice Ao no co)) 45) 45 fz0).alloc (.cells ac0 77)
  have h5 := Held.new1 (w.alloc (.cells (fcA f (.slice As ns cs) (.slice Al nl cl) (.slice Ao no co)) 45)) (.cells fz0 45) 77 ac0
  have hbw : Below w.heap.size w (((w.alloc (.cells (fcA f (.slice As ns cs) (.slice Al nl cl) (.slice Ao no co)) 45)).alloc (.cells fz0 45)).alloc (.cells ac0 77)) := (below2 w _ _).alloc (by simp; omega) _
  have hx := ((Held.new w 45 (fcA f (.slice As ns cs) (.slice Al nl cl) (.slice Ao no co))).alloc (.cells fz0 45)).alloc (.cells ac0 77)
  have s1 : ∀ q : Obj, (w.alloc q).heap.size = w.heap.size + 1 := fun q => by simp
  rw [s1] at h5
  generalize (((w.alloc (.cells (fcA f (.slice As ns cs) (.slice Al nl cl) (.slice Ao no co)) 45)).alloc (.cells fz0 45)).alloc (.cells ac0 77)) = W0 at *
  have hx : Held W0 w.heap.size 45 (fcA f (.slice As ns cs) (.slice Al nl cl) (.slice Ao no co)) := hx
  clear s1
  have H4 := Lib.hid h4
  have H5 := Lib.hid h5
  clear h4 h5
  go_wp2_with (first
    | (guard_target = wpList _ _ _ (Oper.mk _ (Op.load 45 (.tmp 2)) _ _ _ none :: _) _ _; refine wpList_load_row rfl 45 _ rfl w.heap.size rfl _ _ _ _ hx Tryz.underlying45 rfl (by kernel_rfl) ?_)
    | (go_at_call 55; (with_reducible refine (CE _).out.mono ?_); rintro _ u ⟨rfl, hb⟩; have h4 := H4.out.below hb; have h5 := H5.out.below hb)
    | (guard_target = wpList _ _ _ (Oper.mk _ (Op.store 45 (.tmp 4) _) _ _ _ none :: _) _ _; refine wpList_store_row rfl 45 _ _ rfl (w.heap.size + 1) (fcA (endF f t (0, 0)) (.slice As ns cs) (.slice Al nl cl) (.slice Ao no co)) rfl rfl _ _ h4 (by kernel_rfl) rfl (by simp [Value.oneCell']) ?_; have k5 := h5.row (show w.heap.size + 1 + 1 ≠ w.heap.size + 1 by omega) (fcA (endF f t (0, 0)) (.slice As ns cs) (.slice Al nl cl) (.slice Ao no co)); have k4 := h4.rowSelf (fcA (endF f t (0, 0)) (.slice As ns cs) (.slice Al nl cl) (.slice Ao no co)))
    | (guard_target = wpList _ _ _ (Oper.mk _ (Op.store 77 (.tmp 5) _) _ _ _ none :: _) _ _; refine wpList_store_row rfl 77 _ _ rfl (w.heap.size + 1 + 1) ac4 rfl rfl _ _ k5 (by kernel_rfl) rfl (by simp [Value.oneCell']) ?_))
  have k4b := k4.row (show w.heap.size + 1 ≠ w.heap.size + 1 + 1 by omega) ac4
  have k5b := k5.rowSelf ac4
  have hbB := below_row (below_row (Below.step hbw hb) (k := w.heap.size + 1) (by omega) (fcA (endF f t (0, 0)) (.slice As ns cs) (.slice Al nl cl) (.slice Ao no co))) (k := w.heap.size + 1 + 1) (by omega) ac4
  exact bodyPost_ret (two_ret rfl rfl _ k4b k5b rfl rfl rfl rfl) rfl ⟨rfl, hbB⟩
end Go.Proofs.YtoeinpiekfmbgaaGreatDoor

