/- Own programs, and worlds that grow. -/
import Derived.Test.YtjibkgildfjjoaaDoorzPw
import Derived.Test.YtjibkgildfjjoaaDoorzGw
import Derived.Test.YtjibkgildfjjoaaDoorzHd
import Derived.Test.YtjibkgildfjjoaaDoorzQt
import Derived.OpenShut
import Derived.Lib.Hide
import Derived.WalkMore
import Derived.Handy
import Derived.BigQuiet
import Derived.Deep.QuietTactic
import Derived.RegionTactic
import Derived.Test.YtjibkgildfjjoaaDoorzRw
import Derived.Deep.OwnRows
import Derived.Deep.DeepCutAuto
import Derived.Deep.CutBlock
import Derived.Deep.RegionHeld3
import Derived.Test.YtjibkgildfjjoaaDoorzSdm
import Derived.Lib.QuietBelow
import Derived.Laws.OwnMore
namespace Go.Proofs.YtjibkgildfjjoaaDoor
set_option linter.unusedVariables false
set_option linter.unusedSimpArgs false
open Go.RowKit Go.ChangeShapes Go.WideShapes Go.ChangeAt Go.Sort

theorem OwnL.made (w : World) : OwnL (w.alloc (.cells #[] 89)) w.heap.size (.slice (some ⟨w.heap.size, 0, none⟩) 0 0) [] :=
  ⟨World.ownsRow_made w #[] 0 (Nat.le_refl _) (by decide) rfl, by simp, List.Pairwise.nil⟩
/-- One function more: no old block but the row's is turned. -/
theorem wpList_append_fun2 {w : World} {ops : Array Oper} {rest : List Oper} {o : Oper} {a : Act} {Q : Exit → Act → World → Prop} (t : TypeId) (ht : Tryd.prog.underlying t = some (.slice 89))
    (hg : o.guard = none) (s x : Operand) (hop : o.op = Op.call { callee := Callee.builtin Builtin.append, args := #[s, x], argTypes := #[t, t] })
    (B : Nat) (w0 : World) (v : Value) (l : List (Fun × Value)) (f : Fun) (c : Value) (hw : w = w0.alloc (.cells #[.int .i64 f.ar, .int .i64 f.lo, .int .i64 f.sl, c] 89)) (hs : a.eval s = v) (own : OwnL w0 B v l)
    (hc : OwnC w0 B c f.code) (hd : ∀ x ∈ l, ∀ b, x.2.ownBlock = some b → c.ownBlock ≠ some b)
    (hx : a.eval x = .slice (some ⟨w0.heap.size, 0, none⟩) 1 1) (hlen : l.length ≤ 1000000) (hB : B ≤ w0.heap.size)
    (h : ∀ v' w', OwnL w' B v' (l ++ [(f, c)]) → w0.grownBy w' v.ownBlock → wpList Tryd.prog ops Q rest (a.put o.dst v') w') : wpList Tryd.prog ops Q (o :: rest) a w := by
  subst hw
  obtain ⟨q, hi, hz0, hz1, hz2⟩ := info_parts infoFn
  have own' : (w0.alloc (.cells #[.int .i64 f.ar, .int .i64 f.lo, .int .i64 f.sl, c] 89)).ownsRow B 89 4 v l.length (flatF l) := own.1.alloc _
  obtain ⟨A, cc, hce, _⟩ := hc.code
  refine wpList_append_own _ hg s x t hop B 89 q (.agg #[.int .i64 0, .int .i64 0, .int .i64 0, .slice none 0 0]) 4 48 ht hi hz0 hz1 hz2 rfl (by decide) v l.length (flatF l) hs own' ⟨w0.heap.size, 0, none⟩ 1 1
    [.int .i64 f.ar, .int .i64 f.lo, .int .i64 f.sl, c] hx rfl (World.news_of_block (heap_alloc_last w0 _)) ?_ (by unfold maxLen; omega) (by omega) (by simp; omega) ?_
  · intro u hu
    simp at hu
    rcases hu with rfl | rfl | rfl | rfl
    · rfl
    · rfl
    · rfl
    · rw [hce]; rfl
  · intro v' w' h1 h2 _
    have hg2 : w0.grownBy w' v.ownBlock := ⟨h2.os, h2.tape, h2.output, Nat.le_trans (by simp) h2.size, fun k hk hne => (h2.block k (by simp; omega) hne).trans (Below.heap_alloc w0 _ k hk)⟩
    have hcd := (own.2.snoc hc hd).grown hg2 (fun y hy => own_ne ((own.2.snoc hc hd).1 y hy) own.1)
    refine h v' w' ⟨?_, hcd⟩ hg2
    rw [flatF_snoc, List.length_append]
    exact h1
theorem OwnL.grown {w w' : World} {B : Nat} {v : Value} {l : List (Fun × Value)} {row : Option Nat} (h : OwnL w B v l) (hg : w.grownBy w' row) (hr : ∀ b, row = some b → b < B) : OwnL w' B v l := by
  refine ⟨h.1.kept hg ?_, h.2.grown hg fun x hx b hb e => ?_⟩
  · cases hv : v.ownBlock with
    | none => exact .inl rfl
    | some k =>
      refine .inr fun e => ?_
      have := (h.1.lt k hv).1
      have := hr k e.symm
      omega
  · have h1 := hr b e
    have := (h.2.1 x hx).lt b hb
    omega
/-- A block that is no own row's, behind an append. -/
theorem Held.grown {w w' : World} {g : Nat} {t : TypeId} {cs : Array Value} {row : Option Nat} (h : Held w g t cs) (hg : w.grownBy w' row) (hr : row ≠ some g) : Held w' g t cs := (hg.block g h.lt (Ne.symm hr)).trans h
theorem Held.three {W : World} {g : Nat} {t : TypeId} {a b c : Value} (h : Held W g t #[a, b, c]) : W.cell? ⟨g, 0, none⟩ = some a ∧ W.cell? ⟨g, 1, none⟩ = some b ∧ W.cell? ⟨g, 2, none⟩ = some c ∧ W.frozen? ⟨g, 0, none⟩ = false ∧ W.frozen? ⟨g, 1, none⟩ = false ∧ W.frozen? ⟨g, 2, none⟩ = false :=
  ⟨h.cell 0, h.cell 1, h.cell 2, h.fz 0, h.fz 1, h.fz 2⟩
theorem grown_set (W : World) (g i : Nat) (x : Value) : W.grownBy (W.setCell ⟨g, i, none⟩ x) (some g) := ⟨rfl, rfl, rfl, by simp [World.setCell], fun k _ hne => Below.heap_setCell W ⟨g, i, none⟩ x k (fun e => hne (by rw [e]))⟩
theorem below_set3 {w v : World} {B g : Nat} {x y z : Value} (h : Below B w v) (hg : B ≤ g) : Below B w (((v.setCell ⟨g, 0, none⟩ x).setCell ⟨g, 1, none⟩ y).setCell ⟨g, 2, none⟩ z) := ((h.setCell hg x).setCell hg y).setCell hg z
/-- The last function's cells. -/
theorem OwnL.last {w : World} {B : Nat} {v : Value} {L : List (Fun × Value)} {f : Fun} {cv : Value} (h : OwnL w B v (L ++ [(f, cv)])) :
    ∃ g cap, v = .slice (some ⟨g, 0, none⟩) (L.length + 1) cap ∧ B ≤ g ∧ g < w.heap.size ∧ w.cell? ⟨g, L.length * 4, none⟩ = some (.int .i64 f.ar) ∧ w.cell? ⟨g, L.length * 4 + 1, none⟩ = some (.int .i64 f.lo) ∧ w.cell? ⟨g, L.length * 4 + 2, none⟩ = some (.int .i64 f.sl) ∧
      w.cell? ⟨g, L.length * 4 + 3, none⟩ = some cv ∧ ∀ i, w.frozen? ⟨g, i, none⟩ = false := by
  have hcells := fun g hg => h.1.cells (g := g) hg
  have hlt := fun g hg => h.1.lt g hg
  obtain ⟨_, h2⟩ := h.1
  rw [List.length_append, List.length_singleton] at h2
  rcases h2 with ⟨_, h0⟩ | ⟨g, cap, cur, rfl, hg, hb, _⟩
  · omega
  · have hc := hcells g rfl
    have hj : L.length < (L ++ [(f, cv)]).length := by simp
    obtain ⟨e0, e1, e2, e3⟩ := flatF_at (L ++ [(f, cv)]) L.length hj
    have k0 := hc _ _ e0
    have k1 := hc _ _ e1
    have k2 := hc _ _ e2
    have k3 := hc _ _ e3
    rw [addr_add] at k0 k1 k2 k3
    simp at k0 k1 k2 k3
    exact ⟨g, cap, rfl, hg, (hlt g rfl).2, k0, k1, k2, k3, fun i => fz_at hb i⟩
theorem set_last4 (xs : List Value) (a b c d d' : Value) : (xs ++ [a, b, c, d]).set (xs.length + 3) d' = xs ++ [a, b, c, d'] := by
  induction xs with
  | nil => rfl
  | cons x xs ih =>
    simp only [List.cons_append, List.length_cons, show xs.length + 1 + 3 = (xs.length + 3) + 1 from rfl, List.set_cons_succ]
    rw [ih]
/-- The last function has a code more. -/
theorem OwnL.more {w : World} {B g cap : Nat} {L : List (Fun × Value)} {f f' : Fun} {cv cv' : Value}
    (h : w.ownsRow B 89 4 (.slice (some ⟨g, 0, none⟩) (L.length + 1) cap) (L.length + 1) (flatF (L ++ [(f, cv)]))) (hl : Codes w B L) (hc : OwnC w B cv' f'.code) (hd : ∀ x ∈ L, ∀ b, x.2.ownBlock = some b → cv'.ownBlock ≠ some b)
    (e1 : f'.ar = f.ar) (e2 : f'.lo = f.lo) (e3 : f'.sl = f.sl) :
    OwnL (w.setCell ⟨g, L.length * 4 + 3, none⟩ cv') B (.slice (some ⟨g, 0, none⟩) (L.length + 1) cap) (L ++ [(f', cv')]) := by
  have hcd := hl.snoc hc hd
  have h4 := h.stored (L.length * 4 + 3) cv'
  refine ⟨?_, ?_⟩
  · have e := h4.1
    rw [flatF_snoc, ← flatF_len L, set_last4] at e
    rw [flatF_snoc, List.length_append, ← flatF_len L, e1, e2, e3]
    exact e
  · exact hcd.grown h4.2 fun x hx b hb => own_ne (hcd.1 x hx) h b hb
theorem OwnL.cap {w : World} {B : Nat} {v : Value} {L : List (Fun × Value)} (h : OwnL w B v L) : ∃ A c, v = .slice A L.length c ∧ L.length ≤ c := by
  rcases h.1.2 with ⟨rfl, h0⟩ | ⟨g, cap, cur, rfl, _, _, hc, _⟩
  · exact ⟨none, 0, by rw [h0], by omega⟩
  · exact ⟨_, _, rfl, hc⟩

end Go.Proofs.YtjibkgildfjjoaaDoor

/- Layer 8's code: the checker in memory. -/
namespace Go.Proofs.YtjibkgildfjjoaaDoor
set_option linter.unusedVariables false
set_option linter.unusedSimpArgs false
open Go.RowKit Go.ChangeShapes Go.WideShapes Go.ChangeAt Go.Sort

abbrev intA (D : List Int) : Array Value := (D.map fun d => Value.int .i64 d).toArray
abbrev boolA (D : List Bool) : Array Value := (D.map fun d => Value.bool d).toArray
theorem intA_get (D : List Int) (i : Nat) : (intA D)[i]? = D[i]?.map fun d => Value.int .i64 d := by simp
theorem boolA_get (D : List Bool) (i : Nat) : (boolA D)[i]? = D[i]?.map fun d => Value.bool d := by simp

theorem unless_any (b : Bool) (e : Int) : Cs Tryd.prog 85 #[.bool b, .int .i64 e] (.int .i64 (if b then 0 else e)) := fun w => by
  cases b
  all_goals
    go_enter Tryd.func85, Tryd.ntmps85
    go_wp2_with fail
    go_ret
    exact ⟨rfl, rfl⟩

set_option maxHeartbeats 1000000 in
theorem index_any {v : Nat} {W : List Bool} (w : World) (h : Held w v 4 (boolA W)) (hW : W.length ≤ 1000) :
    Calls Tryd.prog 87 #[.slice (some ⟨v, 0, none⟩) W.length W.length, .bool true] w fun e w' => e = .returned (.int .i64 (match openS W with | some i => (i : Int) | none => -1)) ∧ w = w' := by
  have H := Lib.hid h
  clear h
  have hW2 : (W.length : Int) ≤ 1000 := by omega
  generalize hR : (match openS W with | some i => (i : Int) | none => -1) = R
  have HR := Lib.hid hR
  clear hR
  go_enter Tryd.func87, Tryd.ntmps87
  go_wp2
  go_loop [8] (fun i => ∃ j : Nat, j ≤ W.length ∧ i = .int .i64 j ∧ (∀ k (hk : k < j) (hk2 : k < W.length), W[k] = false)) (fun i => W.length - (intOf i).toNat)
  case atStart => exact ⟨0, by omega, rfl, by intro k hk; omega⟩
  case round =>
    obtain ⟨j, hj, rfl, hall⟩ := hrel
    have HA := Lib.hid hall
    clear hall
    by_cases hlt : j < W.length
    · have c0 : w.cell? ⟨v, j, none⟩ = some (.bool W[j]) := by rw [H.out.cell, boolA_get, List.getElem?_eq_getElem hlt]; rfl
      cases hw : W[j]
      · rw [hw] at c0
        have HW := Lib.hid hw
        clear hw
        go_wp2_with fail
        go_round
        case rel =>
          refine ⟨j + 1, by omega, by go_num, fun k hk hk2 => ?_⟩
          rcases Nat.lt_succ_iff_lt_or_eq.1 hk with h | rfl
          · exact HA.out k h hk2
          · exact HW.out
        case measure => simp [intOf]; omega
      · rw [hw] at c0
        have ho := openS_at hlt hw (fun k hk => HA.out k hk (by omega))
        have hr := HR.out
        rw [ho] at hr
        have HR2 := Lib.hid hr
        clear hw ho hr
        go_wp2_with fail
        go_ret
        exact ⟨ret_int HR2.out, rfl⟩
    · obtain rfl : j = W.length := by omega
      have ho := openS_no (W := W) (fun x hx => by
        obtain ⟨k, hk, rfl⟩ := List.mem_iff_getElem.1 hx
        exact HA.out k hk hk)
      have hr := HR.out
      rw [ho] at hr
      have HR2 := Lib.hid hr
      clear ho hr
      go_wp2_with fail
      go_ret
      exact ⟨ret_int HR2.out, rfl⟩
end Go.Proofs.YtjibkgildfjjoaaDoor

/- Layer 8's code: begin. -/
namespace Go.Proofs.YtjibkgildfjjoaaDoor
set_option linter.unusedVariables false
set_option linter.unusedSimpArgs false
open Go.RowKit Go.ChangeShapes Go.WideShapes Go.ChangeAt Go.Sort

theorem infoB : (Tryd.prog.info? 4).map (fun i => (i.zero, i.size, i.bytes)) = some (some (.bool false), 1, 1) := by kernel_rfl
theorem made_int (n : Nat) : madeCells #[Value.int .i64 0] n = intA (List.replicate n 0) := by
  apply Array.ext'
  rw [toList_madeCells_one]
  simp
theorem made_bool (n : Nat) : madeCells #[Value.bool false] n = boolA (List.replicate n false) := by
  apply Array.ext'
  rw [toList_madeCells_one]
  simp
theorem make_ints {n : Nat} (hn : n ≤ 1000000) (w : World) : (Instr.makeSlice 27 (.int .i64 (n : Int)) (.int .i64 (n : Int))).run Tryd.prog w = .ok (.slice (some ⟨w.heap.size, 0, none⟩) n n) (w.alloc (.cells (intA (List.replicate n 0)) 3)) := by
  have := run_make_row' (P := Tryd.prog) 27 3 (.int .i64 0) 8 Tryd.underlying27 infoI rfl .i64 .i64 n (by omega) (by omega) w
  rwa [made_int] at this
theorem make_bools {n : Nat} (hn : n ≤ 1000000) (w : World) : (Instr.makeSlice 102 (.int .i64 (n : Int)) (.int .i64 (n : Int))).run Tryd.prog w = .ok (.slice (some ⟨w.heap.size, 0, none⟩) n n) (w.alloc (.cells (boolA (List.replicate n false)) 4)) := by
  have := run_make_row' (P := Tryd.prog) 102 4 (.bool false) 1 Tryd.underlying102 infoB rfl .i64 .i64 n (by omega) (by omega) w
  rwa [made_bool] at this
theorem intA_set (D : List Int) (i : Nat) (x : Int) : (intA D).setIfInBounds i (.int .i64 x) = intA (D.set i x) := by
  apply Array.ext'
  simp [List.map_set]
theorem boolA_set (D : List Bool) (i : Nat) (x : Bool) : (boolA D).setIfInBounds i (.bool x) = boolA (D.set i x) := by
  apply Array.ext'
  simp [List.map_set]

/-- Depths, as far as they were laid: none is reached. -/
def fillD (n j : Nat) : List Int := List.replicate j (-1) ++ List.replicate (n - j) 0
theorem fillD_zero (n : Nat) : List.replicate n 0 = fillD n 0 := by simp [fillD]
theorem fillD_all (n : Nat) : fillD n n = List.replicate n (-1) := by simp [fillD]
theorem fillD_len {n j : Nat} (h : j ≤ n) : (fillD n j).length = n := by simp [fillD]; omega
theorem fillD_set {n j : Nat} (h : j < n) : (fillD n j).set j (-1) = fillD n (j + 1) := by
  unfold fillD
  apply List.ext_getElem?
  intro i
  rw [List.getElem?_set]
  simp only [List.getElem?_append, List.getElem?_replicate, List.length_replicate, List.length_append]
  split <;> (repeat' split) <;> first | rfl | omega
theorem ints_set {W : World} {g : Nat} {t : TypeId} {D : List Int} (h : Held W g t (intA D)) (i : Nat) (x : Int) : Held (W.setCell ⟨g, i, none⟩ (.int .i64 x)) g t (intA (D.set i x)) := by
  have := h.set_at i (.int .i64 x)
  rwa [intA_set] at this
theorem bools_set {W : World} {g : Nat} {t : TypeId} {D : List Bool} (h : Held W g t (boolA D)) (i : Nat) (x : Bool) : Held (W.setCell ⟨g, i, none⟩ (.bool x)) g t (boolA (D.set i x)) := by
  have := h.set_at i (.bool x)
  rwa [boolA_set] at this
theorem ints_cell {W : World} {g : Nat} {t : TypeId} {D : List Int} (h : Held W g t (intA D)) {i : Nat} (hi : i < D.length) : W.cell? ⟨g, i, none⟩ = some (.int .i64 D[i]) := by
  rw [h.cell, intA_get, List.getElem?_eq_getElem hi]; rfl
theorem bools_cell {W : World} {g : Nat} {t : TypeId} {D : List Bool} (h : Held W g t (boolA D)) {i : Nat} (hi : i < D.length) : W.cell? ⟨g, i, none⟩ = some (.bool D[i]) := by
  rw [h.cell, boolA_get, List.getElem?_eq_getElem hi]; rfl

theorem set7 {W : World} {g : Nat} {t : TypeId} {a0 a1 a2 a3 a4 a5 a6 : Value} (h : Held W g t #[a0, a1, a2, a3, a4, a5, a6]) (x0 x1 x2 x3 x4 x5 x6 : Value) :
    Held (((((((W.setCell ⟨g, 0, none⟩ x0).setCell ⟨g, 1, none⟩ x1).setCell ⟨g, 2, none⟩ x2).setCell ⟨g, 3, none⟩ x3).setCell ⟨g, 4, none⟩ x4).setCell ⟨g, 5, none⟩ x5).setCell ⟨g, 6, none⟩ x6) g t #[x0, x1, x2, x3, x4, x5, x6] := by
  unfold Held at *
  simp [World.setCell, Array.getElem?_modify, h]
theorem far7 {W : World} {g k : Nat} {t : TypeId} {cs : Array Value} (h : Held W g t cs) (hk : g ≠ k) (x0 x1 x2 x3 x4 x5 x6 : Value) :
    Held (((((((W.setCell ⟨k, 0, none⟩ x0).setCell ⟨k, 1, none⟩ x1).setCell ⟨k, 2, none⟩ x2).setCell ⟨k, 3, none⟩ x3).setCell ⟨k, 4, none⟩ x4).setCell ⟨k, 5, none⟩ x5).setCell ⟨k, 6, none⟩ x6) g t cs :=
  ((((((h.far hk 0 x0).far hk 1 x1).far hk 2 x2).far hk 3 x3).far hk 4 x4).far hk 5 x5).far hk 6 x6
theorem set7b {w v : World} {B k : Nat} (hk : B ≤ k) (h : Below B w v) (x0 x1 x2 x3 x4 x5 x6 : Value) :
    Below B w (((((((v.setCell ⟨k, 0, none⟩ x0).setCell ⟨k, 1, none⟩ x1).setCell ⟨k, 2, none⟩ x2).setCell ⟨k, 3, none⟩ x3).setCell ⟨k, 4, none⟩ x4).setCell ⟨k, 5, none⟩ x5).setCell ⟨k, 6, none⟩ x6) :=
  ((((((h.setCell hk _).setCell hk _).setCell hk _).setCell hk _).setCell hk _).setCell hk _).setCell hk _
theorem new7 (W : World) (k : Nat) (x0 x1 x2 x3 x4 x5 x6 : Value) (t : TypeId) (cs : Array Value) :
    Held ((((((((W.setCell ⟨k, 0, none⟩ x0).setCell ⟨k, 1, none⟩ x1).setCell ⟨k, 2, none⟩ x2).setCell ⟨k, 3, none⟩ x3).setCell ⟨k, 4, none⟩ x4).setCell ⟨k, 5, none⟩ x5).setCell ⟨k, 6, none⟩ x6).alloc (.cells cs t)) W.heap.size t cs := by
  have := Held.new (((((((W.setCell ⟨k, 0, none⟩ x0).setCell ⟨k, 1, none⟩ x1).setCell ⟨k, 2, none⟩ x2).setCell ⟨k, 3, none⟩ x3).setCell ⟨k, 4, none⟩ x4).setCell ⟨k, 5, none⟩ x5).setCell ⟨k, 6, none⟩ x6) t cs
  simpa [World.setCell] using this

set_option maxHeartbeats 1000000 in
set_option maxRecDepth 100000 in
theorem begin_any (Ap : Option Addr) (np cp : Nat) (a l s : Int) (A : Option Addr) (n c : Nat) (hn : 0 < n) (hn2 : n ≤ 200) (w : World) :
    Calls Tryd.prog 48 #[.slice Ap np cp, .agg #[.int .i64 a, .int .i64 l, .int .i64 s, .slice A n c]] w fun e w' => ∃ d v, e = .returned (.agg #[.slice Ap np cp, .int .i64 a, .int .i64 l, .int .i64 s, .slice A n c, .slice (some ⟨d, 0, none⟩) n n, .slice (some ⟨v, 0, none⟩) n n]) ∧
      w.heap.size ≤ d ∧ w.heap.size ≤ v ∧ d ≠ v ∧ Held w' d 3 (intA (fillD n n)) ∧ Held w' v 4 (boolA (List.replicate n false)) ∧ Below w.heap.size w w' := by
  have hn3 : (n : Int) ≤ 200 := by omega
  have M1 := fun w => make_ints (n := n) (by omega) w
  have M2 := fun w => make_bools (n := n) (by omega) w
  rw [fillD_zero n] at M1
  go_enter Tryd.func48, Tryd.ntmps48
  go_wp2_with fail
  go_loopw [6, 13] (fun _ i W => ∃ j : Nat, j ≤ n ∧ i = .int .i64 j ∧ Held W (w.heap.size + 1 + 1) 3 (intA (fillD n j)) ∧ Below (w.heap.size + 1 + 1) ((w.alloc (.cells #[.int .i64 a, .int .i64 l, .int .i64 s, .slice A n c] 89)).alloc (.cells #[.slice none 0 0, .int .i64 0, .int .i64 0, .int .i64 0, .slice none 0 0, .slice none 0 0, .slice none 0 0] 104)) W) (fun _ i _ => n - (intOf i).toNat)
  case atStart => exact ⟨0, by omega, rfl, by simpa using Held.new ((w.alloc _).alloc _) _ _, by simpa using (Below.refl _ _).alloc (by simp) _⟩
  case round =>
    obtain ⟨j, hj, rfl, hd, hb⟩ := hrel
    have hbx := (Held.new1 w (.cells #[.int .i64 a, .int .i64 l, .int .i64 s, .slice A n c] 89) 104 #[.slice none 0 0, .int .i64 0, .int .i64 0, .int .i64 0, .slice none 0 0, .slice none 0 0, .slice none 0 0]).below (by simpa using hb)
    have hb0 := ((Held.new w 89 #[.int .i64 a, .int .i64 l, .int .i64 s, .slice A n c]).alloc (.cells #[.slice none 0 0, .int .i64 0, .int .i64 0, .int .i64 0, .slice none 0 0, .slice none 0 0, .slice none 0 0] 104)).below (by simpa using hb)
    by_cases hlt : j < n
    · have hlen := fillD_len hj
      have c0 := ints_cell hd (i := j) (by omega)
      have f0 := hd.fz j
      have hs := ints_set hd j (-1)
      rw [fillD_set hlt] at hs
      have HS := Lib.hid hs
      generalize (fillD n j)[j] = x at *
      clear hs hbx hb0
      go_wp2_with fail
      go_roundw
      case rel => exact ⟨j + 1, by omega, by go_num, HS.out, hb.setCell (Nat.le_refl _) _⟩
      case measure => simp [intOf]; omega
    · obtain rfl : j = n := by omega
      have n0 := hb0.cell 0
      have n1 := hb0.cell 1
      have n2 := hb0.cell 2
      have n3 := hb0.cell 3
      have m0 := hbx.cell 0
      have m1 := hbx.cell 1
      have m2 := hbx.cell 2
      have m3 := hbx.cell 3
      have m4 := hbx.cell 4
      have m5 := hbx.cell 5
      have m6 := hbx.cell 6
      have z0 := hbx.fz 0
      have z1 := hbx.fz 1
      have z2 := hbx.fz 2
      have z3 := hbx.fz 3
      have z4 := hbx.fz 4
      have z5 := hbx.fz 5
      have z6 := hbx.fz 6
      have bl := hb0.lt
      have cl := hbx.lt
      have dl := hd.lt
      simp at n0 n1 n2 n3 m0 m1 m2 m3 m4 m5 m6 cl
      go_wp2_with fail
      go_region
      have hf := held_drew ((set7 hbx (.slice Ap np cp) (.int .i64 a) (.int .i64 l) (.int .i64 s) (.slice A j c) (.slice (some ⟨w.heap.size + 1 + 1, 0, none⟩) j j) (.slice (some ⟨wr.heap.size, 0, none⟩) j j)).alloc (.cells (boolA (List.replicate j false)) 4))
      have hfd := held_drew ((far7 hd (k := w.heap.size + 1) (by omega) (.slice Ap np cp) (.int .i64 a) (.int .i64 l) (.int .i64 s) (.slice A j c) (.slice (some ⟨w.heap.size + 1 + 1, 0, none⟩) j j) (.slice (some ⟨wr.heap.size, 0, none⟩) j j)).alloc (.cells (boolA (List.replicate j false)) 4))
      have hfv := held_drew (new7 wr (w.heap.size + 1) (.slice Ap np cp) (.int .i64 a) (.int .i64 l) (.int .i64 s) (.slice A j c) (.slice (some ⟨w.heap.size + 1 + 1, 0, none⟩) j j) (.slice (some ⟨wr.heap.size, 0, none⟩) j j) 4 (boolA (List.replicate j false)))
      have hfb := (set7b (k := w.heap.size + 1) (B := w.heap.size) (w := w) (v := wr) (by omega) ((below2 w _ _).trans (hb.mono (by omega))) (.slice Ap np cp) (.int .i64 a) (.int .i64 l) (.int .i64 s) (.slice A j c) (.slice (some ⟨w.heap.size + 1 + 1, 0, none⟩) j j) (.slice (some ⟨wr.heap.size, 0, none⟩) j j)).alloc (by simp [World.setCell]; omega) (.cells (boolA (List.replicate j false)) 4) |>.drew
      generalize ((((((((wr.setCell ⟨w.heap.size + 1, 0, none⟩ _).setCell ⟨w.heap.size + 1, 1, none⟩ _).setCell ⟨w.heap.size + 1, 2, none⟩ _).setCell ⟨w.heap.size + 1, 3, none⟩ _).setCell ⟨w.heap.size + 1, 4, none⟩ _).setCell ⟨w.heap.size + 1, 5, none⟩ _).setCell ⟨w.heap.size + 1, 6, none⟩ _).alloc (.cells (boolA (List.replicate j false)) 4)).drew = u at *
      clear m0 m1 m2 m3 m4 m5 m6 z0 z1 z2 z3 z4 z5 z6 n0 n1 n2 n3
      have q0 := hf.cell 0
      have q1 := hf.cell 1
      have q2 := hf.cell 2
      have q3 := hf.cell 3
      have q4 := hf.cell 4
      have q5 := hf.cell 5
      have q6 := hf.cell 6
      simp at q0 q1 q2 q3 q4 q5 q6
      go_wp2_with fail
      exact bodyPost_ret (v := .agg #[.slice Ap np cp, .int .i64 a, .int .i64 l, .int .i64 s, .slice A j c, .slice (some ⟨w.heap.size + 1 + 1, 0, none⟩) j j, .slice (some ⟨wr.heap.size, 0, none⟩) j j]) (by simp [results, Tryd.results48, go_sem, q0, q1, q2, q3, q4, q5, q6]) rfl ⟨_, _, rfl, by omega, by omega, by omega, hfd, hfv, hfb⟩
end Go.Proofs.YtjibkgildfjjoaaDoor

/- Layer 8's code: the checker's parts. -/
namespace Go.Proofs.YtjibkgildfjjoaaDoor
set_option linter.unusedVariables false
set_option linter.unusedSimpArgs false
open Go.RowKit Go.ChangeShapes Go.WideShapes Go.ChangeAt Go.Sort

/-- A checker of the function f of p, with depths D and who waits V, in blocks of its own, from B on. -/
structure CkAt (B g d v : Nat) (Ap : Option Addr) (cp : Nat) (p : List Fun) (f : Fun) (Ac : Option Addr) (cc : Nat) (D : List Int) (V : List Bool) (w : World) : Prop where
  ot : Otab w
  ob : 2 < B
  gB : B ≤ g
  dB : B ≤ d
  vB : B ≤ v
  gd : g ≠ d
  gv : g ≠ v
  dv : d ≠ v
  hg : Held w g 104 #[.slice Ap p.length cp, .int .i64 f.ar, .int .i64 f.lo, .int .i64 f.sl, .slice Ac f.code.length cc, .slice (some ⟨d, 0, none⟩) f.code.length f.code.length, .slice (some ⟨v, 0, none⟩) f.code.length f.code.length]
  hd : Held w d 3 (intA D)
  hv : Held w v 4 (boolA V)
  dl : D.length = f.code.length
  vl : V.length = f.code.length
  prog : ProgAt w B Ap p
  code : CodeAt w B Ac f.code
theorem Otab.far {w : World} (h : Otab w) {k : Nat} (hk : 2 ≠ k) (i : Nat) (x : Value) : Otab (w.setCell ⟨k, i, none⟩ x) := by
  obtain ⟨ty, h⟩ := h
  exact ⟨ty, h.far hk i x⟩
section
variable {B g d v : Nat} {Ap : Option Addr} {cp : Nat} {p : List Fun} {f : Fun} {Ac : Option Addr} {cc : Nat} {D : List Int} {V : List Bool} {w w' : World}
theorem CkAt.lt (h : CkAt B g d v Ap cp p f Ac cc D V w) : B ≤ w.heap.size := by
  have := h.hg.lt
  have := h.gB
  omega
theorem CkAt.below (h : CkAt B g d v Ap cp p f Ac cc D V w) (hb : Below w.heap.size w w') : CkAt B g d v Ap cp p f Ac cc D V w' :=
  ⟨h.ot.below hb, h.ob, h.gB, h.dB, h.vB, h.gd, h.gv, h.dv, h.hg.below hb, h.hd.below hb, h.hv.below hb, h.dl, h.vl, h.prog.below hb h.lt, h.code.below hb h.lt⟩
theorem CkAt.setD (h : CkAt B g d v Ap cp p f Ac cc D V w) (i : Nat) (x : Int) : CkAt B g d v Ap cp p f Ac cc (D.set i x) V (w.setCell ⟨d, i, none⟩ (.int .i64 x)) := by
  have hb : Below B w (w.setCell ⟨d, i, none⟩ (.int .i64 x)) := (Below.refl B w).setCell h.dB _
  have := h.ob
  have := h.dB
  exact ⟨h.ot.far (by omega) _ _, h.ob, h.gB, h.dB, h.vB, h.gd, h.gv, h.dv, h.hg.far h.gd _ _, ints_set h.hd i x, h.hv.far (Ne.symm h.dv) _ _, by rw [List.length_set]; exact h.dl, h.vl, h.prog.below hb (Nat.le_refl _), h.code.below hb (Nat.le_refl _)⟩
theorem CkAt.setV (h : CkAt B g d v Ap cp p f Ac cc D V w) (i : Nat) (x : Bool) : CkAt B g d v Ap cp p f Ac cc D (V.set i x) (w.setCell ⟨v, i, none⟩ (.bool x)) := by
  have hb : Below B w (w.setCell ⟨v, i, none⟩ (.bool x)) := (Below.refl B w).setCell h.vB _
  have := h.ob
  have := h.vB
  exact ⟨h.ot.far (by omega) _ _, h.ob, h.gB, h.dB, h.vB, h.gd, h.gv, h.dv, h.hg.far h.gv _ _, h.hd.far h.dv _ _, bools_set h.hv i x, h.dl, by rw [List.length_set]; exact h.vl, h.prog.below hb (Nat.le_refl _), h.code.below hb (Nat.le_refl _)⟩
theorem CkAt.drew (h : CkAt B g d v Ap cp p f Ac cc D V w) : CkAt B g d v Ap cp p f Ac cc D V w.drew := h.below (Below.refl _ _).drew
/-- The checker's own cells. -/
theorem CkAt.cells (h : CkAt B g d v Ap cp p f Ac cc D V w) : w.cell? ⟨g, 0, none⟩ = some (.slice Ap p.length cp) ∧ w.cell? ⟨g, 1, none⟩ = some (.int .i64 f.ar) ∧ w.cell? ⟨g, 2, none⟩ = some (.int .i64 f.lo) ∧ w.cell? ⟨g, 3, none⟩ = some (.int .i64 f.sl) ∧
    w.cell? ⟨g, 4, none⟩ = some (.slice Ac f.code.length cc) ∧ w.cell? ⟨g, 5, none⟩ = some (.slice (some ⟨d, 0, none⟩) f.code.length f.code.length) ∧ w.cell? ⟨g, 6, none⟩ = some (.slice (some ⟨v, 0, none⟩) f.code.length f.code.length) ∧ g < w.heap.size :=
  ⟨h.hg.cell 0, h.hg.cell 1, h.hg.cell 2, h.hg.cell 3, h.hg.cell 4, h.hg.cell 5, h.hg.cell 6, h.hg.lt⟩
end

/-- At most memory of one's own is made, and blocks d and v turned. -/
structure Only (d v : Nat) (w w' : World) : Prop where
  os : w'.os = w.os
  tape : w'.tape = w.tape
  output : w'.output = w.output
  size : w.heap.size ≤ w'.heap.size
  block : ∀ k, k < w.heap.size → k ≠ d → k ≠ v → w'.heap[k]? = w.heap[k]?
theorem Only.refl (d v : Nat) (w : World) : Only d v w w := ⟨rfl, rfl, rfl, Nat.le_refl _, fun _ _ _ _ => rfl⟩
theorem Only.trans {d v : Nat} {a b c : World} (h : Only d v a b) (h1 : Only d v b c) : Only d v a c :=
  ⟨h1.os.trans h.os, h1.tape.trans h.tape, h1.output.trans h.output, Nat.le_trans h.size h1.size, fun k hk hd hv => (h1.block k (Nat.lt_of_lt_of_le hk h.size) hd hv).trans (h.block k hk hd hv)⟩
theorem Only.of_below {d v : Nat} {w w' : World} (h : Below w.heap.size w w') : Only d v w w' := ⟨h.os, h.tape, h.output, h.size, fun k hk _ _ => h.block k hk⟩
theorem Only.to_below {d v B : Nat} {w w' : World} (h : Only d v w w') (hB : B ≤ w.heap.size) (hd : B ≤ d) (hv : B ≤ v) : Below B w w' := ⟨h.os, h.tape, h.output, h.size, fun k hk => h.block k (by omega) (by omega) (by omega)⟩
theorem Only.set {d v : Nat} {w w' : World} (h : Only d v w w') {k : Nat} (hk : k = d ∨ k = v) (i : Nat) (x : Value) : Only d v w (w'.setCell ⟨k, i, none⟩ x) :=
  ⟨h.os, h.tape, h.output, by simpa [World.setCell] using h.size, fun j hj hd hv => (Below.heap_setCell w' ⟨k, i, none⟩ x j (by show j ≠ k; rcases hk with rfl | rfl <;> assumption)).trans (h.block j hj hd hv)⟩
theorem Only.drew {d v : Nat} {w w' : World} (h : Only d v w w') : Only d v w w'.drew := ⟨h.os, h.tape, h.output, h.size, h.block⟩
theorem Only.drewN {d v : Nat} {w w' : World} (h : Only d v w w') (n : Nat) : Only d v w (w'.drewN n) := h.trans (Only.of_below (below_drewN (Below.refl _ _) n))
theorem Held.only {d v : Nat} {w w' : World} {g : Nat} {t : TypeId} {cs : Array Value} (h : Held w g t cs) (ho : Only d v w w') (hd : g ≠ d) (hv : g ≠ v) : Held w' g t cs := (ho.block g h.lt hd hv).trans h

/-- A value that is a list of ints of a block of its own. -/
def LstAt (w : World) (B : Nat) (x : Value) (l : List Int) : Prop := (l = [] ∧ x = .slice none 0 0) ∨ ∃ b, x = .slice (some ⟨b, 0, none⟩) l.length l.length ∧ B ≤ b ∧ Held w b 3 (intA l)
theorem LstAt.slice {w : World} {B : Nat} {x : Value} {l : List Int} (h : LstAt w B x l) : ∃ A c, x = .slice A l.length c ∧ ∀ i (hi : i < l.length), ∃ b, A = some ⟨b, 0, none⟩ ∧ B ≤ b ∧ w.cell? ⟨b, i, none⟩ = some (.int .i64 l[i]) := by
  rcases h with ⟨rfl, rfl⟩ | ⟨b, rfl, hB, h⟩
  · exact ⟨none, 0, rfl, fun i hi => by simp at hi⟩
  · exact ⟨_, _, rfl, fun i hi => ⟨b, rfl, hB, ints_cell h hi⟩⟩
theorem LstAt.below {w w' : World} {B : Nat} {x : Value} {l : List Int} (h : LstAt w B x l) (hb : Below w.heap.size w w') : LstAt w' B x l := by
  rcases h with h | ⟨b, h1, h2, h3⟩
  · exact .inl h
  · exact .inr ⟨b, h1, h2, h3.below hb⟩

set_option maxHeartbeats 1000000 in
set_option maxRecDepth 100000 in
theorem succ_any (o a b i : Int) (w : World) (hi : 0 ≤ i) (hi2 : i ≤ 1000) :
    Calls Tryd.prog 92 #[.int .i64 i, .agg #[.int .i64 o, .int .i64 a, .int .i64 b]] w fun e w' => ∃ x, e = .returned x ∧ LstAt w' w.heap.size x (nextI (o, a, b) i) ∧ Below w.heap.size w w' := by
  by_cases h1 : o = 10
  · subst h1
    have hn : nextI (10, a, b) i = [a] := rfl
    rw [hn]
    go_enter Tryd.func92, Tryd.ntmps92
    go_wp2_with fail
    go_ret
    exact ⟨_, rfl, .inr ⟨_, rfl, by omega, Held.new1 _ _ _ _⟩, by go_grown⟩
  by_cases h2 : o = 15 ∨ o = 16
  · have hn : nextI (o, a, b) i = [] := by unfold nextI; rw [if_neg h1, if_pos h2]
    rw [hn]
    rcases h2 with rfl | rfl
    all_goals
      go_enter Tryd.func92, Tryd.ntmps92
      go_wp2_with fail
      go_ret
      exact ⟨_, rfl, .inl ⟨rfl, rfl⟩, by go_grown⟩
  by_cases h3 : o = 11
  · subst h3
    have hn : nextI (11, a, b) i = [i + 1, a] := rfl
    rw [hn]
    go_enter Tryd.func92, Tryd.ntmps92
    go_wp2_with fail
    go_ret
    exact ⟨_, rfl, .inr ⟨_, rfl, by omega, Held.new1 _ _ _ _⟩, by go_grown⟩
  · have hn : nextI (o, a, b) i = [i + 1] := by unfold nextI; rw [if_neg h1, if_neg h2, if_neg h3]
    rw [hn]
    have e1 : (o == 10) = false := by simpa using h1
    have e2 : (o == 15) = false := by simp; omega
    have e3 : (o == 16) = false := by simp; omega
    have e4 : (o == 11) = false := by simpa using h3
    clear h1 h2 h3
    go_enter Tryd.func92, Tryd.ntmps92
    go_wp2_with fail
    go_ret
    exact ⟨_, rfl, .inr ⟨_, rfl, by omega, Held.new1 _ _ _ _⟩, by go_grown⟩

set_option maxHeartbeats 1000000 in
set_option maxRecDepth 100000 in
theorem cstack_any {B g d v : Nat} {Ap : Option Addr} {cp : Nat} {p : List Fun} {f : Fun} {Ac : Option Addr} {cc : Nat} {D : List Int} {V : List Bool} (o a b : Int) (w : World) (h : CkAt B g d v Ap cp p f Ac cc D V w)
    (hx : o = 13 → 0 ≤ a ∧ a < p.length) :
    Calls Tryd.prog 91 #[.pointer (some ⟨g, 0, none⟩), .agg #[.int .i64 o, .int .i64 a, .int .i64 b]] w fun e w' => e = .returned (.tuple #[.int .i64 (offI p (o, a, b)), .int .i64 (rz o).q]) ∧ Below w.heap.size w w' := by
  have S := fun W (hT : Otab W) => Lib.hid (stack_any o W hT)
  have H := Lib.hid h
  by_cases ho : o = 13
  · obtain ⟨h0, h1⟩ := hx ho
    obtain ⟨k, rfl⟩ := Int.eq_ofNat_of_zero_le h0
    have hk : k < p.length := by omega
    obtain ⟨bb, off, rfl, hbl, hc⟩ := h.prog (by omega)
    obtain ⟨c1, _⟩ := hc k hk
    obtain ⟨d0, _⟩ := h.cells
    have hbl2 := h.lt
    have hoff : offI p (o, k, b) = p[k].ar := by
      unfold offI arP
      rw [if_pos ho]
      simp [hk]
    rw [hoff]
    generalize p[k].ar = y at *
    subst ho
    have C1 := Lib.hid c1
    have hbb : bb < w.heap.size := by omega
    clear hc hoff hx h0 c1 d0
    go_enter Tryd.func91, Tryd.ntmps91
    go_wp2_with (go_at_call 93; (with_reducible refine (S _ (H.out.ot.below (by go_grown))).out.mono ?_); rintro e u ⟨rfl, hb⟩; have hbx := (Held.new w 116 #[.int .i64 13, .int .i64 k, .int .i64 b]).below hb; have x0 := hbx.cell 0; have x1 := hbx.cell 1; simp at x0 x1; have hbw := below_laid hb; have c1 := (hbw.cell (p := ⟨bb, off + k * 4, none⟩) hbb).trans C1.out; have d0 := (H.out.below hbw).cells.1; clear hb)
    go_region
    all_goals (try go_wp2)
    all_goals go_ret2
    all_goals exact ⟨rfl, by go_grown⟩
  · have e1 : (o == 13) = false := by simpa using ho
    have hoff : offI p (o, a, b) = (rz o).p := by unfold offI; rw [if_neg ho]
    rw [hoff]
    generalize (rz o).p = q at *
    generalize (rz o).q = r at *
    clear ho hoff hx h
    go_enter Tryd.func91, Tryd.ntmps91
    go_wp2_with (go_at_call 93; (with_reducible refine (S _ (H.out.ot.below (by go_grown))).out.mono ?_); rintro e u ⟨rfl, hb⟩; have hbx := (Held.new w 116 #[.int .i64 o, .int .i64 a, .int .i64 b]).below hb; have x0 := hbx.cell 0; have x1 := hbx.cell 1; simp at x0 x1; have hbw := below_laid hb; clear hb)
    all_goals go_ret2
    all_goals exact ⟨rfl, hbw⟩
end Go.Proofs.YtjibkgildfjjoaaDoor

/- Layer 8's code: the checker's fields. -/
namespace Go.Proofs.YtjibkgildfjjoaaDoor
set_option linter.unusedVariables false
set_option linter.unusedSimpArgs false
open Go.RowKit Go.ChangeShapes Go.WideShapes Go.ChangeAt Go.Sort

theorem Cs.quiet {P : Program} {f : Nat} {args : Array Value} {v : Value} (h : Cs P f args v) (W : World) (n : Nat) : Calls P f args (W.drewN n) fun e w' => e = .returned v ∧ ∃ m, w' = W.drewN m :=
  (h (W.drewN n)).mono fun e w' ⟨he, hw⟩ => ⟨he, n, hw.symm⟩
theorem field_load {p : List Fun} {f : Fun} {o a b : Int} (h : o = 1 ∨ o = 2) : fieldI p f (o, a, b) = if decide (a < f.lo) = true then 0 else 82 := by
  unfold fieldI
  simp only
  by_cases h1 : a < f.lo
  · rw [if_neg (by omega), if_neg (by omega), if_pos (by simpa using h1)]
  · rw [if_pos (by omega), if_neg (by simpa using h1)]
theorem field_join {p : List Fun} {f : Fun} {o a b : Int} (h : o = 14) : fieldI p f (o, a, b) = if decide (a < f.sl) = true then 0 else 82 := by
  unfold fieldI
  simp only
  by_cases h1 : a < f.sl
  · rw [if_neg (by omega), if_neg (by omega), if_pos (by simpa using h1)]
  · rw [if_pos (by omega), if_neg (by simpa using h1)]
theorem field_spawn {p : List Fun} {f : Fun} {o a b : Int} (h : o = 13) : fieldI p f (o, a, b) = if (decide (a < p.length) && decide (b < f.sl)) = true then 0 else 82 := by
  unfold fieldI
  simp only
  by_cases h1 : a < p.length ∧ b < f.sl
  · rw [if_neg (by omega), if_neg (by omega), if_pos (by simpa using h1)]
  · rw [if_pos (by omega), if_neg (by simp only [Bool.and_eq_true, decide_eq_true_eq]; exact h1)]
theorem field_jump {p : List Fun} {f : Fun} {o a b : Int} (h : o = 10 ∨ o = 11) : fieldI p f (o, a, b) = if decide (a < (f.code.length : Int)) = true then 0 else 83 := by
  unfold fieldI
  simp only
  by_cases h1 : a < (f.code.length : Int)
  · rw [if_neg (by omega), if_neg (by omega), if_pos (by simpa using h1)]
  · rw [if_neg (by omega), if_pos (by omega), if_neg (by simpa using h1)]
theorem field_none {p : List Fun} {f : Fun} {o a b : Int} (h : ¬ (o = 1 ∨ o = 2 ∨ o = 14 ∨ o = 13 ∨ o = 10 ∨ o = 11)) : fieldI p f (o, a, b) = 0 := by
  unfold fieldI
  simp only
  rw [if_neg (by omega), if_neg (by omega)]

set_option maxHeartbeats 2000000 in
set_option maxRecDepth 100000 in
theorem cfields_any {B g d v : Nat} {Ap : Option Addr} {cp : Nat} {p : List Fun} {f : Fun} {Ac : Option Addr} {cc : Nat} {D : List Int} {V : List Bool} (o a b : Int) (w : World) (h : CkAt B g d v Ap cp p f Ac cc D V w) :
    Calls Tryd.prog 71 #[.pointer (some ⟨g, 0, none⟩), .agg #[.int .i64 o, .int .i64 a, .int .i64 b]] w fun e w' => e = .returned (.int .i64 (fieldI p f (o, a, b))) ∧ Below w.heap.size w w' := by
  have U := fun (x : Bool) (e : Int) => unless_any x e
  obtain ⟨c0, c1, c2, c3, c4, _, _, hgl⟩ := h.cells
  clear h
  generalize hF : fieldI p f (o, a, b) = r
  by_cases h1 : o = 1 ∨ o = 2
  · rw [field_load h1] at hF
    have U1 := U (decide (a < f.lo)) 82
    rw [hF] at U1
    clear U hF
    generalize f.lo = l at *
    rcases h1 with rfl | rfl
    all_goals
      go_enter Tryd.func71, Tryd.ntmps71
      go_wp2_with fail
      go_quiet ((go_at_call 85; exact U1.quiet _ _))
      go_wp2_with fail
      go_ret
      exact ⟨rfl, below_drewN ((Below.refl _ _).alloc (Nat.le_refl _) _) _⟩
  by_cases h2 : o = 14
  · rw [field_join h2] at hF
    have U1 := U (decide (a < f.sl)) 82
    rw [hF] at U1
    clear U hF h1
    generalize f.sl = l at *
    subst h2
    go_enter Tryd.func71, Tryd.ntmps71
    go_wp2_with fail
    go_quiet ((go_at_call 85; exact U1.quiet _ _))
    go_wp2_with fail
    go_ret
    exact ⟨rfl, below_drewN ((Below.refl _ _).alloc (Nat.le_refl _) _) _⟩
  by_cases h3 : o = 13
  · rw [field_spawn h3] at hF
    have U1 := U (decide (a < p.length) && decide (b < f.sl)) 82
    rw [hF] at U1
    clear U hF h1 h2
    generalize f.sl = l at *
    subst h3
    by_cases ha : a < p.length
    · have ha2 : decide (a < (p.length : Int)) = true := by simpa using ha
      rw [ha2, Bool.true_and] at U1
      clear ha
      go_enter Tryd.func71, Tryd.ntmps71
      go_wp2_with fail
      go_quiet ((go_at_call 85; exact U1.quiet _ _))
      go_wp2_with fail
      go_ret
      exact ⟨rfl, below_drewN ((Below.refl _ _).alloc (Nat.le_refl _) _) _⟩
    · have ha2 : decide (a < (p.length : Int)) = false := by simpa using ha
      rw [ha2, Bool.false_and] at U1
      clear ha
      go_enter Tryd.func71, Tryd.ntmps71
      go_wp2_with fail
      go_quiet ((go_at_call 85; exact U1.quiet _ _))
      go_wp2_with fail
      go_ret
      exact ⟨rfl, below_drewN ((Below.refl _ _).alloc (Nat.le_refl _) _) _⟩
  by_cases h4 : o = 10 ∨ o = 11
  · rw [field_jump h4] at hF
    have U1 := U (decide (a < (f.code.length : Int))) 83
    rw [hF] at U1
    clear U hF h1 h2 h3
    generalize f.code.length = l at *
    rcases h4 with rfl | rfl
    all_goals
      go_enter Tryd.func71, Tryd.ntmps71
      go_wp2_with fail
      go_quiet ((go_at_call 85; exact U1.quiet _ _))
      go_wp2_with fail
      go_ret
      exact ⟨rfl, below_drewN ((Below.refl _ _).alloc (Nat.le_refl _) _) _⟩
  · rw [field_none (by omega)] at hF
    subst hF
    have e1 : (o == 1) = false := by simp; omega
    have e2 : (o == 2) = false := by simp; omega
    have e3 : (o == 14) = false := by simp; omega
    have e4 : (o == 13) = false := by simp; omega
    have e5 : (o == 10) = false := by simp; omega
    have e6 : (o == 11) = false := by simp; omega
    clear U h1 h2 h3 h4
    go_enter Tryd.func71, Tryd.ntmps71
    go_wp2_with fail
    go_ret
    exact ⟨rfl, by go_grown⟩
end Go.Proofs.YtjibkgildfjjoaaDoor

/- Layer 8's code: the checker's reach, process. -/
namespace Go.Proofs.YtjibkgildfjjoaaDoor
set_option linter.unusedVariables false
set_option linter.unusedSimpArgs false
open Go.RowKit Go.ChangeShapes Go.WideShapes Go.ChangeAt Go.Sort

theorem next1_out {b t : Int} {D : List Int} {V : List Bool} (h : (D.length : Int) ≤ t) : nextsS b [t] D V = (D, V, 81) := by unfold nextsS; rw [if_pos h]
theorem next1_new {b : Int} {t : Nat} {D : List Int} {V : List Bool} (h : t < D.length) (h1 : D[t] = -1) : nextsS b [(t : Int)] D V = (D.set t b, V.set t true, 0) := by
  unfold nextsS
  rw [if_neg (by omega), Int.toNat_natCast, List.getD_eq_getElem?_getD, List.getElem?_eq_getElem h, if_pos (by simpa using h1)]
  rfl
theorem next1_old {b : Int} {t : Nat} {D : List Int} {V : List Bool} (h : t < D.length) (h1 : D[t] ≠ -1) : nextsS b [(t : Int)] D V = (D, V, if (D[t] == b) = true then 0 else 84) := by
  unfold nextsS
  rw [if_neg (by omega), Int.toNat_natCast, List.getD_eq_getElem?_getD, List.getElem?_eq_getElem h, if_neg (by simpa using h1)]
  by_cases h2 : D[t] = b
  · rw [if_pos (by simpa using h2), if_pos (by simpa using h2)]; rfl
  · rw [if_neg (by simpa using h2), if_neg (by simpa using h2)]

set_option maxHeartbeats 2000000 in
set_option maxRecDepth 100000 in
theorem creach_any {B g d v : Nat} {Ap : Option Addr} {cp : Nat} {p : List Fun} {f : Fun} {Ac : Option Addr} {cc : Nat} {D : List Int} {V : List Bool} (t b : Int) (w : World) (h : CkAt B g d v Ap cp p f Ac cc D V w)
    (ht : 0 ≤ t) (ht2 : t ≤ f.code.length) (hn : f.code.length ≤ 200) :
    Calls Tryd.prog 86 #[.pointer (some ⟨g, 0, none⟩), .int .i64 t, .int .i64 b] w fun e w' => e = .returned (.int .i64 (nextsS b [t] D V).2.2) ∧ CkAt B g d v Ap cp p f Ac cc (nextsS b [t] D V).1 (nextsS b [t] D V).2.1 w' ∧ Only d v w w' := by
  have U := fun (x : Bool) (e : Int) => unless_any x e
  obtain ⟨c0, c1, c2, c3, c4, c5, c6, hgl⟩ := h.cells
  have H := Lib.hid h
  have hdl := h.dl
  have hvl := h.vl
  obtain ⟨t, rfl⟩ := Int.eq_ofNat_of_zero_le ht
  by_cases hlt : t < f.code.length
  · have d0 := ints_cell h.hd (i := t) (by omega)
    have v0 := bools_cell h.hv (i := t) (by omega)
    have f0 := h.hd.fz t
    have f1 := h.hv.fz t
    have hne : (t : Int) ≠ f.code.length := by omega
    have hne2 : ((t : Int) == (f.code.length : Int)) = false := by simpa using hne
    have hdv := h.dv
    have hgd := h.gd
    have hgv := h.gv
    have dlt := h.hd.lt
    have vlt := h.hv.lt
    by_cases hm : D[t]'(by omega) = -1
    · rw [next1_new (b := b) (V := V) (by omega) hm]
      rw [hm] at d0
      have U1 := U (b == b) 84
      rw [beq_self_eq_true] at U1
      have hbb : (b == b) = true := by simp
      have H2 := Lib.hid ((h.setD t b).setV t true)
      have H3 := Lib.hid ((h.setV t true).setD t b)
      have hdB := h.dB
      have hvB := h.vB
      generalize V[t] = y at *
      clear h c0 c1 c2 c3
      go_enter Tryd.func86, Tryd.ntmps86
      go_wp2_with fail
      go_region
      all_goals
        clear c5 c6 d0 v0 f0 f1 y
      all_goals
        first
        | (have HU := H2.out.drew
           have hbw := (((Only.refl d v w).set (.inl rfl) t (.int .i64 b)).set (.inr rfl) t (.bool true)).drew
           obtain ⟨_, _, _, _, _, e5, _, _⟩ := HU.cells
           have e0 := ints_cell HU.hd (i := t) (by rw [List.length_set]; omega)
           rw [List.getElem_set_self] at e0
           have HU2 := Lib.hid HU
           clear HU
           go_wp2_with (go_at_call 85; (with_reducible refine (U1.go _).mono ?_); rintro e u ⟨rfl, rfl⟩)
           go_ret
           exact ⟨rfl, HU2.out, hbw⟩)
        | (have HU := H3.out.drew
           have hbw := (((Only.refl d v w).set (.inr rfl) t (.bool true)).set (.inl rfl) t (.int .i64 b)).drew
           obtain ⟨_, _, _, _, _, e5, _, _⟩ := HU.cells
           have e0 := ints_cell HU.hd (i := t) (by rw [List.length_set]; omega)
           rw [List.getElem_set_self] at e0
           have HU2 := Lib.hid HU
           clear HU
           go_wp2_with (go_at_call 85; (with_reducible refine (U1.go _).mono ?_); rintro e u ⟨rfl, rfl⟩)
           go_ret
           exact ⟨rfl, HU2.out, hbw⟩)
    · rw [next1_old (b := b) (V := V) (by omega) hm]
      have U1 := U (D[t] == b) 84
      have hm2 : (D[t] == (-1 : Int)) = false := by simpa using hm
      generalize D[t] = y at *
      generalize V[t] = y2 at *
      clear h c0 c1 c2 c3 hm hne
      cases hy : (y == b)
      all_goals
        rw [hy] at U1
        go_enter Tryd.func86, Tryd.ntmps86
        go_wp2_with (go_at_call 85; (with_reducible refine (U1.go _).mono ?_); rintro e u ⟨rfl, rfl⟩)
        go_ret
        exact ⟨rfl, H.out, Only.refl _ _ _⟩
  · obtain rfl : t = f.code.length := by omega
    rw [next1_out (by omega)]
    clear h c0 c1 c2 c3 c5 c6
    go_enter Tryd.func86, Tryd.ntmps86
    go_wp2_with fail
    go_ret
    exact ⟨rfl, H.out, Only.refl _ _ _⟩
end Go.Proofs.YtjibkgildfjjoaaDoor

/- Layer 8's code: the checker's process. -/
namespace Go.Proofs.YtjibkgildfjjoaaDoor
set_option linter.unusedVariables false
set_option linter.unusedSimpArgs false
open Go.RowKit Go.ChangeShapes Go.WideShapes Go.ChangeAt Go.Sort

theorem LstAt.only {w w' : World} {B d v : Nat} {x : Value} {l : List Int} (h : LstAt w B x l) (ho : Only d v w w') (hd : d < B) (hv : v < B) : LstAt w' B x l := by
  rcases h with h | ⟨b, h1, h2, h3⟩
  · exact .inl h
  · exact .inr ⟨b, h1, h2, h3.only ho (by omega) (by omega)⟩
theorem Only.cell {d v : Nat} {w w' : World} (h : Only d v w w') {k i : Nat} {x : Value} (hc : w.cell? ⟨k, i, none⟩ = some x) (hd : k ≠ d) (hv : k ≠ v) : w'.cell? ⟨k, i, none⟩ = some x := by
  have := h.block k (block_lt_of_cell hc) hd hv
  unfold World.cell? at *
  simp only at *
  rw [this]
  exact hc
theorem next_len (x : Int × Int × Int) (i : Int) : (nextI x i).length ≤ 2 := by
  unfold nextI
  split
  · simp
  · split
    · simp
    · split <;> simp
/-- An instruction's cells. -/
theorem CkAt.ins {B g d v : Nat} {Ap : Option Addr} {cp : Nat} {p : List Fun} {f : Fun} {Ac : Option Addr} {cc : Nat} {D : List Int} {V : List Bool} {w : World} (h : CkAt B g d v Ap cp p f Ac cc D V w) {i : Nat} (hi : i < f.code.length) :
    ∃ b off, Ac = some ⟨b, off, none⟩ ∧ b < B ∧ w.cell? ⟨b, off + i * 3, none⟩ = some (.int .i64 f.code[i].1) ∧ w.cell? ⟨b, off + i * 3 + 1, none⟩ = some (.int .i64 f.code[i].2.1) ∧ w.cell? ⟨b, off + i * 3 + 2, none⟩ = some (.int .i64 f.code[i].2.2) := by
  obtain ⟨b, off, h1, h2, h3⟩ := h.code (by omega)
  exact ⟨b, off, h1, h2, h3 i hi⟩

set_option maxHeartbeats 2000000 in
set_option maxRecDepth 100000 in
theorem cprocess_bad {B g d v : Nat} {Ap : Option Addr} {cp : Nat} {p : List Fun} {f : Fun} {Ac : Option Addr} {cc : Nat} {D : List Int} {V : List Bool} (hok : FunOk p f) (i : Nat) (hi : i < f.code.length) (w : World) (h : CkAt B g d v Ap cp p f Ac cc D V w)
    (e : Int) (he : D[i]? = some e) (h0 : 0 ≤ e) (h16 : e ≤ 16) (hbad : e < offI p f.code[i] ∨ 16 < e - offI p f.code[i] + (rz f.code[i].1).q) :
    Calls Tryd.prog 88 #[.pointer (some ⟨g, 0, none⟩), .int .i64 i] w fun x w' => x = .returned (.int .i64 84) ∧ CkAt B g d v Ap cp p f Ac cc D V w' ∧ Only d v w w' := by
  have hx : f.code[i] ∈ f.code := List.getElem_mem hi
  have hoff := hok.off _ hx
  have hon := hok.on _ hx
  have hsp := hok.spawn _ hx
  have hn := hok.n2
  obtain ⟨bb, off, rfl, hbl, a0, a1, a2⟩ := h.ins hi
  obtain ⟨c0, c1, c2, c3, c4, c5, c6, hgl⟩ := h.cells
  have d0 : w.cell? ⟨d, i, none⟩ = some (.int .i64 e) := by rw [h.hd.cell, intA_get, he]; rfl
  have ST := fun W h => Lib.hid (cstack_any f.code[i].1 f.code[i].2.1 f.code[i].2.2 W (D := D) (V := V) (B := B) (g := g) (d := d) (v := v) (Ap := Ap) (cp := cp) (f := f) (Ac := some ⟨bb, off, none⟩) (cc := cc) h hsp)
  have H := Lib.hid h
  change ∀ W h, Hid (Calls Tryd.prog 91 #[.pointer (some ⟨g, 0, none⟩), .agg #[.int .i64 f.code[i].1, .int .i64 f.code[i].2.1, .int .i64 f.code[i].2.2]] W fun e w' => e = .returned (.tuple #[.int .i64 (offI p f.code[i]), .int .i64 (rz f.code[i].1).q]) ∧ Below W.heap.size W w') at ST
  generalize offI p f.code[i] = q at *
  generalize (rz f.code[i].1).q = r at *
  generalize f.code[i].1 = xo at *
  generalize f.code[i].2.1 = xa at *
  generalize f.code[i].2.2 = xb at *
  clear h hx hsp he
  have hq := hoff.1
  have hq2 := hoff.2
  have hr := hon.1
  have hr2 := hon.2
  clear hoff hon c0 c1 c2 c3 hok
  by_cases h1 : e < q
  · clear hbad
    go_enter Tryd.func88, Tryd.ntmps88
    go_wp2_with (go_at_call 91; (with_reducible refine (ST _ H.out).out.mono ?_); rintro _ u ⟨rfl, hb⟩; obtain ⟨c0, c1, c2, c3, c4, c5, c6, hgl⟩ := (H.out.below hb).cells; have d0 := (hb.cell (p := ⟨d, i, none⟩) H.out.hd.lt).trans d0)
    go_ret
    exact ⟨rfl, H.out.below hb, Only.of_below hb⟩
  · have h2 : 16 < e - q + r := by omega
    clear hbad
    go_enter Tryd.func88, Tryd.ntmps88
    go_wp2_with (go_at_call 91; (with_reducible refine (ST _ H.out).out.mono ?_); rintro _ u ⟨rfl, hb⟩; obtain ⟨c0, c1, c2, c3, c4, c5, c6, hgl⟩ := (H.out.below hb).cells; have d0 := (hb.cell (p := ⟨d, i, none⟩) H.out.hd.lt).trans d0)
    go_ret
    exact ⟨rfl, H.out.below hb, Only.of_below hb⟩

set_option maxHeartbeats 2000000 in
set_option maxRecDepth 100000 in
theorem cprocess_good {B g d v : Nat} {Ap : Option Addr} {cp : Nat} {p : List Fun} {f : Fun} {Ac : Option Addr} {cc : Nat} {D : List Int} {V : List Bool} (hok : FunOk p f) (i : Nat) (hi : i < f.code.length) (w : World) (h : CkAt B g d v Ap cp p f Ac cc D V w)
    (e : Int) (he : D[i]? = some e) (h0 : 0 ≤ e) (h16 : e ≤ 16) (hg1 : offI p f.code[i] ≤ e) (hg2 : e - offI p f.code[i] + (rz f.code[i].1).q ≤ 16) :
    Calls Tryd.prog 88 #[.pointer (some ⟨g, 0, none⟩), .int .i64 i] w fun x w' => x = .returned (.int .i64 (nextsS (e - offI p f.code[i] + (rz f.code[i].1).q) (nextI f.code[i] i) D V).2.2) ∧
      CkAt B g d v Ap cp p f Ac cc (nextsS (e - offI p f.code[i] + (rz f.code[i].1).q) (nextI f.code[i] i) D V).1 (nextsS (e - offI p f.code[i] + (rz f.code[i].1).q) (nextI f.code[i] i) D V).2.1 w' ∧ Only d v w w' := by
  have hx : f.code[i] ∈ f.code := List.getElem_mem hi
  have hoff := hok.off _ hx
  have hon := hok.on _ hx
  have hsp := hok.spawn _ hx
  have hnx := hok.next i hi
  have hn := hok.n2
  obtain ⟨bb, off, rfl, hbl, a0, a1, a2⟩ := h.ins hi
  obtain ⟨c0, c1, c2, c3, c4, c5, c6, hgl⟩ := h.cells
  have d0 : w.cell? ⟨d, i, none⟩ = some (.int .i64 e) := by rw [h.hd.cell, intA_get, he]; rfl
  have ST := fun W h => Lib.hid (cstack_any f.code[i].1 f.code[i].2.1 f.code[i].2.2 W (D := D) (V := V) (B := B) (g := g) (d := d) (v := v) (Ap := Ap) (cp := cp) (f := f) (Ac := some ⟨bb, off, none⟩) (cc := cc) h hsp)
  have SU := fun W => Lib.hid (succ_any f.code[i].1 f.code[i].2.1 f.code[i].2.2 i W (by omega) (by omega))
  have H := Lib.hid h
  change ∀ W h, Hid (Calls Tryd.prog 91 #[.pointer (some ⟨g, 0, none⟩), .agg #[.int .i64 f.code[i].1, .int .i64 f.code[i].2.1, .int .i64 f.code[i].2.2]] W fun e w' => e = .returned (.tuple #[.int .i64 (offI p f.code[i]), .int .i64 (rz f.code[i].1).q]) ∧ Below W.heap.size W w') at ST
  change ∀ W, Hid (Calls Tryd.prog 92 #[.int .i64 i, .agg #[.int .i64 f.code[i].1, .int .i64 f.code[i].2.1, .int .i64 f.code[i].2.2]] W fun e w' => ∃ x, e = .returned x ∧ LstAt w' W.heap.size x (nextI f.code[i] i) ∧ Below W.heap.size W w') at SU
  have HLEN := Lib.hid (next_len f.code[i] i)
  have A0 := Lib.hid a0
  have A1 := Lib.hid a1
  have A2 := Lib.hid a2
  generalize offI p f.code[i] = q at *
  generalize (rz f.code[i].1).q = r at *
  generalize nextI f.code[i] i = l at *
  generalize f.code[i].1 = xo at *
  generalize f.code[i].2.1 = xa at *
  generalize f.code[i].2.2 = xb at *
  have hbw := h.lt
  have hdl := h.hd.lt
  have hvl := h.hv.lt
  clear h hx hsp he
  have hq := hoff.1
  have hq2 := hoff.2
  have hr := hon.1
  have hr2 := hon.2
  have HNX := Lib.hid hnx
  clear hoff hon c0 c1 c2 c3 hok hnx
  go_enter Tryd.func88, Tryd.ntmps88
  go_wp2_with (first
    | (go_at_call 91; (with_reducible refine (ST _ H.out).out.mono ?_); rintro _ u ⟨rfl, hb⟩; obtain ⟨c0, c1, c2, c3, c4, c5, c6, hgl⟩ := (H.out.below hb).cells; have d0 := (hb.cell (p := ⟨d, i, none⟩) hdl).trans d0; have a0 := (hb.cell (p := ⟨bb, off + i * 3, none⟩) (by show bb < _; omega)).trans A0.out; have a1 := (hb.cell (p := ⟨bb, off + i * 3 + 1, none⟩) (by show bb < _; omega)).trans A1.out; have a2 := (hb.cell (p := ⟨bb, off + i * 3 + 2, none⟩) (by show bb < _; omega)).trans A2.out)
    | (go_at_call 92; (with_reducible refine (SU _).out.mono ?_); rintro _ u2 ⟨x, rfl, hL, hb2⟩; obtain ⟨A, c, rfl, hcell⟩ := hL.slice; clear hL))
  have hs1 := hb.size
  have hs2 := hb2.size
  have H2 := Lib.hid ((H.out.below hb).below hb2)
  have HO := Lib.hid ((Only.of_below (d := d) (v := v) hb).trans (Only.of_below hb2))
  have hue := H2.out.lt
  have hl8 := HLEN.out
  have HC := Lib.hid hcell
  clear c0 c1 c2 c3 c4 c5 c6 d0 a0 a1 a2 hgl hcell
  go_loopw [9, 10, 59] (fun _ _ iv W => ∃ (k : Nat) (D' : List Int) (V' : List Bool), iv = .int .i64 k ∧ k ≤ l.length ∧ CkAt B g d v Ap cp p f (some ⟨bb, off, none⟩) cc D' V' W ∧ Only d v u2 W ∧ nextsS (e - q + r) l D V = nextsS (e - q + r) (l.drop k) D' V') (fun _ _ iv _ => l.length - (intOf iv).toNat)
  case atStart => exact ⟨0, D, V, rfl, by omega, H2.out, Only.refl _ _ _, by simp⟩
  case round =>
    obtain ⟨k, D', V', rfl, hk, hck, hon, hns⟩ := hrel
    by_cases hlt : k < l.length
    · obtain ⟨lb, rfl, hlb, hcell⟩ := HC.out k hlt
      have c0 := hon.cell hcell (by omega) (by omega)
      have hll := HNX.out _ (List.getElem_mem hlt)
      rw [List.drop_eq_getElem_cons hlt, nexts_cons] at hns
      have RC := fun W h => Lib.hid (creach_any l[k] (e - q + r) W (D := D') (V := V') (B := B) (g := g) (d := d) (v := v) (Ap := Ap) (cp := cp) (p := p) (f := f) (Ac := some ⟨bb, off, none⟩) (cc := cc) h hll.1 hll.2 hn)
      generalize nextsS (e - q + r) [l[k]] D' V' = N at *
      obtain ⟨D2, V2, e2⟩ := N
      generalize l[k] = t at *
      have HCK := Lib.hid hck
      have HNS := Lib.hid hns
      have HON := Lib.hid hon
      have HLL := Lib.hid hll
      clear hck hns hon hcell hll
      simp only at RC HNS
      by_cases he2 : e2 = 0
      · subst he2
        go_wp2_with (go_at_call 86; (with_reducible refine (RC _ HCK.out).out.mono ?_); rintro _ u3 ⟨rfl, hck3, hon3⟩; have HC3 := Lib.hid hck3; have HO3 := Lib.hid hon3; clear hck3 hon3)
        go_roundw
        case rel => exact ⟨k + 1, D2, V2, by go_num, by omega, HC3.out, HON.out.trans HO3.out, HNS.out⟩
        case measure => simp [intOf]; omega
      · have hns := HNS.out
        rw [if_neg he2] at hns
        have HNS2 := Lib.hid hns
        have hne : (e2 != 0) = true := by simpa using he2
        clear hns he2
        go_wp2_with (go_at_call 86; (with_reducible refine (RC _ HCK.out).out.mono ?_); rintro _ u3 ⟨rfl, hck3, hon3⟩; have HC3 := Lib.hid hck3; have HO3 := Lib.hid hon3; clear hck3 hon3)
        go_ret
        rw [HNS2.out]
        exact ⟨rfl, HC3.out, HO.out.trans (HON.out.trans HO3.out)⟩
    · obtain rfl : k = l.length := by omega
      rw [List.drop_length, nexts_nil] at hns
      have HCK := Lib.hid hck
      have HNS := Lib.hid hns
      have HON := Lib.hid hon
      clear hck hns hon
      go_wp2_with fail
      go_ret
      rw [HNS.out]
      exact ⟨rfl, HCK.out, HO.out.trans HON.out⟩
end Go.Proofs.YtjibkgildfjjoaaDoor

/- Layer 8's code: the checker's flow. -/
namespace Go.Proofs.YtjibkgildfjjoaaDoor
set_option linter.unusedVariables false
set_option linter.unusedSimpArgs false
open Go.RowKit Go.ChangeShapes Go.WideShapes Go.ChangeAt Go.Sort

theorem cprocess_any {B g d v : Nat} {Ap : Option Addr} {cp : Nat} {p : List Fun} {f : Fun} {Ac : Option Addr} {cc : Nat} {D : List Int} {V : List Bool} (hok : FunOk p f) (i : Nat) (hi : i < f.code.length) (w : World) (h : CkAt B g d v Ap cp p f Ac cc D V w)
    (h0 : 0 ≤ D.getD i 0) (h16 : D.getD i 0 ≤ 16) :
    Calls Tryd.prog 88 #[.pointer (some ⟨g, 0, none⟩), .int .i64 i] w fun x w' => x = .returned (.int .i64 (procS (grF p f.code i) (D.getD i 0) D V).2.2) ∧
      CkAt B g d v Ap cp p f Ac cc (procS (grF p f.code i) (D.getD i 0) D V).1 (procS (grF p f.code i) (D.getD i 0) D V).2.1 w' ∧ Only d v w w' := by
  have hd : i < D.length := by have := h.dl; omega
  have he : D[i]? = some (D.getD i 0) := by rw [List.getD_eq_getElem?_getD, List.getElem?_eq_getElem hd]; rfl
  rw [grF_at hi]
  unfold procS nodeI
  split
  · rename_i hb
    exact cprocess_bad hok i hi w h _ he h0 h16 hb
  · rename_i hb
    exact cprocess_good hok i hi w h _ he h0 h16 (by simp only at hb; omega) (by simp only at hb; omega)

def boolOf : Value → Bool
  | .bool b => b
  | _ => false
def rdI (w : World) (d : Nat) : List Int := match w.heap[d]? with
  | some (.cells cs _ _) => cs.toList.map intOf
  | _ => []
def rdB (w : World) (d : Nat) : List Bool := match w.heap[d]? with
  | some (.cells cs _ _) => cs.toList.map boolOf
  | _ => []
theorem rdI_of {w : World} {d : Nat} {t : TypeId} {D : List Int} (h : Held w d t (intA D)) : rdI w d = D := by
  unfold Held at h
  unfold rdI
  rw [h]
  simp [Function.comp_def, intOf]
theorem rdB_of {w : World} {d : Nat} {t : TypeId} {D : List Bool} (h : Held w d t (boolA D)) : rdB w d = D := by
  unfold Held at h
  unfold rdB
  rw [h]
  simp [Function.comp_def, boolOf]
theorem init_step {n : Nat} (hn : 0 < n) : nextsS 0 [0] (fillD n n) (List.replicate n false) = (initD n, initW n, 0) := by
  obtain ⟨m, rfl⟩ : ∃ m, n = m + 1 := ⟨n - 1, by omega⟩
  rw [fillD_all]
  unfold nextsS
  rw [if_neg (by simp), if_pos (by simp [List.replicate_succ])]
  simp [initD, initW, List.replicate_succ, nexts_nil]
/-- What lies ready whenever a place is sought. -/
def FloJ (w0 : World) (B g d v : Nat) (Ap : Option Addr) (cp : Nat) (p : List Fun) (f : Fun) (Ac : Option Addr) (cc : Nat) (a' : Act) (w' : World) : Prop :=
  ∃ (D : List Int) (V : List Bool) (K : Nat), CkAt B g d v Ap cp p f Ac cc D V w' ∧ Only d v w0 w' ∧ Gone (grF p f.code) f.code.length D V ∧ muS f.code.length D V ≤ K ∧ flowS (grF p f.code) K D V = flowF p f.code ∧ ∃ u2 u3 u4 u5 u6 u7 u8 u9 u10 u11 u12 u13 u14 u15 u16 u17 u18 u19 u20 u21 u22 u23 u24 u25 u26 u27 : Value,  a' = { tmps := #[.pointer (some ⟨g, 0, none⟩), undef, u2, u3, u4, u5, u6, u7, u8, u9, u10, u11, u12, u13, u14, u15, u16, u17, u18, u19, u20, u21, u22, u23, u24, u25, u26, u27], defers := [] }

set_option maxHeartbeats 2000000 in
set_option maxRecDepth 100000 in
theorem cflow_any {B g d v : Nat} {Ap : Option Addr} {cp : Nat} {p : List Fun} {f : Fun} {Ac : Option Addr} {cc : Nat} (hok : FunOk p f) (w : World) (h : CkAt B g d v Ap cp p f Ac cc (fillD f.code.length f.code.length) (List.replicate f.code.length false) w) :
    Calls Tryd.prog 72 #[.pointer (some ⟨g, 0, none⟩)] w fun x w' => x = .returned (.tuple #[.int .i64 (flowF p f.code).2.1, .int .i64 (flowF p f.code).2.2]) ∧
      (∃ D V, CkAt B g d v Ap cp p f Ac cc D V w' ∧ ((flowF p f.code).2.2 = 0 → D = (flowF p f.code).1)) ∧ Only d v w w' := by
  have hn := hok.n2
  have hn1 := hok.n1
  have RC := Lib.hid (creach_any 0 0 w h (by omega) (by omega) hn)
  rw [init_step hn1] at RC
  simp only at RC
  go_enter Tryd.func72, Tryd.ntmps72
  go_wp2
  refine wp_scope_once 0 (FloJ w B g d v Ap cp p f Ac cc) (fun _ w' => muS f.code.length (rdI w' d) (rdB w' v)) rfl ?_ ?_
  · rintro a' w' ⟨D, V, K, hck, hon, hgo, hmu, hfl, u2, u3, u4, u5, u6, u7, u8, u9, u10, u11, u12, u13, u14, u15, u16, u17, u18, u19, u20, u21, u22, u23, u24, u25, u26, u27, rfl⟩
    try dsimp only
    rw [rdI_of hck.hd, rdB_of hck.hv]
    have IX := Lib.hid (index_any w' hck.hv (by have := hck.vl; omega))
    rw [hck.vl] at IX
    obtain ⟨_, _, _, _, _, _, c6, hgl⟩ := hck.cells
    have hvl := hck.vl
    have hdl := hck.dl
    cases ho : openS V with
    | none =>
      rw [ho] at IX
      have hR : flowF p f.code = (D, 0, 0) := by
        rw [← hfl]
        cases K with
        | zero => rfl
        | succ K => unfold flowS; rw [ho]
      have HR := Lib.hid hR
      have HCK := Lib.hid hck
      have HON := Lib.hid hon
      simp only at IX
      clear hck hon hgo hmu hfl h RC hR ho
      go_wp2_with (go_at_call 87; (with_reducible refine IX.out.mono ?_); rintro _ u ⟨rfl, rfl⟩)
      simp only [Exit.jump]
      go_returns
      rw [HR.out]
      exact ⟨rfl, ⟨D, V, HCK.out, fun _ => rfl⟩, HON.out⟩
    | some i =>
      rw [ho] at IX
      simp only at IX
      obtain ⟨hi, hVi, _⟩ := openS_some ho
      have hi2 : i < f.code.length := by omega
      have hpos := mu_pos (D := D) (n := f.code.length) (i := i) hi2 (by rw [List.getElem?_eq_getElem hi, hVi])
      obtain ⟨K, rfl⟩ : ∃ k, K = k + 1 := ⟨K - 1, by omega⟩
      have hd0 : D[i]? = some D[i] := List.getElem?_eq_getElem (by omega)
      have hge : D.getD i 0 = D[i] := by rw [List.getD_eq_getElem?_getD, hd0]; rfl
      have hne : D[i] ≠ -1 := fun e => hgo.wait i (by rw [List.getElem?_eq_getElem hi, hVi]) (by rw [hd0, e])
      have hrg := hgo.range i _ hd0
      have hs := hck.setV i false
      have v0 := bools_cell hck.hv (i := i) hi
      have f0 := hck.hv.fz i
      have PC := Lib.hid (cprocess_any hok i hi2 _ hs (by omega) (by omega))
      have hst := fun he => good_step hok.fine hgo ho he
      unfold flowS at hfl
      rw [ho] at hfl
      simp only at hfl
      generalize V[i] = y at *
      generalize D.getD i 0 = dd at *
      generalize procS (grF p f.code i) dd D (V.set i false) = N at *
      obtain ⟨D2, V2, e2⟩ := N
      simp only at hst hfl PC
      have hgb := hs.cells
      have HON := Lib.hid hon
      have HFL := Lib.hid hfl
      have HST := Lib.hid hst
      clear hck hon hgo h RC ho hd0 hge hne hrg hs hst hfl hVi
      by_cases he : e2 = 0
      · subst he
        obtain ⟨hg2, hm2⟩ := HST.out rfl
        have hfl := HFL.out
        rw [if_pos rfl] at hfl
        have HFL2 := Lib.hid hfl
        have HG2 := Lib.hid hg2
        have HM2 := Lib.hid hm2
        clear hfl hg2 hm2
        go_wp2_with (first
          | (go_at_call 87; (with_reducible refine IX.out.mono ?_); rintro _ u ⟨rfl, rfl⟩)
          | (go_at_call 88; (with_reducible refine PC.out.mono ?_); rintro _ u2 ⟨rfl, hck2, hon2⟩))
        go_step3
        refine ⟨rfl, ⟨D2, V2, K, hck2, (HON.out.set (.inr rfl) i (.bool false)).trans hon2, HG2.out, by have := HM2.out; omega, HFL2.out, _, _, _, _, _, _, _, _, _, _, _, _, _, _, _, _, _, _, _, _, _, _, _, _, _, _, rfl⟩, ?_⟩
        rw [rdI_of hck2.hd, rdB_of hck2.hv]
        exact HM2.out
      · have hfl := HFL.out
        rw [if_neg he] at hfl
        have HFL2 := Lib.hid hfl
        have hne2 : (e2 != 0) = true := by simpa using he
        have HE := Lib.hid he
        clear hfl he
        go_wp2_with (first
          | (go_at_call 87; (with_reducible refine IX.out.mono ?_); rintro _ u ⟨rfl, rfl⟩)
          | (go_at_call 88; (with_reducible refine PC.out.mono ?_); rintro _ u2 ⟨rfl, hck2, hon2⟩))
        simp only [Exit.jump]
        go_returns
        rw [← HFL2.out]
        exact ⟨rfl, ⟨D2, V2, hck2, fun h => absurd h HE.out⟩, (HON.out.set (.inr rfl) i (.bool false)).trans hon2⟩
  · intro hp
    have Hp := Lib.hid hp
    clear hp
    go_wp2_with (go_at_call 86; (with_reducible refine RC.out.mono ?_); rintro _ u ⟨rfl, hck2, hon2⟩)
    go_step3
    rename_i hK
    refine hK _ _ (Hp.out _ _ ⟨initD f.code.length, initW f.code.length, 201, hck2, hon2, init_good _ hn1, Nat.le_trans (mu_le _ _ _) (by omega), rfl, _, _, _, _, _, _, _, _, _, _, _, _, _, _, _, _, _, _, _, _, _, _, _, _, _, _, rfl⟩)
end Go.Proofs.YtjibkgildfjjoaaDoor

/- Layer 8's code: the checker's check; Check, Depths. -/
namespace Go.Proofs.YtjibkgildfjjoaaDoor
set_option linter.unusedVariables false
set_option linter.unusedSimpArgs false
open Go.RowKit Go.ChangeShapes Go.WideShapes Go.ChangeAt Go.Sort

theorem firstI_cons (p : List Fun) (f : Fun) (x : Int × Int × Int) (l : List (Int × Int × Int)) (k : Int) : firstI p f (x :: l) k = if fieldI p f x = 0 then firstI p f l (k + 1) else (k, fieldI p f x) := rfl
theorem first_all {p : List Fun} {f : Fun} : ∀ (l : List (Int × Int × Int)) (k : Int), (∀ x ∈ l, fieldI p f x = 0) → firstI p f l k = (0, 0)
  | [], _, _ => rfl
  | x :: l, k, h => by
    unfold firstI
    rw [if_pos (h x (by simp))]
    exact first_all l _ fun y hy => h y (by simp [hy])
theorem CkAt.drewN {B g d v : Nat} {Ap : Option Addr} {cp : Nat} {p : List Fun} {f : Fun} {Ac : Option Addr} {cc : Nat} {D : List Int} {V : List Bool} {w : World} (h : CkAt B g d v Ap cp p f Ac cc D V w) (n : Nat) : CkAt B g d v Ap cp p f Ac cc D V (w.drewN n) :=
  h.below (below_drewN (Below.refl _ _) n)

set_option maxHeartbeats 2000000 in
set_option maxRecDepth 100000 in
theorem ccheck_any {B g d v : Nat} {Ap : Option Addr} {cp : Nat} {p : List Fun} {f : Fun} {Ac : Option Addr} {cc : Nat} (hm : ∀ f ∈ p, mayF f = true) (hf : mayF f = true) (w : World) (h : CkAt B g d v Ap cp p f Ac cc (fillD f.code.length f.code.length) (List.replicate f.code.length false) w) :
    Calls Tryd.prog 49 #[.pointer (some ⟨g, 0, none⟩)] w fun x w' => x = .returned (.tuple #[.int .i64 (funE p f).1, .int .i64 (funE p f).2]) ∧ Only d v w w' := by
  obtain ⟨hh, hn1, hn, _⟩ := (mayF_iff f).1 hf
  obtain ⟨c0, c1, c2, c3, c4, c5, c6, hgl⟩ := h.cells
  have H := Lib.hid h
  by_cases h1 : f.lo < f.ar
  · have hE : funE p f = (0, 80) := by unfold funE; rw [if_pos h1]
    rw [hE]
    clear h c0 c3 c4 c5 c6 hm hf hh hE
    go_enter Tryd.func49, Tryd.ntmps49
    go_wp2_with fail
    go_quiet (fail)
    go_wp2_with fail
    go_returns
    exact ⟨rfl, (Only.refl d v w).drewN _⟩
  · have HH1 := Lib.hid h1
    have hgt : ¬ f.ar > f.lo := by omega
    generalize hG : funE p f = R
    have HG := Lib.hid hG
    have HM := Lib.hid hm
    have HF := Lib.hid hf
    clear h c0 c3 c4 c5 c6 hm hf hh hG h1
    go_enter Tryd.func49, Tryd.ntmps49
    go_wp2_with fail
    go_quiet (fail)
    have H2 := Lib.hid (H.out.drewN nq)
    have HO := Lib.hid ((Only.refl d v w).drewN nq)
    generalize w.drewN nq = w1 at *
    obtain ⟨c0, c1, c2, c3, c4, c5, c6, hgl⟩ := H2.out.cells
    clear c0 c1 c2 c3 c5 c6
    go_wp2_with fail
    clear c4 hgl
    go_loopw [4, 5, 6, 24] (fun _ _ _ iv W => ∃ k : Nat, iv = .int .i64 k ∧ k ≤ f.code.length ∧ CkAt B g d v Ap cp p f Ac cc (fillD f.code.length f.code.length) (List.replicate f.code.length false) W ∧ Only d v w W ∧ (∀ x ∈ f.code.take k, fieldI p f x = 0) ∧ firstI p f f.code 0 = firstI p f (f.code.drop k) k) (fun _ _ _ iv _ => f.code.length - (intOf iv).toNat)
    case atStart => exact ⟨0, rfl, by omega, H2.out, HO.out, by simp, by simp⟩
    case round =>
      obtain ⟨k, rfl, hk, hck, hon, hall, hfi⟩ := hrel
      by_cases hlt : k < f.code.length
      · obtain ⟨bb, off, rfl, hbl, a0, a1, a2⟩ := hck.ins hlt
        have hbw := hck.lt
        have htk : f.code.take (k + 1) = f.code.take k ++ [f.code[k]] := List.take_succ_eq_append_getElem hlt
        have CF := fun W h => Lib.hid (cfields_any f.code[k].1 f.code[k].2.1 f.code[k].2.2 W (D := (fillD f.code.length f.code.length)) (V := (List.replicate f.code.length false)) (B := B) (g := g) (d := d) (v := v) (Ap := Ap) (cp := cp) (p := p) (f := f) (Ac := some ⟨bb, off, none⟩) (cc := cc) h)
        change ∀ W h, Hid (Calls Tryd.prog 71 #[.pointer (some ⟨g, 0, none⟩), .agg #[.int .i64 f.code[k].1, .int .i64 f.code[k].2.1, .int .i64 f.code[k].2.2]] W fun e w' => e = .returned (.int .i64 (fieldI p f f.code[k])) ∧ Below W.heap.size W w') at CF
        rw [List.drop_eq_getElem_cons hlt] at hfi
        rw [firstI_cons] at hfi
        have HCK := Lib.hid hck
        have HON := Lib.hid hon
        have HALL := Lib.hid hall
        have HFI := Lib.hid hfi
        have HTK := Lib.hid htk
        have hfe : fieldI p f f.code[k] = fieldI p f f.code[k] := rfl
        generalize hee : fieldI p f f.code[k] = ee at CF HFI
        have HEE := Lib.hid hee
        clear hfe hee hck hon hall hfi htk
        generalize f.code[k] = x at *
        by_cases he : ee = 0
        · subst he
          go_wp2_with (go_at_call 71; (with_reducible refine (CF _ (HCK.out.below (by go_grown))).out.mono ?_); rintro _ u ⟨rfl, hb⟩; have hbw2 := below_laid hb)
          go_roundw
          case rel =>
            refine ⟨k + 1, by go_num, by omega, HCK.out.below hbw2, HON.out.trans (Only.of_below hbw2), fun y hy => ?_, ?_⟩
            · rw [HTK.out] at hy
              rcases List.mem_append.1 hy with hy | hy
              · exact HALL.out y hy
              · simp only [List.mem_singleton] at hy
                subst hy
                exact HEE.out
            · simpa using HFI.out
          case measure => simp [intOf]; omega
        · have hne : (ee != 0) = true := by simpa using he
          have hR : R = ((k : Int), ee) := by
            have h1 := HFI.out
            rw [if_neg he] at h1
            have h2 := HG.out
            unfold funE at h2
            rw [if_neg (Int.not_lt.2 HH1.out), h1, if_neg he] at h2
            exact h2.symm
          subst hR
          clear he
          go_wp2_with (go_at_call 71; (with_reducible refine (CF _ (HCK.out.below (by go_grown))).out.mono ?_); rintro _ u ⟨rfl, hb⟩; have hbw2 := below_laid hb)
          go_returns
          exact ⟨rfl, HON.out.trans (Only.of_below hbw2)⟩
      · obtain rfl : k = f.code.length := by omega
        rw [List.take_length] at hall
        have hok := fun_ok HM.out HF.out hall
        have hR : R = (flowF p f.code).2 := by
          have h2 := HG.out
          unfold funE at h2
          rw [if_neg (Int.not_lt.2 HH1.out), first_all _ _ hall, if_pos rfl] at h2
          exact h2.symm
        have FL := Lib.hid (cflow_any hok wr hck)
        have HON := Lib.hid hon
        clear hck hon hall hfi hok
        subst hR
        go_wp2_with (go_at_call 72; (with_reducible refine FL.out.mono ?_); rintro _ u ⟨rfl, _, ho2⟩)
        go_returns
        exact ⟨rfl, HON.out.trans ho2⟩
end Go.Proofs.YtjibkgildfjjoaaDoor

/- Layer 8's code: Check. -/
namespace Go.Proofs.YtjibkgildfjjoaaDoor
set_option linter.unusedVariables false
set_option linter.unusedSimpArgs false
open Go.RowKit Go.ChangeShapes Go.WideShapes Go.ChangeAt Go.Sort

theorem firstF_cons (p : List Fun) (f : Fun) (l : List Fun) (k : Int) : firstF p (f :: l) k = if (funE p f).2 = 0 then firstF p l (k + 1) else (k, funE p f) := rfl
theorem fill_len (n : Nat) : (fillD n n).length = n := fillD_len (Nat.le_refl _)
theorem ck_new {wr u : World} {d v : Nat} {Ap : Option Addr} {cp : Nat} {p : List Fun} {f : Fun} {Ac : Option Addr} {cc : Nat} (hT : Otab wr) (hp : ProgAt wr wr.heap.size Ap p) (hc : CodeAt wr wr.heap.size Ac f.code) (hb : Below wr.heap.size wr u)
    (hd : wr.heap.size ≤ d) (hv : wr.heap.size ≤ v) (hdv : d ≠ v) (hhd : Held u d 3 (intA (fillD f.code.length f.code.length))) (hhv : Held u v 4 (boolA (List.replicate f.code.length false))) :
    CkAt wr.heap.size u.heap.size d v Ap cp p f Ac cc (fillD f.code.length f.code.length) (List.replicate f.code.length false) (u.alloc (.cells #[.slice Ap p.length cp, .int .i64 f.ar, .int .i64 f.lo, .int .i64 f.sl, .slice Ac f.code.length cc, .slice (some ⟨d, 0, none⟩) f.code.length f.code.length, .slice (some ⟨v, 0, none⟩) f.code.length f.code.length] 104)) := by
  have hb2 : Below wr.heap.size wr (u.alloc (.cells #[.slice Ap p.length cp, .int .i64 f.ar, .int .i64 f.lo, .int .i64 f.sl, .slice Ac f.code.length cc, .slice (some ⟨d, 0, none⟩) f.code.length f.code.length, .slice (some ⟨v, 0, none⟩) f.code.length f.code.length] 104)) := hb.alloc hb.size _
  have h1 := hhd.lt
  have h2 := hhv.lt
  exact ⟨hT.below hb2, hT.lt, hb.size, hd, hv, by omega, by omega, hdv, Held.new _ _ _, hhd.alloc _, hhv.alloc _, fill_len _, by simp, hp.below hb2 (Nat.le_refl _), hc.below hb2 (Nat.le_refl _)⟩
set_option maxHeartbeats 4000000 in
set_option maxRecDepth 100000 in
theorem check_any {B : Nat} {A : Option Addr} {p : List Fun} (c : Nat) (w : World) (hT : Otab w) (h : ProgAt w B A p) (hz : SizedP p) (hB : B ≤ w.heap.size) :
    Calls Tryd.prog 30 #[.slice A p.length c] w fun x w' => x = .returned (.tuple #[.int .i64 (checkP p).1, .int .i64 (checkP p).2.1, .int .i64 (checkP p).2.2]) ∧ Below w.heap.size w w' := by
  have MY := Lib.hid (cmay_any c w hT h hz hB)
  have HA := Lib.hid h
  have HT := Lib.hid hT
  generalize hR : checkP p = R
  have HR := Lib.hid hR
  clear h hT hR
  cases hm : mayP p with
  | false =>
    have hR := HR.out
    unfold checkP at hR
    rw [if_neg (by rw [hm]; simp)] at hR
    subst hR
    rw [hm] at MY
    clear hm
    go_enter Tryd.func30, Tryd.ntmps30
    go_wp2_with (go_at_call 47; (with_reducible refine MY.out.mono ?_); rintro _ u ⟨rfl, hb⟩)
    go_returns
    exact ⟨rfl, hb⟩
  | true =>
    have hR := HR.out
    unfold checkP at hR
    rw [if_pos hm] at hR
    obtain ⟨hp1, hp2, hmf⟩ := (mayP_iff p).1 hm
    rw [hm] at MY
    have HR2 := Lib.hid hR
    have HMF := Lib.hid hmf
    clear hm hmf hR
    go_enter Tryd.func30, Tryd.ntmps30
    go_wp2_with (go_at_call 47; (with_reducible refine MY.out.mono ?_); rintro _ u ⟨rfl, hb⟩)
    have HB := Lib.hid hb
    clear hb
    go_loopw [5, 6, 7, 8, 9, 15] (fun _ _ _ _ _ iv W => ∃ k : Nat, iv = .int .i64 k ∧ k ≤ p.length ∧ Below w.heap.size w W ∧ firstF p p 0 = firstF p (p.drop k) k) (fun _ _ _ _ _ iv _ => p.length - (intOf iv).toNat)
    case atStart => exact ⟨0, rfl, by omega, HB.out, by simp⟩
    case round =>
      obtain ⟨k, rfl, hk, hbw, hfi⟩ := hrel
      by_cases hlt : k < p.length
      · obtain ⟨bb, off, rfl, hbl, hc⟩ := (HA.out.below hbw hB) (by omega)
        obtain ⟨f0, f1, f2, Ac, cc, f3, hcode⟩ := hc k hlt
        have hmem := HMF.out _ (List.getElem_mem hlt)
        have hws := hbw.size
        rw [List.drop_eq_getElem_cons hlt, firstF_cons] at hfi
        have hlen := ((mayF_iff _).1 hmem).2
        have BG := fun a l s W => Lib.hid (begin_any (some ⟨bb, off, none⟩) p.length c a l s Ac p[k].code.length cc (by omega) (by omega) W)
        have HPR := Lib.hid (HA.out.below hbw hB)
        have HOT := Lib.hid (HT.out.below hbw)
        have HBW := Lib.hid hbw
        have HFI := Lib.hid hfi
        have HMEM := Lib.hid hmem
        have HCO := Lib.hid (hcode.more (show B ≤ wr.heap.size by omega))
        have HPR2 := Lib.hid (HPR.out.more (show B ≤ wr.heap.size by omega))
        generalize p[k] = f at *
        have CC := fun u2 d v (hb2 : Below (wr.alloc (.cells #[.int .i64 f.ar, .int .i64 f.lo, .int .i64 f.sl, .slice Ac f.code.length cc] 89)).heap.size (wr.alloc (.cells #[.int .i64 f.ar, .int .i64 f.lo, .int .i64 f.sl, .slice Ac f.code.length cc] 89)) u2) (hd : wr.heap.size ≤ d) (hv : wr.heap.size ≤ v) hdv hhd hhv =>
          Lib.hid (ccheck_any HMF.out HMEM.out _ (ck_new (d := d) (v := v) (cp := c) (p := p) (f := f) (cc := cc) HOT.out HPR2.out HCO.out (below_laid hb2) hd hv hdv hhd hhv))
        have hfe : (funE p f) = ((funE p f).1, (funE p f).2) := rfl
        generalize hf1 : (funE p f).1 = e1 at *
        generalize hf2 : (funE p f).2 = e2 at *
        have HF1 := Lib.hid hf1
        have HF2 := Lib.hid hf2
        have HFE := Lib.hid hfe
        clear hc hcode hmem hfi hlen hbw hf1 hf2 hfe
        have hax : wr.heap.size ≤ (wr.alloc (.cells #[.int .i64 f.ar, .int .i64 f.lo, .int .i64 f.sl, .slice Ac f.code.length cc] 89)).heap.size := by simp
        by_cases he : e2 = 0
        · subst he
          go_wp2_with (first
            | (go_at_call 48; (with_reducible refine (BG _ _ _ _).out.mono ?_); rintro _ u2 ⟨d, v, rfl, hd, hv, hdv, hhd, hhv, hb2⟩; have hd2 := Nat.le_trans hax hd; have hv2 := Nat.le_trans hax hv)
            | (go_at_call 49; (with_reducible refine (CC _ _ _ hb2 hd2 hv2 hdv hhd hhv).out.mono ?_); rintro _ u3 ⟨rfl, ho3⟩; have hb3 := ho3.to_below (B := wr.heap.size) (by have := (below_laid hb2).size; simp; omega) hd2 hv2; have hb4 := ((below_laid hb2).alloc (below_laid hb2).size _).trans hb3))
          go_roundw
          case rel => exact ⟨k + 1, by go_num, by omega, Below.step HBW.out hb4, by simpa [HF2.out] using HFI.out⟩
          case measure => simp [intOf]; omega
        · have hne : (e2 != 0) = true := by simpa using he
          have hR : R = ((k : Int), e1, e2) := by
            have h1 := HFI.out
            rw [if_neg he, HFE.out] at h1
            exact HR2.out.symm.trans h1
          subst hR
          clear he
          go_wp2_with (first
            | (go_at_call 48; (with_reducible refine (BG _ _ _ _).out.mono ?_); rintro _ u2 ⟨d, v, rfl, hd, hv, hdv, hhd, hhv, hb2⟩; have hd2 := Nat.le_trans hax hd; have hv2 := Nat.le_trans hax hv)
            | (go_at_call 49; (with_reducible refine (CC _ _ _ hb2 hd2 hv2 hdv hhd hhv).out.mono ?_); rintro _ u3 ⟨rfl, ho3⟩; have hb3 := ho3.to_below (B := wr.heap.size) (by have := (below_laid hb2).size; simp; omega) hd2 hv2; have hb4 := ((below_laid hb2).alloc (below_laid hb2).size _).trans hb3))
          go_returns
          exact ⟨rfl, Below.step HBW.out hb4⟩
      · obtain rfl : k = p.length := by omega
        rw [List.drop_length] at hfi
        have hR : R = (0, 0, 0) := HR2.out.symm.trans hfi
        subst hR
        have HBW := Lib.hid hbw
        clear hbw hfi
        go_wp2_with fail
        go_returns
        exact ⟨rfl, HBW.out⟩
end Go.Proofs.YtjibkgildfjjoaaDoor

/- Layer 8: the document's Off, Next, open, behind, field, Ints. -/
namespace Go.Proofs.YtjibkgildfjjoaaDoor
set_option linter.unusedVariables false
set_option linter.unusedSimpArgs false
open Go.RowKit Go.ChangeShapes Go.WideShapes Go.ChangeAt Go.Sort

end Go.Proofs.YtjibkgildfjjoaaDoor

/- Layer 8: the document's behind, field, Ints. -/
namespace Go.Proofs.YtjibkgildfjjoaaDoor
set_option linter.unusedVariables false
set_option linter.unusedSimpArgs false
open Go.RowKit Go.ChangeShapes Go.WideShapes Go.ChangeAt Go.Sort

end Go.Proofs.YtjibkgildfjjoaaDoor

/- Layer 8: the document's reach. -/
namespace Go.Proofs.YtjibkgildfjjoaaDoor
set_option linter.unusedVariables false
set_option linter.unusedSimpArgs false
open Go.RowKit Go.ChangeShapes Go.WideShapes Go.ChangeAt Go.Sort

/-- Whoever was gone through is reached. -/
structure RInv (n : Nat) (D : List Int) (Q : List Bool) : Prop where
  dl : D.length = n
  ql : Q.length = n
  low : ∀ (i : Nat) (d : Int), D[i]? = some d → -1 ≤ d
  dn : ∀ i : Nat, Q[i]? = some true → D[i]? ≠ some (-1)
theorem RInv.set {n : Nat} {D : List Int} {Q : List Bool} (h : RInv n D Q) {i : Nat} {d : Int} (hd : D[i]? = some d) (hn : d ≠ -1) : RInv n D (Q.set i true) := by
  refine ⟨h.dl, by rw [List.length_set]; exact h.ql, h.low, fun j hj => ?_⟩
  by_cases hij : i = j
  · subst hij
    rw [hd]
    exact fun e => hn (Option.some.inj e)
  · rw [List.getElem?_set_ne hij] at hj
    exact h.dn j hj
/-- What lies ready while places are gone through. -/
structure RkAt (B x d q : Nat) (Ap : Option Addr) (p : List Fun) (f : Fun) (Ac : Option Addr) (cc : Nat) (D : List Int) (Q : List Bool) (w : World) : Prop where
  xB : B ≤ x
  dB : B ≤ d
  qB : B ≤ q
  xd : x ≠ d
  xq : x ≠ q
  dq : d ≠ q
  hx : Held w x 89 #[.int .i64 f.ar, .int .i64 f.lo, .int .i64 f.sl, .slice Ac f.code.length cc]
  hd : Held w d 3 (intA D)
  hq : Held w q 4 (boolA Q)
  prog : ProgAt w B Ap p
  code : CodeAt w B Ac f.code
section
variable {B x d q : Nat} {Ap : Option Addr} {p : List Fun} {f : Fun} {Ac : Option Addr} {cc : Nat} {D : List Int} {Q : List Bool} {w w' : World}
theorem RkAt.lt (h : RkAt B x d q Ap p f Ac cc D Q w) : B ≤ w.heap.size := by
  have := h.hx.lt
  have := h.xB
  omega
theorem RkAt.below (h : RkAt B x d q Ap p f Ac cc D Q w) (hb : Below w.heap.size w w') : RkAt B x d q Ap p f Ac cc D Q w' :=
  ⟨h.xB, h.dB, h.qB, h.xd, h.xq, h.dq, h.hx.below hb, h.hd.below hb, h.hq.below hb, h.prog.below hb h.lt, h.code.below hb h.lt⟩
theorem RkAt.setD (h : RkAt B x d q Ap p f Ac cc D Q w) (i : Nat) (y : Int) : RkAt B x d q Ap p f Ac cc (D.set i y) Q (w.setCell ⟨d, i, none⟩ (.int .i64 y)) := by
  have hb : Below B w (w.setCell ⟨d, i, none⟩ (.int .i64 y)) := (Below.refl B w).setCell h.dB _
  exact ⟨h.xB, h.dB, h.qB, h.xd, h.xq, h.dq, h.hx.far h.xd _ _, ints_set h.hd i y, h.hq.far (Ne.symm h.dq) _ _, h.prog.below hb (Nat.le_refl _), h.code.below hb (Nat.le_refl _)⟩
/-- An instruction's cells. -/
theorem RkAt.ins (h : RkAt B x d q Ap p f Ac cc D Q w) {i : Nat} (hi : i < f.code.length) :
    ∃ b off, Ac = some ⟨b, off, none⟩ ∧ b < B ∧ w.cell? ⟨b, off + i * 3, none⟩ = some (.int .i64 f.code[i].1) ∧ w.cell? ⟨b, off + i * 3 + 1, none⟩ = some (.int .i64 f.code[i].2.1) ∧ w.cell? ⟨b, off + i * 3 + 2, none⟩ = some (.int .i64 f.code[i].2.2) := by
  obtain ⟨b, off, h1, h2, h3⟩ := h.code (by omega)
  exact ⟨b, off, h1, h2, h3 i hi⟩
end
end Go.Proofs.YtjibkgildfjjoaaDoor

/- Layer 8: the document's reach, at every function that may be. -/
namespace Go.Proofs.YtjibkgildfjjoaaDoor
set_option linter.unusedVariables false
set_option linter.unusedSimpArgs false
open Go.RowKit Go.ChangeShapes Go.WideShapes Go.ChangeAt Go.Sort

end Go.Proofs.YtjibkgildfjjoaaDoor

/- A call's own copies: of a code, of a program; an element of them stored anew. -/
namespace Go.Proofs.YtjibkgildfjjoaaDoor
set_option linter.unusedVariables false
set_option linter.unusedSimpArgs false
open Go.RowKit Go.ChangeShapes Go.WideShapes Go.ChangeAt Go.Sort

/-- A code appended. -/
theorem wpList_append_code {w : World} {ops : Array Oper} {rest : List Oper} {o : Oper} {a : Act} {Q : Exit → Act → World → Prop}
    (hg : o.guard = none) (s x : Operand) (hop : o.op = Op.call { callee := Callee.builtin Builtin.append, args := #[s, x], argTypes := #[87, 87] })
    (B : Nat) (v : Value) (l : List Ins) (hs : a.eval s = v) (own : OwnC w B v l) {A : Option Addr} {k : List Ins} {c C : Nat} (hx : a.eval x = .slice A k.length c) (hc : CodeAt w C A k)
    (h1 : 1 ≤ k.length) (hlen : l.length + k.length ≤ 1000000) (hB : B ≤ w.heap.size)
    (h : ∀ g cap w', OwnC w' B (.slice (some ⟨g, 0, none⟩) (l.length + k.length) cap) (l ++ k) → Below B w w' → B ≤ g → g < w'.heap.size → wpList Tryd.prog ops Q rest (a.put o.dst (.slice (some ⟨g, 0, none⟩) (l.length + k.length) cap)) w') : wpList Tryd.prog ops Q (o :: rest) a w := by
  obtain ⟨b, off, rfl, hbC, hf⟩ := hc (by omega)
  obtain ⟨q, hi, hz0, hz1, hz2⟩ := info_parts infoIn
  refine wpList_append_lies _ hg s x 87 hop B 116 q (.agg #[.int .i64 0, .int .i64 0, .int .i64 0]) 3 24 Tryd.underlying87 hi hz0 hz1 hz2 rfl (by decide) v l.length (flatI l) hs own ⟨b, off, none⟩ k.length c
    (flatI k) hx (flatI_len k) (fun j u hj => ?_) (fun u hu => ?_) (by omega) (by unfold maxLen; omega) (by omega) hB _ rfl ?_
  · rw [addr_add]
    have hjl : j < (flatI k).length := by
      rcases Nat.lt_or_ge j (flatI k).length with h | h
      · exact h
      · rw [List.getElem?_eq_none h] at hj; cases hj
    rw [flatI_len] at hjl
    have hd : j = j / 3 * 3 + j % 3 := by omega
    obtain ⟨e0, e1, e2⟩ := flatI_at k (j / 3) (by omega)
    obtain ⟨c0, c1, c2⟩ := hf (j / 3) (by omega)
    have hm : j % 3 = 0 ∨ j % 3 = 1 ∨ j % 3 = 2 := by omega
    rcases hm with hm | hm | hm
    · rw [hm, Nat.add_zero] at hd
      rw [hd] at hj ⊢
      rw [e0] at hj
      rw [c0, hj]
    · rw [hm] at hd
      rw [hd] at hj ⊢
      rw [e1] at hj
      rw [show off + (j / 3 * 3 + 1) = off + j / 3 * 3 + 1 by omega, c1, hj]
    · rw [hm] at hd
      rw [hd] at hj ⊢
      rw [e2] at hj
      rw [show off + (j / 3 * 3 + 2) = off + j / 3 * 3 + 2 by omega, c2, hj]
  · unfold flatI at hu
    obtain ⟨y, _, hy⟩ := List.mem_flatMap.1 hu
    simp at hy
    rcases hy with rfl | rfl | rfl <;> rfl
  · intro g cap w' k1 k2 k3 k4
    have hb : Below B w w' := (Below.refl B w).grown k2 hB (fun j hj => (own.lt j hj).1)
    have hgB : B ≤ g := by
      rcases k3 with k3 | k3
      · exact (own.lt g k3).1
      · omega
    refine h g cap w' ?_ hb hgB k4
    unfold OwnC
    rw [List.length_append]
    have : flatI (l ++ k) = flatI l ++ flatI k := by simp [flatI]
    rw [this]
    exact k1
theorem flatI_set : ∀ (l : List Ins) (k : Nat) (y : Ins), k < l.length → (((flatI l).set (k * 3) (.int .i64 y.1)).set (k * 3 + 1) (.int .i64 y.2.1)).set (k * 3 + 2) (.int .i64 y.2.2) = flatI (l.set k y)
  | z :: l, 0, y, _ => rfl
  | z :: l, k + 1, y, h => by
    have ih := flatI_set l k y (by simpa using h)
    rw [List.set_cons_succ, show (k + 1) * 3 = k * 3 + 3 by omega]
    show .int .i64 z.1 :: .int .i64 z.2.1 :: .int .i64 z.2.2 :: (((flatI l).set (k * 3) _).set (k * 3 + 1) _).set (k * 3 + 2) _ = .int .i64 z.1 :: .int .i64 z.2.1 :: .int .i64 z.2.2 :: flatI (l.set k y)
    rw [ih]
/-- An instruction stored in the call's own code. -/
theorem OwnC.set {w : World} {B g cap n : Nat} {l : List Ins} (h : OwnC w B (.slice (some ⟨g, 0, none⟩) n cap) l) (hn : l.length = n) (k : Nat) (y : Ins) (hk : k < l.length) :
    OwnC (((w.setCell ⟨g, k * 3, none⟩ (.int .i64 y.1)).setCell ⟨g, k * 3 + 1, none⟩ (.int .i64 y.2.1)).setCell ⟨g, k * 3 + 2, none⟩ (.int .i64 y.2.2)) B (.slice (some ⟨g, 0, none⟩) n cap) (l.set k y) := by
  subst hn
  unfold OwnC at *
  rw [List.length_set, ← flatI_set l k y hk]
  exact (((h.stored (k * 3) _).1.stored (k * 3 + 1) _).1.stored (k * 3 + 2) _).1
/-- A program out of a row whose codes lie anywhere. -/
theorem prog_of_row {w : World} {B g cap : Nat} {l : List (Fun × Value)} (h : w.ownsRow B 89 4 (.slice (some ⟨g, 0, none⟩) l.length cap) l.length (flatF l)) (hl : Lies w w.heap.size l) : ProgAt w w.heap.size (some ⟨g, 0, none⟩) (l.map (·.1)) := by
  have hlt := (h.lt g rfl).2
  refine fun _ => ⟨g, 0, rfl, hlt, fun j hj => ?_⟩
  have hj' : j < l.length := by simpa using hj
  obtain ⟨e0, e1, e2, e3⟩ := flatF_at l j hj'
  have k0 := (h.cellAt (j * 4) (by omega)).trans e0
  have k1 := (h.cellAt (j * 4 + 1) (by omega)).trans e1
  have k2 := (h.cellAt (j * 4 + 2) (by omega)).trans e2
  have k3 := (h.cellAt (j * 4 + 3) (by omega)).trans e3
  obtain ⟨A, c, e4, hcode⟩ := hl _ (List.getElem_mem hj')
  rw [e4] at k3
  simp only [List.getElem_map, Nat.zero_add]
  exact ⟨k0, k1, k2, A, c, k3, hcode⟩
end Go.Proofs.YtjibkgildfjjoaaDoor

