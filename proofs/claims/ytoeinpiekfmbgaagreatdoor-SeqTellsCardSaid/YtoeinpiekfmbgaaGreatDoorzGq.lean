/- Layer 8's code: the checker in memory. -/
import Derived.Test.YtoeinpiekfmbgaaGreatDoorzHa
import Derived.Test.YtoeinpiekfmbgaaGreatDoorzGh
import Derived.Test.YtoeinpiekfmbgaaGreatDoorzHj
import Derived.Test.YtoeinpiekfmbgaaGreatDoorzOps
import Derived.Test.YtoeinpiekfmbgaaGreatDoorzGc
import Derived.OpenShut
import Derived.Lib.Hide
import Derived.WalkMore
import Derived.Handy
import Derived.BigQuiet
import Derived.Deep.QuietTactic
import Derived.RegionTactic
import Derived.Deep.OwnRows
import Derived.Deep.DeepCutAuto
import Derived.Deep.CutBlock
import Derived.Deep.RegionHeld3
namespace Go.Proofs.YtoeinpiekfmbgaaGreatDoor
set_option linter.unusedVariables false
set_option linter.unusedSimpArgs false
open Go.RowKit Go.ChangeShapes Go.WideShapes Go.ChangeAt Go.Sort

abbrev intA (D : List Int) : Array Value := (D.map fun d => Value.int .i64 d).toArray
abbrev boolA (D : List Bool) : Array Value := (D.map fun d => Value.bool d).toArray
theorem intA_get (D : List Int) (i : Nat) : (intA D)[i]? = D[i]?.map fun d => Value.int .i64 d := by simp
theorem boolA_get (D : List Bool) (i : Nat) : (boolA D)[i]? = D[i]?.map fun d => Value.bool d := by simp

theorem unless_any (b : Bool) (e : Int) : Cs Tryz.prog 65 #[.bool b, .int .i64 e] (.int .i64 (if b then 0 else e)) := fun w => by
  cases b
  all_goals
    go_enter Tryz.func65, Tryz.ntmps65
    go_wp2_with fail
    go_ret
    exact ⟨rfl, rfl⟩

set_option maxHeartbeats 1000000 in
theorem index_any {v : Nat} {W : List Bool} (w : World) (h : Held w v 4 (boolA W)) (hW : W.length ≤ 1000) :
    Calls Tryz.prog 67 #[.slice (some ⟨v, 0, none⟩) W.length W.length, .bool true] w fun e w' => e = .returned (.int .i64 (match openS W with | some i => (i : Int) | none => -1)) ∧ w = w' := by
  have H := Lib.hid h
  clear h
  have hW2 : (W.length : Int) ≤ 1000 := by omega
  generalize hR : (match openS W with | some i => (i : Int) | none => -1) = R
  have HR := Lib.hid hR
  clear hR
  go_enter Tryz.func67, Tryz.ntmps67
  go_wp2
  go_loop [8] (fun i => ∃ j : Nat, j ≤ W.length ∧ i = .int .i64 j ∧ (∀ k (hk : k < j) (hk2 : k < W.length), W[k] = false)) (fun i => W.length - (intOf i).toNat)
  case atStart => exact ⟨0, by omega, rfl, by intro k hk; omega⟩
  case round =>
    obtain ⟨j, hj, rfl, hall⟩ := hrel
    have HA := Lib.hid hall
    clear hall
    by_cases hlt : j < W.length
    · have c0 : w.cell? ⟨v, j, none⟩ = some (.bool W[j]) := by rw [H.out.cell, boolA_get, List.getElem?_eq_getElem hlt]; rfl
      cases hw : W[j]
      · rw [hw] at c0
        have HW := Lib.hid hw
        clear hw
        go_wp2_with fail
        go_round
        case rel =>
          refine ⟨j + 1, by omega, by go_num, fun k hk hk2 => ?_⟩
          rcases Nat.lt_succ_iff_lt_or_eq.1 hk with h | rfl
          · exact HA.out k h hk2
          · exact HW.out
        case measure => simp [intOf]; omega
      · rw [hw] at c0
        have ho := openS_at hlt hw (fun k hk => HA.out k hk (by omega))
        have hr := HR.out
        rw [ho] at hr
        have HR2 := Lib.hid hr
        clear hw ho hr
        go_wp2_with fail
        go_ret
        exact ⟨ret_int HR2.out, rfl⟩
    · obtain rfl : j = W.length := by omega
      have ho := openS_no (W := W) (fun x hx => by
        obtain ⟨k, hk, rfl⟩ := List.mem_iff_getElem.1 hx
        exact HA.out k hk hk)
      have hr := HR.out
      rw [ho] at hr
      have HR2 := Lib.hid hr
      clear ho hr
      go_wp2_with fail
      go_ret
      exact ⟨ret_int HR2.out, rfl⟩
end Go.Proofs.YtoeinpiekfmbgaaGreatDoor

/- Layer 8's code: begin. -/
namespace Go.Proofs.YtoeinpiekfmbgaaGreatDoor
set_option linter.unusedVariables false
set_option linter.unusedSimpArgs false
open Go.RowKit Go.ChangeShapes Go.WideShapes Go.ChangeAt Go.Sort

theorem infoI : (Tryz.prog.info? 3).map (fun i => (i.zero, i.size, i.bytes)) = some (some (.int .i64 0), 1, 8) := by kernel_rfl
theorem infoB : (Tryz.prog.info? 4).map (fun i => (i.zero, i.size, i.bytes)) = some (some (.bool false), 1, 1) := by kernel_rfl
theorem made_int (n : Nat) : madeCells #[Value.int .i64 0] n = intA (List.replicate n 0) := by
  apply Array.ext'
  rw [toList_madeCells_one]
  simp
theorem made_bool (n : Nat) : madeCells #[Value.bool false] n = boolA (List.replicate n false) := by
  apply Array.ext'
  rw [toList_madeCells_one]
  simp
theorem make_ints {n : Nat} (hn : n ≤ 1000000) (w : World) : (Instr.makeSlice 60 (.int .i64 (n : Int)) (.int .i64 (n : Int))).run Tryz.prog w = .ok (.slice (some ⟨w.heap.size, 0, none⟩) n n) (w.alloc (.cells (intA (List.replicate n 0)) 3)) := by
  have := run_make_row' (P := Tryz.prog) 60 3 (.int .i64 0) 8 Tryz.underlying60 infoI rfl .i64 .i64 n (by omega) (by omega) w
  rwa [made_int] at this
theorem make_bools {n : Nat} (hn : n ≤ 1000000) (w : World) : (Instr.makeSlice 61 (.int .i64 (n : Int)) (.int .i64 (n : Int))).run Tryz.prog w = .ok (.slice (some ⟨w.heap.size, 0, none⟩) n n) (w.alloc (.cells (boolA (List.replicate n false)) 4)) := by
  have := run_make_row' (P := Tryz.prog) 61 4 (.bool false) 1 Tryz.underlying61 infoB rfl .i64 .i64 n (by omega) (by omega) w
  rwa [made_bool] at this
theorem intA_set (D : List Int) (i : Nat) (x : Int) : (intA D).setIfInBounds i (.int .i64 x) = intA (D.set i x) := by
  apply Array.ext'
  simp [List.map_set]
theorem boolA_set (D : List Bool) (i : Nat) (x : Bool) : (boolA D).setIfInBounds i (.bool x) = boolA (D.set i x) := by
  apply Array.ext'
  simp [List.map_set]

/-- Depths, as far as they were laid: none is reached. -/
def fillD (n j : Nat) : List Int := List.replicate j (-1) ++ List.replicate (n - j) 0
theorem fillD_zero (n : Nat) : List.replicate n 0 = fillD n 0 := by simp [fillD]
theorem fillD_all (n : Nat) : fillD n n = List.replicate n (-1) := by simp [fillD]
theorem fillD_len {n j : Nat} (h : j ≤ n) : (fillD n j).length = n := by simp [fillD]; omega
theorem fillD_set {n j : Nat} (h : j < n) : (fillD n j).set j (-1) = fillD n (j + 1) := by
  unfold fillD
  apply List.ext_getElem?
  intro i
  rw [List.getElem?_set]
  simp only [List.getElem?_append, List.getElem?_replicate, List.length_replicate, List.length_append]
  split <;> (repeat' split) <;> first | rfl | omega
theorem ints_set {W : World} {g : Nat} {t : TypeId} {D : List Int} (h : Held W g t (intA D)) (i : Nat) (x : Int) : Held (W.setCell ⟨g, i, none⟩ (.int .i64 x)) g t (intA (D.set i x)) := by
  have := h.set_at i (.int .i64 x)
  rwa [intA_set] at this
theorem bools_set {W : World} {g : Nat} {t : TypeId} {D : List Bool} (h : Held W g t (boolA D)) (i : Nat) (x : Bool) : Held (W.setCell ⟨g, i, none⟩ (.bool x)) g t (boolA (D.set i x)) := by
  have := h.set_at i (.bool x)
  rwa [boolA_set] at this
theorem ints_cell {W : World} {g : Nat} {t : TypeId} {D : List Int} (h : Held W g t (intA D)) {i : Nat} (hi : i < D.length) : W.cell? ⟨g, i, none⟩ = some (.int .i64 D[i]) := by
  rw [h.cell, intA_get, List.getElem?_eq_getElem hi]; rfl
theorem bools_cell {W : World} {g : Nat} {t : TypeId} {D : List Bool} (h : Held W g t (boolA D)) {i : Nat} (hi : i < D.length) : W.cell? ⟨g, i, none⟩ = some (.bool D[i]) := by
  rw [h.cell, boolA_get, List.getElem?_eq_getElem hi]; rfl

theorem set7 {W : World} {g : Nat} {t : TypeId} {a0 a1 a2 a3 a4 a5 a6 : Value} (h : Held W g t #[a0, a1, a2, a3, a4, a5, a6]) (x0 x1 x2 x3 x4 x5 x6 : Value) :
    Held (((((((W.setCell ⟨g, 0, none⟩ x0).setCell ⟨g, 1, none⟩ x1).setCell ⟨g, 2, none⟩ x2).setCell ⟨g, 3, none⟩ x3).setCell ⟨g, 4, none⟩ x4).setCell ⟨g, 5, none⟩ x5).setCell ⟨g, 6, none⟩ x6) g t #[x0, x1, x2, x3, x4, x5, x6] := by
  unfold Held at *
  simp [World.setCell, Array.getElem?_modify, h]
theorem far7 {W : World} {g k : Nat} {t : TypeId} {cs : Array Value} (h : Held W g t cs) (hk : g ≠ k) (x0 x1 x2 x3 x4 x5 x6 : Value) :
    Held (((((((W.setCell ⟨k, 0, none⟩ x0).setCell ⟨k, 1, none⟩ x1).setCell ⟨k, 2, none⟩ x2).setCell ⟨k, 3, none⟩ x3).setCell ⟨k, 4, none⟩ x4).setCell ⟨k, 5, none⟩ x5).setCell ⟨k, 6, none⟩ x6) g t cs :=
  ((((((h.far hk 0 x0).far hk 1 x1).far hk 2 x2).far hk 3 x3).far hk 4 x4).far hk 5 x5).far hk 6 x6
theorem set7b {w v : World} {B k : Nat} (hk : B ≤ k) (h : Below B w v) (x0 x1 x2 x3 x4 x5 x6 : Value) :
    Below B w (((((((v.setCell ⟨k, 0, none⟩ x0).setCell ⟨k, 1, none⟩ x1).setCell ⟨k, 2, none⟩ x2).setCell ⟨k, 3, none⟩ x3).setCell ⟨k, 4, none⟩ x4).setCell ⟨k, 5, none⟩ x5).setCell ⟨k, 6, none⟩ x6) :=
  ((((((h.setCell hk _).setCell hk _).setCell hk _).setCell hk _).setCell hk _).setCell hk _).setCell hk _
theorem new7 (W : World) (k : Nat) (x0 x1 x2 x3 x4 x5 x6 : Value) (t : TypeId) (cs : Array Value) :
    Held ((((((((W.setCell ⟨k, 0, none⟩ x0).setCell ⟨k, 1, none⟩ x1).setCell ⟨k, 2, none⟩ x2).setCell ⟨k, 3, none⟩ x3).setCell ⟨k, 4, none⟩ x4).setCell ⟨k, 5, none⟩ x5).setCell ⟨k, 6, none⟩ x6).alloc (.cells cs t)) W.heap.size t cs := by
  have := Held.new (((((((W.setCell ⟨k, 0, none⟩ x0).setCell ⟨k, 1, none⟩ x1).setCell ⟨k, 2, none⟩ x2).setCell ⟨k, 3, none⟩ x3).setCell ⟨k, 4, none⟩ x4).setCell ⟨k, 5, none⟩ x5).setCell ⟨k, 6, none⟩ x6) t cs
  simpa [World.setCell] using this

set_option maxHeartbeats 1000000 in
set_option maxRecDepth 100000 in
theorem begin_any (Ap : Option Addr) (np cp : Nat) (a l s : Int) (A : Option Addr) (n c : Nat) (hn : 0 < n) (hn2 : n ≤ 200) (w : World) :
    Calls Tryz.prog 18 #[.slice Ap np cp, .agg #[.int .i64 a, .int .i64 l, .int .i64 s, .slice A n c]] w fun e w' => ∃ d v, e = .returned (.agg #[.slice Ap np cp, .int .i64 a, .int .i64 l, .int .i64 s, .slice A n c, .slice (some ⟨d, 0, none⟩) n n, .slice (some ⟨v, 0, none⟩) n n]) ∧
      w.heap.size ≤ d ∧ w.heap.size ≤ v ∧ d ≠ v ∧ Held w' d 3 (intA (fillD n n)) ∧ Held w' v 4 (boolA (List.replicate n false)) ∧ Below w.heap.size w w' := by
  have hn3 : (n : Int) ≤ 200 := by omega
  have M1 := fun w => make_ints (n := n) (by omega) w
  have M2 := fun w => make_bools (n := n) (by omega) w
  rw [fillD_zero n] at M1
  go_enter Tryz.func18, Tryz.ntmps18
  go_wp2_with fail
  go_loopw [6, 13] (fun _ i W => ∃ j : Nat, j ≤ n ∧ i = .int .i64 j ∧ Held W (w.heap.size + 1 + 1) 3 (intA (fillD n j)) ∧ Below (w.heap.size + 1 + 1) ((w.alloc (.cells #[.int .i64 a, .int .i64 l, .int .i64 s, .slice A n c] 57)).alloc (.cells #[.slice none 0 0, .int .i64 0, .int .i64 0, .int .i64 0, .slice none 0 0, .slice none 0 0, .slice none 0 0] 63)) W) (fun _ i _ => n - (intOf i).toNat)
  case atStart => exact ⟨0, by omega, rfl, by simpa using Held.new ((w.alloc _).alloc _) _ _, by simpa using (Below.refl _ _).alloc (by simp) _⟩
  case round =>
    obtain ⟨j, hj, rfl, hd, hb⟩ := hrel
    have hbx := (Held.new1 w (.cells #[.int .i64 a, .int .i64 l, .int .i64 s, .slice A n c] 57) 63 #[.slice none 0 0, .int .i64 0, .int .i64 0, .int .i64 0, .slice none 0 0, .slice none 0 0, .slice none 0 0]).below (by simpa using hb)
    have hb0 := ((Held.new w 57 #[.int .i64 a, .int .i64 l, .int .i64 s, .slice A n c]).alloc (.cells #[.slice none 0 0, .int .i64 0, .int .i64 0, .int .i64 0, .slice none 0 0, .slice none 0 0, .slice none 0 0] 63)).below (by simpa using hb)
    by_cases hlt : j < n
    · have hlen := fillD_len hj
      have c0 := ints_cell hd (i := j) (by omega)
      have f0 := hd.fz j
      have hs := ints_set hd j (-1)
      rw [fillD_set hlt] at hs
      have HS := Lib.hid hs
      generalize (fillD n j)[j] = x at *
      clear hs hbx hb0
      go_wp2_with fail
      go_roundw
      case rel => exact ⟨j + 1, by omega, by go_num, HS.out, hb.setCell (Nat.le_refl _) _⟩
      case measure => simp [intOf]; omega
    · obtain rfl : j = n := by omega
      have n0 := hb0.cell 0
      have n1 := hb0.cell 1
      have n2 := hb0.cell 2
      have n3 := hb0.cell 3
      have m0 := hbx.cell 0
      have m1 := hbx.cell 1
      have m2 := hbx.cell 2
      have m3 := hbx.cell 3
      have m4 := hbx.cell 4
      have m5 := hbx.cell 5
      have m6 := hbx.cell 6
      have z0 := hbx.fz 0
      have z1 := hbx.fz 1
      have z2 := hbx.fz 2
      have z3 := hbx.fz 3
      have z4 := hbx.fz 4
      have z5 := hbx.fz 5
      have z6 := hbx.fz 6
      have bl := hb0.lt
      have cl := hbx.lt
      have dl := hd.lt
      simp at n0 n1 n2 n3 m0 m1 m2 m3 m4 m5 m6 cl
      go_wp2_with fail
      go_region
      have hf := held_drew ((set7 hbx (.slice Ap np cp) (.int .i64 a) (.int .i64 l) (.int .i64 s) (.slice A j c) (.slice (some ⟨w.heap.size + 1 + 1, 0, none⟩) j j) (.slice (some ⟨wr.heap.size, 0, none⟩) j j)).alloc (.cells (boolA (List.replicate j false)) 4))
      have hfd := held_drew ((far7 hd (k := w.heap.size + 1) (by omega) (.slice Ap np cp) (.int .i64 a) (.int .i64 l) (.int .i64 s) (.slice A j c) (.slice (some ⟨w.heap.size + 1 + 1, 0, none⟩) j j) (.slice (some ⟨wr.heap.size, 0, none⟩) j j)).alloc (.cells (boolA (List.replicate j false)) 4))
      have hfv := held_drew (new7 wr (w.heap.size + 1) (.slice Ap np cp) (.int .i64 a) (.int .i64 l) (.int .i64 s) (.slice A j c) (.slice (some ⟨w.heap.size + 1 + 1, 0, none⟩) j j) (.slice (some ⟨wr.heap.size, 0, none⟩) j j) 4 (boolA (List.replicate j false)))
      have hfb := (set7b (k := w.heap.size + 1) (B := w.heap.size) (w := w) (v := wr) (by omega) ((below2 w _ _).trans (hb.mono (by omega))) (.slice Ap np cp) (.int .i64 a) (.int .i64 l) (.int .i64 s) (.slice A j c) (.slice (some ⟨w.heap.size + 1 + 1, 0, none⟩) j j) (.slice (some ⟨wr.heap.size, 0, none⟩) j j)).alloc (by simp [World.setCell]; omega) (.cells (boolA (List.replicate j false)) 4) |>.drew
      generalize ((((((((wr.setCell ⟨w.heap.size + 1, 0, none⟩ _).setCell ⟨w.heap.size + 1, 1, none⟩ _).setCell ⟨w.heap.size + 1, 2, none⟩ _).setCell ⟨w.heap.size + 1, 3, none⟩ _).setCell ⟨w.heap.size + 1, 4, none⟩ _).setCell ⟨w.heap.size + 1, 5, none⟩ _).setCell ⟨w.heap.size + 1, 6, none⟩ _).alloc (.cells (boolA (List.replicate j false)) 4)).drew = u at *
      clear m0 m1 m2 m3 m4 m5 m6 z0 z1 z2 z3 z4 z5 z6 n0 n1 n2 n3
      have q0 := hf.cell 0
      have q1 := hf.cell 1
      have q2 := hf.cell 2
      have q3 := hf.cell 3
      have q4 := hf.cell 4
      have q5 := hf.cell 5
      have q6 := hf.cell 6
      simp at q0 q1 q2 q3 q4 q5 q6
      go_wp2_with fail
      exact bodyPost_ret (v := .agg #[.slice Ap np cp, .int .i64 a, .int .i64 l, .int .i64 s, .slice A j c, .slice (some ⟨w.heap.size + 1 + 1, 0, none⟩) j j, .slice (some ⟨wr.heap.size, 0, none⟩) j j]) (by simp [results, Tryz.results18, go_sem, q0, q1, q2, q3, q4, q5, q6]) rfl ⟨_, _, rfl, by omega, by omega, by omega, hfd, hfv, hfb⟩
end Go.Proofs.YtoeinpiekfmbgaaGreatDoor

/- Layer 8's code: the checker's parts. -/
namespace Go.Proofs.YtoeinpiekfmbgaaGreatDoor
set_option linter.unusedVariables false
set_option linter.unusedSimpArgs false
open Go.RowKit Go.ChangeShapes Go.WideShapes Go.ChangeAt Go.Sort

/-- A checker of the function f of p, with depths D and who waits V, in blocks of its own, from B on. -/
structure CkAt (B g d v : Nat) (Ap : Option Addr) (cp : Nat) (p : List Fun) (f : Fun) (Ac : Option Addr) (cc : Nat) (D : List Int) (V : List Bool) (w : World) : Prop where
  ot : Otab w
  ob : 1 < B
  gB : B ≤ g
  dB : B ≤ d
  vB : B ≤ v
  gd : g ≠ d
  gv : g ≠ v
  dv : d ≠ v
  hg : Held w g 63 #[.slice Ap p.length cp, .int .i64 f.ar, .int .i64 f.lo, .int .i64 f.sl, .slice Ac f.code.length cc, .slice (some ⟨d, 0, none⟩) f.code.length f.code.length, .slice (some ⟨v, 0, none⟩) f.code.length f.code.length]
  hd : Held w d 3 (intA D)
  hv : Held w v 4 (boolA V)
  dl : D.length = f.code.length
  vl : V.length = f.code.length
  prog : ProgAt w B Ap p
  code : CodeAt w B Ac f.code
theorem Otab.far {w : World} (h : Otab w) {k : Nat} (hk : 1 ≠ k) (i : Nat) (x : Value) : Otab (w.setCell ⟨k, i, none⟩ x) := by
  obtain ⟨ty, h⟩ := h
  exact ⟨ty, h.far hk i x⟩
section
variable {B g d v : Nat} {Ap : Option Addr} {cp : Nat} {p : List Fun} {f : Fun} {Ac : Option Addr} {cc : Nat} {D : List Int} {V : List Bool} {w w' : World}
theorem CkAt.lt (h : CkAt B g d v Ap cp p f Ac cc D V w) : B ≤ w.heap.size := by
  have := h.hg.lt
  have := h.gB
  omega
theorem CkAt.below (h : CkAt B g d v Ap cp p f Ac cc D V w) (hb : Below w.heap.size w w') : CkAt B g d v Ap cp p f Ac cc D V w' :=
  ⟨h.ot.below hb, h.ob, h.gB, h.dB, h.vB, h.gd, h.gv, h.dv, h.hg.below hb, h.hd.below hb, h.hv.below hb, h.dl, h.vl, h.prog.below hb h.lt, h.code.below hb h.lt⟩
theorem CkAt.setD (h : CkAt B g d v Ap cp p f Ac cc D V w) (i : Nat) (x : Int) : CkAt B g d v Ap cp p f Ac cc (D.set i x) V (w.setCell ⟨d, i, none⟩ (.int .i64 x)) := by
  have hb : Below B w (w.setCell ⟨d, i, none⟩ (.int .i64 x)) := (Below.refl B w).setCell h.dB _
  have := h.ob
  have := h.dB
  exact ⟨h.ot.far (by omega) _ _, h.ob, h.gB, h.dB, h.vB, h.gd, h.gv, h.dv, h.hg.far h.gd _ _, ints_set h.hd i x, h.hv.far (Ne.symm h.dv) _ _, by rw [List.length_set]; exact h.dl, h.vl, h.prog.below hb (Nat.le_refl _), h.code.below hb (Nat.le_refl _)⟩
theorem CkAt.setV (h : CkAt B g d v Ap cp p f Ac cc D V w) (i : Nat) (x : Bool) : CkAt B g d v Ap cp p f Ac cc D (V.set i x) (w.setCell ⟨v, i, none⟩ (.bool x)) := by
  have hb : Below B w (w.setCell ⟨v, i, none⟩ (.bool x)) := (Below.refl B w).setCell h.vB _
  have := h.ob
  have := h.vB
  exact ⟨h.ot.far (by omega) _ _, h.ob, h.gB, h.dB, h.vB, h.gd, h.gv, h.dv, h.hg.far h.gv _ _, h.hd.far h.dv _ _, bools_set h.hv i x, h.dl, by rw [List.length_set]; exact h.vl, h.prog.below hb (Nat.le_refl _), h.code.below hb (Nat.le_refl _)⟩
theorem CkAt.drew (h : CkAt B g d v Ap cp p f Ac cc D V w) : CkAt B g d v Ap cp p f Ac cc D V w.drew := h.below (Below.refl _ _).drew
/-- The checker's own cells. -/
theorem CkAt.cells (h : CkAt B g d v Ap cp p f Ac cc D V w) : w.cell? ⟨g, 0, none⟩ = some (.slice Ap p.length cp) ∧ w.cell? ⟨g, 1, none⟩ = some (.int .i64 f.ar) ∧ w.cell? ⟨g, 2, none⟩ = some (.int .i64 f.lo) ∧ w.cell? ⟨g, 3, none⟩ = some (.int .i64 f.sl) ∧
    w.cell? ⟨g, 4, none⟩ = some (.slice Ac f.code.length cc) ∧ w.cell? ⟨g, 5, none⟩ = some (.slice (some ⟨d, 0, none⟩) f.code.length f.code.length) ∧ w.cell? ⟨g, 6, none⟩ = some (.slice (some ⟨v, 0, none⟩) f.code.length f.code.length) ∧ g < w.heap.size :=
  ⟨h.hg.cell 0, h.hg.cell 1, h.hg.cell 2, h.hg.cell 3, h.hg.cell 4, h.hg.cell 5, h.hg.cell 6, h.hg.lt⟩
end

/-- At most memory of one's own is made, and blocks d and v turned. -/
structure Only (d v : Nat) (w w' : World) : Prop where
  os : w'.os = w.os
  tape : w'.tape = w.tape
  output : w'.output = w.output
  size : w.heap.size ≤ w'.heap.size
  block : ∀ k, k < w.heap.size → k ≠ d → k ≠ v → w'.heap[k]? = w.heap[k]?
theorem Only.refl (d v : Nat) (w : World) : Only d v w w := ⟨rfl, rfl, rfl, Nat.le_refl _, fun _ _ _ _ => rfl⟩
theorem Only.trans {d v : Nat} {a b c : World} (h : Only d v a b) (h1 : Only d v b c) : Only d v a c :=
  ⟨h1.os.trans h.os, h1.tape.trans h.tape, h1.output.trans h.output, Nat.le_trans h.size h1.size, fun k hk hd hv => (h1.block k (Nat.lt_of_lt_of_le hk h.size) hd hv).trans (h.block k hk hd hv)⟩
theorem Only.of_below {d v : Nat} {w w' : World} (h : Below w.heap.size w w') : Only d v w w' := ⟨h.os, h.tape, h.output, h.size, fun k hk _ _ => h.block k hk⟩
theorem Only.to_below {d v B : Nat} {w w' : World} (h : Only d v w w') (hB : B ≤ w.heap.size) (hd : B ≤ d) (hv : B ≤ v) : Below B w w' := ⟨h.os, h.tape, h.output, h.size, fun k hk => h.block k (by omega) (by omega) (by omega)⟩
theorem Only.set {d v : Nat} {w w' : World} (h : Only d v w w') {k : Nat} (hk : k = d ∨ k = v) (i : Nat) (x : Value) : Only d v w (w'.setCell ⟨k, i, none⟩ x) :=
  ⟨h.os, h.tape, h.output, by simpa [World.setCell] using h.size, fun j hj hd hv => (Below.heap_setCell w' ⟨k, i, none⟩ x j (by show j ≠ k; rcases hk with rfl | rfl <;> assumption)).trans (h.block j hj hd hv)⟩
theorem Only.drew {d v : Nat} {w w' : World} (h : Only d v w w') : Only d v w w'.drew := ⟨h.os, h.tape, h.output, h.size, h.block⟩
theorem Only.drewN {d v : Nat} {w w' : World} (h : Only d v w w') (n : Nat) : Only d v w (w'.drewN n) := h.trans (Only.of_below (below_drewN (Below.refl _ _) n))
theorem Held.only {d v : Nat} {w w' : World} {g : Nat} {t : TypeId} {cs : Array Value} (h : Held w g t cs) (ho : Only d v w w') (hd : g ≠ d) (hv : g ≠ v) : Held w' g t cs := (ho.block g h.lt hd hv).trans h

/-- A value that is a list of ints of a block of its own. -/
def LstAt (w : World) (B : Nat) (x : Value) (l : List Int) : Prop := (l = [] ∧ x = .slice none 0 0) ∨ ∃ b, x = .slice (some ⟨b, 0, none⟩) l.length l.length ∧ B ≤ b ∧ Held w b 3 (intA l)
theorem LstAt.slice {w : World} {B : Nat} {x : Value} {l : List Int} (h : LstAt w B x l) : ∃ A c, x = .slice A l.length c ∧ ∀ i (hi : i < l.length), ∃ b, A = some ⟨b, 0, none⟩ ∧ B ≤ b ∧ w.cell? ⟨b, i, none⟩ = some (.int .i64 l[i]) := by
  rcases h with ⟨rfl, rfl⟩ | ⟨b, rfl, hB, h⟩
  · exact ⟨none, 0, rfl, fun i hi => by simp at hi⟩
  · exact ⟨_, _, rfl, fun i hi => ⟨b, rfl, hB, ints_cell h hi⟩⟩
theorem LstAt.below {w w' : World} {B : Nat} {x : Value} {l : List Int} (h : LstAt w B x l) (hb : Below w.heap.size w w') : LstAt w' B x l := by
  rcases h with h | ⟨b, h1, h2, h3⟩
  · exact .inl h
  · exact .inr ⟨b, h1, h2, h3.below hb⟩

set_option maxHeartbeats 1000000 in
set_option maxRecDepth 100000 in
theorem succ_any (o a b i : Int) (w : World) (hi : 0 ≤ i) (hi2 : i ≤ 1000) :
    Calls Tryz.prog 89 #[.int .i64 i, .agg #[.int .i64 o, .int .i64 a, .int .i64 b]] w fun e w' => ∃ x, e = .returned x ∧ LstAt w' w.heap.size x (nextI (o, a, b) i) ∧ Below w.heap.size w w' := by
  by_cases h1 : o = 10
  · subst h1
    have hn : nextI (10, a, b) i = [a] := rfl
    rw [hn]
    go_enter Tryz.func89, Tryz.ntmps89
    go_wp2_with fail
    go_ret
    exact ⟨_, rfl, .inr ⟨_, rfl, by omega, Held.new1 _ _ _ _⟩, by go_grown⟩
  by_cases h2 : o = 15 ∨ o = 16
  · have hn : nextI (o, a, b) i = [] := by unfold nextI; rw [if_neg h1, if_pos h2]
    rw [hn]
    rcases h2 with rfl | rfl
    all_goals
      go_enter Tryz.func89, Tryz.ntmps89
      go_wp2_with fail
      go_ret
      exact ⟨_, rfl, .inl ⟨rfl, rfl⟩, by go_grown⟩
  by_cases h3 : o = 11
  · subst h3
    have hn : nextI (11, a, b) i = [i + 1, a] := rfl
    rw [hn]
    go_enter Tryz.func89, Tryz.ntmps89
    go_wp2_with fail
    go_ret
    exact ⟨_, rfl, .inr ⟨_, rfl, by omega, Held.new1 _ _ _ _⟩, by go_grown⟩
  · have hn : nextI (o, a, b) i = [i + 1] := by unfold nextI; rw [if_neg h1, if_neg h2, if_neg h3]
    rw [hn]
    have e1 : (o == 10) = false := by simpa using h1
    have e2 : (o == 15) = false := by simp; omega
    have e3 : (o == 16) = false := by simp; omega
    have e4 : (o == 11) = false := by simpa using h3
    clear h1 h2 h3
    go_enter Tryz.func89, Tryz.ntmps89
    go_wp2_with fail
    go_ret
    exact ⟨_, rfl, .inr ⟨_, rfl, by omega, Held.new1 _ _ _ _⟩, by go_grown⟩

set_option maxHeartbeats 1000000 in
set_option maxRecDepth 100000 in
theorem cstack_any {B g d v : Nat} {Ap : Option Addr} {cp : Nat} {p : List Fun} {f : Fun} {Ac : Option Addr} {cc : Nat} {D : List Int} {V : List Bool} (o a b : Int) (w : World) (h : CkAt B g d v Ap cp p f Ac cc D V w)
    (hx : o = 13 → 0 ≤ a ∧ a < p.length) :
    Calls Tryz.prog 88 #[.pointer (some ⟨g, 0, none⟩), .agg #[.int .i64 o, .int .i64 a, .int .i64 b]] w fun e w' => e = .returned (.tuple #[.int .i64 (offI p (o, a, b)), .int .i64 (rz o).q]) ∧ Below w.heap.size w w' := by
  have S := fun W (hT : Otab W) => Lib.hid (stack_any o W hT)
  have H := Lib.hid h
  by_cases ho : o = 13
  · obtain ⟨h0, h1⟩ := hx ho
    obtain ⟨k, rfl⟩ := Int.eq_ofNat_of_zero_le h0
    have hk : k < p.length := by omega
    obtain ⟨bb, off, rfl, hbl, hc⟩ := h.prog (by omega)
    obtain ⟨c1, _⟩ := hc k hk
    obtain ⟨d0, _⟩ := h.cells
    have hbl2 := h.lt
    have hoff : offI p (o, k, b) = p[k].ar := by
      unfold offI arP
      rw [if_pos ho]
      simp [hk]
    rw [hoff]
    generalize p[k].ar = y at *
    subst ho
    have C1 := Lib.hid c1
    have hbb : bb < w.heap.size := by omega
    clear hc hoff hx h0 c1 d0
    go_enter Tryz.func88, Tryz.ntmps88
    go_wp2_with (go_at_call 101; (with_reducible refine (S _ (H.out.ot.below (by go_grown))).out.mono ?_); rintro e u ⟨rfl, hb⟩; have hbx := (Held.new w 92 #[.int .i64 13, .int .i64 k, .int .i64 b]).below hb; have x0 := hbx.cell 0; have x1 := hbx.cell 1; simp at x0 x1; have hbw := below_laid hb; have c1 := (hbw.cell (p := ⟨bb, off + k * 4, none⟩) hbb).trans C1.out; have d0 := (H.out.below hbw).cells.1; clear hb)
    go_region
    all_goals (try go_wp2)
    all_goals go_ret2
    all_goals exact ⟨rfl, by go_grown⟩
  · have e1 : (o == 13) = false := by simpa using ho
    have hoff : offI p (o, a, b) = (rz o).p := by unfold offI; rw [if_neg ho]
    rw [hoff]
    generalize (rz o).p = q at *
    generalize (rz o).q = r at *
    clear ho hoff hx h
    go_enter Tryz.func88, Tryz.ntmps88
    go_wp2_with (go_at_call 101; (with_reducible refine (S _ (H.out.ot.below (by go_grown))).out.mono ?_); rintro e u ⟨rfl, hb⟩; have hbx := (Held.new w 92 #[.int .i64 o, .int .i64 a, .int .i64 b]).below hb; have x0 := hbx.cell 0; have x1 := hbx.cell 1; simp at x0 x1; have hbw := below_laid hb; clear hb)
    all_goals go_ret2
    all_goals exact ⟨rfl, hbw⟩
end Go.Proofs.YtoeinpiekfmbgaaGreatDoor

/- Layer 8's code: the checker's fields. -/
namespace Go.Proofs.YtoeinpiekfmbgaaGreatDoor
set_option linter.unusedVariables false
set_option linter.unusedSimpArgs false
open Go.RowKit Go.ChangeShapes Go.WideShapes Go.ChangeAt Go.Sort

theorem Cs.quiet {P : Program} {f : Nat} {args : Array Value} {v : Value} (h : Cs P f args v) (W : World) (n : Nat) : Calls P f args (W.drewN n) fun e w' => e = .returned v ∧ ∃ m, w' = W.drewN m :=
  (h (W.drewN n)).mono fun e w' ⟨he, hw⟩ => ⟨he, n, hw.symm⟩
theorem field_load {p : List Fun} {f : Fun} {o a b : Int} (h : o = 1 ∨ o = 2) : fieldI p f (o, a, b) = if decide (a < f.lo) = true then 0 else 82 := by
  unfold fieldI
  simp only
  by_cases h1 : a < f.lo
  · rw [if_neg (by omega), if_neg (by omega), if_pos (by simpa using h1)]
  · rw [if_pos (by omega), if_neg (by simpa using h1)]
theorem field_join {p : List Fun} {f : Fun} {o a b : Int} (h : o = 14) : fieldI p f (o, a, b) = if decide (a < f.sl) = true then 0 else 82 := by
  unfold fieldI
  simp only
  by_cases h1 : a < f.sl
  · rw [if_neg (by omega), if_neg (by omega), if_pos (by simpa using h1)]
  · rw [if_pos (by omega), if_neg (by simpa using h1)]
theorem field_spawn {p : List Fun} {f : Fun} {o a b : Int} (h : o = 13) : fieldI p f (o, a, b) = if (decide (a < p.length) && decide (b < f.sl)) = true then 0 else 82 := by
  unfold fieldI
  simp only
  by_cases h1 : a < p.length ∧ b < f.sl
  · rw [if_neg (by omega), if_neg (by omega), if_pos (by simpa using h1)]
  · rw [if_pos (by omega), if_neg (by simp only [Bool.and_eq_true, decide_eq_true_eq]; exact h1)]
theorem field_jump {p : List Fun} {f : Fun} {o a b : Int} (h : o = 10 ∨ o = 11) : fieldI p f (o, a, b) = if decide (a < (f.code.length : Int)) = true then 0 else 83 := by
  unfold fieldI
  simp only
  by_cases h1 : a < (f.code.length : Int)
  · rw [if_neg (by omega), if_neg (by omega), if_pos (by simpa using h1)]
  · rw [if_neg (by omega), if_pos (by omega), if_neg (by simpa using h1)]
theorem field_none {p : List Fun} {f : Fun} {o a b : Int} (h : ¬ (o = 1 ∨ o = 2 ∨ o = 14 ∨ o = 13 ∨ o = 10 ∨ o = 11)) : fieldI p f (o, a, b) = 0 := by
  unfold fieldI
  simp only
  rw [if_neg (by omega), if_neg (by omega)]

set_option maxHeartbeats 2000000 in
set_option maxRecDepth 100000 in
theorem cfields_any {B g d v : Nat} {Ap : Option Addr} {cp : Nat} {p : List Fun} {f : Fun} {Ac : Option Addr} {cc : Nat} {D : List Int} {V : List Bool} (o a b : Int) (w : World) (h : CkAt B g d v Ap cp p f Ac cc D V w) :
    Calls Tryz.prog 38 #[.pointer (some ⟨g, 0, none⟩), .agg #[.int .i64 o, .int .i64 a, .int .i64 b]] w fun e w' => e = .returned (.int .i64 (fieldI p f (o, a, b))) ∧ Below w.heap.size w w' := by
  have U := fun (x : Bool) (e : Int) => unless_any x e
  obtain ⟨c0, c1, c2, c3, c4, _, _, hgl⟩ := h.cells
  clear h
  generalize hF : fieldI p f (o, a, b) = r
  by_cases h1 : o = 1 ∨ o = 2
  · rw [field_load h1] at hF
    have U1 := U (decide (a < f.lo)) 82
    rw [hF] at U1
    clear U hF
    generalize f.lo = l at *
    rcases h1 with rfl | rfl
    all_goals
      go_enter Tryz.func38, Tryz.ntmps38
      go_wp2_with fail
      go_quiet ((go_at_call 65; exact U1.quiet _ _))
      go_wp2_with fail
      go_ret
      exact ⟨rfl, below_drewN ((Below.refl _ _).alloc (Nat.le_refl _) _) _⟩
  by_cases h2 : o = 14
  · rw [field_join h2] at hF
    have U1 := U (decide (a < f.sl)) 82
    rw [hF] at U1
    clear U hF h1
    generalize f.sl = l at *
    subst h2
    go_enter Tryz.func38, Tryz.ntmps38
    go_wp2_with fail
    go_quiet ((go_at_call 65; exact U1.quiet _ _))
    go_wp2_with fail
    go_ret
    exact ⟨rfl, below_drewN ((Below.refl _ _).alloc (Nat.le_refl _) _) _⟩
  by_cases h3 : o = 13
  · rw [field_spawn h3] at hF
    have U1 := U (decide (a < p.length) && decide (b < f.sl)) 82
    rw [hF] at U1
    clear U hF h1 h2
    generalize f.sl = l at *
    subst h3
    by_cases ha : a < p.length
    · have ha2 : decide (a < (p.length : Int)) = true := by simpa using ha
      rw [ha2, Bool.true_and] at U1
      clear ha
      go_enter Tryz.func38, Tryz.ntmps38
      go_wp2_with fail
      go_quiet ((go_at_call 65; exact U1.quiet _ _))
      go_wp2_with fail
      go_ret
      exact ⟨rfl, below_drewN ((Below.refl _ _).alloc (Nat.le_refl _) _) _⟩
    · have ha2 : decide (a < (p.length : Int)) = false := by simpa using ha
      rw [ha2, Bool.false_and] at U1
      clear ha
      go_enter Tryz.func38, Tryz.ntmps38
      go_wp2_with fail
      go_quiet ((go_at_call 65; exact U1.quiet _ _))
      go_wp2_with fail
      go_ret
      exact ⟨rfl, below_drewN ((Below.refl _ _).alloc (Nat.le_refl _) _) _⟩
  by_cases h4 : o = 10 ∨ o = 11
  · rw [field_jump h4] at hF
    have U1 := U (decide (a < (f.code.length : Int))) 83
    rw [hF] at U1
    clear U hF h1 h2 h3
    generalize f.code.length = l at *
    rcases h4 with rfl | rfl
    all_goals
      go_enter Tryz.func38, Tryz.ntmps38
      go_wp2_with fail
      go_quiet ((go_at_call 65; exact U1.quiet _ _))
      go_wp2_with fail
      go_ret
      exact ⟨rfl, below_drewN ((Below.refl _ _).alloc (Nat.le_refl _) _) _⟩
  · rw [field_none (by omega)] at hF
    subst hF
    have e1 : (o == 1) = false := by simp; omega
    have e2 : (o == 2) = false := by simp; omega
    have e3 : (o == 14) = false := by simp; omega
    have e4 : (o == 13) = false := by simp; omega
    have e5 : (o == 10) = false := by simp; omega
    have e6 : (o == 11) = false := by simp; omega
    clear U h1 h2 h3 h4
    go_enter Tryz.func38, Tryz.ntmps38
    go_wp2_with fail
    go_ret
    exact ⟨rfl, by go_grown⟩
end Go.Proofs.YtoeinpiekfmbgaaGreatDoor

