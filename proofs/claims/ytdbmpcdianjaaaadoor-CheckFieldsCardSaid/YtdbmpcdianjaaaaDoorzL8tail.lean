/- Layer 8: CheckTail: an instruction behind a function's last one, that nothing goes on to, is never reached; all else stays. For all programs. -/
import Derived.Test.YtdbmpcdianjaaaaDoorzL8tp
import Derived.Test.YtdbmpcdianjaaaaDoorzPq2
import Derived.Test.YtdbmpcdianjaaaaDoorzGc
namespace Go.Proofs.YtdbmpcdianjaaaaDoor.checkTail
set_option linter.unusedVariables false
set_option linter.unusedSimpArgs false
open Go.ChangeShapes Go.WideShapes Go.ChangeAt Go.RowKit Go.Sort

set_option maxHeartbeats 4000000 in
set_option maxRecDepth 100000 in
theorem out {A : Option Addr} {p : List Fun} (c : Nat) (n : Int) (w : World) (hT : Otab w) (ha : ProgAt w w.heap.size A p) (hz : SizedP p) (h : smallP p 300 = false ∨ (checkP p).2.2 ≠ 0 ∨ n < 0 ∨ (p.length : Int) ≤ n) :
    Calls Tryd.prog 8 #[.slice A p.length c, .int .i64 n] w fun e w' => e = .returned (.bool true) ∧ Below w.heap.size w w' := by
  have hw : Below w.heap.size w w := Below.refl _ _
  have S1 := fun W (h : ProgAt W W.heap.size A p) => Lib.hid (psmall_any c 300 W h)
  have G1 := fun W (h : ProgAt W W.heap.size A p) => Lib.hid (rgood_any c W h hz (Nat.le_refl _))
  have HA := Lib.hid ha
  clear ha
  by_cases h1 : smallP p 300 = false
  · rw [h1] at S1
    clear h h1
    go_enter Tryd.func8, Tryd.ntmps8
    go_wp2_with (first
      | (go_at_call 10; (with_reducible refine (fixed8 _ hT).mono ?_); rintro e v ⟨rfl, hb⟩; replace HA := Lib.hid ((HA.out.below hb (Nat.le_refl _)).more hb.size); replace hT := hT.below hb; replace hw := Below.step hw hb; clear hb)
      | (go_at_call 9; (with_reducible refine (S1 _ HA.out).out.mono ?_); rintro e v ⟨rfl, rfl⟩)
      | (go_at_call 19; (with_reducible refine (G1 _ HA.out).out.mono ?_); rintro e v ⟨rfl, hb⟩; replace HA := Lib.hid ((HA.out.below hb (Nat.le_refl _)).more hb.size); replace hT := hT.below hb; replace hw := Below.step hw hb; clear hb))
    go_ret
    exact ⟨rfl, hw⟩
  have h1' : smallP p 300 = true := by simpa using h1
  rw [h1'] at S1
  by_cases h2 : (checkP p).2.2 = 0
  · have hg : ((checkP p).2.2 == 0) = true := by simpa using h2
    rw [hg] at G1
    by_cases h3 : n < 0
    · clear h h1 h1' h2 hg
      go_enter Tryd.func8, Tryd.ntmps8
      go_wp2_with (first
        | (go_at_call 10; (with_reducible refine (fixed8 _ hT).mono ?_); rintro e v ⟨rfl, hb⟩; replace HA := Lib.hid ((HA.out.below hb (Nat.le_refl _)).more hb.size); replace hT := hT.below hb; replace hw := Below.step hw hb; clear hb)
        | (go_at_call 9; (with_reducible refine (S1 _ HA.out).out.mono ?_); rintro e v ⟨rfl, rfl⟩)
        | (go_at_call 19; (with_reducible refine (G1 _ HA.out).out.mono ?_); rintro e v ⟨rfl, hb⟩; replace HA := Lib.hid ((HA.out.below hb (Nat.le_refl _)).more hb.size); replace hT := hT.below hb; replace hw := Below.step hw hb; clear hb))
      go_ret
      exact ⟨rfl, hw⟩
    · have h4 : (p.length : Int) ≤ n := by
        rcases h with h | h | h | h
        · exact absurd h h1
        · exact absurd h2 h
        · exact absurd h h3
        · exact h
      clear h h1 h1' h2 hg
      go_enter Tryd.func8, Tryd.ntmps8
      go_wp2_with (first
        | (go_at_call 10; (with_reducible refine (fixed8 _ hT).mono ?_); rintro e v ⟨rfl, hb⟩; replace HA := Lib.hid ((HA.out.below hb (Nat.le_refl _)).more hb.size); replace hT := hT.below hb; replace hw := Below.step hw hb; clear hb)
        | (go_at_call 9; (with_reducible refine (S1 _ HA.out).out.mono ?_); rintro e v ⟨rfl, rfl⟩)
        | (go_at_call 19; (with_reducible refine (G1 _ HA.out).out.mono ?_); rintro e v ⟨rfl, hb⟩; replace HA := Lib.hid ((HA.out.below hb (Nat.le_refl _)).more hb.size); replace hT := hT.below hb; replace hw := Below.step hw hb; clear hb))
      go_ret
      exact ⟨rfl, hw⟩
  · have hg : ((checkP p).2.2 == 0) = false := by simpa using h2
    rw [hg] at G1
    clear h h1 h1' h2 hg
    go_enter Tryd.func8, Tryd.ntmps8
    go_wp2_with (first
      | (go_at_call 10; (with_reducible refine (fixed8 _ hT).mono ?_); rintro e v ⟨rfl, hb⟩; replace HA := Lib.hid ((HA.out.below hb (Nat.le_refl _)).more hb.size); replace hT := hT.below hb; replace hw := Below.step hw hb; clear hb)
      | (go_at_call 9; (with_reducible refine (S1 _ HA.out).out.mono ?_); rintro e v ⟨rfl, rfl⟩)
      | (go_at_call 19; (with_reducible refine (G1 _ HA.out).out.mono ?_); rintro e v ⟨rfl, hb⟩; replace HA := Lib.hid ((HA.out.below hb (Nat.le_refl _)).more hb.size); replace hT := hT.below hb; replace hw := Below.step hw hb; clear hb))
    go_ret
    exact ⟨rfl, hw⟩

set_option maxHeartbeats 4000000 in
set_option maxRecDepth 100000 in
theorem long {A : Option Addr} {p : List Fun} (c : Nat) (k : Nat) (hk : k < p.length) (w : World) (hT : Otab w) (ha : ProgAt w w.heap.size A p) (hz : SizedP p) (h1 : smallP p 300 = true) (h2 : (checkP p).2.2 = 0) (h3 : 200 ≤ p[k].code.length) :
    Calls Tryd.prog 8 #[.slice A p.length c, .int .i64 k] w fun e w' => e = .returned (.bool true) ∧ Below w.heap.size w w' := by
  have hw : Below w.heap.size w w := Below.refl _ _
  have S1 := fun W (h : ProgAt W W.heap.size A p) => Lib.hid (psmall_any c 300 W h)
  have G1 := fun W (h : ProgAt W W.heap.size A p) => Lib.hid (rgood_any c W h hz (Nat.le_refl _))
  have HA := Lib.hid ha
  have hg : ((checkP p).2.2 == 0) = true := by simpa using h2
  rw [h1] at S1
  rw [hg] at G1
  obtain ⟨bb, off, rfl, hbl, hc⟩ := ha (by omega)
  obtain ⟨_, _, _, Ac, cc, f3, _⟩ := hc k hk
  have F3 := Lib.hid f3
  have hk2 : (k : Int) < p.length := by omega
  have h4 : (200 : Int) ≤ p[k].code.length := by omega
  generalize p[k].code.length = m at *
  clear ha hc f3 h1 h2 hg
  go_enter Tryd.func8, Tryd.ntmps8
  go_wp2_with (first
    | (go_at_call 10; (with_reducible refine (fixed8 _ hT).mono ?_); rintro e v ⟨rfl, hb⟩; replace HA := Lib.hid ((HA.out.below hb (Nat.le_refl _)).more hb.size); replace hT := hT.below hb; replace hw := Below.step hw hb; clear hb)
    | (go_at_call 9; (with_reducible refine (S1 _ HA.out).out.mono ?_); rintro e v ⟨rfl, rfl⟩)
    | (go_at_call 19; (with_reducible refine (G1 _ HA.out).out.mono ?_); rintro e v ⟨rfl, hb⟩; replace HA := Lib.hid ((HA.out.below hb (Nat.le_refl _)).more hb.size); replace hT := hT.below hb; replace hw := Below.step hw hb; have f3 := (hw.cell (p := ⟨bb, off + k * 4 + 3, none⟩) hbl).trans F3.out; clear hb))
  go_ret
  exact ⟨rfl, hw⟩

theorem own_list {w : World} {B : Nat} {v : Value} {l E : List Int} {a : Int} (hE : l ++ [a] = E) (h : OwnV w B 3 v (([] ++ l.map fun n => Value.int .i64 n) ++ (#[Value.int .i64 a] : Array Value).toList)) :
    ∃ A c, v = .slice A E.length c ∧ ∀ i (hi : i < E.length), ∃ b, A = some ⟨b, 0, none⟩ ∧ 0 ≤ b ∧ w.cell? ⟨b, i, none⟩ = some (.int .i64 E[i]) := by
  subst hE
  have e : ([] ++ l.map fun n => Value.int .i64 n) ++ (#[Value.int .i64 a] : Array Value).toList = (l ++ [a]).map fun n => Value.int .i64 n := by simp
  rw [e] at h
  obtain ⟨A, c, rfl, h2⟩ := h.form
  refine ⟨A, c, by rw [List.length_map], fun i hi => ?_⟩
  obtain ⟨g, h3, _, _, h4⟩ := h2 (by rw [List.length_map]; omega)
  have := h4 i (by rw [List.length_map]; exact hi)
  rw [List.getElem_map] at this
  exact ⟨g, h3, Nat.zero_le _, this⟩
theorem qcell {w w1 w2 : World} {g i : Nat} {v : Value} (h1 : w1.heap[g]? = w.heap[g]?) (h2 : w2.heap[g]? = w1.heap[g]?) (h : w.cell? ⟨g, i, none⟩ = some v) : w2.cell? ⟨g, i, none⟩ = some v := by
  unfold World.cell? at *
  simp only at *
  rw [h2, h1]
  exact h
theorem box4 {w : World} {g : Nat} {t : TypeId} {a b c d : Value} (h : Held w g t #[a, b, c, d]) : w.cell? ⟨g, 0, none⟩ = some a ∧ w.cell? ⟨g, 1, none⟩ = some b ∧ w.cell? ⟨g, 2, none⟩ = some c ∧ w.cell? ⟨g, 3, none⟩ = some d ∧ w.frozen? ⟨g, 3, none⟩ = false ∧ g < w.heap.size :=
  ⟨h.cell 0, h.cell 1, h.cell 2, h.cell 3, h.fz 3, h.lt⟩
theorem qcells {w w1 w2 : World} {B g n cap k : Nat} {a b c d : Value} {e : TypeId} {xs : List Value} (h1 : w1.heap[g]? = w.heap[g]?) (h2 : w2.heap[g]? = w1.heap[g]?)
    (k0 : w.cell? ⟨g, k * 4, none⟩ = some a) (k1 : w.cell? ⟨g, k * 4 + 1, none⟩ = some b) (k2 : w.cell? ⟨g, k * 4 + 2, none⟩ = some c) (k3 : w.cell? ⟨g, k * 4 + 3, none⟩ = some d)
    (hr : w2.ownsRow B e 4 (.slice (some ⟨g, 0, none⟩) n cap) n xs) :
    w2.cell? ⟨g, k * 4, none⟩ = some a ∧ w2.cell? ⟨g, k * 4 + 1, none⟩ = some b ∧ w2.cell? ⟨g, k * 4 + 2, none⟩ = some c ∧ w2.cell? ⟨g, k * 4 + 3, none⟩ = some d ∧
      w2.frozen? ⟨g, k * 4, none⟩ = false ∧ w2.frozen? ⟨g, k * 4 + 1, none⟩ = false ∧ w2.frozen? ⟨g, k * 4 + 2, none⟩ = false ∧ w2.frozen? ⟨g, k * 4 + 3, none⟩ = false ∧ g < w2.heap.size :=
  ⟨qcell h1 h2 k0, qcell h1 h2 k1, qcell h1 h2 k2, qcell h1 h2 k3, hr.frozenAt _, hr.frozenAt _, hr.frozenAt _, hr.frozenAt _, (hr.lt g rfl).2⟩
theorem after_code {u1 u2 u3 : World} {B g hh n m cap cap2 : Nat} {v3 : Value} {l : List Ins} {a b c d : Value} {e : TypeId} {xs : List Value} (ho3 : OwnC u3 (u1.heap.size + 1) v3 l) (hg3 : u2.grownBy u3 (Value.slice (some ⟨hh, 0, none⟩) m cap2).ownBlock)
    (hhB : u1.heap.size + 1 ≤ hh) (hu : u1.heap.size + 1 ≤ u2.heap.size) (hgl : g < u1.heap.size) (hx2 : Held u2 u1.heap.size 34 #[a, b, c, d]) (hg2 : u2.heap[g]? = u1.heap[g]?) (hrow : u1.ownsRow B e 4 (.slice (some ⟨g, 0, none⟩) n cap) n xs) :
    ∃ A3 c3, v3 = .slice A3 l.length c3 ∧ CodeAt u3 u3.heap.size A3 l ∧ Below (u1.heap.size + 1) u2 u3 ∧ Held u3 u1.heap.size 34 #[a, b, c, d] ∧ u3.ownsRow B e 4 (.slice (some ⟨g, 0, none⟩) n cap) n xs := by
  have hb3 : Below (u1.heap.size + 1) u2 u3 := (Below.refl _ _).grown hg3 hu (fun j hj => by simp [Value.ownBlock] at hj; omega)
  obtain ⟨A3, c3, rfl, hc3⟩ := ho3.code
  exact ⟨A3, c3, rfl, hc3, hb3, (hb3.block u1.heap.size (by omega)).trans hx2, row_heap hrow ((hb3.block g (by omega)).trans hg2)⟩
set_option maxHeartbeats 4000000 in
set_option maxRecDepth 100000 in
theorem good {A : Option Addr} {p : List Fun} (c : Nat) (k : Nat) (hk : k < p.length) (w : World) (hT : Otab w) (ha : ProgAt w w.heap.size A p) (hz : SizedP p) (h1 : smallP p 300 = true) (h2 : (checkP p).2.2 = 0) (h3 : p[k].code.length < 200) :
    Calls Tryd.prog 8 #[.slice A p.length c, .int .i64 k] w fun e w' => e = .returned (.bool true) ∧ Below w.heap.size w w' := by
  have hw : Below w.heap.size w w := Below.refl _ _
  have S1 := fun W (h : ProgAt W W.heap.size A p) => Lib.hid (psmall_any c 300 W h)
  have G1 := fun W (h : ProgAt W W.heap.size A p) => Lib.hid (rgood_any c W h hz (Nat.le_refl _))
  have HA := Lib.hid ha
  have hg : ((checkP p).2.2 == 0) = true := by simpa using h2
  rw [h1] at S1
  rw [hg] at G1
  obtain ⟨bb, off, rfl, hbl, hc⟩ := ha (by omega)
  obtain ⟨_, _, _, Ac, cc, f3, _⟩ := hc k hk
  have F3 := Lib.hid f3
  have hk2 : (k : Int) < p.length := by omega
  have hok := check_ok h2 (List.getElem_mem hk)
  have hn1 := hok.n1
  have hp16 := ((mayP_iff p).1 (check_facts h2).1).2.1
  have HTO := Lib.hid (tail_ok hk h2 h3)
  have hp1 : 1 ≤ p.length := by omega
  clear ha hc f3 h1 hg hok
  go_enter Tryd.func8, Tryd.ntmps8
  go_upto_region 7 with (first
    | (go_at_call 10; (with_reducible refine (fixed8 _ hT).mono ?_); rintro e v ⟨rfl, hb⟩; replace HA := Lib.hid ((HA.out.below hb (Nat.le_refl _)).more hb.size); replace hT := hT.below hb; replace hw := Below.step hw hb; clear hb)
    | (go_at_call 9; (with_reducible refine (S1 _ HA.out).out.mono ?_); rintro e v ⟨rfl, rfl⟩)
    | (go_at_call 19; (with_reducible refine (G1 _ HA.out).out.mono ?_); rintro e v ⟨rfl, hb⟩; replace HA := Lib.hid ((HA.out.below hb (Nat.le_refl _)).more hb.size); replace hT := hT.below hb; replace hw := Below.step hw hb; have f3 := (hw.cell (p := ⟨bb, off + k * 4 + 3, none⟩) hbl).trans F3.out; clear hb)
    | (at_builtin; refine wpList_append_prog _ Tryd.underlying23 rfl _ _ rfl _ _ [] rfl (OwnQ.made _) rfl (HA.out.below ((Below.refl _ _).alloc (Nat.le_refl _) _) (Nat.le_refl _)) hp1 (by simp; omega) (by simp) ?_; intro v1 u1 l1 e1 ho1 hb1; replace hb1 := Below.trans ((Below.refl _ _).alloc (Nat.le_refl _) _) hb1; obtain ⟨g, cap, A1, c1, rfl, hgB, hgl, hrow, hlies, hcode, k0, k1, k2, k3⟩ := copy_open e1 ho1 hk; have HRW := Lib.hid hrow; have HLI := Lib.hid hlies; have HCD := Lib.hid hcode; have HE1 := Lib.hid e1; clear ho1 hrow hlies hcode e1)
    | (at_builtin; refine wpList_append_code rfl _ _ rfl (u1.heap.size + 1) _ [] rfl (OwnC.made1 _ _) rfl (HCD.out.below ((Below.refl v.heap.size _).alloc hb1.size _ |>.alloc (by simp; have := hb1.size; omega) _) (Nat.le_refl _)) hn1 (by simp; omega) (by simp) ?_; intro hh cap2 u2 ho2 hb2 hhB hhl; simp only [List.length_nil, Nat.zero_add, List.nil_append] at ho2; have HO2 := Lib.hid ho2; clear ho2; have hx2 : Held u2 u1.heap.size 34 #[.int .i64 p[k].ar, .int .i64 p[k].lo, .int .i64 p[k].sl, .slice A1 p[k].code.length c1] := (hb2.block u1.heap.size (by omega)).trans ((Held.new u1 34 #[.int .i64 p[k].ar, .int .i64 p[k].lo, .int .i64 p[k].sl, .slice A1 p[k].code.length c1]).alloc (.cells #[] 36)); have HX2 := Lib.hid hx2; clear hx2; have hg2 : u2.heap[g]? = u1.heap[g]? := (hb2.block g (by omega)).trans ((Below.heap_alloc _ _ g (by simp; omega)).trans (Below.heap_alloc _ _ g hgl)); have HG2 := Lib.hid hg2; clear hg2)
    | (at_builtin; refine wpList_append_ins rfl _ _ rfl (u1.heap.size + 1) u2 _ p[k].code (3, 0, 0) rfl rfl HO2.out rfl (by omega) (by have := hb2.size; simp at this; omega) ?_; intro v3 u3 ho3 hg3 hl3; obtain ⟨A3, c3, rfl, hc3, hb3, hx3, hr3⟩ := after_code ho3 hg3 hhB (by have := hb2.size; simp at this; omega) hgl HX2.out HG2.out HRW.out; obtain ⟨z0, z1, z2, z3, y3, hxl⟩ := box4 hx3; obtain ⟨q0, q1, q2, q3, r0, r1, r2, r3, hgl3⟩ := qcells HG2.out (hb3.block g (by omega)) k0 k1 k2 k3 hr3; have HR3 := Lib.hid hr3; have HO3 := Lib.hid ho3; have HB3 := Lib.hid hb3; have hgx : g ≠ u1.heap.size := (by omega); clear hr3 hc3 hb3 hg3 ho3))
  have hvu : Below v.heap.size u1 u3 := (((Below.refl v.heap.size u1).alloc hb1.size _).alloc (by simp; have := hb1.size; omega) _).trans ((hb2.mono (by have := hb1.size; omega)).trans (HB3.out.mono (by have := hb1.size; omega)))
  have hst := after_store (x := u1.heap.size) HE1.out HR3.out (HLI.out.below hvu (Nat.le_refl _)) hk (tailF p[k]) (A := A3) (c := c3) (.slice A3 (p[k].code.length + 1) c3) (by have := HO3.out; rw [List.length_append, List.length_singleton] at this; show OwnC u3 _ (.slice A3 (p[k].code ++ [(3, 0, 0)]).length c3) (p[k].code ++ [(3, 0, 0)]); rw [List.length_append, List.length_singleton]; exact this) hgl hgB (Nat.le_trans hb1.size hvu.size)
  obtain ⟨hs1, hs2⟩ := hst
  have hcl : (tailF p[k]).code.length = p[k].code.length + 1 := by simp [tailF]
  rw [hcl] at hs1 hs2
  obtain ⟨U, hU⟩ : ∃ U, U = (((((u3.setCell ⟨u1.heap.size, 3, none⟩ (.slice A3 (p[k].code.length + 1) c3)).setCell ⟨g, k * 4, none⟩ (.int .i64 p[k].ar)).setCell ⟨g, k * 4 + 1, none⟩ (.int .i64 p[k].lo)).setCell ⟨g, k * 4 + 2, none⟩ (.int .i64 p[k].sl)).setCell ⟨g, k * 4 + 3, none⟩ (.slice A3 (p[k].code.length + 1) c3)) := ⟨_, rfl⟩
  have hpq : ProgAt U U.heap.size (some ⟨g, 0, none⟩) (p.set k (tailF p[k])) := by rw [hU]; exact hs1
  have hvU : Below v.heap.size v U := hb1.trans (hvu.trans (by rw [hU]; exact hs2))
  rw [← hU]
  obtain ⟨ht1, ht2⟩ := HTO.out
  have hsz := may_sized (check_facts ht1).1
  have hlq : (p.set k (tailF p[k])).length = p.length := List.length_set
  have CQ := fun W (hb : Below U.heap.size U W) => Lib.hid (check_any cap W ((hT.below hvU).below hb) (hpq.below hb (Nat.le_refl _)) hsz hb.size)
  have DQ := fun W (hb : Below U.heap.size U W) => Lib.hid (depths_any cap k W ((hT.below hvU).below hb) (hpq.below hb (Nat.le_refl _)) hsz hb.size)
  have DP := fun W (hb : Below U.heap.size U W) => Lib.hid (depths_any c k W ((hT.below hvU).below hb) ((HA.out.below hvU (Nat.le_refl _)).below (hb.mono hvU.size) (Nat.le_refl _)) hz (Nat.le_trans hvU.size hb.size))
  rw [hlq] at CQ DQ
  rw [ht2] at DQ
  have hD2 : (depthsP p k).length ≤ 200 := by have := (solved_at h2 hk).dl; omega
  have hD1 : 1 ≤ (depthsP p k).length := by have := (solved_at h2 hk).dl; omega
  generalize checkP (p.set k (tailF p[k])) = R at *
  obtain ⟨s1, s2, s3⟩ := R
  simp only at ht1 CQ
  subst ht1
  generalize depthsP p k = D at *
  obtain ⟨E, hE⟩ : ∃ E, D ++ [-1] = E := ⟨_, rfl⟩
  have hE2 := Lib.hid (show E.length ≤ 1000 by rw [← hE, List.length_append, List.length_singleton]; omega)
  rw [hE] at DQ
  have HE := Lib.hid hE
  clear hE
  have HWU := Lib.hid (hw.trans (hvU.mono hw.size))
  clear hU hs1 hs2 hcl hpq hvU hvu ht2 hsz hlq z0 z1 z2 z3 y3 hxl q0 q1 q2 q3 r0 r1 r2 r3 hgl3 hgx hx3 hl3 hb2 hhB hhl k0 k1 k2 k3 hgB hgl hb1 hw hT
  go_wp2_with (first
    | (go_at_call 11; (with_reducible refine (CQ _ (Below.refl _ _)).out.mono ?_); rintro _ V1 ⟨rfl, hv1⟩)
    | (go_at_call 14; (with_reducible refine (DP _ hv1).out.mono ?_); rintro _ V2 ⟨x2, rfl, hL2, hb2⟩; have hv2 := hv1.trans (hb2.mono hv1.size); clear hb2)
    | (go_at_call 14; (with_reducible refine (DQ _ hv2).out.mono ?_); rintro _ V3 ⟨x3, rfl, hL3, hb3⟩; have hL2' := hL2.below hb3; have hv3 := hv2.trans (hb3.mono hv2.size); clear hb3)
    | (at_builtin; refine wpList_wants rfl ?_; refine wpList_append_list rfl _ _ rfl V3.heap.size _ [] rfl (OwnV.made _ _) rfl (hL2'.below ((Below.refl _ _).alloc (Nat.le_refl _) _)) hD1 (by simp; omega) (by simp) ?_; intro v4 V4 ho4 hb4; have hv4 := hv3.trans (((Below.refl V3.heap.size V3).alloc (Nat.le_refl _) _).trans hb4 |>.mono hv3.size); have HO4 := Lib.hid ho4; have hL3' := hL3.below (((Below.refl V3.heap.size V3).alloc (Nat.le_refl _) _).trans hb4); clear ho4)
    | (at_builtin; refine wpList_wants rfl ?_; refine wpList_append_vals rfl _ _ 30 rfl 3 (.int .i64 0) 8 Tryd.underlying30 infoI rfl V3.heap.size V4 _ _ #[.int .i64 (-1)] 1 rfl rfl rfl HO4.out rfl (by intro u hu; simp at hu; subst hu; rfl) (by rw [List.nil_append, List.length_map]; unfold maxLen; omega) (by rw [List.nil_append, List.length_map]; omega) (by have := hb4.size; simp at this; omega) ?_; intro v5 V5 ho5 hb5; have HO5 := Lib.hid ho5; have hL5 := hL3.below ((((Below.refl V3.heap.size V3).alloc (Nat.le_refl _) _).trans hb4).trans hb5); have hv5 := hv3.trans (((((Below.refl V3.heap.size V3).alloc (Nat.le_refl _) _).trans hb4).trans hb5).mono hv3.size); obtain ⟨A7, c7, rfl, h7⟩ := own_list HE.out ho5; obtain ⟨A6, c6, rfl, h6⟩ := hL5.slice; clear ho5)
    | (go_at_call 13; (refine (ints_gen _ (fun i hi => (h6 i hi).imp fun b h => ⟨h.1, Nat.zero_le _, h.2.2⟩) h7 hE2.out).mono ?_); rintro _ V6 ⟨rfl, hb6⟩; have hv6 := hv5.trans (hb6.mono hv5.size)))
  go_ret
  exact ⟨rfl, HWU.out.trans (hv6.mono HWU.out.size)⟩
theorem walk {A : Option Addr} {p : List Fun} (c : Nat) (n : Int) (w : World) (hT : Otab w) (ha : ProgAt w w.heap.size A p) (hz : SizedP p) :
    Calls Tryd.prog 8 #[.slice A p.length c, .int .i64 n] w fun e w' => e = .returned (.bool true) ∧ Below w.heap.size w w' := by
  by_cases h : smallP p 300 = false ∨ (checkP p).2.2 ≠ 0 ∨ n < 0 ∨ (p.length : Int) ≤ n
  · exact out c n w hT ha hz h
  · have h1 : smallP p 300 = true := by
      cases hs : smallP p 300
      · exact absurd (.inl hs) h
      · rfl
    have h4 : (checkP p).2.2 = 0 := Decidable.byContradiction fun e => h (.inr (.inl e))
    have h2 : ¬ n < 0 := fun e => h (.inr (.inr (.inl e)))
    have h3 : ¬ (p.length : Int) ≤ n := fun e => h (.inr (.inr (.inr e)))
    obtain ⟨k, rfl⟩ := Int.eq_ofNat_of_zero_le (show 0 ≤ n by omega)
    have hk : k < p.length := by omega
    by_cases h5 : p[k].code.length < 200
    · exact good c k hk w hT ha hz h1 h4 h5
    · exact long c k hk w hT ha hz h1 h4 (by omega)
theorem entry {H : Type} {enc : TypeId × Value → H} (W : World) (base : Nat) (v0 v1 : Value) (d0 d1 : DataW H) (p0 p1 : List MemPlace)
    (k0 : Value.okWide Tryd.prog W .any base 23 v0)
    (k1 : Value.okWide Tryd.prog W .any base 3 v1)
    (h0 : DataW.Trod enc Tryd.prog W 0 (fun _ => true) true 23 v0 d0 p0)
    (h1 : DataW.Trod enc Tryd.prog W 0 (fun _ => true) true 3 v1 d1 p1)
    (hT : Otab W) : Calls Tryd.prog 8 #[v0, v1] W fun e w' => e = .returned (.bool true) ∧ Below W.heap.size W w' := by
  obtain ⟨A0, c0, ps0, rfl, hp0, hz0⟩ := open_prog k0 h0
  obtain ⟨a1, rfl, rfl, rfl, w1⟩ := open_int Tryd.underlying3 k1 h1
  exact walk c0 a1 W hT hp0 hz0
end Go.Proofs.YtdbmpcdianjaaaaDoor.checkTail

