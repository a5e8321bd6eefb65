/- Layer 8's code: the checker's reach, process. -/
import Derived.Test.YtoeinpiekfmbgaaGreatDoorzGq
import Derived.Test.YtoeinpiekfmbgaaGreatDoorzGa
namespace Go.Proofs.YtoeinpiekfmbgaaGreatDoor
set_option linter.unusedVariables false
set_option linter.unusedSimpArgs false
open Go.RowKit Go.ChangeShapes Go.WideShapes Go.ChangeAt Go.Sort

theorem next1_out {b t : Int} {D : List Int} {V : List Bool} (h : (D.length : Int) ≤ t) : nextsS b [t] D V = (D, V, 81) := by unfold nextsS; rw [if_pos h]
theorem next1_new {b : Int} {t : Nat} {D : List Int} {V : List Bool} (h : t < D.length) (h1 : D[t] = -1) : nextsS b [(t : Int)] D V = (D.set t b, V.set t true, 0) := by
  unfold nextsS
  rw [if_neg (by omega), Int.toNat_natCast, List.getD_eq_getElem?_getD, List.getElem?_eq_getElem h, if_pos (by simpa using h1)]
  rfl
theorem next1_old {b : Int} {t : Nat} {D : List Int} {V : List Bool} (h : t < D.length) (h1 : D[t] ≠ -1) : nextsS b [(t : Int)] D V = (D, V, if (D[t] == b) = true then 0 else 84) := by
  unfold nextsS
  rw [if_neg (by omega), Int.toNat_natCast, List.getD_eq_getElem?_getD, List.getElem?_eq_getElem h, if_neg (by simpa using h1)]
  by_cases h2 : D[t] = b
  · rw [if_pos (by simpa using h2), if_pos (by simpa using h2)]; rfl
  · rw [if_neg (by simpa using h2), if_neg (by simpa using h2)]

set_option maxHeartbeats 2000000 in
set_option maxRecDepth 100000 in
theorem creach_any {B g d v : Nat} {Ap : Option Addr} {cp : Nat} {p : List Fun} {f : Fun} {Ac : Option Addr} {cc : Nat} {D : List Int} {V : List Bool} (t b : Int) (w : World) (h : CkAt B g d v Ap cp p f Ac cc D V w)
    (ht : 0 ≤ t) (ht2 : t ≤ f.code.length) (hn : f.code.length ≤ 200) :
    Calls Tryz.prog 66 #[.pointer (some ⟨g, 0, none⟩), .int .i64 t, .int .i64 b] w fun e w' => e = .returned (.int .i64 (nextsS b [t] D V).2.2) ∧ CkAt B g d v Ap cp p f Ac cc (nextsS b [t] D V).1 (nextsS b [t] D V).2.1 w' ∧ Only d v w w' := by
  have U := fun (x : Bool) (e : Int) => unless_any x e
  obtain ⟨c0, c1, c2, c3, c4, c5, c6, hgl⟩ := h.cells
  have H := Lib.hid h
  have hdl := h.dl
  have hvl := h.vl
  obtain ⟨t, rfl⟩ := Int.eq_ofNat_of_zero_le ht
  by_cases hlt : t < f.code.length
  · have d0 := ints_cell h.hd (i := t) (by omega)
    have v0 := bools_cell h.hv (i := t) (by omega)
    have f0 := h.hd.fz t
    have f1 := h.hv.fz t
    have hne : (t : Int) ≠ f.code.length := by omega
    have hne2 : ((t : Int) == (f.code.length : Int)) = false := by simpa using hne
    have hdv := h.dv
    have hgd := h.gd
    have hgv := h.gv
    have dlt := h.hd.lt
    have vlt := h.hv.lt
    by_cases hm : D[t]'(by omega) = -1
    · rw [next1_new (b := b) (V := V) (by omega) hm]
      rw [hm] at d0
      have U1 := U (b == b) 84
      rw [beq_self_eq_true] at U1
      have hbb : (b == b) = true := by simp
      have H2 := Lib.hid ((h.setD t b).setV t true)
      have H3 := Lib.hid ((h.setV t true).setD t b)
      have hdB := h.dB
      have hvB := h.vB
      generalize V[t] = y at *
      clear h c0 c1 c2 c3
      go_enter Tryz.func66, Tryz.ntmps66
      go_wp2_with fail
      go_region
      all_goals
        clear c5 c6 d0 v0 f0 f1 y
      all_goals
        first
        | (have HU := H2.out.drew
           have hbw := (((Only.refl d v w).set (.inl rfl) t (.int .i64 b)).set (.inr rfl) t (.bool true)).drew
           obtain ⟨_, _, _, _, _, e5, _, _⟩ := HU.cells
           have e0 := ints_cell HU.hd (i := t) (by rw [List.length_set]; omega)
           rw [List.getElem_set_self] at e0
           have HU2 := Lib.hid HU
           clear HU
           go_wp2_with (go_at_call 65; (with_reducible refine (U1.go _).mono ?_); rintro e u ⟨rfl, rfl⟩)
           go_ret
           exact ⟨rfl, HU2.out, hbw⟩)
        | (have HU := H3.out.drew
           have hbw := (((Only.refl d v w).set (.inr rfl) t (.bool true)).set (.inl rfl) t (.int .i64 b)).drew
           obtain ⟨_, _, _, _, _, e5, _, _⟩ := HU.cells
           have e0 := ints_cell HU.hd (i := t) (by rw [List.length_set]; omega)
           rw [List.getElem_set_self] at e0
           have HU2 := Lib.hid HU
           clear HU
           go_wp2_with (go_at_call 65; (with_reducible refine (U1.go _).mono ?_); rintro e u ⟨rfl, rfl⟩)
           go_ret
           exact ⟨rfl, HU2.out, hbw⟩)
    · rw [next1_old (b := b) (V := V) (by omega) hm]
      have U1 := U (D[t] == b) 84
      have hm2 : (D[t] == (-1 : Int)) = false := by simpa using hm
      generalize D[t] = y at *
      generalize V[t] = y2 at *
      clear h c0 c1 c2 c3 hm hne
      cases hy : (y == b)
      all_goals
        rw [hy] at U1
        go_enter Tryz.func66, Tryz.ntmps66
        go_wp2_with (go_at_call 65; (with_reducible refine (U1.go _).mono ?_); rintro e u ⟨rfl, rfl⟩)
        go_ret
        exact ⟨rfl, H.out, Only.refl _ _ _⟩
  · obtain rfl : t = f.code.length := by omega
    rw [next1_out (by omega)]
    clear h c0 c1 c2 c3 c5 c6
    go_enter Tryz.func66, Tryz.ntmps66
    go_wp2_with fail
    go_ret
    exact ⟨rfl, H.out, Only.refl _ _ _⟩
end Go.Proofs.YtoeinpiekfmbgaaGreatDoor

/- Layer 8's code: the checker's process. -/
namespace Go.Proofs.YtoeinpiekfmbgaaGreatDoor
set_option linter.unusedVariables false
set_option linter.unusedSimpArgs false
open Go.RowKit Go.ChangeShapes Go.WideShapes Go.ChangeAt Go.Sort

theorem LstAt.only {w w' : World} {B d v : Nat} {x : Value} {l : List Int} (h : LstAt w B x l) (ho : Only d v w w') (hd : d < B) (hv : v < B) : LstAt w' B x l := by
  rcases h with h | ⟨b, h1, h2, h3⟩
  · exact .inl h
  · exact .inr ⟨b, h1, h2, h3.only ho (by omega) (by omega)⟩
theorem Only.cell {d v : Nat} {w w' : World} (h : Only d v w w') {k i : Nat} {x : Value} (hc : w.cell? ⟨k, i, none⟩ = some x) (hd : k ≠ d) (hv : k ≠ v) : w'.cell? ⟨k, i, none⟩ = some x := by
  have := h.block k (block_lt_of_cell hc) hd hv
  unfold World.cell? at *
  simp only at *
  rw [this]
  exact hc
theorem next_len (x : Int × Int × Int) (i : Int) : (nextI x i).length ≤ 2 := by
  unfold nextI
  split
  · simp
  · split
    · simp
    · split <;> simp
/-- An instruction's cells. -/
theorem CkAt.ins {B g d v : Nat} {Ap : Option Addr} {cp : Nat} {p : List Fun} {f : Fun} {Ac : Option Addr} {cc : Nat} {D : List Int} {V : List Bool} {w : World} (h : CkAt B g d v Ap cp p f Ac cc D V w) {i : Nat} (hi : i < f.code.length) :
    ∃ b off, Ac = some ⟨b, off, none⟩ ∧ b < B ∧ w.cell? ⟨b, off + i * 3, none⟩ = some (.int .i64 f.code[i].1) ∧ w.cell? ⟨b, off + i * 3 + 1, none⟩ = some (.int .i64 f.code[i].2.1) ∧ w.cell? ⟨b, off + i * 3 + 2, none⟩ = some (.int .i64 f.code[i].2.2) := by
  obtain ⟨b, off, h1, h2, h3⟩ := h.code (by omega)
  exact ⟨b, off, h1, h2, h3 i hi⟩

set_option maxHeartbeats 2000000 in
set_option maxRecDepth 100000 in
theorem cprocess_bad {B g d v : Nat} {Ap : Option Addr} {cp : Nat} {p : List Fun} {f : Fun} {Ac : Option Addr} {cc : Nat} {D : List Int} {V : List Bool} (hok : FunOk p f) (i : Nat) (hi : i < f.code.length) (w : World) (h : CkAt B g d v Ap cp p f Ac cc D V w)
    (e : Int) (he : D[i]? = some e) (h0 : 0 ≤ e) (h16 : e ≤ 16) (hbad : e < offI p f.code[i] ∨ 16 < e - offI p f.code[i] + (rz f.code[i].1).q) :
    Calls Tryz.prog 68 #[.pointer (some ⟨g, 0, none⟩), .int .i64 i] w fun x w' => x = .returned (.int .i64 84) ∧ CkAt B g d v Ap cp p f Ac cc D V w' ∧ Only d v w w' := by
  have hx : f.code[i] ∈ f.code := List.getElem_mem hi
  have hoff := hok.off _ hx
  have hon := hok.on _ hx
  have hsp := hok.spawn _ hx
  have hn := hok.n2
  obtain ⟨bb, off, rfl, hbl, a0, a1, a2⟩ := h.ins hi
  obtain ⟨c0, c1, c2, c3, c4, c5, c6, hgl⟩ := h.cells
  have d0 : w.cell? ⟨d, i, none⟩ = some (.int .i64 e) := by rw [h.hd.cell, intA_get, he]; rfl
  have ST := fun W h => Lib.hid (cstack_any f.code[i].1 f.code[i].2.1 f.code[i].2.2 W (D := D) (V := V) (B := B) (g := g) (d := d) (v := v) (Ap := Ap) (cp := cp) (f := f) (Ac := some ⟨bb, off, none⟩) (cc := cc) h hsp)
  have H := Lib.hid h
  change ∀ W h, Hid (Calls Tryz.prog 88 #[.pointer (some ⟨g, 0, none⟩), .agg #[.int .i64 f.code[i].1, .int .i64 f.code[i].2.1, .int .i64 f.code[i].2.2]] W fun e w' => e = .returned (.tuple #[.int .i64 (offI p f.code[i]), .int .i64 (rz f.code[i].1).q]) ∧ Below W.heap.size W w') at ST
  generalize offI p f.code[i] = q at *
  generalize (rz f.code[i].1).q = r at *
  generalize f.code[i].1 = xo at *
  generalize f.code[i].2.1 = xa at *
  generalize f.code[i].2.2 = xb at *
  clear h hx hsp he
  have hq := hoff.1
  have hq2 := hoff.2
  have hr := hon.1
  have hr2 := hon.2
  clear hoff hon c0 c1 c2 c3 hok
  by_cases h1 : e < q
  · clear hbad
    go_enter Tryz.func68, Tryz.ntmps68
    go_wp2_with (go_at_call 88; (with_reducible refine (ST _ H.out).out.mono ?_); rintro _ u ⟨rfl, hb⟩; obtain ⟨c0, c1, c2, c3, c4, c5, c6, hgl⟩ := (H.out.below hb).cells; have d0 := (hb.cell (p := ⟨d, i, none⟩) H.out.hd.lt).trans d0)
    go_ret
    exact ⟨rfl, H.out.below hb, Only.of_below hb⟩
  · have h2 : 16 < e - q + r := by omega
    clear hbad
    go_enter Tryz.func68, Tryz.ntmps68
    go_wp2_with (go_at_call 88; (with_reducible refine (ST _ H.out).out.mono ?_); rintro _ u ⟨rfl, hb⟩; obtain ⟨c0, c1, c2, c3, c4, c5, c6, hgl⟩ := (H.out.below hb).cells; have d0 := (hb.cell (p := ⟨d, i, none⟩) H.out.hd.lt).trans d0)
    go_ret
    exact ⟨rfl, H.out.below hb, Only.of_below hb⟩

set_option maxHeartbeats 2000000 in
set_option maxRecDepth 100000 in
theorem cprocess_good {B g d v : Nat} {Ap : Option Addr} {cp : Nat} {p : List Fun} {f : Fun} {Ac : Option Addr} {cc : Nat} {D : List Int} {V : List Bool} (hok : FunOk p f) (i : Nat) (hi : i < f.code.length) (w : World) (h : CkAt B g d v Ap cp p f Ac cc D V w)
    (e : Int) (he : D[i]? = some e) (h0 : 0 ≤ e) (h16 : e ≤ 16) (hg1 : offI p f.code[i] ≤ e) (hg2 : e - offI p f.code[i] + (rz f.code[i].1).q ≤ 16) :
    Calls Tryz.prog 68 #[.pointer (some ⟨g, 0, none⟩), .int .i64 i] w fun x w' => x = .returned (.int .i64 (nextsS (e - offI p f.code[i] + (rz f.code[i].1).q) (nextI f.code[i] i) D V).2.2) ∧
      CkAt B g d v Ap cp p f Ac cc (nextsS (e - offI p f.code[i] + (rz f.code[i].1).q) (nextI f.code[i] i) D V).1 (nextsS (e - offI p f.code[i] + (rz f.code[i].1).q) (nextI f.code[i] i) D V).2.1 w' ∧ Only d v w w' := by
  have hx : f.code[i] ∈ f.code := List.getElem_mem hi
  have hoff := hok.off _ hx
  have hon := hok.on _ hx
  have hsp := hok.spawn _ hx
  have hnx := hok.next i hi
  have hn := hok.n2
  obtain ⟨bb, off, rfl, hbl, a0, a1, a2⟩ := h.ins hi
  obtain ⟨c0, c1, c2, c3, c4, c5, c6, hgl⟩ := h.cells
  have d0 : w.cell? ⟨d, i, none⟩ = some (.int .i64 e) := by rw [h.hd.cell, intA_get, he]; rfl
  have ST := fun W h => Lib.hid (cstack_any f.code[i].1 f.code[i].2.1 f.code[i].2.2 W (D := D) (V := V) (B := B) (g := g) (d := d) (v := v) (Ap := Ap) (cp := cp) (f := f) (Ac := some ⟨bb, off, none⟩) (cc := cc) h hsp)
  have SU := fun W => Lib.hid (succ_any f.code[i].1 f.code[i].2.1 f.code[i].2.2 i W (by omega) (by omega))
  have H := Lib.hid h
  change ∀ W h, Hid (Calls Tryz.prog 88 #[.pointer (some ⟨g, 0, none⟩), .agg #[.int .i64 f.code[i].1, .int .i64 f.code[i].2.1, .int .i64 f.code[i].2.2]] W fun e w' => e = .returned (.tuple #[.int .i64 (offI p f.code[i]), .int .i64 (rz f.code[i].1).q]) ∧ Below W.heap.size W w') at ST
  change ∀ W, Hid (Calls Tryz.prog 89 #[.int .i64 i, .agg #[.int .i64 f.code[i].1, .int .i64 f.code[i].2.1, .int .i64 f.code[i].2.2]] W fun e w' => ∃ x, e = .returned x ∧ LstAt w' W.heap.size x (nextI f.code[i] i) ∧ Below W.heap.size W w') at SU
  have HLEN := Lib.hid (next_len f.code[i] i)
  have A0 := Lib.hid a0
  have A1 := Lib.hid a1
  have A2 := Lib.hid a2
  generalize offI p f.code[i] = q at *
  generalize (rz f.code[i].1).q = r at *
  generalize nextI f.code[i] i = l at *
  generalize f.code[i].1 = xo at *
  generalize f.code[i].2.1 = xa at *
  generalize f.code[i].2.2 = xb at *
  have hbw := h.lt
  have hdl := h.hd.lt
  have hvl := h.hv.lt
  clear h hx hsp he
  have hq := hoff.1
  have hq2 := hoff.2
  have hr := hon.1
  have hr2 := hon.2
  have HNX := Lib.hid hnx
  clear hoff hon c0 c1 c2 c3 hok hnx
  go_enter Tryz.func68, Tryz.ntmps68
  go_wp2_with (first
    | (go_at_call 88; (with_reducible refine (ST _ H.out).out.mono ?_); rintro _ u ⟨rfl, hb⟩; obtain ⟨c0, c1, c2, c3, c4, c5, c6, hgl⟩ := (H.out.below hb).cells; have d0 := (hb.cell (p := ⟨d, i, none⟩) hdl).trans d0; have a0 := (hb.cell (p := ⟨bb, off + i * 3, none⟩) (by show bb < _; omega)).trans A0.out; have a1 := (hb.cell (p := ⟨bb, off + i * 3 + 1, none⟩) (by show bb < _; omega)).trans A1.out; have a2 := (hb.cell (p := ⟨bb, off + i * 3 + 2, none⟩) (by show bb < _; omega)).trans A2.out)
    | (go_at_call 89; (with_reducible refine (SU _).out.mono ?_); rintro _ u2 ⟨x, rfl, hL, hb2⟩; obtain ⟨A, c, rfl, hcell⟩ := hL.slice; clear hL))
  have hs1 := hb.size
  have hs2 := hb2.size
  have H2 := Lib.hid ((H.out.below hb).below hb2)
  have HO := Lib.hid ((Only.of_below (d := d) (v := v) hb).trans (Only.of_below hb2))
  have hue := H2.out.lt
  have hl8 := HLEN.out
  have HC := Lib.hid hcell
  clear c0 c1 c2 c3 c4 c5 c6 d0 a0 a1 a2 hgl hcell
  go_loopw [9, 10, 59] (fun _ _ iv W => ∃ (k : Nat) (D' : List Int) (V' : List Bool), iv = .int .i64 k ∧ k ≤ l.length ∧ CkAt B g d v Ap cp p f (some ⟨bb, off, none⟩) cc D' V' W ∧ Only d v u2 W ∧ nextsS (e - q + r) l D V = nextsS (e - q + r) (l.drop k) D' V') (fun _ _ iv _ => l.length - (intOf iv).toNat)
  case atStart => exact ⟨0, D, V, rfl, by omega, H2.out, Only.refl _ _ _, by simp⟩
  case round =>
    obtain ⟨k, D', V', rfl, hk, hck, hon, hns⟩ := hrel
    by_cases hlt : k < l.length
    · obtain ⟨lb, rfl, hlb, hcell⟩ := HC.out k hlt
      have c0 := hon.cell hcell (by omega) (by omega)
      have hll := HNX.out _ (List.getElem_mem hlt)
      rw [List.drop_eq_getElem_cons hlt, nexts_cons] at hns
      have RC := fun W h => Lib.hid (creach_any l[k] (e - q + r) W (D := D') (V := V') (B := B) (g := g) (d := d) (v := v) (Ap := Ap) (cp := cp) (p := p) (f := f) (Ac := some ⟨bb, off, none⟩) (cc := cc) h hll.1 hll.2 hn)
      generalize nextsS (e - q + r) [l[k]] D' V' = N at *
      obtain ⟨D2, V2, e2⟩ := N
      generalize l[k] = t at *
      have HCK := Lib.hid hck
      have HNS := Lib.hid hns
      have HON := Lib.hid hon
      have HLL := Lib.hid hll
      clear hck hns hon hcell hll
      simp only at RC HNS
      by_cases he2 : e2 = 0
      · subst he2
        go_wp2_with (go_at_call 66; (with_reducible refine (RC _ HCK.out).out.mono ?_); rintro _ u3 ⟨rfl, hck3, hon3⟩; have HC3 := Lib.hid hck3; have HO3 := Lib.hid hon3; clear hck3 hon3)
        go_roundw
        case rel => exact ⟨k + 1, D2, V2, by go_num, by omega, HC3.out, HON.out.trans HO3.out, HNS.out⟩
        case measure => simp [intOf]; omega
      · have hns := HNS.out
        rw [if_neg he2] at hns
        have HNS2 := Lib.hid hns
        have hne : (e2 != 0) = true := by simpa using he2
        clear hns he2
        go_wp2_with (go_at_call 66; (with_reducible refine (RC _ HCK.out).out.mono ?_); rintro _ u3 ⟨rfl, hck3, hon3⟩; have HC3 := Lib.hid hck3; have HO3 := Lib.hid hon3; clear hck3 hon3)
        go_ret
        rw [HNS2.out]
        exact ⟨rfl, HC3.out, HO.out.trans (HON.out.trans HO3.out)⟩
    · obtain rfl : k = l.length := by omega
      rw [List.drop_length, nexts_nil] at hns
      have HCK := Lib.hid hck
      have HNS := Lib.hid hns
      have HON := Lib.hid hon
      clear hck hns hon
      go_wp2_with fail
      go_ret
      rw [HNS.out]
      exact ⟨rfl, HCK.out, HO.out.trans HON.out⟩
end Go.Proofs.YtoeinpiekfmbgaaGreatDoor

/- Layer 8's code: the checker's flow. -/
namespace Go.Proofs.YtoeinpiekfmbgaaGreatDoor
set_option linter.unusedVariables false
set_option linter.unusedSimpArgs false
open Go.RowKit Go.ChangeShapes Go.WideShapes Go.ChangeAt Go.Sort

theorem cprocess_any {B g d v : Nat} {Ap : Option Addr} {cp : Nat} {p : List Fun} {f : Fun} {Ac : Option Addr} {cc : Nat} {D : List Int} {V : List Bool} (hok : FunOk p f) (i : Nat) (hi : i < f.code.length) (w : World) (h : CkAt B g d v Ap cp p f Ac cc D V w)
    (h0 : 0 ≤ D.getD i 0) (h16 : D.getD i 0 ≤ 16) :
    Calls Tryz.prog 68 #[.pointer (some ⟨g, 0, none⟩), .int .i64 i] w fun x w' => x = .returned (.int .i64 (procS (grF p f.code i) (D.getD i 0) D V).2.2) ∧
      CkAt B g d v Ap cp p f Ac cc (procS (grF p f.code i) (D.getD i 0) D V).1 (procS (grF p f.code i) (D.getD i 0) D V).2.1 w' ∧ Only d v w w' := by
  have hd : i < D.length := by have := h.dl; omega
  have he : D[i]? = some (D.getD i 0) := by rw [List.getD_eq_getElem?_getD, List.getElem?_eq_getElem hd]; rfl
  rw [grF_at hi]
  unfold procS nodeI
  split
  · rename_i hb
    exact cprocess_bad hok i hi w h _ he h0 h16 hb
  · rename_i hb
    exact cprocess_good hok i hi w h _ he h0 h16 (by simp only at hb; omega) (by simp only at hb; omega)

def boolOf : Value → Bool
  | .bool b => b
  | _ => false
def rdI (w : World) (d : Nat) : List Int := match w.heap[d]? with
  | some (.cells cs _ _) => cs.toList.map intOf
  | _ => []
def rdB (w : World) (d : Nat) : List Bool := match w.heap[d]? with
  | some (.cells cs _ _) => cs.toList.map boolOf
  | _ => []
theorem rdI_of {w : World} {d : Nat} {t : TypeId} {D : List Int} (h : Held w d t (intA D)) : rdI w d = D := by
  unfold Held at h
  unfold rdI
  rw [h]
  simp [Function.comp_def, intOf]
theorem rdB_of {w : World} {d : Nat} {t : TypeId} {D : List Bool} (h : Held w d t (boolA D)) : rdB w d = D := by
  unfold Held at h
  unfold rdB
  rw [h]
  simp [Function.comp_def, boolOf]
theorem init_step {n : Nat} (hn : 0 < n) : nextsS 0 [0] (fillD n n) (List.replicate n false) = (initD n, initW n, 0) := by
  obtain ⟨m, rfl⟩ : ∃ m, n = m + 1 := ⟨n - 1, by omega⟩
  rw [fillD_all]
  unfold nextsS
  rw [if_neg (by simp), if_pos (by simp [List.replicate_succ])]
  simp [initD, initW, List.replicate_succ, nexts_nil]
/-- What lies ready whenever a place is sought. -/
def FloJ (w0 : World) (B g d v : Nat) (Ap : Option Addr) (cp : Nat) (p : List Fun) (f : Fun) (Ac : Option Addr) (cc : Nat) (a' : Act) (w' : World) : Prop :=
  ∃ (D : List Int) (V : List Bool) (K : Nat), CkAt B g d v Ap cp p f Ac cc D V w' ∧ Only d v w0 w' ∧ Gone (grF p f.code) f.code.length D V ∧ muS f.code.length D V ≤ K ∧ flowS (grF p f.code) K D V = flowF p f.code ∧ ∃ u2 u3 u4 u5 u6 u7 u8 u9 u10 u11 u12 u13 u14 u15 u16 u17 u18 u19 u20 u21 u22 u23 u24 u25 u26 u27 : Value,  a' = { tmps := #[.pointer (some ⟨g, 0, none⟩), undef, u2, u3, u4, u5, u6, u7, u8, u9, u10, u11, u12, u13, u14, u15, u16, u17, u18, u19, u20, u21, u22, u23, u24, u25, u26, u27], defers := [] }

set_option maxHeartbeats 2000000 in
set_option maxRecDepth 100000 in
theorem cflow_any {B g d v : Nat} {Ap : Option Addr} {cp : Nat} {p : List Fun} {f : Fun} {Ac : Option Addr} {cc : Nat} (hok : FunOk p f) (w : World) (h : CkAt B g d v Ap cp p f Ac cc (fillD f.code.length f.code.length) (List.replicate f.code.length false) w) :
    Calls Tryz.prog 39 #[.pointer (some ⟨g, 0, none⟩)] w fun x w' => x = .returned (.tuple #[.int .i64 (flowF p f.code).2.1, .int .i64 (flowF p f.code).2.2]) ∧
      (∃ D V, CkAt B g d v Ap cp p f Ac cc D V w' ∧ ((flowF p f.code).2.2 = 0 → D = (flowF p f.code).1)) ∧ Only d v w w' := by
  have hn := hok.n2
  have hn1 := hok.n1
  have RC := Lib.hid (creach_any 0 0 w h (by omega) (by omega) hn)
  rw [init_step hn1] at RC
  simp only at RC
  go_enter Tryz.func39, Tryz.ntmps39
  go_wp2
  refine wp_scope_once 0 (FloJ w B g d v Ap cp p f Ac cc) (fun _ w' => muS f.code.length (rdI w' d) (rdB w' v)) rfl ?_ ?_
  · rintro a' w' ⟨D, V, K, hck, hon, hgo, hmu, hfl, u2, u3, u4, u5, u6, u7, u8, u9, u10, u11, u12, u13, u14, u15, u16, u17, u18, u19, u20, u21, u22, u23, u24, u25, u26, u27, rfl⟩
    try dsimp only
    rw [rdI_of hck.hd, rdB_of hck.hv]
    have IX := Lib.hid (index_any w' hck.hv (by have := hck.vl; omega))
    rw [hck.vl] at IX
    obtain ⟨_, _, _, _, _, _, c6, hgl⟩ := hck.cells
    have hvl := hck.vl
    have hdl := hck.dl
    cases ho : openS V with
    | none =>
      rw [ho] at IX
      have hR : flowF p f.code = (D, 0, 0) := by
        rw [← hfl]
        cases K with
        | zero => rfl
        | succ K => unfold flowS; rw [ho]
      have HR := Lib.hid hR
      have HCK := Lib.hid hck
      have HON := Lib.hid hon
      simp only at IX
      clear hck hon hgo hmu hfl h RC hR ho
      go_wp2_with (go_at_call 67; (with_reducible refine IX.out.mono ?_); rintro _ u ⟨rfl, rfl⟩)
      simp only [Exit.jump]
      go_returns
      rw [HR.out]
      exact ⟨rfl, ⟨D, V, HCK.out, fun _ => rfl⟩, HON.out⟩
    | some i =>
      rw [ho] at IX
      simp only at IX
      obtain ⟨hi, hVi, _⟩ := openS_some ho
      have hi2 : i < f.code.length := by omega
      have hpos := mu_pos (D := D) (n := f.code.length) (i := i) hi2 (by rw [List.getElem?_eq_getElem hi, hVi])
      obtain ⟨K, rfl⟩ : ∃ k, K = k + 1 := ⟨K - 1, by omega⟩
      have hd0 : D[i]? = some D[i] := List.getElem?_eq_getElem (by omega)
      have hge : D.getD i 0 = D[i] := by rw [List.getD_eq_getElem?_getD, hd0]; rfl
      have hne : D[i] ≠ -1 := fun e => hgo.wait i (by rw [List.getElem?_eq_getElem hi, hVi]) (by rw [hd0, e])
      have hrg := hgo.range i _ hd0
      have hs := hck.setV i false
      have v0 := bools_cell hck.hv (i := i) hi
      have f0 := hck.hv.fz i
      have PC := Lib.hid (cprocess_any hok i hi2 _ hs (by omega) (by omega))
      have hst := fun he => good_step hok.fine hgo ho he
      unfold flowS at hfl
      rw [ho] at hfl
      simp only at hfl
      generalize V[i] = y at *
      generalize D.getD i 0 = dd at *
      generalize procS (grF p f.code i) dd D (V.set i false) = N at *
      obtain ⟨D2, V2, e2⟩ := N
      simp only at hst hfl PC
      have hgb := hs.cells
      have HON := Lib.hid hon
      have HFL := Lib.hid hfl
      have HST := Lib.hid hst
      clear hck hon hgo h RC ho hd0 hge hne hrg hs hst hfl hVi
      by_cases he : e2 = 0
      · subst he
        obtain ⟨hg2, hm2⟩ := HST.out rfl
        have hfl := HFL.out
        rw [if_pos rfl] at hfl
        have HFL2 := Lib.hid hfl
        have HG2 := Lib.hid hg2
        have HM2 := Lib.hid hm2
        clear hfl hg2 hm2
        go_wp2_with (first
          | (go_at_call 67; (with_reducible refine IX.out.mono ?_); rintro _ u ⟨rfl, rfl⟩)
          | (go_at_call 68; (with_reducible refine PC.out.mono ?_); rintro _ u2 ⟨rfl, hck2, hon2⟩))
        go_step3
        refine ⟨rfl, ⟨D2, V2, K, hck2, (HON.out.set (.inr rfl) i (.bool false)).trans hon2, HG2.out, by have := HM2.out; omega, HFL2.out, _, _, _, _, _, _, _, _, _, _, _, _, _, _, _, _, _, _, _, _, _, _, _, _, _, _, rfl⟩, ?_⟩
        rw [rdI_of hck2.hd, rdB_of hck2.hv]
        exact HM2.out
      · have hfl := HFL.out
        rw [if_neg he] at hfl
        have HFL2 := Lib.hid hfl
        have hne2 : (e2 != 0) = true := by simpa using he
        have HE := Lib.hid he
        clear hfl he
        go_wp2_with (first
          | (go_at_call 67; (with_reducible refine IX.out.mono ?_); rintro _ u ⟨rfl, rfl⟩)
          | (go_at_call 68; (with_reducible refine PC.out.mono ?_); rintro _ u2 ⟨rfl, hck2, hon2⟩))
        simp only [Exit.jump]
        go_returns
        rw [← HFL2.out]
        exact ⟨rfl, ⟨D2, V2, hck2, fun h => absurd h HE.out⟩, (HON.out.set (.inr rfl) i (.bool false)).trans hon2⟩
  · intro hp
    have Hp := Lib.hid hp
    clear hp
    go_wp2_with (go_at_call 66; (with_reducible refine RC.out.mono ?_); rintro _ u ⟨rfl, hck2, hon2⟩)
    go_step3
    rename_i hK
    refine hK _ _ (Hp.out _ _ ⟨initD f.code.length, initW f.code.length, 201, hck2, hon2, init_good _ hn1, Nat.le_trans (mu_le _ _ _) (by omega), rfl, _, _, _, _, _, _, _, _, _, _, _, _, _, _, _, _, _, _, _, _, _, _, _, _, _, _, rfl⟩)
end Go.Proofs.YtoeinpiekfmbgaaGreatDoor

