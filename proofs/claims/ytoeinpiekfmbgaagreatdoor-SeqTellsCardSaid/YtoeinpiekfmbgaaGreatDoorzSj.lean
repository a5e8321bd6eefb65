/- Layer 9's code: Same, of frames that are the same, and of frames at unlike places. -/
import Derived.Test.YtoeinpiekfmbgaaGreatDoorzRf
import Derived.Test.YtoeinpiekfmbgaaGreatDoorzHb
import Derived.Test.YtoeinpiekfmbgaaGreatDoorzFc
import Derived.Test.YtoeinpiekfmbgaaGreatDoorzPlz
import Derived.Test.YtoeinpiekfmbgaaGreatDoorzHj
import Derived.Test.YtoeinpiekfmbgaaGreatDoorzGh
import Derived.Test.YtoeinpiekfmbgaaGreatDoorzHf
import Derived.Test.YtoeinpiekfmbgaaGreatDoorzHa
import Derived.Test.YtoeinpiekfmbgaaGreatDoorzFde
import Derived.Test.YtoeinpiekfmbgaaGreatDoorzFgv
import Derived.Test.YtoeinpiekfmbgaaGreatDoorzFnw
import Derived.Test.YtoeinpiekfmbgaaGreatDoorzSb
namespace Go.Proofs.YtoeinpiekfmbgaaGreatDoor
set_option linter.unusedVariables false
set_option linter.unusedSimpArgs false
open Gm Go.RowKit Go.ChangeShapes Go.WideShapes Go.ChangeAt Go.Sort

end Go.Proofs.YtoeinpiekfmbgaaGreatDoor

/- Layer 7: the document's Parse at every input. -/
namespace Go.Proofs.YtoeinpiekfmbgaaGreatDoor
set_option linter.unusedVariables false
set_option linter.unusedSimpArgs false
open Go.RowKit Go.ChangeShapes Go.WideShapes Go.ChangeAt Go.Sort

theorem word_len {c : UInt8} : ∀ (ws : List (List UInt8)), ∀ w ∈ ws, w.length ≤ (joinC c ws).length
  | [], w, h => by simp at h
  | [x], w, h => by simp at h; subst h; simp [joinC]
  | x :: y :: ws, w, h => by
    have ih := word_len (c := c) (y :: ws)
    rw [joinC, List.length_append, List.length_cons]
    rcases List.mem_cons.1 h with rfl | h
    · omega
    · have := ih w h
      omega
theorem split_len {c : UInt8} {l : List UInt8} : ∀ w ∈ splitL c l, w.length ≤ l.length := fun w h => by
  have := word_len (c := c) _ w h
  rwa [join_split] at this
/-- What comes of a text, when its lines were laid, or one was not. -/
theorem parse_end {l w0 : List UInt8} {rest : List (List UInt8)} (h : splitL 10 l = w0 :: rest) {p : List Fun} (hr : runL [] (w0 :: rest).dropLast = (p, rest.length, true)) :
    parseP l = if (w0 :: rest)[rest.length] = [] ∧ mayP p = true then (p, rest.length, 0) else ([], rest.length, 70) := by
  unfold parseP
  simp only
  rw [h, hr]
  have e : (w0 :: rest).getLast? = some ((w0 :: rest)[rest.length]) := by
    rw [List.getLast?_eq_getElem?, List.getElem?_eq_getElem (by simp)]
    simp
  rw [e]
  simp
theorem parse_stop {l w0 : List UInt8} {rest : List (List UInt8)} (h : splitL 10 l = w0 :: rest) {p : List Fun} {n : Nat} (hr : runL [] (w0 :: rest).dropLast = (p, n, false)) : parseP l = ([], n, 70) := by
  unfold parseP
  simp only
  rw [h, hr]
  simp
theorem drop_last_cons {ws : List (List UInt8)} {k n : Nat} (hn : ws.length = n + 1) (hk : k < n) : ws.dropLast.drop k = (ws[k]'(by omega)) :: ws.dropLast.drop (k + 1) := by
  have hl : k < ws.dropLast.length := by simp; omega
  rw [List.drop_eq_getElem_cons hl, List.getElem_dropLast]

/-- What the document's Parse answers, in memory. -/
def ParQ (w : World) (l : List UInt8) (e : Ending) (w' : World) : Prop :=
  ∃ A c, e = .returned (.tuple #[.slice A (parseP l).1.length c, .int .i64 (parseP l).2.1, .int .i64 (parseP l).2.2]) ∧ ProgAt w' w'.heap.size A (parseP l).1 ∧ Below w.heap.size w w'

set_option maxHeartbeats 4000000 in
set_option maxRecDepth 100000 in
theorem pparse_any (l : List UInt8) (w : World) (hl : l.length ≤ 1000000) :
    Calls Tryz.prog 16 #[.string ⟨l.toArray⟩] w fun e w' => ParQ w l e w' := by
  cases hs : splitL 10 l with
  | nil => exact absurd hs (splitL_ne 10 l)
  | cons w0 rest =>
    have S := Lib.hid (psplit_cells 10 hs hl w)
    rw [show ((10 : UInt8).toNat : Int) = 10 from rfl] at S
    have hwl : ∀ x ∈ w0 :: rest, x.length ≤ 1000000 := fun x hx => by
      have := split_len (c := 10) (l := l) x (by rw [hs]; exact hx)
      omega
    have HWL := Lib.hid hwl
    have HE := Lib.hid (fun (p : List Fun) h => parse_end hs (p := p) h)
    have HS := Lib.hid (fun (p : List Fun) n h => parse_stop hs (p := p) (n := n) h)
    have hlen : rest.length ≤ 1000000 := by
      have h1 := joinC_len 10 (splitL 10 l)
      rw [join_split, hs, List.length_cons] at h1
      omega
    clear hs hwl
    go_enter Tryz.func16, Tryz.ntmps16
    go_wp2_with (go_at_call 33; (with_reducible refine S.out.mono ?_); rintro e u ⟨g, cs, rfl, hg1, hg2, hcell, hbu⟩; have HCE := Lib.hid hcell; clear hcell)
    go_loopw [6, 7] (fun v iv wr => ∃ (k : Nat) (L : List (Fun × Value)), iv = .int .i64 k ∧ k ≤ rest.length ∧ OwnL wr u.heap.size v L ∧ L.length ≤ 16 ∧ (∀ x ∈ L, x.1.code.length ≤ 200) ∧ Below u.heap.size u wr ∧
      runL [] (w0 :: rest).dropLast = ((runL (L.map (·.1)) ((w0 :: rest).dropLast.drop k)).1, k + (runL (L.map (·.1)) ((w0 :: rest).dropLast.drop k)).2.1, (runL (L.map (·.1)) ((w0 :: rest).dropLast.drop k)).2.2)) (fun _ iv _ => rest.length - (intOf iv).toNat)
    case atStart => exact ⟨0, [], rfl, by omega, OwnL.made u, by simp, by simp, (Below.refl _ _).alloc (Nat.le_refl _) _, by simp⟩
    case round =>
      obtain ⟨k, L, rfl, hk, hO, h16, hc, hbr, hrun⟩ := hrel
      obtain ⟨Av, cv, rfl, hp⟩ := hO.prog
      by_cases hlt : k < rest.length
      · have hkk : k < (w0 :: rest).length := by simp; omega
        have c0 : wr.cell? ⟨g, k, none⟩ = some (.string ⟨((w0 :: rest)[k]).toArray⟩) := (hbr.cell (p := ⟨g, k, none⟩) hg2).trans (HCE.out k hkk)
        have hxl := HWL.out _ (List.getElem_mem hkk)
        rw [drop_last_cons (n := rest.length) (by simp) hlt] at hrun
        have hst : ∀ q, addQ (L.map (·.1)) ((w0 :: rest)[k]) = some q → runL [] (w0 :: rest).dropLast = ((runL q ((w0 :: rest).dropLast.drop (k + 1))).1, (k + 1) + (runL q ((w0 :: rest).dropLast.drop (k + 1))).2.1, (runL q ((w0 :: rest).dropLast.drop (k + 1))).2.2) := fun q hq => by
          rw [hrun, runL_some _ hq]
          simp only
          congr 2
          omega
        have hno : addQ (L.map (·.1)) ((w0 :: rest)[k]) = none → parseP l = ([], k, 70) := fun hq => by
          rw [runL_none _ hq] at hrun
          exact HS.out _ _ hrun
        have HST := Lib.hid hst
        have HNO := Lib.hid hno
        have P := play_any (l := (w0 :: rest)[k]) hxl wr hO hbr.size h16 hc
        have hsm := fun q (hq : addQ (L.map (·.1)) ((w0 :: rest)[k]) = some q) => addQ_small hq (by rw [List.length_map]; exact h16) (fun f hf => by
          obtain ⟨x, hx, rfl⟩ := List.mem_map.1 hf
          exact hc x hx)
        have HSM := Lib.hid hsm
        generalize (w0 :: rest)[k] = x at *
        have HP := Lib.hid P
        clear hst hno hrun hp P hsm hO hc hxl
        cases hq : addQ (L.map (·.1)) x with
        | none =>
          have HQ := Lib.hid hq
          have hpe := HNO.out hq
          clear hq
          go_wp2_with (go_at_call 34; (with_reducible refine HP.out.mono ?_); rintro e u2 ⟨v2, b, L2, rfl, hb2, ho2, _, hn2⟩; obtain rfl := hn2 HQ.out; obtain ⟨A2, c2, rfl, _⟩ := ho2.prog; have HPE := Lib.hid hpe; clear hn2 ho2 hpe)
          go_returns
          unfold ParQ
          rw [HPE.out]
          exact ⟨none, 0, rfl, ProgAt.nil _ _ _, Below.step hbu (hbr.trans hb2)⟩
        | some q =>
          have HQ := Lib.hid hq
          clear hq
          go_wp2_with (go_at_call 34; (with_reducible refine HP.out.mono ?_); rintro e u2 ⟨v2, b, L2, rfl, hb2, ho2, hs2, _⟩; obtain ⟨rfl, hm2⟩ := hs2 q HQ.out; obtain ⟨A2, c2, rfl, _⟩ := ho2.prog; have HO2 := Lib.hid ho2; have HM2 := Lib.hid hm2; clear hs2 ho2 hm2)
          go_round
          case rel =>
            obtain ⟨s1, s2⟩ := HSM.out q HQ.out
            rw [← HM2.out] at s1 s2
            refine ⟨k + 1, L2, by go_num, by omega, HO2.out, by rwa [List.length_map] at s1, fun y hy => s2 y.1 (List.mem_map.2 ⟨y, hy, rfl⟩), hbr.trans hb2, ?_⟩
            rw [HM2.out]
            exact HST.out q HQ.out
          case measure => simp [intOf]; omega
      · obtain rfl : k = rest.length := by omega
        rw [List.drop_of_length_le (by simp), runL_nil] at hrun
        have hpe := HE.out _ hrun
        have c0 : wr.cell? ⟨g, rest.length, none⟩ = some (.string ⟨((w0 :: rest)[rest.length]).toArray⟩) := (hbr.cell (p := ⟨g, rest.length, none⟩) hg2).trans (HCE.out rest.length (by simp))
        generalize (w0 :: rest)[rest.length] = x at *
        have hpl : (L.map (·.1)).length = L.length := List.length_map _
        have hsz : SizedP (L.map (·.1)) := ⟨by rw [hpl]; unfold maxLen; omega, fun f hf => by
          obtain ⟨y, hy, rfl⟩ := List.mem_map.1 hf
          have := hc y hy
          unfold maxLen
          omega⟩
        have PM := pmay_any cv wr hp hsz (Nat.le_refl _)
        rw [hpl] at PM
        have HP := Lib.hid hp
        have HPL := Lib.hid hpl
        have hwb := Below.step hbu hbr
        clear hrun hp hsz hpl hO hc
        by_cases hx : x = []
        · subst hx
          cases hm : mayP (L.map (·.1)) with
          | true =>
            rw [hm] at PM
            rw [if_pos ⟨rfl, hm⟩] at hpe
            have HPE := Lib.hid hpe
            clear hpe hm
            go_wp2_with (go_at_call 26; (with_reducible refine PM.mono ?_); rintro e u2 ⟨rfl, hb2⟩)
            go_returns
            unfold ParQ
            rw [HPE.out]
            exact ⟨Av, cv, by rw [HPL.out]; rfl, (HP.out.below hb2 (Nat.le_refl _)).more hb2.size, Below.step hwb hb2⟩
          | false =>
            rw [hm] at PM
            rw [if_neg (fun h => by rw [hm] at h; cases h.2)] at hpe
            have HPE := Lib.hid hpe
            clear hpe hm
            go_wp2_with (go_at_call 26; (with_reducible refine PM.mono ?_); rintro e u2 ⟨rfl, hb2⟩)
            go_returns
            unfold ParQ
            rw [HPE.out]
            exact ⟨none, 0, rfl, ProgAt.nil _ _ _, Below.step hwb hb2⟩
        · rw [if_neg (fun h => hx h.1)] at hpe
          have HPE := Lib.hid hpe
          have hne : (x == ([] : List UInt8)) = false := by simpa using hx
          clear hpe hx
          go_wp2_with fail
          go_returns
          unfold ParQ
          rw [HPE.out]
          exact ⟨none, 0, rfl, ProgAt.nil _ _ _, hwb⟩
end Go.Proofs.YtoeinpiekfmbgaaGreatDoor

/- Programs that may be have sizes. -/
namespace Go.Proofs.YtoeinpiekfmbgaaGreatDoor
set_option linter.unusedVariables false
set_option linter.unusedSimpArgs false
open Go.RowKit Go.ChangeShapes Go.WideShapes Go.ChangeAt Go.Sort

theorem may_sized {p : List Fun} (h : mayP p = true) : SizedP p := by
  obtain ⟨_, h2, h3⟩ := (mayP_iff p).1 h
  refine ⟨by unfold maxLen; omega, fun f hf => ?_⟩
  have := h3 f hf
  unfold mayF at this
  simp only [Bool.and_eq_true, decide_eq_true_eq] at this
  unfold maxLen
  omega
theorem nil_sized : SizedP [] := ⟨by simp, fun f hf => by simp at hf⟩
theorem parse_sized (l : List UInt8) : SizedP (parseP l).1 := by
  by_cases h : (parseP l).2.2 = 0
  · exact may_sized (text_parse h).1
  · rw [(parse_none h).1]
    exact nil_sized
end Go.Proofs.YtoeinpiekfmbgaaGreatDoor

/- Layer 9: the calls whose answers the document fixes. -/
namespace Go.Proofs.YtoeinpiekfmbgaaGreatDoor
set_option linter.unusedVariables false
set_option linter.unusedSimpArgs false
open Gm Go.RowKit Go.ChangeShapes Go.WideShapes Go.ChangeAt Go.Sort

/-- New, at every program. -/
theorem new_any {B : Nat} {A A2 : Option Addr} {p : List Fun} {args : List V} (c c2 : Nat) (fn s : Int) (w : World) (hT : TabB w B) (h : ProgAt w B A p) (hz : SizedP p) (ha : VAt w B A2 args) (hl : args.length ≤ 1000) (hB : B ≤ w.heap.size) :
    Calls Tryz.prog 11 #[.slice A p.length c, .int .i64 fn, .slice A2 args.length c2, .int .i64 s] w fun e w' => NewQ w (newF p fn args s) e w' := by
  by_cases hy : mayP p = true ∧ hasI p.length fn = true ∧ isZ s = true
  · exact new_yes c c2 fn s w hT h hz ha hl hB hy.1 hy.2.1 hy.2.2
  · exact new_no c c2 fn s w hT h hz hB hy
/-- What the calls of a program answer, from world U on, where it lies. -/
structure Cx (p : List Fun) (A : Option Addr) (n c : Nat) (U : World) : Prop where
  new : ∀ W fn args m s R A2 c2, Below U.heap.size U W → VAt W W.heap.size A2 args → args.length = m → m ≤ 1000 → newF p fn args s = R → Calls Tryz.prog 11 #[.slice A n c, .int .i64 fn, .slice A2 m c2, .int .i64 s] W fun e w' => NewQ W R e w'
  act : ∀ W F R cs, Below U.heap.size U W → FrmAt W W.heap.size (.agg cs) F → FrmLen F → doF p F = R → Calls Tryz.prog 69 #[.slice A n c, .agg cs] W fun e w' => DoQ W R e w'
  giv : ∀ W F R cs sl t re im, Below U.heap.size U W → FrmAt W W.heap.size (.agg cs) F → FrmLen F → giveF F sl t (re, im) = R → Calls Tryz.prog 71 #[.agg cs, .int .i64 sl, outv t re im] W fun e w' => GivQ W R e w'
theorem cx_of {p : List Fun} {A : Option Addr} {c : Nat} {U : World} (hT : TabB U U.heap.size) (hp : ProgAt U U.heap.size A p) (hz : SizedP p) : Cx p A p.length c U := by
  refine ⟨fun W fn args m s R A2 c2 hw ha hm hl e => ?_, fun W F R cs hw hf hl e => ?_, fun W F R cs sl t re im hw hf hl e => ?_⟩
  · subst hm
    rw [← e]
    exact new_any c c2 fn s W ((hT.below hw (Nat.le_refl _)).more hw.size) ((hp.below hw (Nat.le_refl _)).more hw.size) hz ha hl (Nat.le_refl _)
  · rw [← e]
    exact do_any c W ((hp.below hw (Nat.le_refl _)).more hw.size) hf (Nat.le_refl _) (Nat.le_refl _) ((hT.below hw (Nat.le_refl _)).more hw.size) hz hl
  · rw [← e]
    exact give_any sl t re im W hf (Nat.le_refl _) ((hT.below hw (Nat.le_refl _)).more hw.size) hl
end Go.Proofs.YtoeinpiekfmbgaaGreatDoor

/- Layer 10's code: an instruction of the last task. -/
namespace Go.Proofs.YtoeinpiekfmbgaaGreatDoor
set_option linter.unusedVariables false
set_option linter.unusedSimpArgs false
open Gm Go.RowKit Go.ChangeShapes Go.WideShapes Go.ChangeAt Go.Sort

/-- Cells of the last task's frame. -/
theorem RunS.cells {w : World} {B r : Nat} {pv : Value} {fuel used : Int} {l0 : List TskC} {x : TskC} {g n cap : Nat} (h : RunS w B r pv fuel used (.slice (some ⟨g, 0, none⟩) n cap) (l0 ++ [x])) : ∀ i u, x.cs[i]? = some u → w.cell? ⟨g, l0.length * 17 + i, none⟩ = some u := fun i u hu => by
  obtain ⟨g', cap', e, _, _, _, _, _, hr, _⟩ := h.last
  simp only [Value.slice.injEq, Option.some.injEq, Addr.mk.injEq, and_true, true_and] at e
  obtain ⟨rfl, _⟩ := e
  have hr' : ∀ j v, (x.cs.toList ++ [.int .i64 x.sl])[j]? = some v → w.cell? ⟨g, l0.length * 17 + j, none⟩ = some v := hr
  refine hr' i u ?_
  have hi : i < x.cs.toList.length := by have := (Array.getElem?_eq_some_iff.1 hu).1; simpa using this
  rw [List.getElem?_append_left hi]
  simpa using hu
set_option maxHeartbeats 4000000 in
set_option maxRecDepth 100000 in
theorem sdo_out {B r : Nat} {pv v : Value} {fuel : Int} {l : List TskC} (w : World) (h : RunS w B r pv fuel fuel v l) (hB : B ≤ w.heap.size) :
    Calls Tryz.prog 43 #[.pointer (some ⟨r, 0, none⟩)] w fun e w' => e = .panicked [{ v := .iface 33 (.int .i64 100), recovered := false }] ∧ KS B w w' := by
  have r1 := h.blk.cell 1
  have r2 := h.blk.cell 2
  have rl := h.rlt
  simp at r1 r2
  have HB := Lib.hid hB
  clear h hB
  go_enter Tryz.func43, Tryz.ntmps43
  go_upto_region 1 with fail
  go_region
  all_goals go_wp2_with fail
  all_goals exact ⟨rfl, rfl, KS.of (by go_grown) HB.out⟩
theorem KT.rowNew {w W : World} (h : KT w W) {k : Nat} (hk : w.heap.size ≤ k) (cs : Array Value) : KT w (W.setRow k cs) :=
  ⟨by simpa [World.setRow] using h.size, fun j o t fr e n1 n2 => (setRow_far W k cs j (by have := heap_lt e; omega)).trans (h.keep j o t fr e n1 n2)⟩
theorem RunS.rowFar {w : World} {B r : Nat} {pv v : Value} {fuel used : Int} {l : List TskC} (h : RunS w B r pv fuel used v l) {k : Nat} {t : TypeId} {old : Array Value} (hk : Held w k t old) (h1 : t ≠ 50) (h2 : t ≠ 119) (h3 : t ≠ 30) (h4 : t ≠ 75) (cs : Array Value) :
    RunS (w.setRow k cs) B r pv fuel used v l :=
  ⟨h.blk.row (held_ne h.blk hk (Ne.symm h1)) cs, h.ler, row_same h.row fun g e => setRow_far w k cs g (row_apart h.row hk h2 g e), fun x hx => ⟨(h.ok x hx).own.kb hk h3 h4 ((KB.of_below (Below.refl _ _) _).row cs), (h.ok x hx).fc, (h.ok x hx).bnd⟩⟩
theorem wrap64_nat {n : Nat} (h : n ≤ 1000000) : wrap64 (n : Int) = n := by unfold wrap64; omega
theorem i64_nat {n : Nat} (h : n ≤ 1000000) : IntKind.i64.wrap (n : Int) = n := by simp [IntKind.wrap, IntKind.bits, IntKind.signed]; omega
/-- What the region reads, wherever memory was made. -/
theorem keepD {W1 W : World} {B r np c g n cap : Nat} {A A1 A2 A3 : Option Addr} {c1 c2 c3 : Nat} {fuel used sl : Int} {l0 : List TskC} {f : Frm} (h : RunS W1 B r (.slice A np c) fuel used (.slice (some ⟨g, 0, none⟩) (n + 1) cap) (l0 ++ [⟨#[.int .i64 f.fn, .int .i64 f.pc, .slice A1 f.stk.length c1, .slice A2 f.loc.length c2, .slice A3 f.slt.length c3, .int .i64 f.seed, .int .i64 f.spn, .int .i64 f.drw, .int .i64 f.st, .int .i64 f.wt, .int .i64 f.otr, .int .i64 f.ore, .int .i64 f.oim, .int .i64 f.uat, .int .i64 f.ugn, .int .i64 f.usl], f, sl⟩])) (hn : l0.length = n) (hb : Below W1.heap.size W1 W) :
    W.cell? ⟨r, 0, none⟩ = some (.slice A np c) ∧ W.cell? ⟨g, n * 17, none⟩ = some (.int .i64 f.fn) ∧ W.cell? ⟨g, n * 17 + 1, none⟩ = some (.int .i64 f.pc) ∧ W.cell? ⟨g, n * 17 + 2, none⟩ = some (.slice A1 f.stk.length c1) ∧ W.cell? ⟨g, n * 17 + 3, none⟩ = some (.slice A2 f.loc.length c2) ∧ W.cell? ⟨g, n * 17 + 4, none⟩ = some (.slice A3 f.slt.length c3) ∧ W.cell? ⟨g, n * 17 + 5, none⟩ = some (.int .i64 f.seed) ∧ W.cell? ⟨g, n * 17 + 6, none⟩ = some (.int .i64 f.spn) ∧ W.cell? ⟨g, n * 17 + 7, none⟩ = some (.int .i64 f.drw) ∧ W.cell? ⟨g, n * 17 + 8, none⟩ = some (.int .i64 f.st) ∧ W.cell? ⟨g, n * 17 + 9, none⟩ = some (.int .i64 f.wt) ∧ W.cell? ⟨g, n * 17 + 10, none⟩ = some (.int .i64 f.otr) ∧ W.cell? ⟨g, n * 17 + 11, none⟩ = some (.int .i64 f.ore) ∧ W.cell? ⟨g, n * 17 + 12, none⟩ = some (.int .i64 f.oim) ∧ W.cell? ⟨g, n * 17 + 13, none⟩ = some (.int .i64 f.uat) ∧ W.cell? ⟨g, n * 17 + 14, none⟩ = some (.int .i64 f.ugn) ∧ W.cell? ⟨g, n * 17 + 15, none⟩ = some (.int .i64 f.usl) := by
  subst hn
  have h2 := h.below hb
  have k := h2.cells
  exact ⟨h2.blk.cell 0, k 0 _ rfl, k 1 _ rfl, k 2 _ rfl, k 3 _ rfl, k 4 _ rfl, k 5 _ rfl, k 6 _ rfl, k 7 _ rfl, k 8 _ rfl, k 9 _ rfl, k 10 _ rfl, k 11 _ rfl, k 12 _ rfl, k 13 _ rfl, k 14 _ rfl, k 15 _ rfl⟩
/-- What it leaves: the frame and the act in variables of its own. -/
def MidDS (W1 : World) (R : Frm × ActP) (v4 v5 : Value) (wx : World) : Prop := ∃ g4 g5 cs c1, v4 = .pointer (some ⟨g4, 0, none⟩) ∧ v5 = .pointer (some ⟨g5, 0, none⟩) ∧ Held wx g4 45 cs ∧ FC cs R.1 ∧ OwnF wx 0 (.agg cs) R.1 ∧ Held wx g5 77 c1 ∧ AC c1 R.2 ∧ ActO wx 0 (.agg c1) R.2 ∧ Below W1.heap.size W1 wx
set_option maxHeartbeats 8000000 in
set_option maxRecDepth 100000 in
theorem sdo_in {B r np c : Nat} {A : Option Addr} {p : List Fun} {U : World} {v : Value} {fuel used : Int} {l0 : List TskC} {x : TskC} (w : World) (CX : Cx p A np c U) (hU : Below U.heap.size U w) (hUB : U.heap.size ≤ B) (h : RunS w B r (.slice A np c) fuel used v (l0 ++ [x])) (hl : l0.length ≤ 1000000) (hB : B ≤ w.heap.size) (hu0 : 0 ≤ used) (hu : used < fuel) (hf : fuel ≤ 100000) :
    Calls Tryz.prog 43 #[.pointer (some ⟨r, 0, none⟩)] w fun e w' => ∃ av cs', e = .returned av ∧ ActO w' 0 av (doF p x.f).2 ∧ RunS w' B r (.slice A np c) fuel (used + 1) v (l0 ++ [⟨cs', (doF p x.f).1, x.sl⟩]) ∧ KS B w w' := by
  obtain ⟨g, cap, rfl, hnc, hcm, hBg, hgl, hgr, _, _, _⟩ := h.last
  have r0 := h.blk.cell 0
  have r1 := h.blk.cell 1
  have r2 := h.blk.cell 2
  have r3 := h.blk.cell 3
  have z2 := h.blk.fz 2
  have rl := h.rlt
  simp at r0 r1 r2 r3
  obtain ⟨xcs, f, sl⟩ := x
  obtain ⟨s, lo, o, e, o1, o2, o3⟩ := (h.ok ⟨xcs, f, sl⟩ (by simp)).own
  obtain ⟨A1, c1, rfl, _⟩ := o1.lies
  obtain ⟨A2, c2, rfl, _⟩ := o2.lies
  obtain ⟨A3, c3, rfl, _⟩ := o3.lies
  simp only [Value.agg.injEq] at e
  subst e
  clear o1 o2 o3
  have HH := Lib.hid h
  have HB := Lib.hid hB
  have HU := Lib.hid hU
  have HCX := Lib.hid CX
  have HL := Lib.hid hl
  have hne : (used == fuel) = false := by simp; omega
  have hadd : wrap64 (used + 1) = used + 1 := by unfold wrap64; omega
  generalize hn : l0.length = n at *
  have HN := Lib.hid hn
  have hw1 : wrap64 (n : Int) = n := wrap64_nat hl
  have hw2 := i64_nat hl
  have hlow : (((n + 1 : Nat) : Int) - 1) = (n : Int) := by omega
  have hcapn : (n : Int) < ((n + 1 : Nat) : Int) := by omega
  clear h hB CX hU hn hl hu0 hu hf hnc hcm
  go_enter Tryz.func43, Tryz.ntmps43
  go_upto_region 1 with fail
  go_region
  go_upto_region 4 with fail
  go_region
  go_upto_region 5 with fail
  have hU1 := HH.out.use (used + 1)
  have hUs : (w.setCell ⟨r, 2, none⟩ (.int .i64 (used + 1))).heap.size = w.heap.size := by simp [World.setCell]
  have hUb : Below (w.setCell ⟨r, 2, none⟩ (.int .i64 (used + 1))).heap.size (w.setCell ⟨r, 2, none⟩ (.int .i64 (used + 1))) ((w.setCell ⟨r, 2, none⟩ (.int .i64 (used + 1))).alloc (.cells az0 77)).drew.drew := ((Below.refl _ _).alloc (Nat.le_refl _) _).drew.drew
  have hK1 : KS B w ((w.setCell ⟨r, 2, none⟩ (.int .i64 (used + 1))).alloc (.cells az0 77)).drew.drew :=
    (show KS B w (w.setCell ⟨r, 2, none⟩ (.int .i64 (used + 1))) from ⟨Below.setCell (p := ⟨r, 2, none⟩) (Below.refl _ _) HH.out.ler _, KT.cell HH.out.blk (.inl rfl) _ _⟩).trans (KS.of hUb (by rw [hUs]; exact HB.out))
  have hR1 : RunS ((w.setCell ⟨r, 2, none⟩ (.int .i64 (used + 1))).alloc (.cells az0 77)).drew.drew B r (.slice A np c) fuel (used + 1) (.slice (some ⟨g, 0, none⟩) (n + 1) cap) (l0 ++ [⟨#[.int .i64 f.fn, .int .i64 f.pc, .slice A1 f.stk.length c1, .slice A2 f.loc.length c2, .slice A3 f.slt.length c3, .int .i64 f.seed, .int .i64 f.spn, .int .i64 f.drw, .int .i64 f.st, .int .i64 f.wt, .int .i64 f.otr, .int .i64 f.ore, .int .i64 f.oim, .int .i64 f.uat, .int .i64 f.ugn, .int .i64 f.usl], f, sl⟩]) := hU1.below hUb
  have hZ1 : Held ((w.setCell ⟨r, 2, none⟩ (.int .i64 (used + 1))).alloc (.cells az0 77)).drew.drew w.heap.size 77 az0 := by have hq : Held ((w.setCell ⟨r, 2, none⟩ (.int .i64 (used + 1))).alloc (.cells az0 77)).drew.drew (w.setCell ⟨r, 2, none⟩ (.int .i64 (used + 1))).heap.size 77 az0 := Held.new (w.setCell ⟨r, 2, none⟩ (.int .i64 (used + 1))) 77 az0; rwa [hUs] at hq
  clear hU1 hUb hUs
  generalize hW1 : ((w.setCell ⟨r, 2, none⟩ (.int .i64 (used + 1))).alloc (.cells az0 77)).drew.drew = W1 at *
  have H1 := Lib.hid hR1
  have K1 := Lib.hid hK1
  have Z1 := Lib.hid hZ1
  have DO : ∀ W, Below W1.heap.size W1 W → Hid (Calls Tryz.prog 69 #[.slice A np c, .agg #[.int .i64 f.fn, .int .i64 f.pc, .slice A1 f.stk.length c1, .slice A2 f.loc.length c2, .slice A3 f.slt.length c3, .int .i64 f.seed, .int .i64 f.spn, .int .i64 f.drw, .int .i64 f.st, .int .i64 f.wt, .int .i64 f.otr, .int .i64 f.ore, .int .i64 f.oim, .int .i64 f.uat, .int .i64 f.ugn, .int .i64 f.usl]] W fun e w' => DoQ W (doF p f) e w') := fun W hb => by
    have hx := (H1.out.below hb).ok ⟨#[.int .i64 f.fn, .int .i64 f.pc, .slice A1 f.stk.length c1, .slice A2 f.loc.length c2, .slice A3 f.slt.length c3, .int .i64 f.seed, .int .i64 f.spn, .int .i64 f.drw, .int .i64 f.st, .int .i64 f.wt, .int .i64 f.otr, .int .i64 f.ore, .int .i64 f.oim, .int .i64 f.uat, .int .i64 f.ugn, .int .i64 f.usl], f, sl⟩ (by simp)
    exact Lib.hid (HCX.out.act W f _ _ ((HU.out.trans (K1.out.below.mono hUB)).trans (hb.mono (Nat.le_trans hUB (Nat.le_trans HB.out K1.out.kt.size)))) hx.own.at hx.bnd.len rfl)
  have hq0 := keepD H1.out HN.out (Below.refl W1.heap.size W1)
  have HBD := Lib.hid (Bnd.do (p := p) (H1.out.ok ⟨#[.int .i64 f.fn, .int .i64 f.pc, .slice A1 f.stk.length c1, .slice A2 f.loc.length c2, .slice A3 f.slt.length c3, .int .i64 f.seed, .int .i64 f.spn, .int .i64 f.drw, .int .i64 f.st, .int .i64 f.wt, .int .i64 f.otr, .int .i64 f.ore, .int .i64 f.oim, .int .i64 f.uat, .int .i64 f.ugn, .int .i64 f.usl], f, sl⟩ (by simp)).bnd).1
  generalize hRR : doF p f = R at *
  have HRR := Lib.hid hRR
  clear hW1 hRR hK1 hR1 hZ1 r0 r1 r2 r3 z2
  go_cut [4, 5] (fun v4 v5 wx => MidDS W1 R v4 v5 wx)
  case first =>
    refine wp_region_held_drew (S := fun W => Below W1.heap.size W1 W) (by kernel_rfl) (Below.refl _ _).drew (fun hb0 => ?_)
    generalize W1.drew = W2 at hb0 ⊢
    show wpAnyH _ _ _ _ _ 16 #[false, false, false, false, false, false, false, false, false, false, false, false, false, false, false, false] _ _
    refine wpAnyH_take (i := 0) (v := .pointer (some ⟨r, 0, none⟩)) rfl (by kernel_rfl) (by kernel_rfl) (by kernel_rfl) (fun _ _ _ h => h) (Or.inl ⟨by rfl, fun W hW => ?_⟩) hb0 ?_
    · go_simp
    simp only [Act.put, List.getElem_toArray, List.getElem_cons_succ, List.getElem_cons_zero, List.setIfInBounds_toArray, List.set_cons_zero, List.set_cons_succ]
    refine wpAnyH_take (i := 1) (v := .pointer (some ⟨r, 0, none⟩)) rfl (by kernel_rfl) (by kernel_rfl) (by kernel_rfl) (fun _ _ _ h => h) (Or.inl ⟨by rfl, fun W hW => ?_⟩) hb0 ?_
    · go_simp
    simp only [Act.put, List.getElem_toArray, List.getElem_cons_succ, List.getElem_cons_zero, List.setIfInBounds_toArray, List.set_cons_zero, List.set_cons_succ]
    refine wpAnyH_take (i := 2) (v := .pointer (some ⟨r, 0, none⟩)) rfl (by kernel_rfl) (by kernel_rfl) (by kernel_rfl) (fun _ _ _ h => h) (Or.inl ⟨by rfl, fun W hW => ?_⟩) hb0 ?_
    · go_simp
    simp only [Act.put, List.getElem_toArray, List.getElem_cons_succ, List.getElem_cons_zero, List.setIfInBounds_toArray, List.set_cons_zero, List.set_cons_succ]
    refine wpAnyH_take (i := 3) (v := .slice A np c) rfl (by kernel_rfl) (by kernel_rfl) (by kernel_rfl) (fun _ _ _ h => h) (Or.inl ⟨by rfl, fun W hW => ?_⟩) hb0 ?_
    · (obtain ⟨q, q0, q1, q2, q3, q4, q5, q6, q7, q8, q9, q10, q11, q12, q13, q14, q15⟩ := keepD H1.out HN.out hW; go_simp)
    simp only [Act.put, List.getElem_toArray, List.getElem_cons_succ, List.getElem_cons_zero, List.setIfInBounds_toArray, List.set_cons_zero, List.set_cons_succ]
    refine wpAnyH_take (i := 4) (v := .pointer (some ⟨g, n * 17, none⟩)) rfl (by kernel_rfl) (by kernel_rfl) (by kernel_rfl) (fun _ _ _ h => h) (Or.inl ⟨by rfl, fun W hW => ?_⟩) hb0 ?_
    · go_simp
    simp only [Act.put, List.getElem_toArray, List.getElem_cons_succ, List.getElem_cons_zero, List.setIfInBounds_toArray, List.set_cons_zero, List.set_cons_succ]
    refine wpAnyH_take (i := 5) (v := .pointer (some ⟨g, n * 17, none⟩)) rfl (by kernel_rfl) (by kernel_rfl) (by kernel_rfl) (fun _ _ _ h => h) (Or.inl ⟨by rfl, fun W hW => ?_⟩) hb0 ?_
    · go_simp
    simp only [Act.put, List.getElem_toArray, List.getElem_cons_succ, List.getElem_cons_zero, List.setIfInBounds_toArray, List.set_cons_zero, List.set_cons_succ]
    refine wpAnyH_take (i := 6) (v := .pointer (some ⟨g, n * 17, none⟩)) rfl (by kernel_rfl) (by kernel_rfl) (by kernel_rfl) (fun _ _ _ h => h) (Or.inl ⟨by rfl, fun W hW => ?_⟩) hb0 ?_
    · go_simp
    simp only [Act.put, List.getElem_toArray, List.getElem_cons_succ, List.getElem_cons_zero, List.setIfInBounds_toArray, List.set_cons_zero, List.set_cons_succ]
    refine wpAnyH_take (i := 7) (v := .agg #[.int .i64 f.fn, .int .i64 f.pc, .slice A1 f.stk.length c1, .slice A2 f.loc.length c2, .slice A3 f.slt.length c3, .int .i64 f.seed, .int .i64 f.spn, .int .i64 f.drw, .int .i64 f.st, .int .i64 f.wt, .int .i64 f.otr, .int .i64 f.ore, .int .i64 f.oim, .int .i64 f.uat, .int .i64 f.ugn, .int .i64 f.usl]) rfl (by kernel_rfl) (by kernel_rfl) (by kernel_rfl) (fun _ _ _ h => h) (Or.inl ⟨by rfl, fun W hW => ?_⟩) hb0 ?_
    · (obtain ⟨q, q0, q1, q2, q3, q4, q5, q6, q7, q8, q9, q10, q11, q12, q13, q14, q15⟩ := keepD H1.out HN.out hW; go_simp)
    simp only [Act.put, List.getElem_toArray, List.getElem_cons_succ, List.getElem_cons_zero, List.setIfInBounds_toArray, List.set_cons_zero, List.set_cons_succ]
    refine wpAnyH_ready (rs := [8, 12, 13]) (by kernel_rfl) (by simp) ?_
    refine (AllReadyH.cons rfl (fun K hK => ?_) (AllReadyH.cons rfl (fun K hK => ?_) (AllReadyH.cons rfl (fun K hK => ?_) AllReadyH.nil)))
    · go_simp
      go_at_call 69
      (with_reducible refine (DO _ hb0).out.mono ?_)
      rintro _ u ⟨v', av, rfl, ho, ha, hbu⟩
      have ho1 := OwnF.mono ho (Nat.zero_le _)
      have ha1 := ActO.mono ha (Nat.zero_le _)
      clear ho ha
      have hb1 := Below.step hb0 hbu
      obtain ⟨cs', rfl, hfc⟩ := ho1.cells
      obtain ⟨cs2, rfl, hac⟩ := ha1.cells
      (try go_wp2_with fail)
      refine hK.out _ _ hb1 (fun _ => ?_)
      clear hK K
      (try simp only [Act.put, List.getElem_toArray, List.getElem_cons_succ, List.getElem_cons_zero, List.setIfInBounds_toArray, List.set_cons_zero, List.set_cons_succ])
      refine wpAnyH_take (i := 9) (v := .tuple #[.agg cs', .agg cs2]) rfl (by kernel_rfl) (by kernel_rfl) (by kernel_rfl) (fun _ _ _ h => h) (Or.inl ⟨by rfl, fun W hW => ?_⟩) hb1 ?_
      · go_simp
      simp only [Act.put, List.getElem_toArray, List.getElem_cons_succ, List.getElem_cons_zero, List.setIfInBounds_toArray, List.set_cons_zero, List.set_cons_succ]
      refine wpAnyH_take (i := 10) (v := .agg cs') rfl (by kernel_rfl) (by kernel_rfl) (by kernel_rfl) (fun _ _ _ h => h) (Or.inl ⟨by rfl, fun W hW => ?_⟩) hb1 ?_
      · go_simp
      simp only [Act.put, List.getElem_toArray, List.getElem_cons_succ, List.getElem_cons_zero, List.setIfInBounds_toArray, List.set_cons_zero, List.set_cons_succ]
      refine wpAnyH_take (i := 11) (v := .agg cs2) rfl (by kernel_rfl) (by kernel_rfl) (by kernel_rfl) (fun _ _ _ h => h) (Or.inl ⟨by rfl, fun W hW => ?_⟩) hb1 ?_
      · go_simp
      simp only [Act.put, List.getElem_toArray, List.getElem_cons_succ, List.getElem_cons_zero, List.setIfInBounds_toArray, List.set_cons_zero, List.set_cons_succ]
      refine wpAnyH_ready (rs := [12, 13]) (by kernel_rfl) (by simp) ?_
      refine (AllReadyH.cons rfl (fun K hK => ?_) (AllReadyH.cons rfl (fun K hK => ?_) AllReadyH.nil))
      · rw [if_pos (by rfl)]
        refine wp_alloc_arr 45 rfl fz0 (by kernel_rfl) ?_
        have hb2 := below_allocz hb1 (.cells fz0 45)
        have l4 := Below.size hb1
        have f42 : Held (u.alloc (.cells fz0 45)) _ 45 fz0 := Held.new _ _ _
        have ho2 := OwnF.alloc ho1 (.cells fz0 45)
        have ha2 := ActO.alloc ha1 (.cells fz0 45)
        refine hK.out _ _ hb2 (fun _ => ?_)
        clear hK K
        simp only [Act.put, List.getElem_toArray, List.getElem_cons_succ, List.getElem_cons_zero, List.setIfInBounds_toArray, List.set_cons_zero, List.set_cons_succ]
        refine wpAnyH_ready (rs := [13]) (by kernel_rfl) (by simp) ?_
        refine (AllReadyH.cons rfl (fun K hK => ?_) AllReadyH.nil)
        · rw [if_pos (by rfl)]
          refine wp_alloc_arr 77 rfl az0 (by kernel_rfl) ?_
          have hb3 := below_allocz hb2 (.cells az0 77)
          have l5 : W1.heap.size ≤ u.heap.size + 1 := by have := Below.size hb2; simpa using this
          have f43 := Held.alloc f42 (.cells az0 77)
          have f53 : Held ((u.alloc (.cells fz0 45)).alloc (.cells az0 77)) (u.heap.size + 1) 77 az0 := Held.new1 _ _ _ _
          rw [size_alloc1]
          have ho3 := OwnF.alloc ho2 (.cells az0 77)
          have ha3 := ActO.alloc ha2 (.cells az0 77)
          refine hK.out _ _ hb3 (fun _ => ?_)
          clear hK K
          simp only [Act.put, List.getElem_toArray, List.getElem_cons_succ, List.getElem_cons_zero, List.setIfInBounds_toArray, List.set_cons_zero, List.set_cons_succ]
          have st2 := stored_two f43 f53 ho3 ha3 hb3 l4 l5
          have hne := held_ne f43 f53 (by decide)
          refine wpAnyH_ready (rs := [14]) (by kernel_rfl) (by simp) ?_
          refine (AllReadyH.cons rfl (fun K hK => ?_) AllReadyH.nil)
          rw [if_pos (by rfl)]
          refine wp_store_row 45 _ _ rfl _ cs' (by rfl) (by rfl) _ _ f43 (fb_info hfc) (by rw [hfc.size]; rfl) hfc.one ?_
          have hbs := below_rowz hb3 l4 cs'
          have f5s := Held.row f53 (Ne.symm hne) cs'
          refine hK.out _ _ hbs (fun _ => ?_)
          clear hK K
          simp only [Act.put, List.getElem_toArray, List.getElem_cons_succ, List.getElem_cons_zero, List.setIfInBounds_toArray, List.set_cons_zero, List.set_cons_succ]
          refine wpAnyH_ready (rs := [15]) (by kernel_rfl) (by simp) ?_
          refine (AllReadyH.cons rfl (fun K hK => ?_) AllReadyH.nil)
          rw [if_pos (by rfl)]
          refine wp_store_row 77 _ _ rfl _ cs2 (by rfl) (by rfl) _ _ f5s (ab_info hac) (by rw [hac.size]; rfl) hac.one ?_
          refine hK.out _ _ (below_rowz hbs l5 cs2) (fun _ => ?_)
          clear hK K
          simp only [Act.put, List.getElem_toArray, List.getElem_cons_succ, List.getElem_cons_zero, List.setIfInBounds_toArray, List.set_cons_zero, List.set_cons_succ]
          refine wpAnyH_done (by kernel_rfl) ?_ _
          go_wp2_with fail
          go_meet
          case rel => exact ⟨_, _, cs', cs2, rfl, rfl, st2.1, hfc, st2.2.1, st2.2.2.1, hac, st2.2.2.2.1, st2.2.2.2.2⟩
      · rw [if_pos (by rfl)]
        refine wp_alloc_arr 77 rfl az0 (by kernel_rfl) ?_
        have hb2 := below_allocz hb1 (.cells az0 77)
        have l5 := Below.size hb1
        have f52 : Held (u.alloc (.cells az0 77)) _ 77 az0 := Held.new _ _ _
        have ho2 := OwnF.alloc ho1 (.cells az0 77)
        have ha2 := ActO.alloc ha1 (.cells az0 77)
        refine hK.out _ _ hb2 (fun _ => ?_)
        clear hK K
        simp only [Act.put, List.getElem_toArray, List.getElem_cons_succ, List.getElem_cons_zero, List.setIfInBounds_toArray, List.set_cons_zero, List.set_cons_succ]
        refine wpAnyH_ready (rs := [12]) (by kernel_rfl) (by simp) ?_
        refine (AllReadyH.cons rfl (fun K hK => ?_) AllReadyH.nil)
        · rw [if_pos (by rfl)]
          refine wp_alloc_arr 45 rfl fz0 (by kernel_rfl) ?_
          have hb3 := below_allocz hb2 (.cells fz0 45)
          have l4 : W1.heap.size ≤ u.heap.size + 1 := by have := Below.size hb2; simpa using this
          have f53 := Held.alloc f52 (.cells fz0 45)
          have f43 : Held ((u.alloc (.cells az0 77)).alloc (.cells fz0 45)) (u.heap.size + 1) 45 fz0 := Held.new1 _ _ _ _
          rw [size_alloc1]
          have ho3 := OwnF.alloc ho2 (.cells fz0 45)
          have ha3 := ActO.alloc ha2 (.cells fz0 45)
          refine hK.out _ _ hb3 (fun _ => ?_)
          clear hK K
          simp only [Act.put, List.getElem_toArray, List.getElem_cons_succ, List.getElem_cons_zero, List.setIfInBounds_toArray, List.set_cons_zero, List.set_cons_succ]
          have st2 := stored_two f43 f53 ho3 ha3 hb3 l4 l5
          have hne := held_ne f43 f53 (by decide)
          refine wpAnyH_ready (rs := [14]) (by kernel_rfl) (by simp) ?_
          refine (AllReadyH.cons rfl (fun K hK => ?_) AllReadyH.nil)
          rw [if_pos (by rfl)]
          refine wp_store_row 45 _ _ rfl _ cs' (by rfl) (by rfl) _ _ f43 (fb_info hfc) (by rw [hfc.size]; rfl) hfc.one ?_
          have hbs := below_rowz hb3 l4 cs'
          have f5s := Held.row f53 (Ne.symm hne) cs'
          refine hK.out _ _ hbs (fun _ => ?_)
          clear hK K
          simp only [Act.put, List.getElem_toArray, List.getElem_cons_succ, List.getElem_cons_zero, List.setIfInBounds_toArray, List.set_cons_zero, List.set_cons_succ]
          refine wpAnyH_ready (rs := [15]) (by kernel_rfl) (by simp) ?_
          refine (AllReadyH.cons rfl (fun K hK => ?_) AllReadyH.nil)
          rw [if_pos (by rfl)]
          refine wp_store_row 77 _ _ rfl _ cs2 (by rfl) (by rfl) _ _ f5s (ab_info hac) (by rw [hac.size]; rfl) hac.one ?_
          refine hK.out _ _ (below_rowz hbs l5 cs2) (fun _ => ?_)
          clear hK K
          simp only [Act.put, List.getElem_toArray, List.getElem_cons_succ, List.getElem_cons_zero, List.setIfInBounds_toArray, List.set_cons_zero, List.set_cons_succ]
          refine wpAnyH_done (by kernel_rfl) ?_ _
          go_wp2_with fail
          go_meet
          case rel => exact ⟨_, _, cs', cs2, rfl, rfl, st2.1, hfc, st2.2.1, st2.2.2.1, hac, st2.2.2.2.1, st2.2.2.2.2⟩
    · rw [if_pos (by rfl)]
      refine wp_alloc_arr 45 rfl fz0 (by kernel_rfl) ?_
      have hb1 := below_allocz hb0 (.cells fz0 45)
      have l4 := Below.size hb0
      have f41 : Held (W2.alloc (.cells fz0 45)) _ 45 fz0 := Held.new _ _ _
      refine hK.out _ _ hb1 (fun _ => ?_)
      clear hK K
      simp only [Act.put, List.getElem_toArray, List.getElem_cons_succ, List.getElem_cons_zero, List.setIfInBounds_toArray, List.set_cons_zero, List.set_cons_succ]
      refine wpAnyH_ready (rs := [8, 13]) (by kernel_rfl) (by simp) ?_
      refine (AllReadyH.cons rfl (fun K hK => ?_) (AllReadyH.cons rfl (fun K hK => ?_) AllReadyH.nil))
      · go_simp
        go_at_call 69
        (with_reducible refine (DO _ hb1).out.mono ?_)
        rintro _ u ⟨v', av, rfl, ho, ha, hbu⟩
        have ho2 := OwnF.mono ho (Nat.zero_le _)
        have ha2 := ActO.mono ha (Nat.zero_le _)
        clear ho ha
        have hb2 := Below.step hb1 hbu
        have f42 := Held.below f41 hbu
        obtain ⟨cs', rfl, hfc⟩ := ho2.cells
        obtain ⟨cs2, rfl, hac⟩ := ha2.cells
        (try go_wp2_with fail)
        refine hK.out _ _ hb2 (fun _ => ?_)
        clear hK K
        (try simp only [Act.put, List.getElem_toArray, List.getElem_cons_succ, List.getElem_cons_zero, List.setIfInBounds_toArray, List.set_cons_zero, List.set_cons_succ])
        refine wpAnyH_take (i := 9) (v := .tuple #[.agg cs', .agg cs2]) rfl (by kernel_rfl) (by kernel_rfl) (by kernel_rfl) (fun _ _ _ h => h) (Or.inl ⟨by rfl, fun W hW => ?_⟩) hb2 ?_
        · go_simp
        simp only [Act.put, List.getElem_toArray, List.getElem_cons_succ, List.getElem_cons_zero, List.setIfInBounds_toArray, List.set_cons_zero, List.set_cons_succ]
        refine wpAnyH_take (i := 10) (v := .agg cs') rfl (by kernel_rfl) (by kernel_rfl) (by kernel_rfl) (fun _ _ _ h => h) (Or.inl ⟨by rfl, fun W hW => ?_⟩) hb2 ?_
        · go_simp
        simp only [Act.put, List.getElem_toArray, List.getElem_cons_succ, List.getElem_cons_zero, List.setIfInBounds_toArray, List.set_cons_zero, List.set_cons_succ]
        refine wpAnyH_take (i := 11) (v := .agg cs2) rfl (by kernel_rfl) (by kernel_rfl) (by kernel_rfl) (fun _ _ _ h => h) (Or.inl ⟨by rfl, fun W hW => ?_⟩) hb2 ?_
        · go_simp
        simp only [Act.put, List.getElem_toArray, List.getElem_cons_succ, List.getElem_cons_zero, List.setIfInBounds_toArray, List.set_cons_zero, List.set_cons_succ]
        refine wpAnyH_ready (rs := [13]) (by kernel_rfl) (by simp) ?_
        refine (AllReadyH.cons rfl (fun K hK => ?_) AllReadyH.nil)
        · rw [if_pos (by rfl)]
          refine wp_alloc_arr 77 rfl az0 (by kernel_rfl) ?_
          have hb3 := below_allocz hb2 (.cells az0 77)
          have l5 := Below.size hb2
          have f43 := Held.alloc f42 (.cells az0 77)
          have f53 : Held (u.alloc (.cells az0 77)) _ 77 az0 := Held.new _ _ _
          have ho3 := OwnF.alloc ho2 (.cells az0 77)
          have ha3 := ActO.alloc ha2 (.cells az0 77)
          refine hK.out _ _ hb3 (fun _ => ?_)
          clear hK K
          simp only [Act.put, List.getElem_toArray, List.getElem_cons_succ, List.getElem_cons_zero, List.setIfInBounds_toArray, List.set_cons_zero, List.set_cons_succ]
          have st2 := stored_two f43 f53 ho3 ha3 hb3 l4 l5
          have hne := held_ne f43 f53 (by decide)
          refine wpAnyH_ready (rs := [14]) (by kernel_rfl) (by simp) ?_
          refine (AllReadyH.cons rfl (fun K hK => ?_) AllReadyH.nil)
          rw [if_pos (by rfl)]
          refine wp_store_row 45 _ _ rfl _ cs' (by rfl) (by rfl) _ _ f43 (fb_info hfc) (by rw [hfc.size]; rfl) hfc.one ?_
          have hbs := below_rowz hb3 l4 cs'
          have f5s := Held.row f53 (Ne.symm hne) cs'
          refine hK.out _ _ hbs (fun _ => ?_)
          clear hK K
          simp only [Act.put, List.getElem_toArray, List.getElem_cons_succ, List.getElem_cons_zero, List.setIfInBounds_toArray, List.set_cons_zero, List.set_cons_succ]
          refine wpAnyH_ready (rs := [15]) (by kernel_rfl) (by simp) ?_
          refine (AllReadyH.cons rfl (fun K hK => ?_) AllReadyH.nil)
          rw [if_pos (by rfl)]
          refine wp_store_row 77 _ _ rfl _ cs2 (by rfl) (by rfl) _ _ f5s (ab_info hac) (by rw [hac.size]; rfl) hac.one ?_
          refine hK.out _ _ (below_rowz hbs l5 cs2) (fun _ => ?_)
          clear hK K
          simp only [Act.put, List.getElem_toArray, List.getElem_cons_succ, List.getElem_cons_zero, List.setIfInBounds_toArray, List.set_cons_zero, List.set_cons_succ]
          refine wpAnyH_done (by kernel_rfl) ?_ _
          go_wp2_with fail
          go_meet
          case rel => exact ⟨_, _, cs', cs2, rfl, rfl, st2.1, hfc, st2.2.1, st2.2.2.1, hac, st2.2.2.2.1, st2.2.2.2.2⟩
      · rw [if_pos (by rfl)]
        refine wp_alloc_arr 77 rfl az0 (by kernel_rfl) ?_
        have hb2 := below_allocz hb1 (.cells az0 77)
        have l5 : W1.heap.size ≤ W2.heap.size + 1 := by have := Below.size hb1; simpa using this
        have f42 := Held.alloc f41 (.cells az0 77)
        have f52 : Held ((W2.alloc (.cells fz0 45)).alloc (.cells az0 77)) (W2.heap.size + 1) 77 az0 := Held.new1 _ _ _ _
        rw [size_alloc1]
        refine hK.out _ _ hb2 (fun _ => ?_)
        clear hK K
        simp only [Act.put, List.getElem_toArray, List.getElem_cons_succ, List.getElem_cons_zero, List.setIfInBounds_toArray, List.set_cons_zero, List.set_cons_succ]
        refine wpAnyH_ready (rs := [8]) (by kernel_rfl) (by simp) ?_
        refine (AllReadyH.cons rfl (fun K hK => ?_) AllReadyH.nil)
        · go_simp
          go_at_call 69
          (with_reducible refine (DO _ hb2).out.mono ?_)
          rintro _ u ⟨v', av, rfl, ho, ha, hbu⟩
          have ho3 := OwnF.mono ho (Nat.zero_le _)
          have ha3 := ActO.mono ha (Nat.zero_le _)
          clear ho ha
          have hb3 := Below.step hb2 hbu
          have f43 := Held.below f42 hbu
          have f53 := Held.below f52 hbu
          obtain ⟨cs', rfl, hfc⟩ := ho3.cells
          obtain ⟨cs2, rfl, hac⟩ := ha3.cells
          (try go_wp2_with fail)
          refine hK.out _ _ hb3 (fun _ => ?_)
          clear hK K
          (try simp only [Act.put, List.getElem_toArray, List.getElem_cons_succ, List.getElem_cons_zero, List.setIfInBounds_toArray, List.set_cons_zero, List.set_cons_succ])
          refine wpAnyH_take (i := 9) (v := .tuple #[.agg cs', .agg cs2]) rfl (by kernel_rfl) (by kernel_rfl) (by kernel_rfl) (fun _ _ _ h => h) (Or.inl ⟨by rfl, fun W hW => ?_⟩) hb3 ?_
          · go_simp
          simp only [Act.put, List.getElem_toArray, List.getElem_cons_succ, List.getElem_cons_zero, List.setIfInBounds_toArray, List.set_cons_zero, List.set_cons_succ]
          refine wpAnyH_take (i := 10) (v := .agg cs') rfl (by kernel_rfl) (by kernel_rfl) (by kernel_rfl) (fun _ _ _ h => h) (Or.inl ⟨by rfl, fun W hW => ?_⟩) hb3 ?_
          · go_simp
          simp only [Act.put, List.getElem_toArray, List.getElem_cons_succ, List.getElem_cons_zero, List.setIfInBounds_toArray, List.set_cons_zero, List.set_cons_succ]
          refine wpAnyH_take (i := 11) (v := .agg cs2) rfl (by kernel_rfl) (by kernel_rfl) (by kernel_rfl) (fun _ _ _ h => h) (Or.inl ⟨by rfl, fun W hW => ?_⟩) hb3 ?_
          · go_simp
          simp only [Act.put, List.getElem_toArray, List.getElem_cons_succ, List.getElem_cons_zero, List.setIfInBounds_toArray, List.set_cons_zero, List.set_cons_succ]
          have st2 := stored_two f43 f53 ho3 ha3 hb3 l4 l5
          have hne := held_ne f43 f53 (by decide)
          refine wpAnyH_ready (rs := [14]) (by kernel_rfl) (by simp) ?_
          refine (AllReadyH.cons rfl (fun K hK => ?_) AllReadyH.nil)
          rw [if_pos (by rfl)]
          refine wp_store_row 45 _ _ rfl _ cs' (by rfl) (by rfl) _ _ f43 (fb_info hfc) (by rw [hfc.size]; rfl) hfc.one ?_
          have hbs := below_rowz hb3 l4 cs'
          have f5s := Held.row f53 (Ne.symm hne) cs'
          refine hK.out _ _ hbs (fun _ => ?_)
          clear hK K
          simp only [Act.put, List.getElem_toArray, List.getElem_cons_succ, List.getElem_cons_zero, List.setIfInBounds_toArray, List.set_cons_zero, List.set_cons_succ]
          refine wpAnyH_ready (rs := [15]) (by kernel_rfl) (by simp) ?_
          refine (AllReadyH.cons rfl (fun K hK => ?_) AllReadyH.nil)
          rw [if_pos (by rfl)]
          refine wp_store_row 77 _ _ rfl _ cs2 (by rfl) (by rfl) _ _ f5s (ab_info hac) (by rw [hac.size]; rfl) hac.one ?_
          refine hK.out _ _ (below_rowz hbs l5 cs2) (fun _ => ?_)
          clear hK K
          simp only [Act.put, List.getElem_toArray, List.getElem_cons_succ, List.getElem_cons_zero, List.setIfInBounds_toArray, List.set_cons_zero, List.set_cons_succ]
          refine wpAnyH_done (by kernel_rfl) ?_ _
          go_wp2_with fail
          go_meet
          case rel => exact ⟨_, _, cs', cs2, rfl, rfl, st2.1, hfc, st2.2.1, st2.2.2.1, hac, st2.2.2.2.1, st2.2.2.2.2⟩
    · rw [if_pos (by rfl)]
      refine wp_alloc_arr 77 rfl az0 (by kernel_rfl) ?_
      have hb1 := below_allocz hb0 (.cells az0 77)
      have l5 := Below.size hb0
      have f51 : Held (W2.alloc (.cells az0 77)) _ 77 az0 := Held.new _ _ _
      refine hK.out _ _ hb1 (fun _ => ?_)
      clear hK K
      simp only [Act.put, List.getElem_toArray, List.getElem_cons_succ, List.getElem_cons_zero, List.setIfInBounds_toArray, List.set_cons_zero, List.set_cons_succ]
      refine wpAnyH_ready (rs := [8, 12]) (by kernel_rfl) (by simp) ?_
      refine (AllReadyH.cons rfl (fun K hK => ?_) (AllReadyH.cons rfl (fun K hK => ?_) AllReadyH.nil))
      · go_simp
        go_at_call 69
        (with_reducible refine (DO _ hb1).out.mono ?_)
        rintro _ u ⟨v', av, rfl, ho, ha, hbu⟩
        have ho2 := OwnF.mono ho (Nat.zero_le _)
        have ha2 := ActO.mono ha (Nat.zero_le _)
        clear ho ha
        have hb2 := Below.step hb1 hbu
        have f52 := Held.below f51 hbu
        obtain ⟨cs', rfl, hfc⟩ := ho2.cells
        obtain ⟨cs2, rfl, hac⟩ := ha2.cells
        (try go_wp2_with fail)
        refine hK.out _ _ hb2 (fun _ => ?_)
        clear hK K
        (try simp only [Act.put, List.getElem_toArray, List.getElem_cons_succ, List.getElem_cons_zero, List.setIfInBounds_toArray, List.set_cons_zero, List.set_cons_succ])
        refine wpAnyH_take (i := 9) (v := .tuple #[.agg cs', .agg cs2]) rfl (by kernel_rfl) (by kernel_rfl) (by kernel_rfl) (fun _ _ _ h => h) (Or.inl ⟨by rfl, fun W hW => ?_⟩) hb2 ?_
        · go_simp
        simp only [Act.put, List.getElem_toArray, List.getElem_cons_succ, List.getElem_cons_zero, List.setIfInBounds_toArray, List.set_cons_zero, List.set_cons_succ]
        refine wpAnyH_take (i := 10) (v := .agg cs') rfl (by kernel_rfl) (by kernel_rfl) (by kernel_rfl) (fun _ _ _ h => h) (Or.inl ⟨by rfl, fun W hW => ?_⟩) hb2 ?_
        · go_simp
        simp only [Act.put, List.getElem_toArray, List.getElem_cons_succ, List.getElem_cons_zero, List.setIfInBounds_toArray, List.set_cons_zero, List.set_cons_succ]
        refine wpAnyH_take (i := 11) (v := .agg cs2) rfl (by kernel_rfl) (by kernel_rfl) (by kernel_rfl) (fun _ _ _ h => h) (Or.inl ⟨by rfl, fun W hW => ?_⟩) hb2 ?_
        · go_simp
        simp only [Act.put, List.getElem_toArray, List.getElem_cons_succ, List.getElem_cons_zero, List.setIfInBounds_toArray, List.set_cons_zero, List.set_cons_succ]
        refine wpAnyH_ready (rs := [12]) (by kernel_rfl) (by simp) ?_
        refine (AllReadyH.cons rfl (fun K hK => ?_) AllReadyH.nil)
        · rw [if_pos (by rfl)]
          refine wp_alloc_arr 45 rfl fz0 (by kernel_rfl) ?_
          have hb3 := below_allocz hb2 (.cells fz0 45)
          have l4 := Below.size hb2
          have f53 := Held.alloc f52 (.cells fz0 45)
          have f43 : Held (u.alloc (.cells fz0 45)) _ 45 fz0 := Held.new _ _ _
          have ho3 := OwnF.alloc ho2 (.cells fz0 45)
          have ha3 := ActO.alloc ha2 (.cells fz0 45)
          refine hK.out _ _ hb3 (fun _ => ?_)
          clear hK K
          simp only [Act.put, List.getElem_toArray, List.getElem_cons_succ, List.getElem_cons_zero, List.setIfInBounds_toArray, List.set_cons_zero, List.set_cons_succ]
          have st2 := stored_two f43 f53 ho3 ha3 hb3 l4 l5
          have hne := held_ne f43 f53 (by decide)
          refine wpAnyH_ready (rs := [14]) (by kernel_rfl) (by simp) ?_
          refine (AllReadyH.cons rfl (fun K hK => ?_) AllReadyH.nil)
          rw [if_pos (by rfl)]
          refine wp_store_row 45 _ _ rfl _ cs' (by rfl) (by rfl) _ _ f43 (fb_info hfc) (by rw [hfc.size]; rfl) hfc.one ?_
          have hbs := below_rowz hb3 l4 cs'
          have f5s := Held.row f53 (Ne.symm hne) cs'
          refine hK.out _ _ hbs (fun _ => ?_)
          clear hK K
          simp only [Act.put, List.getElem_toArray, List.getElem_cons_succ, List.getElem_cons_zero, List.setIfInBounds_toArray, List.set_cons_zero, List.set_cons_succ]
          refine wpAnyH_ready (rs := [15]) (by kernel_rfl) (by simp) ?_
          refine (AllReadyH.cons rfl (fun K hK => ?_) AllReadyH.nil)
          rw [if_pos (by rfl)]
          refine wp_store_row 77 _ _ rfl _ cs2 (by rfl) (by rfl) _ _ f5s (ab_info hac) (by rw [hac.size]; rfl) hac.one ?_
          refine hK.out _ _ (below_rowz hbs l5 cs2) (fun _ => ?_)
          clear hK K
          simp only [Act.put, List.getElem_toArray, List.getElem_cons_succ, List.getElem_cons_zero, List.setIfInBounds_toArray, List.set_cons_zero, List.set_cons_succ]
          refine wpAnyH_done (by kernel_rfl) ?_ _
          go_wp2_with fail
          go_meet
          case rel => exact ⟨_, _, cs', cs2, rfl, rfl, st2.1, hfc, st2.2.1, st2.2.2.1, hac, st2.2.2.2.1, st2.2.2.2.2⟩
      · rw [if_pos (by rfl)]
        refine wp_alloc_arr 45 rfl fz0 (by kernel_rfl) ?_
        have hb2 := below_allocz hb1 (.cells fz0 45)
        have l4 : W1.heap.size ≤ W2.heap.size + 1 := by have := Below.size hb1; simpa using this
        have f52 := Held.alloc f51 (.cells fz0 45)
        have f42 : Held ((W2.alloc (.cells az0 77)).alloc (.cells fz0 45)) (W2.heap.size + 1) 45 fz0 := Held.new1 _ _ _ _
        rw [size_alloc1]
        refine hK.out _ _ hb2 (fun _ => ?_)
        clear hK K
        simp only [Act.put, List.getElem_toArray, List.getElem_cons_succ, List.getElem_cons_zero, List.setIfInBounds_toArray, List.set_cons_zero, List.set_cons_succ]
        refine wpAnyH_ready (rs := [8]) (by kernel_rfl) (by simp) ?_
        refine (AllReadyH.cons rfl (fun K hK => ?_) AllReadyH.nil)
        · go_simp
          go_at_call 69
          (with_reducible refine (DO _ hb2).out.mono ?_)
          rintro _ u ⟨v', av, rfl, ho, ha, hbu⟩
          have ho3 := OwnF.mono ho (Nat.zero_le _)
          have ha3 := ActO.mono ha (Nat.zero_le _)
          clear ho ha
          have hb3 := Below.step hb2 hbu
          have f43 := Held.below f42 hbu
          have f53 := Held.below f52 hbu
          obtain ⟨cs', rfl, hfc⟩ := ho3.cells
          obtain ⟨cs2, rfl, hac⟩ := ha3.cells
          (try go_wp2_with fail)
          refine hK.out _ _ hb3 (fun _ => ?_)
          clear hK K
          (try simp only [Act.put, List.getElem_toArray, List.getElem_cons_succ, List.getElem_cons_zero, List.setIfInBounds_toArray, List.set_cons_zero, List.set_cons_succ])
          refine wpAnyH_take (i := 9) (v := .tuple #[.agg cs', .agg cs2]) rfl (by kernel_rfl) (by kernel_rfl) (by kernel_rfl) (fun _ _ _ h => h) (Or.inl ⟨by rfl, fun W hW => ?_⟩) hb3 ?_
          · go_simp
          simp only [Act.put, List.getElem_toArray, List.getElem_cons_succ, List.getElem_cons_zero, List.setIfInBounds_toArray, List.set_cons_zero, List.set_cons_succ]
          refine wpAnyH_take (i := 10) (v := .agg cs') rfl (by kernel_rfl) (by kernel_rfl) (by kernel_rfl) (fun _ _ _ h => h) (Or.inl ⟨by rfl, fun W hW => ?_⟩) hb3 ?_
          · go_simp
          simp only [Act.put, List.getElem_toArray, List.getElem_cons_succ, List.getElem_cons_zero, List.setIfInBounds_toArray, List.set_cons_zero, List.set_cons_succ]
          refine wpAnyH_take (i := 11) (v := .agg cs2) rfl (by kernel_rfl) (by kernel_rfl) (by kernel_rfl) (fun _ _ _ h => h) (Or.inl ⟨by rfl, fun W hW => ?_⟩) hb3 ?_
          · go_simp
          simp only [Act.put, List.getElem_toArray, List.getElem_cons_succ, List.getElem_cons_zero, List.setIfInBounds_toArray, List.set_cons_zero, List.set_cons_succ]
          have st2 := stored_two f43 f53 ho3 ha3 hb3 l4 l5
          have hne := held_ne f43 f53 (by decide)
          refine wpAnyH_ready (rs := [14]) (by kernel_rfl) (by simp) ?_
          refine (AllReadyH.cons rfl (fun K hK => ?_) AllReadyH.nil)
          rw [if_pos (by rfl)]
          refine wp_store_row 45 _ _ rfl _ cs' (by rfl) (by rfl) _ _ f43 (fb_info hfc) (by rw [hfc.size]; rfl) hfc.one ?_
          have hbs := below_rowz hb3 l4 cs'
          have f5s := Held.row f53 (Ne.symm hne) cs'
          refine hK.out _ _ hbs (fun _ => ?_)
          clear hK K
          simp only [Act.put, List.getElem_toArray, List.getElem_cons_succ, List.getElem_cons_zero, List.setIfInBounds_toArray, List.set_cons_zero, List.set_cons_succ]
          refine wpAnyH_ready (rs := [15]) (by kernel_rfl) (by simp) ?_
          refine (AllReadyH.cons rfl (fun K hK => ?_) AllReadyH.nil)
          rw [if_pos (by rfl)]
          refine wp_store_row 77 _ _ rfl _ cs2 (by rfl) (by rfl) _ _ f5s (ab_info hac) (by rw [hac.size]; rfl) hac.one ?_
          refine hK.out _ _ (below_rowz hbs l5 cs2) (fun _ => ?_)
          clear hK K
          simp only [Act.put, List.getElem_toArray, List.getElem_cons_succ, List.getElem_cons_zero, List.setIfInBounds_toArray, List.set_cons_zero, List.set_cons_succ]
          refine wpAnyH_done (by kernel_rfl) ?_ _
          go_wp2_with fail
          go_meet
          case rel => exact ⟨_, _, cs', cs2, rfl, rfl, st2.1, hfc, st2.2.1, st2.2.2.1, hac, st2.2.2.2.1, st2.2.2.2.2⟩
  case rest =>
    obtain ⟨g4, g5, cs', c1', rfl, rfl, h4, hfc, ho4, h5, hac, ho5, hbW⟩ := hcut
    obtain rfl := HN.out
    obtain rfl := HRR.out
    have H2 := H1.out.below hbW
    obtain ⟨_, _, e2, _, _, _, _, _, _, hth, _⟩ := H2.last
    simp only [Value.slice.injEq, Option.some.injEq, Addr.mk.injEq, and_true, true_and] at e2
    obtain ⟨rfl, rfl⟩ := e2
    obtain ⟨S1, S2⟩ := H2.setF (cs := cs') (F := (doF p f).1) ⟨ho4, hfc, HBD.out⟩
    have h5b := h5.kt S2.kt tyAr tyAt
    have hZb := (Held.below Z1.out hbW).kt S2.kt tyAr tyAt
    have ho5b := ho5.kt S2.kt
    have hKK := (K1.out.trans (KS.of hbW (Nat.le_trans HB.out K1.out.kt.size))).trans S2
    have S1 := Lib.hid S1
    have hKK := Lib.hid hKK
    clear H1 Z1 K1 hq0 DO H2 S2
    go_upto_region 7 with (first
      | (guard_target = wpList _ _ _ (Oper.mk _ (Op.load 45 (.tmp 4)) _ _ _ none :: _) _ _; refine wpList_load_row rfl 45 _ rfl g4 rfl 45 cs' (0, 0) _ h4 Tryz.underlying45 rfl (fb_info hfc) ?_)
      | (guard_target = wpList _ _ _ (Oper.mk _ (Op.store 45 (.tmp 49) (.tmp 47)) _ _ _ none :: _) _ _; refine wpList_store_mid rfl 45 _ _ rfl g (l0.length * 17) cs' rfl rfl (fun j hj => hth j (by have := hfc.size; omega)) (fb_info hfc) hfc.one ?_))
    generalize wc.setCells g (l0.length * 17) cs'.toList = W2 at *
    go_wp2_with (first
      | (guard_target = wpList _ _ _ (Oper.mk _ (Op.load 77 (.tmp 5)) _ _ _ none :: _) _ _; refine wpList_load_row rfl 77 _ rfl g5 rfl 77 c1' (0, 0) _ h5b Tryz.underlying77 rfl (ab_info hac) ?_)
      | (guard_target = wpList _ _ _ (Oper.mk _ (Op.store 77 (.tmp 2) (.tmp 50)) _ _ _ none :: _) _ _; refine wpList_store_row rfl 77 _ _ rfl w.heap.size c1' rfl rfl _ _ hZb (ab_info hac) (by rw [hac.size]; rfl) hac.one ?_))
    have hW3 := hZb.rowSelf c1'
    have kb : KB W2 (W2.setRow w.heap.size c1') w.heap.size := (KB.of_below (Below.refl _ _) _).row c1'
    refine bodyPost_ret (v := .agg c1') (results_cell_row rfl _ _ w.heap.size 77 c1' (0, 0) _ rfl hW3 Tryz.underlying77 rfl (ab_info hac)) rfl ⟨_, rfl, ho5b.kb hZb tyAV kb, ⟨cs', S1.out.rowFar hZb tyAr tyAt tyAV tyAS c1'⟩, ⟨below_row hKK.out.below HB.out _, hKK.out.kt.rowNew (Nat.le_refl _) _⟩⟩
end Go.Proofs.YtoeinpiekfmbgaaGreatDoor

/- Layer 10's code: a task begins. -/
namespace Go.Proofs.YtoeinpiekfmbgaaGreatDoor
set_option linter.unusedVariables false
set_option linter.unusedSimpArgs false
open Gm Go.RowKit Go.ChangeShapes Go.WideShapes Go.ChangeAt Go.Sort

abbrev tz0 : Array Value := #[.int .i64 0, .int .i64 0, .slice none 0 0, .slice none 0 0, .slice none 0 0, .int .i64 0, .int .i64 0, .int .i64 0, .int .i64 0, .int .i64 0, .int .i64 0, .int .i64 0, .int .i64 0, .int .i64 0, .int .i64 0, .int .i64 0, .int .i64 0]
theorem infoT : (Tryz.prog.info? 119).map (fun i => (i.zero, i.size, i.bytes)) = some (some (.agg tz0), 17, 184) := by kernel_rfl
section
variable {B r : Nat} {pv v : Value} {fuel used : Int} {l : List TskC}
theorem RunS.push {w w' : World} (h : RunS w B r pv fuel used v l) {v' : Value} {x : TskC} (hx : TskOk w x) (ho : w'.ownsRow B 119 17 v' (l.length + 1) (flatT (l ++ [x]))) (hg : w.grownBy w' v.ownBlock) (hB : B ≤ w.heap.size) :
    RunS (w'.setCell ⟨r, 3, none⟩ v') B r pv fuel used v' (l ++ [x]) ∧ KS B w (w'.setCell ⟨r, 3, none⟩ v') := by
  have hr : w'.heap[r]? = w.heap[r]? := hg.block r h.rlt (fun e => h.vr e.symm)
  have hb : Held w' r 50 #[pv, .int .i64 fuel, .int .i64 used, v] := hr.trans h.blk
  have hk : KT w w' := KT.grown hg fun k o t fr e hh => by
    rcases h.row.2 with ⟨rfl, _⟩ | ⟨g', cap, cur, rfl, _, hh2, _⟩
    · simp [Value.ownBlock] at e
    · simp only [Value.ownBlock, Option.some.injEq] at e
      subst e
      rw [hh2] at hh
      simp at hh
      exact hh.2.1.symm
  have hk2 : KT w (w'.setCell ⟨r, 3, none⟩ v') := hk.trans (KT.cell hb (.inl rfl) _ _)
  have hvr : v'.ownBlock ≠ some r := fun e => row_apart ho hb tyrt r e rfl
  refine ⟨⟨by have := hb.set_at 3 v'; exact this, h.ler, ?_, fun y hy => ?_⟩, ⟨?_, hk2⟩⟩
  · rw [List.length_append, List.length_singleton]
    exact row_same ho fun g' e => Below.heap_setCell w' ⟨r, 3, none⟩ _ g' (row_apart ho hb tyrt g' e)
  · rcases List.mem_append.1 hy with h2 | h2
    · exact (h.ok y h2).kt hk2
    · rw [List.mem_singleton] at h2
      subst h2
      exact hx.kt hk2
  · exact ((Below.refl _ _).grown hg hB (fun k hk => (h.row.lt k hk).1)).setCell (p := ⟨r, 3, none⟩) h.ler _
/-- A task more. -/
theorem step_append_tsk {w : World} {ops : Array Oper} {o : Oper} {a : Act} {K : Act → World → Prop} {Q : Exit → Act → World → Prop} {E : Prop} (hg : o.guard = none) (s x : Operand)
    (hop : o.op = Op.call { callee := Callee.builtin Builtin.append, args := #[s, x], argTypes := #[48, 48] })
    (w0 : World) (x0 : TskC) (cs : Array Value) (hcs : cs.toList = x0.cs.toList ++ [.int .i64 x0.sl]) (hw : w = w0.alloc (.cells cs 119)) (hs : a.eval s = v) (own : RunS w0 B r pv fuel used v l) (hx0 : TskOk w0 x0)
    (hx : a.eval x = .slice (some ⟨w0.heap.size, 0, none⟩) 1 1) (hlen : l.length ≤ 1000000) (hB : B ≤ w0.heap.size)
    (h : ∀ g cap w', w'.ownsRow B 119 17 (.slice (some ⟨g, 0, none⟩) (l.length + 1) cap) (l.length + 1) (flatT (l ++ [x0])) → w0.grownBy w' v.ownBlock → K (a.put o.dst (.slice (some ⟨g, 0, none⟩) (l.length + 1) cap)) w') :
    if Region.wanted o (yielded ops a.tmps) = true then Oper.wp Tryz.prog o a w K Q else E := by
  subst hw
  obtain ⟨q, hi, hz0, hz1, hz2⟩ := info_parts infoT
  have own' : (w0.alloc (.cells cs 119)).ownsRow B 119 17 v l.length (flatT l) := own.row.alloc _
  have hsz : cs.size = 17 := by
    have := congrArg List.length hcs
    have h16 := hx0.fc.size
    simpa [h16] using this
  refine step_append_lies (P := Tryz.prog) (Q := Q) _ hg s x 48 hop B 119 q (.agg tz0) 17 184 Tryz.underlying48 hi hz0 hz1 hz2 rfl (by decide) v l.length (flatT l) hs own' ⟨w0.heap.size, 0, none⟩ 1 1
    cs.toList hx (by simpa using hsz) (World.news_of_block (heap_alloc_last w0 _)) ?_ (by decide) (by unfold maxLen; omega) (by omega) (by simp; omega) _ rfl ?_
  · intro u hu
    rw [hcs] at hu
    rcases List.mem_append.1 hu with h1 | h1
    · exact (Array.all_eq_true_iff_forall_mem.1 hx0.fc.one) u (by simpa using h1)
    · rw [List.mem_singleton] at h1; subst h1; rfl
  · intro g cap w' h1 h2 h3 h4
    have hg2 : w0.grownBy w' v.ownBlock := ⟨h2.os, h2.tape, h2.output, Nat.le_trans (by simp) h2.size, fun k hk hne => (h2.block k (by simp; omega) hne).trans (Below.heap_alloc w0 _ k hk)⟩
    refine h g cap w' ?_ hg2
    rw [flatT_append, flatT_one, ← hcs]
    exact h1
end
set_option maxHeartbeats 4000000 in
set_option maxRecDepth 100000 in
theorem sbegin_any {B r : Nat} {pv v : Value} {fuel used : Int} {l : List TskC} {cs : Array Value} {f : Frm} (sl : Int) (w : World) (h : RunS w B r pv fuel used v l) (hx : TskOk w ⟨cs, f, sl⟩) (hl : l.length ≤ 1000000) (hB : B ≤ w.heap.size) :
    Calls Tryz.prog 42 #[.pointer (some ⟨r, 0, none⟩), .agg cs, .int .i64 sl] w fun e w' => e = .returned (.tuple #[]) ∧ ∃ v', RunS w' B r pv fuel used v' (l ++ [⟨cs, f, sl⟩]) ∧ KS B w w' := by
  obtain ⟨s, lo, o, e, o1, o2, o3⟩ := hx.own
  obtain ⟨A1, c1, rfl, _⟩ := o1.lies
  obtain ⟨A2, c2, rfl, _⟩ := o2.lies
  obtain ⟨A3, c3, rfl, _⟩ := o3.lies
  simp only [Value.agg.injEq] at e
  subst e
  obtain ⟨A, c, rfl⟩ := h.slice
  clear o1 o2 o3
  have HH := Lib.hid h
  have HX := Lib.hid hx
  have HL := Lib.hid hl
  have HB := Lib.hid hB
  have r3 := h.blk.cell 3
  have rl := h.rlt
  simp at r3
  clear h hx hl hB
  go_enter Tryz.func42, Tryz.ntmps42
  go_upto_region 1 with (first | (refine wpList_box_arr rfl _ _ rfl _ rfl ?_))
  have hF : Held (w.alloc (.cells #[.int .i64 f.fn, .int .i64 f.pc, .slice A1 f.stk.length c1, .slice A2 f.loc.length c2, .slice A3 f.slt.length c3, .int .i64 f.seed, .int .i64 f.spn, .int .i64 f.drw, .int .i64 f.st, .int .i64 f.wt, .int .i64 f.otr, .int .i64 f.ore, .int .i64 f.oim, .int .i64 f.uat, .int .i64 f.ugn, .int .i64 f.usl] 45)) w.heap.size 45 #[.int .i64 f.fn, .int .i64 f.pc, .slice A1 f.stk.length c1, .slice A2 f.loc.length c2, .slice A3 f.slt.length c3, .int .i64 f.seed, .int .i64 f.spn, .int .i64 f.drw, .int .i64 f.st, .int .i64 f.wt, .int .i64 f.otr, .int .i64 f.ore, .int .i64 f.oim, .int .i64 f.uat, .int .i64 f.ugn, .int .i64 f.usl] := Held.new w _ _
  have hbw : Below w.heap.size w (w.alloc (.cells #[.int .i64 f.fn, .int .i64 f.pc, .slice A1 f.stk.length c1, .slice A2 f.loc.length c2, .slice A3 f.slt.length c3, .int .i64 f.seed, .int .i64 f.spn, .int .i64 f.drw, .int .i64 f.st, .int .i64 f.wt, .int .i64 f.otr, .int .i64 f.ore, .int .i64 f.oim, .int .i64 f.uat, .int .i64 f.ugn, .int .i64 f.usl] 45)) := (Below.refl w.heap.size w).alloc (Nat.le_refl _) _
  generalize hW1 : w.alloc (.cells #[.int .i64 f.fn, .int .i64 f.pc, .slice A1 f.stk.length c1, .slice A2 f.loc.length c2, .slice A3 f.slt.length c3, .int .i64 f.seed, .int .i64 f.spn, .int .i64 f.drw, .int .i64 f.st, .int .i64 f.wt, .int .i64 f.otr, .int .i64 f.ore, .int .i64 f.oim, .int .i64 f.uat, .int .i64 f.ugn, .int .i64 f.usl] 45) = W1 at *
  have hB1 : B ≤ W1.heap.size := Nat.le_trans HB.out hbw.size
  have H1 := Lib.hid (HH.out.below hbw)
  have X1 := Lib.hid (HX.out.kt (KT.of_below hbw))
  have K1 := Lib.hid (KS.of hbw HB.out)
  generalize w.heap.size = b1 at *
  have hrb : r ≠ b1 := held_ne H1.out.blk hF (by decide)
  have hbr : b1 ≠ r := Ne.symm hrb
  have H2 := Lib.hid (H1.out.below (Below.refl _ _).drew)
  have X2 := Lib.hid (X1.out.kt (KT.of_below (Below.refl _ _).drew))
  have K2 := Lib.hid (K1.out.trans (KS.of (Below.refl W1.heap.size W1).drew hB1))
  have hS := Held.below hF (Below.refl _ _).drew
  have hB2 : B ≤ W1.drew.heap.size := hB1
  clear hF H1 X1 K1 hB1 HH HX hW1 hbw
  refine wp_region_held_drew (S := fun W => Held W b1 45 #[.int .i64 f.fn, .int .i64 f.pc, .slice A1 f.stk.length c1, .slice A2 f.loc.length c2, .slice A3 f.slt.length c3, .int .i64 f.seed, .int .i64 f.spn, .int .i64 f.drw, .int .i64 f.st, .int .i64 f.wt, .int .i64 f.otr, .int .i64 f.ore, .int .i64 f.oim, .int .i64 f.uat, .int .i64 f.ugn, .int .i64 f.usl]) (by kernel_rfl) hS (fun hS0 => ?_)
  generalize W1.drew = W2 at *
  show wpAnyH _ _ _ _ _ 13 #[false, false, false, false, false, false, false, false, false, false, false, false, false] _ _
  clear hS
  refine wpAnyH_take (i := 0) (v := .pointer (some ⟨r, 0, none⟩)) rfl (by kernel_rfl) (by kernel_rfl) (by kernel_rfl) (fun _ _ _ h => h) (Or.inl ⟨by rfl, fun W hW => ?_⟩) hS0 ?_
  · go_simp
  simp only [Act.put, List.getElem_toArray, List.getElem_cons_succ, List.getElem_cons_zero, List.setIfInBounds_toArray, List.set_cons_zero, List.set_cons_succ]
  refine wpAnyH_take (i := 1) (v := .pointer (some ⟨r, 0, none⟩)) rfl (by kernel_rfl) (by kernel_rfl) (by kernel_rfl) (fun _ _ _ h => h) (Or.inl ⟨by rfl, fun W hW => ?_⟩) hS0 ?_
  · go_simp
  simp only [Act.put, List.getElem_toArray, List.getElem_cons_succ, List.getElem_cons_zero, List.setIfInBounds_toArray, List.set_cons_zero, List.set_cons_succ]
  refine wpAnyH_take (i := 2) (v := .pointer (some ⟨r, 0, none⟩)) rfl (by kernel_rfl) (by kernel_rfl) (by kernel_rfl) (fun _ _ _ h => h) (Or.inl ⟨by rfl, fun W hW => ?_⟩) hS0 ?_
  · go_simp
  simp only [Act.put, List.getElem_toArray, List.getElem_cons_succ, List.getElem_cons_zero, List.setIfInBounds_toArray, List.set_cons_zero, List.set_cons_succ]
  refine wpAnyH_take (i := 3) (v := .pointer (some ⟨r, 3, none⟩)) rfl (by kernel_rfl) (by kernel_rfl) (by kernel_rfl) (fun _ _ _ h => h) (Or.inl ⟨by rfl, fun W hW => ?_⟩) hS0 ?_
  · go_simp
  simp only [Act.put, List.getElem_toArray, List.getElem_cons_succ, List.getElem_cons_zero, List.setIfInBounds_toArray, List.set_cons_zero, List.set_cons_succ]
  refine wpAnyH_take (i := 5) (v := .agg #[.int .i64 f.fn, .int .i64 f.pc, .slice A1 f.stk.length c1, .slice A2 f.loc.length c2, .slice A3 f.slt.length c3, .int .i64 f.seed, .int .i64 f.spn, .int .i64 f.drw, .int .i64 f.st, .int .i64 f.wt, .int .i64 f.otr, .int .i64 f.ore, .int .i64 f.oim, .int .i64 f.uat, .int .i64 f.ugn, .int .i64 f.usl]) rfl (by kernel_rfl) (by kernel_rfl) (by kernel_rfl) (fun _ _ _ h => h) (Or.inl ⟨by rfl, fun W hW => ?_⟩) hS0 ?_
  · (have q0 := hW.cell 0; have q1 := hW.cell 1; have q2 := hW.cell 2; have q3 := hW.cell 3; have q4 := hW.cell 4; have q5 := hW.cell 5; have q6 := hW.cell 6; have q7 := hW.cell 7; have q8 := hW.cell 8; have q9 := hW.cell 9; have q10 := hW.cell 10; have q11 := hW.cell 11; have q12 := hW.cell 12; have q13 := hW.cell 13; have q14 := hW.cell 14; have q15 := hW.cell 15; simp at q0 q1 q2 q3 q4 q5 q6 q7 q8 q9 q10 q11 q12 q13 q14 q15; go_simp)
  simp only [Act.put, List.getElem_toArray, List.getElem_cons_succ, List.getElem_cons_zero, List.setIfInBounds_toArray, List.set_cons_zero, List.set_cons_succ]
  refine wpAnyH_take (i := 6) (v := .int .i64 sl) rfl (by kernel_rfl) (by kernel_rfl) (by kernel_rfl) (fun _ _ _ h => h) (Or.inl ⟨by rfl, fun W hW => ?_⟩) hS0 ?_
  · go_simp
  simp only [Act.put, List.getElem_toArray, List.getElem_cons_succ, List.getElem_cons_zero, List.setIfInBounds_toArray, List.set_cons_zero, List.set_cons_succ]
  refine wpAnyH_take (i := 7) (v := .agg #[.int .i64 f.fn, .int .i64 f.pc, .slice A1 f.stk.length c1, .slice A2 f.loc.length c2, .slice A3 f.slt.length c3, .int .i64 f.seed, .int .i64 f.spn, .int .i64 f.drw, .int .i64 f.st, .int .i64 f.wt, .int .i64 f.otr, .int .i64 f.ore, .int .i64 f.oim, .int .i64 f.uat, .int .i64 f.ugn, .int .i64 f.usl, .int .i64 sl]) rfl (by kernel_rfl) (by kernel_rfl) (by kernel_rfl) (fun _ _ _ h => h) (Or.inl ⟨by rfl, fun W hW => ?_⟩) hS0 ?_
  · go_simp
  simp only [Act.put, List.getElem_toArray, List.getElem_cons_succ, List.getElem_cons_zero, List.setIfInBounds_toArray, List.set_cons_zero, List.set_cons_succ]
  have r3 := H2.out.blk.cell 3
  have rl1 := H2.out.rlt
  simp at r3
  have r3b := (((Below.refl W2.heap.size W2).alloc (Nat.le_refl _) (.cells #[.int .i64 f.fn, .int .i64 f.pc, .slice A1 f.stk.length c1, .slice A2 f.loc.length c2, .slice A3 f.slt.length c3, .int .i64 f.seed, .int .i64 f.spn, .int .i64 f.drw, .int .i64 f.st, .int .i64 f.wt, .int .i64 f.otr, .int .i64 f.ore, .int .i64 f.oim, .int .i64 f.uat, .int .i64 f.ugn, .int .i64 f.usl, .int .i64 sl] 119)).cell (p := ⟨r, 3, none⟩) rl1).trans r3
  have hSA := Held.alloc hS0 (.cells #[.int .i64 f.fn, .int .i64 f.pc, .slice A1 f.stk.length c1, .slice A2 f.loc.length c2, .slice A3 f.slt.length c3, .int .i64 f.seed, .int .i64 f.spn, .int .i64 f.drw, .int .i64 f.st, .int .i64 f.wt, .int .i64 f.otr, .int .i64 f.ore, .int .i64 f.oim, .int .i64 f.uat, .int .i64 f.ugn, .int .i64 f.usl, .int .i64 sl] 119)
  have hne : (Value.slice A l.length c).ownBlock ≠ some b1 := fun e => row_apart H2.out.row hS0 tyFt b1 e rfl
  have hbl := hS0.lt
  refine wpAnyH_ready (rs := [4, 8]) (by kernel_rfl) (by simp) ?_
  refine (AllReadyH.cons rfl (fun K hK => ?_) (AllReadyH.cons rfl (fun K hK => ?_) AllReadyH.nil))
  · go_simp
    refine hK.out _ _ hS0 (fun _ => ?_)
    clear hK K
    (try simp only [Act.put, List.getElem_toArray, List.getElem_cons_succ, List.getElem_cons_zero, List.setIfInBounds_toArray, List.set_cons_zero, List.set_cons_succ])
    refine wpAnyH_ready (rs := [8]) (by kernel_rfl) (by simp) ?_
    refine (AllReadyH.cons rfl (fun K hK => ?_) AllReadyH.nil)
    go_simp
    refine hK.out _ _ hSA (fun _ => ?_)
    clear hK K
    (try simp only [Act.put, List.getElem_toArray, List.getElem_cons_succ, List.getElem_cons_zero, List.setIfInBounds_toArray, List.set_cons_zero, List.set_cons_succ])
    refine wpAnyH_ready (rs := [9]) (by kernel_rfl) (by simp) ?_
    refine (AllReadyH.cons rfl (fun K hK => ?_) AllReadyH.nil)
    refine step_append_tsk (by rfl) _ _ (by rfl) W2 ⟨#[.int .i64 f.fn, .int .i64 f.pc, .slice A1 f.stk.length c1, .slice A2 f.loc.length c2, .slice A3 f.slt.length c3, .int .i64 f.seed, .int .i64 f.spn, .int .i64 f.drw, .int .i64 f.st, .int .i64 f.wt, .int .i64 f.otr, .int .i64 f.ore, .int .i64 f.oim, .int .i64 f.uat, .int .i64 f.ugn, .int .i64 f.usl], f, sl⟩ _ rfl rfl (by rfl) H2.out X2.out (by rfl) HL.out hB2 ?_
    intro g9 cap9 u ho hg
    obtain ⟨hR, hK9⟩ := RunS.push H2.out X2.out ho hg hB2
    have hRu : Held u r 50 _ := (hg.block r rl1 (fun e => H2.out.vr e.symm)).trans H2.out.blk
    have hu3 := hRu.cell 3
    have z3 := hRu.fz 3
    have hFu : Held u b1 45 #[.int .i64 f.fn, .int .i64 f.pc, .slice A1 f.stk.length c1, .slice A2 f.loc.length c2, .slice A3 f.slt.length c3, .int .i64 f.seed, .int .i64 f.spn, .int .i64 f.drw, .int .i64 f.st, .int .i64 f.wt, .int .i64 f.otr, .int .i64 f.ore, .int .i64 f.oim, .int .i64 f.uat, .int .i64 f.ugn, .int .i64 f.usl] := (hg.block b1 hbl (fun e => hne e.symm)).trans hS0
    simp at hu3
    refine hK.out _ _ hFu (fun _ => ?_)
    clear hK K
    simp only [Act.put, List.getElem_toArray, List.getElem_cons_succ, List.getElem_cons_zero, List.setIfInBounds_toArray, List.set_cons_zero, List.set_cons_succ]
    refine wpAnyH_take (i := 10) (v := .pointer (some ⟨r, 0, none⟩)) rfl (by kernel_rfl) (by kernel_rfl) (by kernel_rfl) (fun _ _ _ h => h) (Or.inl ⟨by rfl, fun W hW => ?_⟩) hFu ?_
    · go_simp
    simp only [Act.put, List.getElem_toArray, List.getElem_cons_succ, List.getElem_cons_zero, List.setIfInBounds_toArray, List.set_cons_zero, List.set_cons_succ]
    refine wpAnyH_take (i := 11) (v := .pointer (some ⟨r, 3, none⟩)) rfl (by kernel_rfl) (by kernel_rfl) (by kernel_rfl) (fun _ _ _ h => h) (Or.inl ⟨by rfl, fun W hW => ?_⟩) hFu ?_
    · go_simp
    simp only [Act.put, List.getElem_toArray, List.getElem_cons_succ, List.getElem_cons_zero, List.setIfInBounds_toArray, List.set_cons_zero, List.set_cons_succ]
    refine wpAnyH_ready (rs := [12]) (by kernel_rfl) (by simp) ?_
    refine (AllReadyH.cons rfl (fun K hK => ?_) AllReadyH.nil)
    clear ho hg r3 r3b
    go_simp
    refine hK.out _ _ ((Below.heap_setCell u ⟨r, 3, none⟩ _ b1 hbr).trans hFu) (fun _ => ?_)
    clear hK K
    (try simp only [Act.put, List.getElem_toArray, List.getElem_cons_succ, List.getElem_cons_zero, List.setIfInBounds_toArray, List.set_cons_zero, List.set_cons_succ])
    refine wpAnyH_done (by kernel_rfl) ?_ _
    go_wp2_with fail
    go_end0
    exact ⟨rfl, ⟨_, hR⟩, K2.out.trans hK9⟩
  · go_simp
    refine hK.out _ _ hSA (fun _ => ?_)
    clear hK K
    (try simp only [Act.put, List.getElem_toArray, List.getElem_cons_succ, List.getElem_cons_zero, List.setIfInBounds_toArray, List.set_cons_zero, List.set_cons_succ])
    refine wpAnyH_ready (rs := [4]) (by kernel_rfl) (by simp) ?_
    refine (AllReadyH.cons rfl (fun K hK => ?_) AllReadyH.nil)
    go_simp
    refine hK.out _ _ hSA (fun _ => ?_)
    clear hK K
    (try simp only [Act.put, List.getElem_toArray, List.getElem_cons_succ, List.getElem_cons_zero, List.setIfInBounds_toArray, List.set_cons_zero, List.set_cons_succ])
    refine wpAnyH_ready (rs := [9]) (by kernel_rfl) (by simp) ?_
    refine (AllReadyH.cons rfl (fun K hK => ?_) AllReadyH.nil)
    refine step_append_tsk (by rfl) _ _ (by rfl) W2 ⟨#[.int .i64 f.fn, .int .i64 f.pc, .slice A1 f.stk.length c1, .slice A2 f.loc.length c2, .slice A3 f.slt.length c3, .int .i64 f.seed, .int .i64 f.spn, .int .i64 f.drw, .int .i64 f.st, .int .i64 f.wt, .int .i64 f.otr, .int .i64 f.ore, .int .i64 f.oim, .int .i64 f.uat, .int .i64 f.ugn, .int .i64 f.usl], f, sl⟩ _ rfl rfl (by rfl) H2.out X2.out (by rfl) HL.out hB2 ?_
    intro g9 cap9 u ho hg
    obtain ⟨hR, hK9⟩ := RunS.push H2.out X2.out ho hg hB2
    have hRu : Held u r 50 _ := (hg.block r rl1 (fun e => H2.out.vr e.symm)).trans H2.out.blk
    have hu3 := hRu.cell 3
    have z3 := hRu.fz 3
    have hFu : Held u b1 45 #[.int .i64 f.fn, .int .i64 f.pc, .slice A1 f.stk.length c1, .slice A2 f.loc.length c2, .slice A3 f.slt.length c3, .int .i64 f.seed, .int .i64 f.spn, .int .i64 f.drw, .int .i64 f.st, .int .i64 f.wt, .int .i64 f.otr, .int .i64 f.ore, .int .i64 f.oim, .int .i64 f.uat, .int .i64 f.ugn, .int .i64 f.usl] := (hg.block b1 hbl (fun e => hne e.symm)).trans hS0
    simp at hu3
    refine hK.out _ _ hFu (fun _ => ?_)
    clear hK K
    simp only [Act.put, List.getElem_toArray, List.getElem_cons_succ, List.getElem_cons_zero, List.setIfInBounds_toArray, List.set_cons_zero, List.set_cons_succ]
    refine wpAnyH_take (i := 10) (v := .pointer (some ⟨r, 0, none⟩)) rfl (by kernel_rfl) (by kernel_rfl) (by kernel_rfl) (fun _ _ _ h => h) (Or.inl ⟨by rfl, fun W hW => ?_⟩) hFu ?_
    · go_simp
    simp only [Act.put, List.getElem_toArray, List.getElem_cons_succ, List.getElem_cons_zero, List.setIfInBounds_toArray, List.set_cons_zero, List.set_cons_succ]
    refine wpAnyH_take (i := 11) (v := .pointer (some ⟨r, 3, none⟩)) rfl (by kernel_rfl) (by kernel_rfl) (by kernel_rfl) (fun _ _ _ h => h) (Or.inl ⟨by rfl, fun W hW => ?_⟩) hFu ?_
    · go_simp
    simp only [Act.put, List.getElem_toArray, List.getElem_cons_succ, List.getElem_cons_zero, List.setIfInBounds_toArray, List.set_cons_zero, List.set_cons_succ]
    refine wpAnyH_ready (rs := [12]) (by kernel_rfl) (by simp) ?_
    refine (AllReadyH.cons rfl (fun K hK => ?_) AllReadyH.nil)
    clear ho hg r3 r3b
    go_simp
    refine hK.out _ _ ((Below.heap_setCell u ⟨r, 3, none⟩ _ b1 hbr).trans hFu) (fun _ => ?_)
    clear hK K
    (try simp only [Act.put, List.getElem_toArray, List.getElem_cons_succ, List.getElem_cons_zero, List.setIfInBounds_toArray, List.set_cons_zero, List.set_cons_succ])
    refine wpAnyH_done (by kernel_rfl) ?_ _
    go_wp2_with fail
    go_end0
    exact ⟨rfl, ⟨_, hR⟩, K2.out.trans hK9⟩
end Go.Proofs.YtoeinpiekfmbgaaGreatDoor

