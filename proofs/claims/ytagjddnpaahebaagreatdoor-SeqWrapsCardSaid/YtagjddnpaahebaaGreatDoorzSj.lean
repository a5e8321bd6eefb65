/- Layer 9's code: Same, of frames that are the same, and of frames at unlike places. -/
import Derived.Test.YtagjddnpaahebaaGreatDoorzRf
import Derived.Test.YtagjddnpaahebaaGreatDoorzHb
import Derived.Test.YtagjddnpaahebaaGreatDoorzFc
import Derived.Test.YtagjddnpaahebaaGreatDoorzPla
import Derived.Test.YtagjddnpaahebaaGreatDoorzHj
import Derived.Test.YtagjddnpaahebaaGreatDoorzGh
import Derived.Test.YtagjddnpaahebaaGreatDoorzHf
import Derived.Test.YtagjddnpaahebaaGreatDoorzHa
import Derived.Test.YtagjddnpaahebaaGreatDoorzFde
import Derived.Test.YtagjddnpaahebaaGreatDoorzFgv
import Derived.Test.YtagjddnpaahebaaGreatDoorzFnw
namespace Go.Proofs.YtagjddnpaahebaaGreatDoor
set_option linter.unusedVariables false
set_option linter.unusedSimpArgs false
open Gm Go.RowKit Go.ChangeShapes Go.WideShapes Go.ChangeAt Go.Sort

end Go.Proofs.YtagjddnpaahebaaGreatDoor

/- Layer 7: the document's Parse at every input. -/
namespace Go.Proofs.YtagjddnpaahebaaGreatDoor
set_option linter.unusedVariables false
set_option linter.unusedSimpArgs false
open Go.RowKit Go.ChangeShapes Go.WideShapes Go.ChangeAt Go.Sort

theorem word_len {c : UInt8} : ∀ (ws : List (List UInt8)), ∀ w ∈ ws, w.length ≤ (joinC c ws).length
  | [], w, h => by simp at h
  | [x], w, h => by simp at h; subst h; simp [joinC]
  | x :: y :: ws, w, h => by
    have ih := word_len (c := c) (y :: ws)
    rw [joinC, List.length_append, List.length_cons]
    rcases List.mem_cons.1 h with rfl | h
    · omega
    · have := ih w h
      omega
theorem split_len {c : UInt8} {l : List UInt8} : ∀ w ∈ splitL c l, w.length ≤ l.length := fun w h => by
  have := word_len (c := c) _ w h
  rwa [join_split] at this
/-- What comes of a text, when its lines were laid, or one was not. -/
theorem parse_end {l w0 : List UInt8} {rest : List (List UInt8)} (h : splitL 10 l = w0 :: rest) {p : List Fun} (hr : runL [] (w0 :: rest).dropLast = (p, rest.length, true)) :
    parseP l = if (w0 :: rest)[rest.length] = [] ∧ mayP p = true then (p, rest.length, 0) else ([], rest.length, 70) := by
  unfold parseP
  simp only
  rw [h, hr]
  have e : (w0 :: rest).getLast? = some ((w0 :: rest)[rest.length]) := by
    rw [List.getLast?_eq_getElem?, List.getElem?_eq_getElem (by simp)]
    simp
  rw [e]
  simp
theorem parse_stop {l w0 : List UInt8} {rest : List (List UInt8)} (h : splitL 10 l = w0 :: rest) {p : List Fun} {n : Nat} (hr : runL [] (w0 :: rest).dropLast = (p, n, false)) : parseP l = ([], n, 70) := by
  unfold parseP
  simp only
  rw [h, hr]
  simp
theorem drop_last_cons {ws : List (List UInt8)} {k n : Nat} (hn : ws.length = n + 1) (hk : k < n) : ws.dropLast.drop k = (ws[k]'(by omega)) :: ws.dropLast.drop (k + 1) := by
  have hl : k < ws.dropLast.length := by simp; omega
  rw [List.drop_eq_getElem_cons hl, List.getElem_dropLast]

/-- What the document's Parse answers, in memory. -/
def ParQ (w : World) (l : List UInt8) (e : Ending) (w' : World) : Prop :=
  ∃ A c, e = .returned (.tuple #[.slice A (parseP l).1.length c, .int .i64 (parseP l).2.1, .int .i64 (parseP l).2.2]) ∧ ProgAt w' w'.heap.size A (parseP l).1 ∧ Below w.heap.size w w'

set_option maxHeartbeats 4000000 in
set_option maxRecDepth 100000 in
theorem pparse_any (l : List UInt8) (w : World) (hl : l.length ≤ 1000000) :
    Calls Tryz.prog 26 #[.string ⟨l.toArray⟩] w fun e w' => ParQ w l e w' := by
  cases hs : splitL 10 l with
  | nil => exact absurd hs (splitL_ne 10 l)
  | cons w0 rest =>
    have S := Lib.hid (psplit_cells 10 hs hl w)
    rw [show ((10 : UInt8).toNat : Int) = 10 from rfl] at S
    have hwl : ∀ x ∈ w0 :: rest, x.length ≤ 1000000 := fun x hx => by
      have := split_len (c := 10) (l := l) x (by rw [hs]; exact hx)
      omega
    have HWL := Lib.hid hwl
    have HE := Lib.hid (fun (p : List Fun) h => parse_end hs (p := p) h)
    have HS := Lib.hid (fun (p : List Fun) n h => parse_stop hs (p := p) (n := n) h)
    have hlen : rest.length ≤ 1000000 := by
      have h1 := joinC_len 10 (splitL 10 l)
      rw [join_split, hs, List.length_cons] at h1
      omega
    clear hs hwl
    go_enter Tryz.func26, Tryz.ntmps26
    go_wp2_with (go_at_call 44; (with_reducible refine S.out.mono ?_); rintro e u ⟨g, cs, rfl, hg1, hg2, hcell, hbu⟩; have HCE := Lib.hid hcell; clear hcell)
    go_loopw [6, 7] (fun v iv wr => ∃ (k : Nat) (L : List (Fun × Value)), iv = .int .i64 k ∧ k ≤ rest.length ∧ OwnL wr u.heap.size v L ∧ L.length ≤ 16 ∧ (∀ x ∈ L, x.1.code.length ≤ 200) ∧ Below u.heap.size u wr ∧
      runL [] (w0 :: rest).dropLast = ((runL (L.map (·.1)) ((w0 :: rest).dropLast.drop k)).1, k + (runL (L.map (·.1)) ((w0 :: rest).dropLast.drop k)).2.1, (runL (L.map (·.1)) ((w0 :: rest).dropLast.drop k)).2.2)) (fun _ iv _ => rest.length - (intOf iv).toNat)
    case atStart => exact ⟨0, [], rfl, by omega, OwnL.made u, by simp, by simp, (Below.refl _ _).alloc (Nat.le_refl _) _, by simp⟩
    case round =>
      obtain ⟨k, L, rfl, hk, hO, h16, hc, hbr, hrun⟩ := hrel
      obtain ⟨Av, cv, rfl, hp⟩ := hO.prog
      by_cases hlt : k < rest.length
      · have hkk : k < (w0 :: rest).length := by simp; omega
        have c0 : wr.cell? ⟨g, k, none⟩ = some (.string ⟨((w0 :: rest)[k]).toArray⟩) := (hbr.cell (p := ⟨g, k, none⟩) hg2).trans (HCE.out k hkk)
        have hxl := HWL.out _ (List.getElem_mem hkk)
        rw [drop_last_cons (n := rest.length) (by simp) hlt] at hrun
        have hst : ∀ q, addQ (L.map (·.1)) ((w0 :: rest)[k]) = some q → runL [] (w0 :: rest).dropLast = ((runL q ((w0 :: rest).dropLast.drop (k + 1))).1, (k + 1) + (runL q ((w0 :: rest).dropLast.drop (k + 1))).2.1, (runL q ((w0 :: rest).dropLast.drop (k + 1))).2.2) := fun q hq => by
          rw [hrun, runL_some _ hq]
          simp only
          congr 2
          omega
        have hno : addQ (L.map (·.1)) ((w0 :: rest)[k]) = none → parseP l = ([], k, 70) := fun hq => by
          rw [runL_none _ hq] at hrun
          exact HS.out _ _ hrun
        have HST := Lib.hid hst
        have HNO := Lib.hid hno
        have P := play_any (l := (w0 :: rest)[k]) hxl wr hO hbr.size h16 hc
        have hsm := fun q (hq : addQ (L.map (·.1)) ((w0 :: rest)[k]) = some q) => addQ_small hq (by rw [List.length_map]; exact h16) (fun f hf => by
          obtain ⟨x, hx, rfl⟩ := List.mem_map.1 hf
          exact hc x hx)
        have HSM := Lib.hid hsm
        generalize (w0 :: rest)[k] = x at *
        have HP := Lib.hid P
        clear hst hno hrun hp P hsm hO hc hxl
        cases hq : addQ (L.map (·.1)) x with
        | none =>
          have HQ := Lib.hid hq
          have hpe := HNO.out hq
          clear hq
          go_wp2_with (go_at_call 45; (with_reducible refine HP.out.mono ?_); rintro e u2 ⟨v2, b, L2, rfl, hb2, ho2, _, hn2⟩; obtain rfl := hn2 HQ.out; obtain ⟨A2, c2, rfl, _⟩ := ho2.prog; have HPE := Lib.hid hpe; clear hn2 ho2 hpe)
          go_returns
          unfold ParQ
          rw [HPE.out]
          exact ⟨none, 0, rfl, ProgAt.nil _ _ _, Below.step hbu (hbr.trans hb2)⟩
        | some q =>
          have HQ := Lib.hid hq
          clear hq
          go_wp2_with (go_at_call 45; (with_reducible refine HP.out.mono ?_); rintro e u2 ⟨v2, b, L2, rfl, hb2, ho2, hs2, _⟩; obtain ⟨rfl, hm2⟩ := hs2 q HQ.out; obtain ⟨A2, c2, rfl, _⟩ := ho2.prog; have HO2 := Lib.hid ho2; have HM2 := Lib.hid hm2; clear hs2 ho2 hm2)
          go_round
          case rel =>
            obtain ⟨s1, s2⟩ := HSM.out q HQ.out
            rw [← HM2.out] at s1 s2
            refine ⟨k + 1, L2, by go_num, by omega, HO2.out, by rwa [List.length_map] at s1, fun y hy => s2 y.1 (List.mem_map.2 ⟨y, hy, rfl⟩), hbr.trans hb2, ?_⟩
            rw [HM2.out]
            exact HST.out q HQ.out
          case measure => simp [intOf]; omega
      · obtain rfl : k = rest.length := by omega
        rw [List.drop_of_length_le (by simp), runL_nil] at hrun
        have hpe := HE.out _ hrun
        have c0 : wr.cell? ⟨g, rest.length, none⟩ = some (.string ⟨((w0 :: rest)[rest.length]).toArray⟩) := (hbr.cell (p := ⟨g, rest.length, none⟩) hg2).trans (HCE.out rest.length (by simp))
        generalize (w0 :: rest)[rest.length] = x at *
        have hpl : (L.map (·.1)).length = L.length := List.length_map _
        have hsz : SizedP (L.map (·.1)) := ⟨by rw [hpl]; unfold maxLen; omega, fun f hf => by
          obtain ⟨y, hy, rfl⟩ := List.mem_map.1 hf
          have := hc y hy
          unfold maxLen
          omega⟩
        have PM := pmay_any cv wr hp hsz (Nat.le_refl _)
        rw [hpl] at PM
        have HP := Lib.hid hp
        have HPL := Lib.hid hpl
        have hwb := Below.step hbu hbr
        clear hrun hp hsz hpl hO hc
        by_cases hx : x = []
        · subst hx
          cases hm : mayP (L.map (·.1)) with
          | true =>
            rw [hm] at PM
            rw [if_pos ⟨rfl, hm⟩] at hpe
            have HPE := Lib.hid hpe
            clear hpe hm
            go_wp2_with (go_at_call 39; (with_reducible refine PM.mono ?_); rintro e u2 ⟨rfl, hb2⟩)
            go_returns
            unfold ParQ
            rw [HPE.out]
            exact ⟨Av, cv, by rw [HPL.out]; rfl, (HP.out.below hb2 (Nat.le_refl _)).more hb2.size, Below.step hwb hb2⟩
          | false =>
            rw [hm] at PM
            rw [if_neg (fun h => by rw [hm] at h; cases h.2)] at hpe
            have HPE := Lib.hid hpe
            clear hpe hm
            go_wp2_with (go_at_call 39; (with_reducible refine PM.mono ?_); rintro e u2 ⟨rfl, hb2⟩)
            go_returns
            unfold ParQ
            rw [HPE.out]
            exact ⟨none, 0, rfl, ProgAt.nil _ _ _, Below.step hwb hb2⟩
        · rw [if_neg (fun h => hx h.1)] at hpe
          have HPE := Lib.hid hpe
          have hne : (x == ([] : List UInt8)) = false := by simpa using hx
          clear hpe hx
          go_wp2_with fail
          go_returns
          unfold ParQ
          rw [HPE.out]
          exact ⟨none, 0, rfl, ProgAt.nil _ _ _, hwb⟩
end Go.Proofs.YtagjddnpaahebaaGreatDoor

/- Programs that may be have sizes. -/
namespace Go.Proofs.YtagjddnpaahebaaGreatDoor
set_option linter.unusedVariables false
set_option linter.unusedSimpArgs false
open Go.RowKit Go.ChangeShapes Go.WideShapes Go.ChangeAt Go.Sort

theorem may_sized {p : List Fun} (h : mayP p = true) : SizedP p := by
  obtain ⟨_, h2, h3⟩ := (mayP_iff p).1 h
  refine ⟨by unfold maxLen; omega, fun f hf => ?_⟩
  have := h3 f hf
  unfold mayF at this
  simp only [Bool.and_eq_true, decide_eq_true_eq] at this
  unfold maxLen
  omega
theorem nil_sized : SizedP [] := ⟨by simp, fun f hf => by simp at hf⟩
theorem parse_sized (l : List UInt8) : SizedP (parseP l).1 := by
  by_cases h : (parseP l).2.2 = 0
  · exact may_sized (text_parse h).1
  · rw [(parse_none h).1]
    exact nil_sized
end Go.Proofs.YtagjddnpaahebaaGreatDoor

/- Layer 9: the calls whose answers the document fixes. -/
namespace Go.Proofs.YtagjddnpaahebaaGreatDoor
set_option linter.unusedVariables false
set_option linter.unusedSimpArgs false
open Gm Go.RowKit Go.ChangeShapes Go.WideShapes Go.ChangeAt Go.Sort

/-- New, at every program. -/
theorem new_any {B : Nat} {A A2 : Option Addr} {p : List Fun} {args : List V} (c c2 : Nat) (fn s : Int) (w : World) (hT : TabB w B) (h : ProgAt w B A p) (hz : SizedP p) (ha : VAt w B A2 args) (hl : args.length ≤ 1000) (hB : B ≤ w.heap.size) :
    Calls Tryz.prog 21 #[.slice A p.length c, .int .i64 fn, .slice A2 args.length c2, .int .i64 s] w fun e w' => NewQ w (newF p fn args s) e w' := by
  by_cases hy : mayP p = true ∧ hasI p.length fn = true ∧ isZ s = true
  · exact new_yes c c2 fn s w hT h hz ha hl hB hy.1 hy.2.1 hy.2.2
  · exact new_no c c2 fn s w hT h hz hB hy
/-- What the calls of a program answer, from world U on, where it lies. -/
structure Cx (p : List Fun) (A : Option Addr) (n c : Nat) (U : World) : Prop where
  new : ∀ W fn args m s R A2 c2, Below U.heap.size U W → VAt W W.heap.size A2 args → args.length = m → m ≤ 1000 → newF p fn args s = R → Calls Tryz.prog 21 #[.slice A n c, .int .i64 fn, .slice A2 m c2, .int .i64 s] W fun e w' => NewQ W R e w'
  act : ∀ W F R cs, Below U.heap.size U W → FrmAt W W.heap.size (.agg cs) F → FrmLen F → doF p F = R → Calls Tryz.prog 81 #[.slice A n c, .agg cs] W fun e w' => DoQ W R e w'
  giv : ∀ W F R cs sl t re im, Below U.heap.size U W → FrmAt W W.heap.size (.agg cs) F → FrmLen F → giveF F sl t (re, im) = R → Calls Tryz.prog 83 #[.agg cs, .int .i64 sl, outv t re im] W fun e w' => GivQ W R e w'
theorem cx_of {p : List Fun} {A : Option Addr} {c : Nat} {U : World} (hT : TabB U U.heap.size) (hp : ProgAt U U.heap.size A p) (hz : SizedP p) : Cx p A p.length c U := by
  refine ⟨fun W fn args m s R A2 c2 hw ha hm hl e => ?_, fun W F R cs hw hf hl e => ?_, fun W F R cs sl t re im hw hf hl e => ?_⟩
  · subst hm
    rw [← e]
    exact new_any c c2 fn s W ((hT.below hw (Nat.le_refl _)).more hw.size) ((hp.below hw (Nat.le_refl _)).more hw.size) hz ha hl (Nat.le_refl _)
  · rw [← e]
    exact do_any c W ((hp.below hw (Nat.le_refl _)).more hw.size) hf (Nat.le_refl _) (Nat.le_refl _) ((hT.below hw (Nat.le_refl _)).more hw.size) hz hl
  · rw [← e]
    exact give_any sl t re im W hf (Nat.le_refl _) ((hT.below hw (Nat.le_refl _)).more hw.size) hl
theorem fin_at {W : World} {F : Frm} {cs : Array Value} {t re im : Int} {b : Bool} (h : FrmAt W W.heap.size (.agg cs) F) (hl : FrmLen F) (e : finF F = (t, (re, im), b)) : Calls Tryz.prog 82 #[.agg cs] W fun x w' => x = .returned (.tuple #[outv t re im, .bool b]) ∧ Below W.heap.size W w' := by
  have := final_any W h hl (Nat.le_refl _)
  rw [e] at this
  exact this
theorem len9 (F : Frm) (h : F.stk.length ≤ 1000 ∧ F.loc.length ≤ 1000 ∧ F.slt.length ≤ 1000) : FrmLen F := ⟨h.1, h.2.1, h.2.2⟩
end Go.Proofs.YtagjddnpaahebaaGreatDoor

