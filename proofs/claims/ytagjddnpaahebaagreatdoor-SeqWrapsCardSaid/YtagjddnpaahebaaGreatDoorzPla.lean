/- Layer 7: the document's lay: a line's words and numbers. -/
import Derived.Deep.DeepCutAuto
import Derived.Deep.CutBlock
import Derived.Deep.RegionHeld3
import Derived.Deep.RegionLaw
import Derived.Deep.AppendLies
import Derived.BigQuiet
import Derived.Deep.QuietTactic
import Derived.RegionTactic
import Derived.Test.YtagjddnpaahebaaGreatDoorzHh
import Derived.Test.YtagjddnpaahebaaGreatDoorzHj
import Derived.Test.YtagjddnpaahebaaGreatDoorzGf
import Derived.Test.YtagjddnpaahebaaGreatDoorzPr1
namespace Go.Proofs.YtagjddnpaahebaaGreatDoor
set_option linter.unusedVariables false
set_option linter.unusedSimpArgs false
open Go.RowKit Go.ChangeShapes Go.WideShapes Go.ChangeAt Go.Sort

theorem addQ_bad {p : List Fun} {l w0 : List UInt8} {rest : List (List UInt8)} (h : splitL 32 l = w0 :: rest) (hb : ¬ (rest.length ≤ 3 ∧ ∀ w ∈ rest, 0 ≤ numV w)) : addQ p l = none := by
  unfold addQ lineOf
  rw [h]
  simp only
  rw [show numsW rest = none by unfold numsW; rw [if_neg hb]]
  rfl
theorem addQ_nums {p : List Fun} {l w0 : List UInt8} {rest : List (List UInt8)} (h : splitL 32 l = w0 :: rest) (hb : rest.length ≤ 3 ∧ ∀ w ∈ rest, 0 ≤ numV w) : addQ p l = (lineC (w0, rest.map numV)).bind (layL p) := by
  unfold addQ lineOf lineC
  rw [h]
  simp only
  rw [show numsW rest = some (rest.map numV) by unfold numsW; rw [if_pos hb]]
/-- The numbers as they lie. -/
def nArr (ns : List Int) : Array Value := #[.int .i64 (ns.getD 0 0), .int .i64 (ns.getD 1 0), .int .i64 (ns.getD 2 0)]
theorem nArr_get (ns : List Int) {m : Nat} (h : m < 3) : (nArr ns)[m]? = some (.int .i64 (ns.getD m 0)) := by
  match m, h with
  | 0, _ => rfl
  | 1, _ => rfl
  | 2, _ => rfl
theorem nArr_snoc (ns : List Int) (n : Int) (h : ns.length < 3) : (nArr ns).setIfInBounds ns.length (.int .i64 n) = nArr (ns ++ [n]) := by
  match ns, h with
  | [], _ => rfl
  | [a], _ => rfl
  | [a, b], _ => rfl
/-- What a line more makes of a program of the call's own. -/
def LayR (B : Nat) (w : World) (p : List Fun) (l : List UInt8) (e : Ending) (w' : World) : Prop :=
  ∃ v' b L', e = .returned (.tuple #[v', .bool b]) ∧ Below B w w' ∧ OwnL w' B v' L' ∧ (∀ q, addQ p l = some q → b = true ∧ L'.map (·.1) = q) ∧ (addQ p l = none → b = false)
theorem LayR.no {B : Nat} {w w' : World} {v : Value} {L : List (Fun × Value)} {p : List Fun} {l : List UInt8} (h : OwnL w B v L) (hB : B ≤ w.heap.size) (hb : Below w.heap.size w w') (hq : addQ p l = none) : LayR B w p l (.returned (.tuple #[v, .bool false])) w' :=
  ⟨v, false, L, rfl, hb.mono hB, h.below hb, fun q h => (by rw [hq] at h; cases h), fun _ => rfl⟩

theorem psplit_cells {l w0 : List UInt8} {rest : List (List UInt8)} (c : UInt8) (h : splitL c l = w0 :: rest) (hl : l.length ≤ 1000000) (w : World) :
    Calls Tryz.prog 44 #[.string ⟨l.toArray⟩, .int .u8 (c.toNat : Int)] w fun e w' => ∃ g cs, e = .returned (.slice (some ⟨g, 0, none⟩) (rest.length + 1) cs) ∧ w.heap.size ≤ g ∧ g < w'.heap.size ∧
      (∀ j (hj : j < (w0 :: rest).length), w'.cell? ⟨g, j, none⟩ = some (.string ⟨((w0 :: rest)[j]).toArray⟩)) ∧ Below w.heap.size w w' := by
  have S := psplit_any ⟨l.toArray⟩ c w (by rw [strb_size]; exact hl)
  rw [show (⟨l.toArray⟩ : ByteArray).data.toList = l by simp, h] at S
  refine S.mono fun e w' ⟨v, he, hv, hb⟩ => ?_
  subst he
  obtain ⟨A, cs, rfl, hcs⟩ := hv.form
  obtain ⟨g, rfl, hg1, hg2, hcell⟩ := hcs (by simp)
  refine ⟨g, cs, by rw [List.length_map]; rfl, hg1, hg2, fun j hj => ?_, hb⟩
  rw [hcell j (by rw [List.length_map]; exact hj), List.getElem_map]
  rfl

/-- What is kept on the way: the numbers, the first word. -/
theorem keepL {W0 W : World} {N g : Nat} {t : TypeId} {a b c x : Value} (hN : Held W0 N t #[a, b, c]) (hg : W0.cell? ⟨g, 0, none⟩ = some x) (hb : Below W0.heap.size W0 W) :
    Below W0.heap.size W0 W ∧ W.cell? ⟨N, 0, none⟩ = some a ∧ W.cell? ⟨N, 1, none⟩ = some b ∧ W.cell? ⟨N, 2, none⟩ = some c ∧ W.cell? ⟨g, 0, none⟩ = some x :=
  ⟨hb, (hN.below hb).cell 0, (hN.below hb).cell 1, (hN.below hb).cell 2, (hb.cell (p := ⟨g, 0, none⟩) (block_lt_of_cell hg)).trans hg⟩
def KeepL (W0 : World) (N g : Nat) (a b c x : Value) (W : World) : Prop := Below W0.heap.size W0 W ∧ W.cell? ⟨N, 0, none⟩ = some a ∧ W.cell? ⟨N, 1, none⟩ = some b ∧ W.cell? ⟨N, 2, none⟩ = some c ∧ W.cell? ⟨g, 0, none⟩ = some x
/-- Behind 'x := ..': where the instruction lies, and what it holds. -/
def MidI (W0 : World) (o a b : Int) (v : Value) (wx : World) : Prop :=
  ∃ k : Nat, v = .pointer (some ⟨k, 0, none⟩) ∧ wx.cell? ⟨k, 0, none⟩ = some (.int .i64 o) ∧ wx.cell? ⟨k, 1, none⟩ = some (.int .i64 a) ∧ wx.cell? ⟨k, 2, none⟩ = some (.int .i64 b) ∧ Below W0.heap.size W0 wx

/-- The last function has a code more: how it is stored whole. -/
theorem own_lay {B gp capp : Nat} {L0 : List (Fun × Value)} {f : Fun} {cf cv' : Value} {x : Ins} {u w2 : World} (h : OwnL u B (.slice (some ⟨gp, 0, none⟩) (L0.length + 1) capp) (L0 ++ [(f, cf)])) (hB : B ≤ u.heap.size)
    (ho : OwnC w2 B cv' (f.code ++ [x])) (hg : u.grownBy w2 cf.ownBlock) (hl : ∀ b, cv'.ownBlock = some b → cf.ownBlock = some b ∨ u.heap.size ≤ b) :
    (w2.cell? ⟨gp, L0.length * 4, none⟩ = some (.int .i64 f.ar) ∧ w2.cell? ⟨gp, L0.length * 4 + 1, none⟩ = some (.int .i64 f.lo) ∧ w2.cell? ⟨gp, L0.length * 4 + 2, none⟩ = some (.int .i64 f.sl) ∧ w2.cell? ⟨gp, L0.length * 4 + 3, none⟩ = some cf ∧ (∀ i, w2.frozen? ⟨gp, i, none⟩ = false) ∧ gp < u.heap.size) ∧
      OwnL ((((w2.setCell ⟨gp, L0.length * 4, none⟩ (.int .i64 f.ar)).setCell ⟨gp, L0.length * 4 + 1, none⟩ (.int .i64 f.lo)).setCell ⟨gp, L0.length * 4 + 2, none⟩ (.int .i64 f.sl)).setCell ⟨gp, L0.length * 4 + 3, none⟩ cv') B (.slice (some ⟨gp, 0, none⟩) (L0.length + 1) capp) (L0 ++ [(⟨f.ar, f.lo, f.sl, f.code ++ [x]⟩, cv')]) ∧
      Below B u ((((w2.setCell ⟨gp, L0.length * 4, none⟩ (.int .i64 f.ar)).setCell ⟨gp, L0.length * 4 + 1, none⟩ (.int .i64 f.lo)).setCell ⟨gp, L0.length * 4 + 2, none⟩ (.int .i64 f.sl)).setCell ⟨gp, L0.length * 4 + 3, none⟩ cv') := by
  obtain ⟨hCo, hcf, hdis⟩ := h.2.init
  have hrow := h.1
  rw [List.length_append, List.length_singleton] at hrow
  obtain ⟨gp', capp', e, hgB, hgl, k0, k1, k2, k3, kf⟩ := h.last
  simp only [Value.slice.injEq, Option.some.injEq, Addr.mk.injEq, and_true, true_and] at e
  obtain ⟨rfl, rfl⟩ := e
  have hne : cf.ownBlock ≠ some gp := fun e => own_ne hcf hrow gp e rfl
  have hrow2 := hrow.kept hg (.inr (fun e => hne e.symm))
  have hc2 : Codes w2 B L0 := hCo.grown hg fun y hy b hb e => hdis y hy b hb e
  have hd2 : ∀ y ∈ L0, ∀ b, y.2.ownBlock = some b → cv'.ownBlock ≠ some b := fun y hy b hb e => by
    rcases hl b e with h1 | h1
    · exact hdis y hy b hb h1
    · have := ((hCo.1 y hy).lt b hb).2
      omega
  have hm := OwnL.set (f' := ⟨f.ar, f.lo, f.sl, f.code ++ [x]⟩) hrow2 hc2 ho hd2
  have hfar : some gp ≠ cf.ownBlock := fun e => hne e.symm
  refine ⟨⟨hg.cell k0 hfar, hg.cell k1 hfar, hg.cell k2 hfar, hg.cell k3 hfar, fun i => ?_, hgl⟩, hm, ?_⟩
  · have := kf i
    rw [World.frozen?_of_block (a := ⟨gp, i, none⟩) (hg.block gp hgl hfar)]
    exact this
  · exact (((((Below.refl B u).grown hg hB (fun b hb => (hcf.lt b hb).1)).setCell (by show B ≤ gp; omega) _).setCell (by show B ≤ gp; omega) _).setCell (by show B ≤ gp; omega) _).setCell (by show B ≤ gp; omega) _
/-- Slices that are the same. -/
theorem slice_inj {A A' : Option Addr} {n n' c c' : Nat} (h : Value.slice A n c = .slice A' n' c') : A = A' ∧ n = n' ∧ c = c' := by
  cases h
  exact ⟨rfl, rfl, rfl⟩

set_option maxHeartbeats 8000000 in
set_option maxRecDepth 100000 in
theorem play_any {B : Nat} {v : Value} {L : List (Fun × Value)} {l : List UInt8} (hl : l.length ≤ 1000000) (w : World) (h : OwnL w B v L) (hB : B ≤ w.heap.size) (hn : L.length ≤ 16) (hc : ∀ x ∈ L, x.1.code.length ≤ 200) :
    Calls Tryz.prog 45 #[v, .string ⟨l.toArray⟩] w fun e w' => LayR B w (L.map (·.1)) l e w' := by
  obtain ⟨Av, cv, rfl, _⟩ := h.prog
  have HO := Lib.hid h
  have HC := Lib.hid hc
  cases hs : splitL 32 l with
  | nil => exact absurd hs (splitL_ne 32 l)
  | cons w0 rest =>
    have hlen : (w0 :: rest).length ≤ 1000001 := by
      rw [← hs]
      have h1 := joinC_len 32 (splitL 32 l)
      rw [join_split] at h1
      omega
    have S := Lib.hid (psplit_cells 32 hs hl w)
    rw [show ((32 : UInt8).toNat : Int) = 32 from rfl] at S
    have HB := Lib.hid (fun h => addQ_bad (p := L.map (·.1)) hs h)
    have HG := Lib.hid (fun h => addQ_nums (p := L.map (·.1)) hs h)
    generalize hnL : L.length = nL at *
    have HNL0 := Lib.hid hnL
    clear h hc hs hnL
    go_enter Tryz.func45, Tryz.ntmps45
    go_wp2_with (go_at_call 44; (with_reducible refine S.out.mono ?_); rintro e u ⟨g, cs, rfl, hg1, hg2, hcell, hbu⟩)
    have HCE := Lib.hid hcell
    clear hcell
    go_loopw [8] (fun iv wr => ∃ (m : Nat) (ns : List Int), iv = .int .i64 ((m : Int) + 1) ∧ m ≤ rest.length ∧ ns.length = m ∧ ns = (rest.take m).map numV ∧ m ≤ 3 ∧ (∀ n ∈ ns, 0 ≤ n) ∧ Below u.heap.size u wr ∧ Held wr u.heap.size 3 (nArr ns)) (fun iv _ => rest.length + 1 - (intOf iv).toNat)
    case atStart => exact ⟨0, [], rfl, by omega, rfl, rfl, by omega, by simp, (Below.refl _ _).alloc (Nat.le_refl _) _, Held.new u 3 (nArr [])⟩
    case round =>
      obtain ⟨m, ns, rfl, hm, hnl, hns, hm3, hpos, hbr, hH⟩ := hrel
      have hgr : g < u.heap.size := hg2
      by_cases hlt : m < rest.length
      · have c0 : wr.cell? ⟨g, m + 1, none⟩ = some (.string ⟨(rest[m]).toArray⟩) := (hbr.cell (p := ⟨g, m + 1, none⟩) hgr).trans (HCE.out (m + 1) (by simpa using hlt))
        have NB := pnumber_any ⟨(rest[m]).toArray⟩
        rw [show (⟨(rest[m]).toArray⟩ : ByteArray).data.toList = rest[m] by simp] at NB
        have htk : rest.take (m + 1) = rest.take m ++ [rest[m]] := List.take_succ_eq_append_getElem hlt
        have hmem : rest[m] ∈ rest := List.getElem_mem hlt
        have hbad : ¬ (0 ≤ numV rest[m] ∧ m < 3) → addQ (L.map (·.1)) l = none := fun h => HB.out (fun h2 => h ⟨h2.2 _ hmem, by omega⟩)
        have HBAD := Lib.hid hbad
        have HTK := Lib.hid htk
        generalize rest[m] = x at *
        have hsz := hbr.size
        have hNl := hH.lt
        have hz0 := hbu.size
        clear htk hmem hbad
        by_cases hx : 0 ≤ numV x ∧ m < 3
        · obtain ⟨hx0, hx3⟩ := hx
          have c1 : wr.cell? ⟨u.heap.size, m, none⟩ = some (.int .i64 (ns.getD m 0)) := (hH.cell m).trans (nArr_get ns hx3)
          have f1 := hH.fz m
          have HH := Lib.hid hH
          have HNS := Lib.hid hns
          have HPOS := Lib.hid hpos
          have HNL := Lib.hid hnl
          generalize ns.getD m 0 = y at c1
          generalize hnv : numV x = nv at *
          have HNV := Lib.hid hnv
          clear hH hns hpos hnl hnv
          go_wp2_with (go_at_call 71; (with_reducible refine (NB.go _).mono ?_); rintro e v2 ⟨rfl, hb2⟩; have c2 := (hb2.cell (p := ⟨u.heap.size, m, none⟩) hNl).trans c1; have f2 := (hb2.frozen (p := ⟨u.heap.size, m, none⟩) hNl).trans f1; have hz2 := hb2.size)
          go_roundw
          case rel =>
            refine ⟨m + 1, ns ++ [nv], by go_num, by omega, by rw [List.length_append, HNL.out]; rfl, by rw [HTK.out, List.map_append, ← HNS.out, ← HNV.out]; rfl, by omega, fun n hn => ?_, (Below.step hbr hb2).setCell (by show u.heap.size ≤ u.heap.size; omega) _, ?_⟩
            · rcases List.mem_append.1 hn with h | h
              · exact HPOS.out n h
              · simp only [List.mem_singleton] at h
                omega
            · have := (HH.out.below hb2).set_at m (.int .i64 nv)
              rw [← HNL.out, nArr_snoc ns nv (by rw [HNL.out]; exact hx3), HNL.out] at this
              exact this
          case measure => simp [intOf]; omega
        · have hq := HBAD.out hx
          have HQ := Lib.hid hq
          have hm4 : numV x < 0 ∨ (0 ≤ numV x ∧ m = 3) := by omega
          clear hq hx hns hpos hnl hH
          rcases hm4 with h1 | ⟨h1, rfl⟩
          all_goals
            go_wp2_with (go_at_call 71; (with_reducible refine (NB.go _).mono ?_); rintro e v2 ⟨rfl, hb2⟩)
            go_returns
            exact LayR.no HO.out hB (Below.step (Below.step hbu hbr) hb2) HQ.out
      · obtain rfl : m = rest.length := by omega
        rw [List.take_length] at hns
        have hok : rest.length ≤ 3 ∧ ∀ w ∈ rest, 0 ≤ numV w := ⟨hm3, fun w hw => hpos _ (by rw [hns]; exact List.mem_map.2 ⟨w, hw, rfl⟩)⟩
        have hq := HG.out hok
        rw [← hns] at hq
        have hbw : Below w.heap.size w wr := Below.step hbu hbr
        have c0 : wr.cell? ⟨g, 0, none⟩ = some (.string ⟨w0.toArray⟩) := (hbr.cell (p := ⟨g, 0, none⟩) hgr).trans (HCE.out 0 (by simp))
        have HOr := Lib.hid (HO.out.below hbw)
        have hBr : B ≤ wr.heap.size := Nat.le_trans hB hbw.size
        have HNo := Lib.hid (fun w' (h : Below wr.heap.size wr w') h2 => LayR.no HO.out hB (Below.step hbw h) (h2 : addQ (L.map (·.1)) l = none))
        clear hok hns hpos hbr HG HB HCE S
        by_cases hf : w0 = funcW
        · subst hf
          rw [lineC_head rfl] at hq
          rw [show (⟨funcW.toArray⟩ : ByteArray) = ⟨#[102, 117, 110, 99]⟩ from rfl] at c0
          have hH2 : Held wr u.heap.size 3 #[.int .i64 (ns.getD 0 0), .int .i64 (ns.getD 1 0), .int .i64 (ns.getD 2 0)] := hH
          rw [hnl] at hq
          have HQ := Lib.hid hq
          have n0 := hH2.cell 0
          have n1 := hH2.cell 1
          have n2 := hH2.cell 2
          simp at n0 n1 n2
          generalize ns.getD 0 0 = xa at *
          generalize ns.getD 1 0 = xb at *
          generalize ns.getD 2 0 = xc at *
          have HX := Lib.hid hH2
          have C0 := Lib.hid c0
          clear hq hH hH2
          go_upto_region 12 with (fail)
          clear n0 n1 n2 c0
          go_region_held3 (fun W => Below wr.heap.size wr W ∧ W.cell? ⟨u.heap.size, 0, none⟩ = some (.int .i64 xa) ∧ W.cell? ⟨u.heap.size, 1, none⟩ = some (.int .i64 xb) ∧ W.cell? ⟨u.heap.size, 2, none⟩ = some (.int .i64 xc) ∧ W.cell? ⟨g, 0, none⟩ = some (.string ⟨#[102, 117, 110, 99]⟩))
            (first
              | exact keepL HX.out C0.out (Below.refl _ _).drew
              | exact keepL HX.out C0.out ((Below.refl _ _).alloc (Nat.le_refl _) _).drew
              | exact keepL HX.out C0.out (Below.step (And.left (by assumption)) (by assumption))
              | exact keepL HX.out C0.out (Below.drew (And.left (by assumption)))
              | exact keepL HX.out C0.out (Below.alloc (And.left (by assumption)) (Below.size (And.left (by assumption))) _)
              | go_keep)
            (fail)
          have hF : Held (wr.alloc (.cells #[.int .i64 xa, .int .i64 xb, .int .i64 xc, .slice none 0 0] 41)).drew wr.heap.size 41 #[.int .i64 xa, .int .i64 xb, .int .i64 xc, .slice none 0 0] := held_drew (Held.new wr _ _)
          have hbx : Below wr.heap.size wr (wr.alloc (.cells #[.int .i64 xa, .int .i64 xb, .int .i64 xc, .slice none 0 0] 41)).drew := ((Below.refl wr.heap.size wr).alloc (Nat.le_refl _) _).drew
          generalize (wr.alloc (.cells #[.int .i64 xa, .int .i64 xb, .int .i64 xc, .slice none 0 0] 41)).drew = wc at *
          have f0 := hF.cell 0
          have f1 := hF.cell 1
          have f2 := hF.cell 2
          have f3 := hF.cell 3
          have fl := hF.lt
          simp at f0 f1 f2 f3
          have HOx := Lib.hid (HOr.out.below hbx)
          have hwx := hbw.trans (hbx.mono hbw.size)
          have CH := phead_any xa xb xc (.slice none 0 0)
          by_cases h3 : rest.length = 3
          · have e1 : (((rest.length + 1 : Nat) : Int) != 4) = false := by simp; omega
            have e2 : ((rest.length : Int) + 1 != 4) = false := by simp; omega
            have hq := HQ.out
            clear HQ
            cases hhd : headB xa xb xc with
            | false =>
              rw [hhd] at CH hq
              rw [if_neg (fun h => by cases h.2)] at hq
              have HQ2 := Lib.hid hq
              clear hq hnl h3 hhd
              go_wp2_with (go_at_call 58; (with_reducible refine (CH.go _).mono ?_); rintro e v3 ⟨rfl, hb3⟩)
              go_returns
              exact HNo.out _ (Below.step hbx hb3) HQ2.out
            | true =>
              rw [hhd] at CH hq
              rw [if_pos ⟨h3, rfl⟩] at hq
              have hq : addQ (L.map (·.1)) l = layH (L.map (·.1)) xa xb xc := hq
              clear hnl h3 hhd
              have hBc := Nat.le_trans hBr hbx.size
              rcases own_split L with rfl | ⟨L0, ⟨f, cf⟩, rfl⟩
              · have h0 := HNL0.out
                simp only [List.length_nil] at h0
                subst h0
                have hq2 : addQ (([] : List (Fun × Value)).map (·.1)) l = some [⟨xa, xb, xc, []⟩] := by rw [hq]; rfl
                have HQ2 := Lib.hid hq2
                clear hq hq2
                go_wp2_with (first
                  | (go_at_call 58; (with_reducible refine (CH.go _).mono ?_); rintro e v3 ⟨rfl, hb3⟩; have y0 := (hb3.cell (p := ⟨wr.heap.size, 0, none⟩) fl).trans f0; have y1 := (hb3.cell (p := ⟨wr.heap.size, 1, none⟩) fl).trans f1; have y2 := (hb3.cell (p := ⟨wr.heap.size, 2, none⟩) fl).trans f2; have y3 := (hb3.cell (p := ⟨wr.heap.size, 3, none⟩) fl).trans f3; have HO3 := Lib.hid (HOx.out.below hb3); have hB3 := Nat.le_trans hBc hb3.size)
                  | (at_builtin; refine wpList_append_fun2 _ Tryz.underlying23 rfl _ _ rfl B _ _ [] ⟨xa, xb, xc, []⟩ (.slice none 0 0) rfl rfl HO3.out (OwnC.nil _ _) (fun _ _ _ _ => by simp [Value.ownBlock]) (by show Value.slice (some ⟨_, 0, none⟩) 1 1 = _; simp) (by simp) hB3 ?_; intro v' w2 ho2 hg2; have HF2 := Lib.hid (And.intro ho2 hg2); clear ho2 hg2))
                go_returns
                refine ⟨_, true, _, rfl, ((hwx.mono hB).trans (hb3.mono hBc)).trans ((Below.refl B v3).grown HF2.out.2 hB3 (fun b e => (HO3.out.1.lt b e).1)), HF2.out.1, fun q h => ?_, fun h => ?_⟩
                · rw [HQ2.out] at h
                  cases h
                  exact ⟨rfl, rfl⟩
                · rw [HQ2.out] at h
                  cases h
              · have h0 := HNL0.out
                rw [List.length_append, List.length_singleton] at h0
                subst h0
                rw [List.map_append] at hq
                have hq : addQ ((L0 ++ [(f, cf)]).map (·.1)) l = layH (L0.map (·.1) ++ [f]) xa xb xc := by rw [List.map_append]; exact hq
                obtain ⟨gp, cap, e, _⟩ := HOx.out.last
                obtain ⟨rfl, _, rfl⟩ := slice_inj e
                have hoc : OwnC wc B cf f.code := HOx.out.2.1 (f, cf) (by simp)
                obtain ⟨Ac, cc, rfl, _⟩ := hoc.code
                have eL : ((L0.length + 1 : Nat) : Int) - 1 = (L0.length : Int) := by omega
                rw [eL]
                obtain ⟨_, _, e3, _, hgl, _, _, _, k3, _⟩ := HOx.out.last
                obtain ⟨e3, _, _⟩ := slice_inj e3
                cases e3
                clear e eL hoc
                have hlm := hn
                by_cases hc0 : f.code = []
                · have hq2 : addQ ((L0 ++ [(f, Value.slice Ac f.code.length cc)]).map (·.1)) l = none := by
                    rw [hq]
                    exact layH_no (.inl (by rw [openR_snoc, hc0]; rfl))
                  have HQ2 := Lib.hid hq2
                  have hz : (f.code.length : Int) = 0 := by rw [hc0]; rfl
                  have hz2 : ((f.code.length : Int) == 0) = true := by simp [hz]
                  clear hq hq2 hc0 hz
                  go_wp2_with (go_at_call 58; (with_reducible refine (CH.go _).mono ?_); rintro e v3 ⟨rfl, hb3⟩; have k4 := (hb3.cell (p := ⟨gp, L0.length * 4 + 3, none⟩) hgl).trans k3; have hg4 := block_lt_of_cell k4)
                  go_returns
                  exact HNo.out _ (Below.step hbx hb3) HQ2.out
                · have hz : 0 < f.code.length := by
                    rcases Nat.eq_zero_or_pos f.code.length with h | h
                    · exact absurd (List.eq_nil_of_length_eq_zero h) hc0
                    · exact h
                  have hz2 : ((f.code.length : Int) == 0) = false := by simp; omega
                  by_cases h16 : L0.length + 1 = 16
                  · have hq2 : addQ ((L0 ++ [(f, Value.slice Ac f.code.length cc)]).map (·.1)) l = none := by
                      rw [hq]
                      exact layH_no (.inr (by rw [List.length_append, List.length_map]; exact h16))
                    have HQ2 := Lib.hid hq2
                    have hz3 : (((L0.length + 1 : Nat) : Int) == 16) = true := by simp; omega
                    have hz4 : ((L0.length : Int) + 1 == 16) = true := by simp; omega
                    clear hq hq2 hc0 hz h16
                    go_wp2_with (go_at_call 58; (with_reducible refine (CH.go _).mono ?_); rintro e v3 ⟨rfl, hb3⟩; have k4 := (hb3.cell (p := ⟨gp, L0.length * 4 + 3, none⟩) hgl).trans k3; have hg4 := block_lt_of_cell k4)
                    go_returns
                    exact HNo.out _ (Below.step hbx hb3) HQ2.out
                  · have hq2 : addQ ((L0 ++ [(f, Value.slice Ac f.code.length cc)]).map (·.1)) l = some ((L0.map (·.1) ++ [f]) ++ [⟨xa, xb, xc, []⟩]) := by
                      rw [hq]
                      unfold layH
                      rw [if_pos ⟨by rw [openR_snoc]; simpa using hc0, by rw [List.length_append, List.length_map]; exact h16⟩]
                    have HQ2 := Lib.hid hq2
                    have hz3 : (((L0.length + 1 : Nat) : Int) == 16) = false := by simp; omega
                    have hz4 : ((L0.length : Int) + 1 == 16) = false := by simp; omega
                    clear hq hq2 hc0 hz h16
                    go_wp2_with (first
                      | (go_at_call 58; (with_reducible refine (CH.go _).mono ?_); rintro e v3 ⟨rfl, hb3⟩; have k4 := (hb3.cell (p := ⟨gp, L0.length * 4 + 3, none⟩) hgl).trans k3; have hg4 := block_lt_of_cell k4; have y0 := (hb3.cell (p := ⟨wr.heap.size, 0, none⟩) fl).trans f0; have y1 := (hb3.cell (p := ⟨wr.heap.size, 1, none⟩) fl).trans f1; have y2 := (hb3.cell (p := ⟨wr.heap.size, 2, none⟩) fl).trans f2; have y3 := (hb3.cell (p := ⟨wr.heap.size, 3, none⟩) fl).trans f3; have HO3 := Lib.hid (HOx.out.below hb3); have hB3 := Nat.le_trans hBc hb3.size)
                      | (at_builtin; refine wpList_append_fun2 _ Tryz.underlying23 rfl _ _ rfl B _ _ (L0 ++ [(f, Value.slice Ac f.code.length cc)]) ⟨xa, xb, xc, []⟩ (.slice none 0 0) rfl rfl HO3.out (OwnC.nil _ _) (fun _ _ _ _ => by simp [Value.ownBlock]) (by show Value.slice (some ⟨_, 0, none⟩) 1 1 = _; simp) (by rw [List.length_append, List.length_singleton]; omega) hB3 ?_; intro v' w2 ho2 hg2; have HF2 := Lib.hid (And.intro ho2 hg2); clear ho2 hg2))
                    go_returns
                    refine ⟨_, true, _, rfl, ((hwx.mono hB).trans (hb3.mono hBc)).trans ((Below.refl B v3).grown HF2.out.2 hB3 (fun b e => (HO3.out.1.lt b e).1)), HF2.out.1, fun q h => ?_, fun h => ?_⟩
                    · rw [HQ2.out] at h
                      cases h
                      exact ⟨rfl, by simp⟩
                    · rw [HQ2.out] at h
                      cases h
          · have e1 : (((rest.length + 1 : Nat) : Int) != 4) = true := by simp; omega
            have e2 : ((rest.length : Int) + 1 != 4) = true := by simp; omega
            have hq := HQ.out
            rw [if_neg (fun h => h3 h.1)] at hq
            have HQ2 := Lib.hid hq
            clear hq HQ hnl h3
            go_wp2_with fail
            go_returns
            exact HNo.out _ hbx HQ2.out
        · rw [lineC_ins hf] at hq
          have hne : (w0 == [102, 117, 110, 99]) = false := by simpa [funcW] using hf
          have hH2 : Held wr u.heap.size 3 #[.int .i64 (ns.getD 0 0), .int .i64 (ns.getD 1 0), .int .i64 (ns.getD 2 0)] := hH
          have RF := rfind_any ⟨w0.toArray⟩
          have RM := rmay_any (rfnd ⟨w0.toArray⟩) (ns.getD 0 0) (ns.getD 1 0)
          have RX := rfields_any (rfnd ⟨w0.toArray⟩)
          rw [hnl] at hq
          have HQ := Lib.hid hq
          have HX := Lib.hid hH2
          have n0 := hH2.cell 0
          have n1 := hH2.cell 1
          have n2 := hH2.cell 2
          simp at n0 n1 n2
          generalize rfnd ⟨w0.toArray⟩ = o at *
          generalize ns.getD 0 0 = xa at *
          generalize ns.getD 1 0 = xb at *
          generalize ns.getD 2 0 = xc at *
          have C0 := Lib.hid c0
          clear hq hH hH2 hf
          go_upto_region 16 with (fail)
          clear n0 n1 n2 c0
          go_cut [12] (fun v12 wx => MidI wr o xa xb v12 wx)
          case first =>
            go_region_held3 (fun W => Below wr.heap.size wr W ∧ W.cell? ⟨u.heap.size, 0, none⟩ = some (.int .i64 xa) ∧ W.cell? ⟨u.heap.size, 1, none⟩ = some (.int .i64 xb) ∧ W.cell? ⟨u.heap.size, 2, none⟩ = some (.int .i64 xc) ∧ W.cell? ⟨g, 0, none⟩ = some (.string ⟨w0.toArray⟩))
              (first
                | exact keepL HX.out C0.out (Below.refl _ _).drew
                | exact keepL HX.out C0.out (Below.step (And.left (by assumption)) (by assumption))
                | exact keepL HX.out C0.out (Below.drew (And.left (by assumption)))
                | exact keepL HX.out C0.out (Below.alloc (And.left (by assumption)) (Below.size (And.left (by assumption))) _)
                | exact keepL HX.out C0.out (below_set3 (And.left (by assumption)) (by first | omega | (simp; omega)))
                | exact keepL HX.out C0.out (below_set3 (Below.drew (And.left (by assumption))) (by first | omega | (simp; omega)))
                | go_keep)
              (first
                | (go_at_call 72; (with_reducible refine (RF.go _).mono ?_); rintro e v2 ⟨rfl, hb⟩; have hq := keepL HX.out C0.out (Below.step (Below.refl _ _).drew hb); have hz := hq.1.size)
                | (go_at_call 72; (with_reducible refine (RF.go _).mono ?_); rintro e v2 ⟨rfl, hb⟩; have hq := keepL HX.out C0.out (Below.step (And.left (by assumption)) hb); have hz := hq.1.size
                   (try (first | replace n3 := n3.below hb | replace n3 := (n3.alloc _).below hb); try (obtain ⟨_, _, _, _, _, _⟩ := n3.three; have := n3.lt; have := Nat.ne_of_lt n3.lt))
                   (first
                     | (have n3 := (held_drew (Held.new _ _ _)).below hb; obtain ⟨_, _, _, _, _, _⟩ := n3.three; have := n3.lt; have := Nat.ne_of_lt n3.lt)
                     | (have n3 := (Held.new _ _ _).below hb; obtain ⟨_, _, _, _, _, _⟩ := n3.three; have := n3.lt; have := Nat.ne_of_lt n3.lt)
                     | skip)))
            all_goals
              go_wp2_with fail
              go_meet
              case rel =>
                refine ⟨_, rfl, ?_, ?_, ?_, And.left (by assumption)⟩
                all_goals first | (simp [go_sem]; done) | (simp [go_sem, *]; done)
          case rest =>
            obtain ⟨k, rfl, x0, x1, x2, hbx⟩ := hcut
            have xl := block_lt_of_cell x0
            simp at xl
            have hf2 : 0 ≤ (rz o).f ∧ (rz o).f ≤ 2 := by
              rcases okZ_cases o with ⟨j, hj, e⟩ | h
              · rw [e, rz_in hj]
                have := row_ok j hj
                omega
              · rw [rz_out h]
                decide
            generalize (rz o).f = ff at *
            have HOx := Lib.hid (HOr.out.below hbx)
            have hwx := hbw.trans (hbx.mono hbw.size)
            cases hm : mayZ o xa xb with
            | false =>
              rw [hm] at RM HQ
              have hq := HQ.out
              rw [if_neg (fun h => by cases h.1)] at hq
              have HQ2 := Lib.hid hq
              clear hq HQ
              go_wp2_with (go_at_call 57; (with_reducible refine (RM.go _).mono ?_); rintro e v3 ⟨rfl, hb3⟩)
              go_returns
              exact HNo.out _ (Below.step hbx hb3) HQ2.out
            | true =>
              rw [hm] at RM HQ
              by_cases hlf : (rest.length : Int) = ff
              · have hq := HQ.out
                rw [if_pos ⟨rfl, hlf⟩] at hq
                have hq : addQ (L.map (·.1)) l = layI (L.map (·.1)) o xa xb := hq
                have e1 : (((rest.length + 1 : Nat) : Int) != 1 + ff) = false := by simp; omega
                have e2 : ((rest.length : Int) + 1 != 1 + ff) = false := by simp; omega
                clear HQ hlf hnl
                rcases own_split L with rfl | ⟨L0, ⟨f, cf⟩, rfl⟩
                · have h0 := HNL0.out
                  simp only [List.length_nil] at h0
                  subst h0
                  have HQ2 := Lib.hid (show addQ (([] : List (Fun × Value)).map (·.1)) l = none from hq)
                  clear hq
                  go_wp2_with (first
                    | (go_at_call 57; (with_reducible refine (RM.go _).mono ?_); rintro e v3 ⟨rfl, hb3⟩; have y0 := (hb3.cell (p := ⟨k, 0, none⟩) xl).trans x0)
                    | (go_at_call 73; (with_reducible refine (RX.go _).mono ?_); rintro e v4 ⟨rfl, rfl⟩))
                  go_returns
                  exact HNo.out _ (Below.step hbx hb3) HQ2.out
                · have h0 := HNL0.out
                  rw [List.length_append, List.length_singleton] at h0
                  subst h0
                  rw [List.map_append] at hq
                  have hq : addQ ((L0 ++ [(f, cf)]).map (·.1)) l = layI (L0.map (·.1) ++ [f]) o xa xb := by rw [List.map_append]; exact hq
                  rw [layI_snoc] at hq
                  have hfl := HC.out (f, cf) (by simp)
                  simp only at hfl
                  obtain ⟨gp, cap, e, _⟩ := HOx.out.last
                  obtain ⟨rfl, _, rfl⟩ := slice_inj e
                  have hoc : OwnC wc B cf f.code := HOx.out.2.1 (f, cf) (by simp)
                  obtain ⟨Ac, cc, rfl, _⟩ := hoc.code
                  have hm16 : L0.length ≤ 16 := by omega
                  have eL : ((L0.length + 1 : Nat) : Int) - 1 = (L0.length : Int) := by omega
                  rw [eL]
                  obtain ⟨_, _, e3, _, hgl, k0, k1, k2, k3, kf⟩ := HOx.out.last
                  obtain ⟨e3, _, _⟩ := slice_inj e3
                  cases e3
                  clear e eL
                  by_cases h200 : f.code.length = 200
                  · rw [if_pos h200] at hq
                    have HQ2 := Lib.hid hq
                    have hq2 : ((f.code.length : Int) == 200) = true := by simp; omega
                    clear hq
                    go_wp2_with (first
                      | (go_at_call 57; (with_reducible refine (RM.go _).mono ?_); rintro e v3 ⟨rfl, hb3⟩; have y0 := (hb3.cell (p := ⟨k, 0, none⟩) xl).trans x0; have k4 := (hb3.cell (p := ⟨gp, L0.length * 4 + 3, none⟩) hgl).trans k3; have hg4 := block_lt_of_cell k4)
                      | (go_at_call 73; (with_reducible refine (RX.go _).mono ?_); rintro e v4 ⟨rfl, rfl⟩))
                    go_returns
                    exact HNo.out _ (Below.step hbx hb3) HQ2.out
                  · rw [if_neg h200] at hq
                    have HQ2 := Lib.hid hq
                    have hq2 : ((f.code.length : Int) == 200) = false := by simp; omega
                    have HOC := Lib.hid hoc
                    clear hq hoc
                    go_wp2_with (first
                      | (go_at_call 57; (with_reducible refine (RM.go _).mono ?_); rintro e v3 ⟨rfl, hb3⟩; have y0 := (hb3.cell (p := ⟨k, 0, none⟩) xl).trans x0; have y1 := (hb3.cell (p := ⟨k, 1, none⟩) xl).trans x1; have y2 := (hb3.cell (p := ⟨k, 2, none⟩) xl).trans x2; have xl3 := block_lt_of_cell y0; have k4 := (hb3.cell (p := ⟨gp, L0.length * 4 + 3, none⟩) hgl).trans k3; have j0 := (hb3.cell (p := ⟨gp, L0.length * 4, none⟩) hgl).trans k0; have j1 := (hb3.cell (p := ⟨gp, L0.length * 4 + 1, none⟩) hgl).trans k1; have j2 := (hb3.cell (p := ⟨gp, L0.length * 4 + 2, none⟩) hgl).trans k2; have hg4 := block_lt_of_cell k4; have HO3 := Lib.hid (HOx.out.below hb3); have HC3 := Lib.hid (HOC.out.below hb3); have hB3 := Nat.le_trans hBr (Below.step hbx hb3).size)
                      | (go_at_call 73; (with_reducible refine (RX.go _).mono ?_); rintro e v4 ⟨rfl, rfl⟩)
                      | (at_builtin; refine wpList_append_ins rfl _ _ rfl B _ _ f.code (o, xa, xb) rfl rfl (HC3.out.below ((Below.refl _ _).alloc (Nat.le_refl _) _)) (by show Value.slice (some ⟨_, 0, none⟩) 1 1 = _; simp) (by omega) (by simp; omega) ?_; intro v' w2 ho2 hg2 hl2; obtain ⟨A3, c3, rfl, _⟩ := ho2.code; have hrl := fun b e => (HC3.out.lt b e).2; have hFw := (Held.new v3 41 #[.int .i64 f.ar, .int .i64 f.lo, .int .i64 f.sl, .slice Ac f.code.length cc]).grown hg2 (fun e => Nat.lt_irrefl _ (hrl _ e)); have hg3 := grown_trans (grown_of_below ((Below.refl v3.heap.size v3).alloc (Nat.le_refl _) (.cells #[.int .i64 f.ar, .int .i64 f.lo, .int .i64 f.sl, .slice Ac f.code.length cc] 41)) _) hg2; have hl3 : ∀ b, Value.ownBlock (.slice A3 (f.code ++ [(o, xa, xb)]).length c3) = some b → Value.ownBlock (.slice Ac f.code.length cc) = some b ∨ v3.heap.size + 1 ≤ b := (fun b e => (hl2 b e).imp id (fun h => by simpa using h)); obtain ⟨⟨q0, q1, q2, q3, q4, _⟩, _⟩ := own_lay HO3.out hB3 ho2 hg3 (fun b e => (hl3 b e).imp id (fun h => by omega)); have fr0 := q4 (L0.length * 4); have fr1 := q4 (L0.length * 4 + 1); have fr2 := q4 (L0.length * 4 + 2); have fr3 := q4 (L0.length * 4 + 3); have s0 := hFw.cell 0; have s1 := hFw.cell 1; have s2 := hFw.cell 2; have s3 := hFw.cell 3; have s4 := hFw.fz 3; have sl := hFw.lt; have hgn := Nat.ne_of_lt hg4; have FIN := Lib.hid (own_lay HO3.out hB3 (ho2.grown (grown_set1 w2 v3.heap.size 3 (.slice A3 (f.code ++ [(o, xa, xb)]).length c3)) (fun b hb e => by cases e; rcases hl3 _ hb with h | h; exact Nat.lt_irrefl _ (hrl _ h); omega)) (grown_far hg3 (Nat.le_refl _) 3 (.slice A3 (f.code ++ [(o, xa, xb)]).length c3)) (fun b e => (hl3 b e).imp id (fun h => by omega))).2; clear ho2 hg2 hl2 hFw hg3 hl3 q4))
                    have hF := FIN.out
                    rw [show (f.code ++ [(o, xa, xb)]).length = f.code.length + 1 by simp] at hF
                    clear FIN
                    go_returns
                    refine ⟨_, true, _, rfl, ((hwx.mono hB).trans (hb3.mono (Nat.le_trans hBr hbx.size))).trans hF.2, hF.1, fun q h => ?_, fun h => ?_⟩
                    · rw [HQ2.out] at h
                      cases h
                      exact ⟨rfl, by simp⟩
                    · rw [HQ2.out] at h
                      cases h
              · have hq := HQ.out
                rw [if_neg (fun h => hlf h.2)] at hq
                have HQ2 := Lib.hid hq
                have e1 : (((rest.length + 1 : Nat) : Int) != 1 + ff) = true := by simp; omega
                have e2 : ((rest.length : Int) + 1 != 1 + ff) = true := by simp; omega
                clear hq HQ
                go_wp2_with (first
                  | (go_at_call 57; (with_reducible refine (RM.go _).mono ?_); rintro e v3 ⟨rfl, hb3⟩; have y0 := (hb3.cell (p := ⟨k, 0, none⟩) xl).trans x0)
                  | (go_at_call 73; (with_reducible refine (RX.go _).mono ?_); rintro e v4 ⟨rfl, rfl⟩))
                go_returns
                exact HNo.out _ (Below.step hbx hb3) HQ2.out
end Go.Proofs.YtagjddnpaahebaaGreatDoor

