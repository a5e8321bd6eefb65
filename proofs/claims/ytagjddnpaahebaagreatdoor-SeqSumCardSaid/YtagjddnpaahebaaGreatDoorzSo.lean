/- Layer 7: the document's Parse, with what it answers in memory of its own. -/
import Derived.Test.YtagjddnpaahebaaGreatDoorzSj
import Derived.Test.YtagjddnpaahebaaGreatDoorzSh
import Derived.Test.YtagjddnpaahebaaGreatDoorzHb
import Derived.Test.YtagjddnpaahebaaGreatDoorzHj
import Derived.Deep.MidRow
namespace Go.Proofs.YtagjddnpaahebaaGreatDoor
set_option linter.unusedVariables false
set_option linter.unusedSimpArgs false
open Go.RowKit Go.ChangeShapes Go.WideShapes Go.ChangeAt Go.Sort

theorem OwnL.mono {w : World} {B C : Nat} {v : Value} {l : List (Fun × Value)} (h : OwnL w B v l) (hC : C ≤ B) : OwnL w C v l :=
  ⟨⟨h.1.1, h.1.2.imp id fun ⟨g, cap, cur, e, hb, r⟩ => ⟨g, cap, cur, e, Nat.le_trans hC hb, r⟩⟩, fun x hx => (h.2.1 x hx).mono hC, h.2.2⟩
/-- What the document's Parse answers: memory of its own. -/
def ParO (w : World) (l : List UInt8) (e : Ending) (w' : World) : Prop :=
  ∃ v L, e = .returned (.tuple #[v, .int .i64 (parseP l).2.1, .int .i64 (parseP l).2.2]) ∧ OwnL w' w.heap.size v L ∧ L.map (·.1) = (parseP l).1 ∧ Below w.heap.size w w'

set_option maxHeartbeats 4000000 in
set_option maxRecDepth 100000 in
theorem pparse_own (l : List UInt8) (w : World) (hl : l.length ≤ 1000000) :
    Calls Tryz.prog 26 #[.string ⟨l.toArray⟩] w fun e w' => ParO w l e w' := by
  cases hs : splitL 10 l with
  | nil => exact absurd hs (splitL_ne 10 l)
  | cons w0 rest =>
    have S := Lib.hid (psplit_cells 10 hs hl w)
    rw [show ((10 : UInt8).toNat : Int) = 10 from rfl] at S
    have hwl : ∀ x ∈ w0 :: rest, x.length ≤ 1000000 := fun x hx => by
      have := split_len (c := 10) (l := l) x (by rw [hs]; exact hx)
      omega
    have HWL := Lib.hid hwl
    have HE := Lib.hid (fun (p : List Fun) h => parse_end hs (p := p) h)
    have HS := Lib.hid (fun (p : List Fun) n h => parse_stop hs (p := p) (n := n) h)
    have hlen : rest.length ≤ 1000000 := by
      have h1 := joinC_len 10 (splitL 10 l)
      rw [join_split, hs, List.length_cons] at h1
      omega
    clear hs hwl
    go_enter Tryz.func26, Tryz.ntmps26
    go_wp2_with (go_at_call 44; (with_reducible refine S.out.mono ?_); rintro e u ⟨g, cs, rfl, hg1, hg2, hcell, hbu⟩; have HCE := Lib.hid hcell; clear hcell)
    go_loopw [6, 7] (fun v iv wr => ∃ (k : Nat) (L : List (Fun × Value)), iv = .int .i64 k ∧ k ≤ rest.length ∧ OwnL wr u.heap.size v L ∧ L.length ≤ 16 ∧ (∀ x ∈ L, x.1.code.length ≤ 200) ∧ Below u.heap.size u wr ∧
      runL [] (w0 :: rest).dropLast = ((runL (L.map (·.1)) ((w0 :: rest).dropLast.drop k)).1, k + (runL (L.map (·.1)) ((w0 :: rest).dropLast.drop k)).2.1, (runL (L.map (·.1)) ((w0 :: rest).dropLast.drop k)).2.2)) (fun _ iv _ => rest.length - (intOf iv).toNat)
    case atStart => exact ⟨0, [], rfl, by omega, OwnL.made u, by simp, by simp, (Below.refl _ _).alloc (Nat.le_refl _) _, by simp⟩
    case round =>
      obtain ⟨k, L, rfl, hk, hO, h16, hc, hbr, hrun⟩ := hrel
      obtain ⟨Av, cv, rfl, hp⟩ := hO.prog
      by_cases hlt : k < rest.length
      · have hkk : k < (w0 :: rest).length := by simp; omega
        have c0 : wr.cell? ⟨g, k, none⟩ = some (.string ⟨((w0 :: rest)[k]).toArray⟩) := (hbr.cell (p := ⟨g, k, none⟩) hg2).trans (HCE.out k hkk)
        have hxl := HWL.out _ (List.getElem_mem hkk)
        rw [drop_last_cons (n := rest.length) (by simp) hlt] at hrun
        have hst : ∀ q, addQ (L.map (·.1)) ((w0 :: rest)[k]) = some q → runL [] (w0 :: rest).dropLast = ((runL q ((w0 :: rest).dropLast.drop (k + 1))).1, (k + 1) + (runL q ((w0 :: rest).dropLast.drop (k + 1))).2.1, (runL q ((w0 :: rest).dropLast.drop (k + 1))).2.2) := fun q hq => by
          rw [hrun, runL_some _ hq]
          simp only
          congr 2
          omega
        have hno : addQ (L.map (·.1)) ((w0 :: rest)[k]) = none → parseP l = ([], k, 70) := fun hq => by
          rw [runL_none _ hq] at hrun
          exact HS.out _ _ hrun
        have HST := Lib.hid hst
        have HNO := Lib.hid hno
        have P := play_any (l := (w0 :: rest)[k]) hxl wr hO hbr.size h16 hc
        have hsm := fun q (hq : addQ (L.map (·.1)) ((w0 :: rest)[k]) = some q) => addQ_small hq (by rw [List.length_map]; exact h16) (fun f hf => by
          obtain ⟨x, hx, rfl⟩ := List.mem_map.1 hf
          exact hc x hx)
        have HSM := Lib.hid hsm
        generalize (w0 :: rest)[k] = x at *
        have HP := Lib.hid P
        clear hst hno hrun hp P hsm hO hc hxl
        cases hq : addQ (L.map (·.1)) x with
        | none =>
          have HQ := Lib.hid hq
          have hpe := HNO.out hq
          clear hq
          go_wp2_with (go_at_call 45; (with_reducible refine HP.out.mono ?_); rintro e u2 ⟨v2, b, L2, rfl, hb2, ho2, _, hn2⟩; obtain rfl := hn2 HQ.out; obtain ⟨A2, c2, rfl, _⟩ := ho2.prog; have HPE := Lib.hid hpe; clear hn2 ho2 hpe)
          go_returns
          unfold ParO
          rw [HPE.out]
          exact ⟨.slice none 0 0, [], rfl, OwnL.nil _ _, rfl, Below.step hbu (hbr.trans hb2)⟩
        | some q =>
          have HQ := Lib.hid hq
          clear hq
          go_wp2_with (go_at_call 45; (with_reducible refine HP.out.mono ?_); rintro e u2 ⟨v2, b, L2, rfl, hb2, ho2, hs2, _⟩; obtain ⟨rfl, hm2⟩ := hs2 q HQ.out; obtain ⟨A2, c2, rfl, _⟩ := ho2.prog; have HO2 := Lib.hid ho2; have HM2 := Lib.hid hm2; clear hs2 ho2 hm2)
          go_round
          case rel =>
            obtain ⟨s1, s2⟩ := HSM.out q HQ.out
            rw [← HM2.out] at s1 s2
            refine ⟨k + 1, L2, by go_num, by omega, HO2.out, by rwa [List.length_map] at s1, fun y hy => s2 y.1 (List.mem_map.2 ⟨y, hy, rfl⟩), hbr.trans hb2, ?_⟩
            rw [HM2.out]
            exact HST.out q HQ.out
          case measure => simp [intOf]; omega
      · obtain rfl : k = rest.length := by omega
        rw [List.drop_of_length_le (by simp), runL_nil] at hrun
        have hpe := HE.out _ hrun
        have c0 : wr.cell? ⟨g, rest.length, none⟩ = some (.string ⟨((w0 :: rest)[rest.length]).toArray⟩) := (hbr.cell (p := ⟨g, rest.length, none⟩) hg2).trans (HCE.out rest.length (by simp))
        generalize (w0 :: rest)[rest.length] = x at *
        have hpl : (L.map (·.1)).length = L.length := List.length_map _
        have hsz : SizedP (L.map (·.1)) := ⟨by rw [hpl]; unfold maxLen; omega, fun f hf => by
          obtain ⟨y, hy, rfl⟩ := List.mem_map.1 hf
          have := hc y hy
          unfold maxLen
          omega⟩
        have PM := pmay_any cv wr hp hsz (Nat.le_refl _)
        rw [hpl] at PM
        have HP := Lib.hid hp
        have HPL := Lib.hid hpl
        have hwb := Below.step hbu hbr
        have HOO := Lib.hid (OwnL.mono hO hbu.size)
        clear hrun hp hsz hpl hO hc
        by_cases hx : x = []
        · subst hx
          cases hm : mayP (L.map (·.1)) with
          | true =>
            rw [hm] at PM
            rw [if_pos ⟨rfl, hm⟩] at hpe
            have HPE := Lib.hid hpe
            clear hpe hm
            go_wp2_with (go_at_call 39; (with_reducible refine PM.mono ?_); rintro e u2 ⟨rfl, hb2⟩)
            go_returns
            unfold ParO
            rw [HPE.out]
            exact ⟨_, L, rfl, HOO.out.below hb2, rfl, Below.step hwb hb2⟩
          | false =>
            rw [hm] at PM
            rw [if_neg (fun h => by rw [hm] at h; cases h.2)] at hpe
            have HPE := Lib.hid hpe
            clear hpe hm
            go_wp2_with (go_at_call 39; (with_reducible refine PM.mono ?_); rintro e u2 ⟨rfl, hb2⟩)
            go_returns
            unfold ParO
            rw [HPE.out]
            exact ⟨.slice none 0 0, [], rfl, OwnL.nil _ _, rfl, Below.step hwb hb2⟩
        · rw [if_neg (fun h => hx h.1)] at hpe
          have HPE := Lib.hid hpe
          have hne : (x == ([] : List UInt8)) = false := by simpa using hx
          clear hpe hx
          go_wp2_with fail
          go_returns
          unfold ParO
          rw [HPE.out]
          exact ⟨.slice none 0 0, [], rfl, OwnL.nil _ _, rfl, hwb⟩
end Go.Proofs.YtagjddnpaahebaaGreatDoor

/- Layer 10: a function as an argument, opened; programs of one function, of two. -/
namespace Go.Proofs.YtagjddnpaahebaaGreatDoor
set_option linter.unusedVariables false
set_option linter.unusedSimpArgs false
open Gm Go.RowKit Go.ChangeShapes Go.WideShapes Go.ChangeAt Go.Deep Go.Joins Go.Sort

theorem ciCode : Tryz.prog.cellsOf 39 = 1 := by kernel_rfl
theorem ciFn : Tryz.prog.cellsOf 41 = 4 := by kernel_rfl
theorem array4 {cs : Array Value} (h : cs.size = 4) : ∃ a b c d, cs = #[a, b, c, d] := by
  obtain ⟨l⟩ := cs
  match l, h with
  | [a, b, c, d], _ => exact ⟨a, b, c, d, rfl⟩
/-- A function's cells. -/
abbrev fnA (f : Fun) (A : Option Addr) (c : Nat) : Array Value := #[.int .i64 f.ar, .int .i64 f.lo, .int .i64 f.sl, .slice A f.code.length c]
set_option maxRecDepth 100000 in
theorem open_func {H : Type} {enc : TypeId × Value → H} {W : World} {base : Nat} {v : Value} {d : DataW H} {p : List MemPlace}
    (k : Value.okWide Tryz.prog W .any base 41 v) (h : DataW.Trod enc Tryz.prog W 0 (fun _ => true) true 41 v d p) :
    ∃ (f : Fun) (A : Option Addr) (c : Nat), v = .agg (fnA f A c) ∧ CodeAt W W.heap.size A f.code ∧ f.code.length ≤ maxLen := by
  obtain ⟨cs, rfl, hsz⟩ := okWide_struct Tryz.underlying41 k
  obtain ⟨c0, c1, c2, c3, rfl⟩ := array4 (hsz.trans ciFn)
  obtain ⟨fuel, hf⟩ := h
  obtain ⟨xs, n, _, _, hl, hlen, hg⟩ := DataW.trod_struct Tryz.underlying41 hf
  have hx : ∀ i, i < 4 → ∃ y, xs[i]? = some y := fun i hi => ⟨xs[i]'(by rw [hlen]; exact hi), List.getElem?_eq_getElem _⟩
  simp only [Value.cells] at hg
  clear hf hl hsz k
  obtain ⟨y0, e0⟩ := hx 0 (by omega)
  have g0 := (hg 0 _ rfl).trans e0
  simp [ci1, ciCode] at g0
  obtain ⟨y1, e1⟩ := hx 1 (by omega)
  have g1 := (hg 1 _ rfl).trans e1
  simp [ci1, ciCode] at g1
  obtain ⟨y2, e2⟩ := hx 2 (by omega)
  have g2 := (hg 2 _ rfl).trans e2
  simp [ci1, ciCode] at g2
  obtain ⟨y3, e3⟩ := hx 3 (by omega)
  have g3 := (hg 3 _ rfl).trans e3
  simp [ci1, ciCode] at g3
  obtain ⟨a, rfl⟩ := open_i g0
  obtain ⟨b, rfl⟩ := open_i g1
  obtain ⟨s, rfl⟩ := open_i g2
  obtain ⟨A, cc, l, h1, hC, hz⟩ := open_code g3
  simp only [List.cons.injEq, and_true] at h1
  subst h1
  exact ⟨⟨a, b, s, l⟩, A, cc, rfl, hC, hz⟩
/-- A program of one function, in a new block. -/
theorem one_prog {u : World} {f : Fun} {A : Option Addr} {c : Nat} (h : CodeAt u u.heap.size A f.code) :
    ProgAt (u.alloc (.cells (fnA f A c) 41)) (u.alloc (.cells (fnA f A c) 41)).heap.size (some ⟨u.heap.size, 0, none⟩) [f] := fun _ => by
  have hH := Held.new u 41 (fnA f A c)
  have hb : Below u.heap.size u (u.alloc (.cells (fnA f A c) 41)) := (Below.refl _ _).alloc (Nat.le_refl _) _
  refine ⟨_, _, rfl, hH.lt, fun j hj => ?_⟩
  obtain rfl : j = 0 := by simpa using hj
  exact ⟨hH.cell 0, hH.cell 1, hH.cell 2, A, c, hH.cell 3, (h.below hb (Nat.le_refl _)).more hb.size⟩
/-- The second of two functions of the call's own program is stored. -/
theorem two_prog {u : World} {B g cap : Nat} {x y : Fun × Value} {f : Fun} {A : Option Addr} {c : Nat} (h : OwnL u B (.slice (some ⟨g, 0, none⟩) 2 cap) [x, y]) (hA : CodeAt u B A f.code) (hB : B ≤ u.heap.size) :
    ProgAt (u.setCells g 4 (fnA f A c).toList) (u.setCells g 4 (fnA f A c).toList).heap.size (some ⟨g, 0, none⟩) [x.1, f] ∧ Below B u (u.setCells g 4 (fnA f A c).toList) := by
  have h1 := h.1.stored 4 (.int .i64 f.ar)
  have h2 := h1.1.stored 5 (.int .i64 f.lo)
  have h3 := h2.1.stored 6 (.int .i64 f.sl)
  have h4 := h3.1.stored 7 (.slice A f.code.length c)
  have hx : OwnC u B x.2 x.1.code := h.2.1 x (by simp)
  have n0 : ∀ b, x.2.ownBlock = some b → (some g : Option Nat) ≠ some b := fun b hb => own_ne hx h.1 b hb
  have oc := (((hx.grown h1.2 n0).grown h2.2 n0).grown h3.2 n0).grown h4.2 n0
  have hg := (h.1.lt g rfl).1
  have hbel : Below B u ((((u.setCell ⟨g, 4, none⟩ (.int .i64 f.ar)).setCell ⟨g, 5, none⟩ (.int .i64 f.lo)).setCell ⟨g, 6, none⟩ (.int .i64 f.sl)).setCell ⟨g, 7, none⟩ (.slice A f.code.length c)) :=
    ((((Below.refl B u).setCell (p := ⟨g, 4, none⟩) hg _).setCell (p := ⟨g, 5, none⟩) hg _).setCell (p := ⟨g, 6, none⟩) hg _).setCell (p := ⟨g, 7, none⟩) hg _
  have ew : u.setCells g 4 (fnA f A c).toList = ((((u.setCell ⟨g, 4, none⟩ (.int .i64 f.ar)).setCell ⟨g, 5, none⟩ (.int .i64 f.lo)).setCell ⟨g, 6, none⟩ (.int .i64 f.sl)).setCell ⟨g, 7, none⟩ (.slice A f.code.length c)) := rfl
  rw [ew]
  have hc := h4.1.cells (g := g) rfl
  have hlt := (h4.1.lt g rfl).2
  generalize ((((u.setCell ⟨g, 4, none⟩ (.int .i64 f.ar)).setCell ⟨g, 5, none⟩ (.int .i64 f.lo)).setCell ⟨g, 6, none⟩ (.int .i64 f.sl)).setCell ⟨g, 7, none⟩ (.slice A f.code.length c)) = W at *
  obtain ⟨Ax, cx, ex, hcx⟩ := oc.code
  have kk : ∀ j v, (((((flatF [x, y]).set 4 (.int .i64 f.ar)).set 5 (.int .i64 f.lo)).set 6 (.int .i64 f.sl)).set 7 (.slice A f.code.length c))[j]? = some v → W.cell? ⟨g, 0 + j, none⟩ = some v := fun j v hv => by
    have := hc j v hv
    rwa [addr_add] at this
  refine ⟨fun _ => ⟨g, 0, rfl, hlt, fun j hj => ?_⟩, hbel⟩
  match j, hj with
  | 0, _ =>
    exact ⟨kk 0 _ (by simp [flatF]), kk 1 _ (by simp [flatF]), kk 2 _ (by simp [flatF]), Ax, cx, kk 3 _ (by simp [flatF, ex]), hcx⟩
  | 1, _ =>
    exact ⟨kk 4 _ (by simp [flatF]), kk 5 _ (by simp [flatF]), kk 6 _ (by simp [flatF]), A, c, kk 7 _ (by simp [flatF]), (hA.below hbel (Nat.le_refl _)).more (Nat.le_trans hB hbel.size)⟩
/-- A program of two functions of the call's own: its block. -/
theorem own_two {u : World} {B : Nat} {v : Value} {L : List (Fun × Value)} {x y : Fun} (h : OwnL u B v L) (e : L.map (·.1) = [x, y]) :
    ∃ g cap a b, L = [a, b] ∧ a.1 = x ∧ v = .slice (some ⟨g, 0, none⟩) 2 cap ∧ B ≤ g ∧ u.there g 4 4 := by
  match L, e, h with
  | [a, b], e, h =>
    have ea : a.1 = x := by simp at e; exact e.1
    have hcells := fun g hg => h.1.cells (g := g) hg
    obtain ⟨_, h2⟩ := h.1
    rcases h2 with ⟨_, h0⟩ | ⟨g, cap, cur, rfl, hg, hb, _⟩
    · cases h0
    · refine ⟨g, cap, a, b, rfl, ea, rfl, hg, fun j hj => ⟨?_, fz_at hb _⟩⟩
      have hc := hcells g rfl
      have hj2 : 4 + j < (flatF [a, b]).length := by rw [flatF_len]; show 4 + j < 2 * 4; omega
      have := hc (4 + j) _ (List.getElem?_eq_getElem hj2)
      rw [addr_add, Nat.zero_add] at this
      rw [this]
      rfl
set_option maxHeartbeats 2000000 in
set_option maxRecDepth 100000 in
/-- A program of a text: memory of its own. -/
theorem of10_own (l : List UInt8) (w : World) (hl : l.length ≤ 1000000) :
    Calls Tryz.prog 15 #[.string ⟨l.toArray⟩] w fun e w' => ∃ v L, e = .returned v ∧ OwnL w' w.heap.size v L ∧ L.map (·.1) = (parseP l).1 ∧ Below w.heap.size w w' := by
  have PA := Lib.hid (pparse_own l w hl)
  unfold ParO at PA
  go_enter Tryz.func15, Tryz.ntmps15
  go_wp2_with (go_at_call 26; (with_reducible refine PA.out.mono ?_); rintro _ u ⟨v, L, rfl, hp, he, hb⟩)
  go_ret
  exact ⟨v, L, rfl, hp, he, hb⟩
end Go.Proofs.YtagjddnpaahebaaGreatDoor

