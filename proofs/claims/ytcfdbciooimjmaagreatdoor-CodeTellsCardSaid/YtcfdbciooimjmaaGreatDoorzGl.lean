/- Layer 7's code: the draft's add. -/
import Derived.Test.YtcfdbciooimjmaaGreatDoorzKl
import Derived.ScopeJumps
import Derived.Test.YtcfdbciooimjmaaGreatDoorzGa
namespace Go.Proofs.YtcfdbciooimjmaaGreatDoor
set_option linter.unusedVariables false
set_option linter.unusedSimpArgs false
open Go.RowKit Go.ChangeShapes Go.WideShapes Go.ChangeAt Go.Sort

/-- What a line more makes of a program. -/
def addQ (p : List Fun) (l : List UInt8) : Option (List Fun) := (lineOf l).bind (layL p)
/-- What a line more makes of a draft. -/
def AddR (D : Nat) (p : List Fun) (l : List UInt8) (w w' : World) (b : Bool) : Prop :=
  Below D w w' ∧ (∀ q, addQ p l = some q → b = true ∧ ∃ v' L', Dr D v' L' w' ∧ L'.map (·.1) = q) ∧ (addQ p l = none → b = false)
theorem AddR.no {D : Nat} {p : List Fun} {l : List UInt8} {w w' : World} (h : addQ p l = none) (hb : Below D w w') : AddR D p l w w' false :=
  ⟨hb, fun q hq => (by rw [h] at hq; cases hq), fun _ => rfl⟩
theorem addQ_of {p : List Fun} {l : List UInt8} {x : List UInt8 × List Int} (h : wordsC l = some x) : addQ p l = (lineC x).bind (layL p) := by
  unfold addQ
  rw [line_words, h]
  rfl
theorem lineC_head {w0 : List UInt8} {ns : List Int} (hw : w0 = funcW) : lineC (w0, ns) = if ns.length = 3 ∧ headB (ns.getD 0 0) (ns.getD 1 0) (ns.getD 2 0) = true then some (.head (ns.getD 0 0) (ns.getD 1 0) (ns.getD 2 0)) else none := by
  unfold lineC
  simp only
  rw [if_pos hw]
theorem lineC_ins {w0 : List UInt8} {ns : List Int} (hw : w0 ≠ funcW) : lineC (w0, ns) = if mayZ (rfnd ⟨w0.toArray⟩) (ns.getD 0 0) (ns.getD 1 0) = true ∧ (ns.length : Int) = (rz (rfnd ⟨w0.toArray⟩)).f then some (.ins (rfnd ⟨w0.toArray⟩) (ns.getD 0 0) (ns.getD 1 0)) else none := by
  unfold lineC
  simp only
  rw [if_neg hw]
/-- A program is nothing, or has a last function. -/
theorem own_split {α : Type} (L : List α) : L = [] ∨ ∃ L0 x, L = L0 ++ [x] := by
  rcases List.eq_nil_or_concat L with h | ⟨L0, x, h⟩
  · exact .inl h
  · exact .inr ⟨L0, x, by simpa using h⟩
theorem layH_no {p : List Fun} {a l s : Int} (h : openR p = false ∨ p.length = 16) : layH p a l s = none := by
  unfold layH
  rw [if_neg]
  rintro ⟨h1, h2⟩
  rcases h with h | h
  · rw [h] at h1; cases h1
  · exact h2 h
theorem openR_snoc (p : List Fun) (f : Fun) : openR (p ++ [f]) = !f.code.isEmpty := by
  unfold openR
  rw [List.getLast?_concat]
theorem layI_snoc (p : List Fun) (f : Fun) (o a b : Int) : layI (p ++ [f]) o a b = if f.code.length = 200 then none else some (p ++ [⟨f.ar, f.lo, f.sl, f.code ++ [(o, a, b)]⟩]) := by
  unfold layI
  rw [List.getLast?_concat, List.dropLast_concat]

theorem copen_any {D : Nat} {v : Value} {L : List (Fun × Value)} {A : Option Addr} {c : Nat} {l : List UInt8} {ns : List Int} (w : World) (h : Dr D v L w) (hn : L.length ≤ 16) (hw : wordsC l = some (funcW, ns)) (hA : IntsAt w A ns) :
    Calls Tryz.prog 57 #[.pointer (some ⟨D, 0, none⟩), .slice A ns.length c] w fun e w' => ∃ b, e = .returned (.bool b) ∧ AddR D (L.map (·.1)) l w w' b := by
  have hq := addQ_of (p := L.map (·.1)) hw
  rw [lineC_head rfl] at hq
  by_cases h3 : ns.length = 3
  case neg =>
    rw [if_neg (fun h => h3 h.1)] at hq
    exact (copen_len w h h3).mono fun e w' ⟨he, hww⟩ => ⟨false, he, AddR.no hq (hww ▸ Below.refl _ _)⟩
  match ns, h3, hq, hA with
  | [a, b, s], _, hq, hA =>
    by_cases h16 : L.length = 16
    · have hq2 : addQ (L.map (·.1)) l = none := by
        rw [hq]
        split
        · exact layH_no (.inr (by rw [List.length_map]; exact h16))
        · rfl
      exact (copen_full w h h16).mono fun e w' ⟨he, hww⟩ => ⟨false, he, AddR.no hq2 (hww ▸ Below.refl _ _)⟩
    have hlt : L.length < 16 := by omega
    have key : openR (L.map (·.1)) = true → ∀ (e : Ending) (w' : World), (e = .returned (.bool (headB a b s)) ∧ Below D w w' ∧ ∃ v' L', Dr D v' L' w' ∧ L'.map (·.1) = L.map (·.1) ++ [⟨a, b, s, []⟩]) → ∃ t, e = .returned (.bool t) ∧ AddR D (L.map (·.1)) l w w' t := fun ho e w' ⟨he, hb, hx⟩ => by
      refine ⟨_, he, hb, fun q hq3 => ?_, fun hq3 => ?_⟩
      · rw [hq] at hq3
        split at hq3
        · rename_i hc
          have hh : headB a b s = true := hc.2
          have hlay : layL (L.map (·.1)) (.head a b s) = some (L.map (·.1) ++ [⟨a, b, s, []⟩]) := by
            show layH _ _ _ _ = _
            unfold layH
            rw [if_pos ⟨ho, by rw [List.length_map]; exact h16⟩]
          have : some q = some (L.map (·.1) ++ [⟨a, b, s, []⟩]) := hq3.symm.trans hlay
          cases this
          exact ⟨hh, hx⟩
        · cases hq3
      · rw [hq] at hq3
        cases hh : headB a b s with
        | false => rfl
        | true =>
          rw [if_pos ⟨rfl, hh⟩] at hq3
          have hlay : layL (L.map (·.1)) (.head a b s) = some (L.map (·.1) ++ [⟨a, b, s, []⟩]) := by
            show layH _ _ _ _ = _
            unfold layH
            rw [if_pos ⟨ho, by rw [List.length_map]; exact h16⟩]
          have : (none : Option (List Fun)) = some _ := hq3.symm.trans hlay
          cases this
    rcases own_split L with rfl | ⟨L0, ⟨f, cf⟩, rfl⟩
    · exact (copen_none w h hlt hA).mono (key rfl)
    · by_cases hf : f.code = []
      · have hq2 : addQ ((L0 ++ [(f, cf)]).map (·.1)) l = none := by
          rw [hq]
          split
          · refine layH_no (.inl ?_)
            rw [List.map_append]
            show openR (_ ++ [f]) = false
            rw [openR_snoc, hf]
            rfl
          · rfl
        exact (copen_bare w h (by rw [List.length_append] at hn; omega) hf).mono fun e w' ⟨he, hww⟩ => ⟨false, he, AddR.no hq2 (hww ▸ Below.refl _ _)⟩
      · refine (copen_some w h hlt hf hA).mono (key ?_)
        rw [List.map_append]
        show openR (_ ++ [f]) = true
        rw [openR_snoc]
        simpa using hf

theorem rfnd_yes {s : ByteArray} (h : isF s = true) : rfnd s = numF s := by unfold rfnd; rw [if_pos h]
theorem rfnd_no {s : ByteArray} (h : isF s = false) : rfnd s = -1 := by unfold rfnd; rw [if_neg (by rw [h]; simp)]
theorem cfol_any {D : Nat} {v : Value} {L : List (Fun × Value)} {A : Option Addr} {c : Nat} {l w0 : List UInt8} {ns : List Int} (w : World) (hT : TT w) (h : Dr D v L w) (hD : D ≤ w.heap.size) (hn : L.length ≤ 16) (hc : ∀ x ∈ L, x.1.code.length ≤ 200) (hw : wordsC l = some (w0, ns)) (hne : w0 ≠ funcW) (hA : IntsAt w A ns) :
    Calls Tryz.prog 58 #[.pointer (some ⟨D, 0, none⟩), .string ⟨w0.toArray⟩, .slice A ns.length c] w fun e w' => ∃ b, e = .returned (.bool b) ∧ AddR D (L.map (·.1)) l w w' b := by
  have hq := addQ_of (p := L.map (·.1)) hw
  rw [lineC_ins hne] at hq
  cases hf : isF ⟨w0.toArray⟩ with
  | false =>
    have hq2 : addQ (L.map (·.1)) l = none := by
      rw [hq, rfnd_no hf, if_neg]
      · rfl
      · rintro ⟨h1, _⟩
        obtain ⟨k, hk, e⟩ := may_in h1
        omega
    exact (cfol_miss _ w hT hf).mono fun e w' ⟨he, hb⟩ => ⟨false, he, AddR.no hq2 (hb.mono hD)⟩
  | true =>
    rw [rfnd_yes hf] at hq
    by_cases hl : (ns.length : Int) = (rz (numF ⟨w0.toArray⟩)).f
    case neg =>
      have hq2 : addQ (L.map (·.1)) l = none := by
        rw [hq, if_neg (fun h => hl h.2)]
        rfl
      exact (cfol_len _ w hT hf hl).mono fun e w' ⟨he, hb⟩ => ⟨false, he, AddR.no hq2 (hb.mono hD)⟩
    rcases own_split L with rfl | ⟨L0, ⟨f, cf⟩, rfl⟩
    · have hq2 : addQ (([] : List (Fun × Value)).map (·.1)) l = none := by
        rw [hq]
        split <;> rfl
      exact (cfol_none _ w hT h hf hl).mono fun e w' ⟨he, hb⟩ => ⟨false, he, AddR.no hq2 (hb.mono hD)⟩
    · have hfl : f.code.length ≤ 200 := hc (f, cf) (by simp)
      have hL0 : L0.length ≤ 1000 := by rw [List.length_append] at hn; omega
      have key : ∀ (xa xb : Int), ns.getD 0 0 = xa → ns.getD 1 0 = xb → ∀ (e : Ending) (w' : World), (e = .returned (.bool (mayZ (numF ⟨w0.toArray⟩) xa xb && decide (f.code.length ≠ 200))) ∧ Below D w w' ∧
          (mayZ (numF ⟨w0.toArray⟩) xa xb = true → f.code.length ≠ 200 → ∃ v' L', Dr D v' L' w' ∧ L'.map (·.1) = L0.map (·.1) ++ [⟨f.ar, f.lo, f.sl, f.code ++ [(numF ⟨w0.toArray⟩, xa, xb)]⟩])) →
          ∃ t, e = .returned (.bool t) ∧ AddR D ((L0 ++ [(f, cf)]).map (·.1)) l w w' t := fun xa xb ea eb e w' ⟨he, hb, hx⟩ => by
        rw [ea, eb] at hq
        have hlay : layL ((L0 ++ [(f, cf)]).map (·.1)) (.ins (numF ⟨w0.toArray⟩) xa xb) = if f.code.length = 200 then none else some (L0.map (·.1) ++ [⟨f.ar, f.lo, f.sl, f.code ++ [(numF ⟨w0.toArray⟩, xa, xb)]⟩]) := by
          rw [List.map_append]
          exact layI_snoc _ f _ _ _
        refine ⟨_, he, hb, fun q hq3 => ?_, fun hq3 => ?_⟩
        · rw [hq] at hq3
          split at hq3
          · rename_i hcnd
            have hq4 := hq3.symm.trans hlay
            by_cases h2 : f.code.length = 200
            · rw [if_pos h2] at hq4
              cases hq4
            · rw [if_neg h2] at hq4
              cases hq4
              exact ⟨by rw [hcnd.1]; simp [h2], hx hcnd.1 h2⟩
          · cases hq3
        · rw [hq] at hq3
          cases hm : mayZ (numF ⟨w0.toArray⟩) xa xb with
          | false => rfl
          | true =>
            rw [if_pos ⟨hm, hl⟩] at hq3
            have hq4 := hq3.symm.trans hlay
            by_cases h2 : f.code.length = 200
            · simp [h2]
            · rw [if_neg h2] at hq4
              cases hq4
      have hb2 : (rz (numF ⟨w0.toArray⟩)).f ≤ 2 := by
        rcases okZ_cases (numF ⟨w0.toArray⟩) with ⟨k, hk, e⟩ | h0
        · rw [e, rz_in hk]
          have := row_ok k hk
          omega
        · rw [rz_out h0]
          decide
      match ns, hl, hA, key with
      | [], hl, hA, key => exact (cfol_lay0 _ w hT h hL0 hfl hf hl hA).mono (key 0 0 rfl rfl)
      | [a], hl, hA, key => exact (cfol_lay1 _ w hT h hL0 hfl hf hl hA).mono (key a 0 rfl rfl)
      | [a, b], hl, hA, key => exact (cfol_lay2 _ w hT h hL0 hfl hf hl hA).mono (key a b rfl rfl)
      | a :: b :: d :: r, hl, _, _ =>
        simp at hl
        omega
end Go.Proofs.YtcfdbciooimjmaaGreatDoor

/- Layer 7's code: the draft's add; Parse. -/
namespace Go.Proofs.YtcfdbciooimjmaaGreatDoor
set_option linter.unusedVariables false
set_option linter.unusedSimpArgs false
open Go.RowKit Go.ChangeShapes Go.WideShapes Go.ChangeAt Go.Sort

theorem AddR.step {D : Nat} {p : List Fun} {l : List UInt8} {w u w' : World} {b : Bool} (hb : Below w.heap.size w u) (hD : D ≤ w.heap.size) (h : AddR D p l u w' b) : AddR D p l w w' b := ⟨(hb.mono hD).trans h.1, h.2⟩
set_option maxHeartbeats 2000000 in
set_option maxRecDepth 100000 in
theorem cadd_any {D : Nat} {v : Value} {L : List (Fun × Value)} {l : List UInt8} (hl : l.length ≤ 1000000) (w : World) (hT : TT w) (h : Dr D v L w) (hn : L.length ≤ 16) (hc : ∀ x ∈ L, x.1.code.length ≤ 200) :
    Calls Tryz.prog 26 #[.pointer (some ⟨D, 0, none⟩), .string ⟨l.toArray⟩] w fun e w' => ∃ b, e = .returned (.bool b) ∧ AddR D (L.map (·.1)) l w w' b := by
  have W := Lib.hid (cwords_any l hl w hT)
  have hD : D ≤ w.heap.size := Nat.le_of_lt h.d.lt
  cases hw : wordsC l with
  | none =>
    have hwc : wC l = (false, [], []) := by unfold wC; rw [hw]
    have hq : addQ (L.map (·.1)) l = none := by unfold addQ; rw [line_words, hw]; rfl
    rw [hwc] at W
    simp only at W
    have HQ := Lib.hid hq
    clear hwc hq h hw
    go_enter Tryz.func26, Tryz.ntmps26
    go_wp2_with (go_at_call 56; (with_reducible refine W.out.mono ?_); rintro e u ⟨A, c, rfl, _, hb⟩)
    go_ret
    exact ⟨false, rfl, AddR.no HQ.out (hb.mono hD)⟩
  | some x =>
    obtain ⟨w0, ns⟩ := x
    have hwc : wC l = (true, w0, ns) := by unfold wC; rw [hw]
    rw [hwc] at W
    simp only at W
    have HT := Lib.hid hT
    have HH := Lib.hid h
    by_cases hf : w0 = funcW
    · subst hf
      have CO := fun u A c hd hA => Lib.hid (copen_any (D := D) (v := v) (L := L) (A := A) (c := c) (l := l) (ns := ns) u hd hn hw hA)
      rw [show (⟨funcW.toArray⟩ : ByteArray) = ⟨#[102, 117, 110, 99]⟩ from rfl] at W
      clear hwc h hw hT
      go_enter Tryz.func26, Tryz.ntmps26
      go_wp2_with (first
        | (go_at_call 56; (with_reducible refine W.out.mono ?_); rintro e u ⟨A, c, rfl, hA, hb⟩)
        | (go_at_call 57; (with_reducible refine (CO _ _ _ (HH.out.below hb) hA).out.mono ?_); rintro e u2 ⟨b, rfl, hR⟩))
      go_ret
      exact ⟨b, rfl, hR.step hb hD⟩
    · have CO := fun u A c ht hd hD hA => Lib.hid (cfol_any (D := D) (v := v) (L := L) (A := A) (c := c) (l := l) (w0 := w0) (ns := ns) u ht hd hD hn hc hw hf hA)
      have hne : (w0 == [102, 117, 110, 99]) = false := by simpa [funcW] using hf
      clear hwc h hw hT hf
      go_enter Tryz.func26, Tryz.ntmps26
      go_wp2_with (first
        | (go_at_call 56; (with_reducible refine W.out.mono ?_); rintro e u ⟨A, c, rfl, hA, hb⟩)
        | (go_at_call 58; (with_reducible refine (CO _ _ _ (HT.out.below hb) (HH.out.below hb) (Nat.le_trans hD hb.size) hA).out.mono ?_); rintro e u2 ⟨b, rfl, hR⟩))
      go_ret
      exact ⟨b, rfl, hR.step hb hD⟩

theorem lay_small {p q : List Fun} {x : PLine} (h : layL p x = some q) (hp : p.length ≤ 16) (hc : ∀ f ∈ p, f.code.length ≤ 200) : q.length ≤ 16 ∧ ∀ f ∈ q, f.code.length ≤ 200 := by
  cases x with
  | head a l s =>
    have h' : layH p a l s = some q := h
    unfold layH at h'
    split at h'
    · rename_i hcnd
      cases h'
      refine ⟨by rw [List.length_append, List.length_singleton]; omega, fun f hf => ?_⟩
      rcases List.mem_append.1 hf with hf | hf
      · exact hc f hf
      · simp only [List.mem_singleton] at hf
        subst hf
        simp
    · cases h'
  | ins o a b =>
    have h' : layI p o a b = some q := h
    rcases own_split p with rfl | ⟨p0, f, rfl⟩
    · cases h'
    · rw [layI_snoc] at h'
      split at h'
      · cases h'
      · rename_i h2
        cases h'
        have hf2 := hc f (by simp)
        refine ⟨by simpa using hp, fun g hg => ?_⟩
        rcases List.mem_append.1 hg with hg | hg
        · exact hc g (by simp [hg])
        · simp only [List.mem_singleton] at hg
          subst hg
          simp only [List.length_append, List.length_singleton]
          omega
theorem addQ_small {p q : List Fun} {l : List UInt8} (h : addQ p l = some q) (hp : p.length ≤ 16) (hc : ∀ f ∈ p, f.code.length ≤ 200) : q.length ≤ 16 ∧ ∀ f ∈ q, f.code.length ≤ 200 := by
  unfold addQ at h
  cases hx : lineOf l with
  | none => rw [hx] at h; cases h
  | some x => rw [hx] at h; exact lay_small h hp hc
theorem OwnL.cap {w : World} {B : Nat} {v : Value} {L : List (Fun × Value)} (h : OwnL w B v L) : ∃ A c, v = .slice A L.length c ∧ L.length ≤ c := by
  rcases h.1.2 with ⟨rfl, h0⟩ | ⟨g, cap, cur, rfl, _, _, hc, _⟩
  · exact ⟨none, 0, by rw [h0], by omega⟩
  · exact ⟨_, _, rfl, hc⟩

def parMu (a' : Act) : Nat := match a'.tmps.getD 0 undef with
  | .string b => b.size
  | _ => 0
def ParJ (w0 : World) (l : List UInt8) (D : Nat) (a' : Act) (w' : World) : Prop :=
  ∃ (s : List UInt8) (n : Nat) (v : Value) (L : List (Fun × Value)), Dr D v L w' ∧ Below w0.heap.size w0 w' ∧ finP (L.map (·.1)) n s = parseP l ∧ n + s.length ≤ l.length ∧ L.length ≤ 16 ∧ (∀ x ∈ L, x.1.code.length ≤ 200) ∧ ∃ u1 u7 u8 u9 u10 u11 u12 u13 u14 u15 u16 u17 u18 u19 u20 u21 u22 u23 u24 u25 u26 u27 u28 u29 u30 u31 u32 u33 u34 u35 : Value,  a' = { tmps := #[.string ⟨s.toArray⟩, u1, .slice none 0 0, .int .i64 0, .int .i64 0, .pointer (some ⟨D, 0, none⟩), .int .i64 (n : Nat), u7, u8, u9, u10, u11, u12, u13, u14, u15, u16, u17, u18, u19, u20, u21, u22, u23, u24, u25, u26, u27, u28, u29, u30, u31, u32, u33, u34, u35], defers := [] }

/-- What a text's program is, in memory. -/
def ParR (w0 : World) (l : List UInt8) (e : Ending) (w' : World) : Prop := ∃ A c, e = .returned (.tuple #[.slice A (parseP l).1.length c, .int .i64 (parseP l).2.1, .int .i64 (parseP l).2.2]) ∧ (parseP l).1.length ≤ c ∧ ProgAt w' w'.heap.size A (parseP l).1 ∧ Below w0.heap.size w0 w'
set_option maxHeartbeats 4000000 in
set_option maxRecDepth 100000 in
theorem cparse_any (l : List UInt8) (w : World) (hT : TT w) (hl : l.length ≤ 1000000) :
    Calls Tryz.prog 11 #[.string ⟨l.toArray⟩] w fun e w' => ParR w l e w' := by
  have HT := Lib.hid hT
  clear hT
  have hD0 : Dr w.heap.size (.slice none 0 0) [] (w.alloc (.cells #[.slice none 0 0] 41)) := ⟨Held.new _ _ _, OwnL.nil _ _⟩
  have hB0 : Below w.heap.size w (w.alloc (.cells #[.slice none 0 0] 41)) := (Below.refl _ _).alloc (Nat.le_refl _) _
  go_enter Tryz.func11, Tryz.ntmps11
  go_wp2
  refine wp_scope_once 0 (ParJ w l w.heap.size) (fun a' _ => parMu a') rfl ?_ ?_
  · rintro a' w' ⟨s, n, v, L, hDr, hb, hfin, hlen, hn, hc, u1, u7, u8, u9, u10, u11, u12, u13, u14, u15, u16, u17, u18, u19, u20, u21, u22, u23, u24, u25, u26, u27, u28, u29, u30, u31, u32, u33, u34, u35, rfl⟩
    try dsimp only
    generalize hmu : parMu _ = mu
    have hms : mu = s.length := by rw [← hmu]; simp [parMu, strb_size]
    clear hmu
    have CU := Lib.hid (ccut_any s (by omega) w' (HT.out.below hb))
    have HD := Lib.hid hDr
    have HF := Lib.hid hfin
    have HC := Lib.hid hc
    clear hDr hfin hc hD0 hB0
    rcases mem_cut (c := 10) s with hs | ⟨a, b, rfl, ha⟩
    · rw [cut_free hs] at CU
      simp only at CU
      have hfe := fin_end (L.map (·.1)) n hs
      by_cases hse : s = []
      · subst hse
        rw [HF.out] at hfe
        obtain ⟨A, c, rfl, hcap⟩ := HD.out.own.cap
        have hpl : ((L.map (·.1)).length : Nat) = L.length := List.length_map _
        have hsz : SizedP (L.map (·.1)) := ⟨by rw [hpl]; unfold maxLen; omega, fun f hf => by
          obtain ⟨x, hx, rfl⟩ := List.mem_map.1 hf
          have := HC.out x hx
          unfold maxLen
          omega⟩
        have CM : ∀ u, Below w'.heap.size w' u → Hid (Calls Tryz.prog 15 #[.slice A L.length c] u fun e w' => e = .returned (.bool (mayP (L.map (·.1)))) ∧ Below u.heap.size u w') := fun u hu => by
          obtain ⟨A2, c2, e2, hp2⟩ := (HD.out.below hu).own.prog
          simp only [Value.slice.injEq, true_and] at e2
          obtain ⟨rfl, rfl⟩ := e2
          have := cmay_any c u ((HT.out.below hb).below hu) hp2 hsz (Nat.le_refl _)
          rw [hpl] at this
          exact Lib.hid this
        have PR : ∀ u, Below w'.heap.size w' u → Hid (ProgAt u u.heap.size A (L.map (·.1))) := fun u hu => by
          obtain ⟨A2, c2, e2, hp2⟩ := (HD.out.below hu).own.prog
          simp only [Value.slice.injEq, true_and] at e2
          obtain ⟨rfl, rfl⟩ := e2
          exact Lib.hid hp2
        have HPL := Lib.hid hpl
        clear hsz hpl
        cases hm : mayP (L.map (·.1)) with
        | false =>
          rw [hm] at CM
          have hpe : parseP l = ([], n, 70) := by rw [hfe, if_neg]; rintro ⟨_, h⟩; rw [hm] at h; cases h
          have HPE := Lib.hid hpe
          clear hfe hpe hm
          go_wp2_with (first
            | (go_at_call 25; (with_reducible refine CU.out.mono ?_); rintro e u ⟨rfl, hbu⟩; have d0 := (HD.out.below hbu).d.cell 0; have dl := (HD.out.below hbu).d.lt; simp at d0)
            | (go_at_call 15; (with_reducible refine (CM _ hbu).out.mono ?_); rintro e u2 ⟨rfl, hbu2⟩))
          simp only [Exit.jump]
          go_returns
          unfold ParR
          rw [HPE.out]
          exact ⟨none, 0, rfl, by simp, ProgAt.nil _ _ _, Below.step (Below.step hb hbu) hbu2⟩
        | true =>
          rw [hm] at CM
          have hpe : parseP l = (L.map (·.1), n, 0) := by rw [hfe, if_pos ⟨rfl, hm⟩]
          have HPE := Lib.hid hpe
          clear hfe hpe hm
          go_wp2_with (first
            | (go_at_call 25; (with_reducible refine CU.out.mono ?_); rintro e u ⟨rfl, hbu⟩; have d0 := (HD.out.below hbu).d.cell 0; have dl := (HD.out.below hbu).d.lt; simp at d0)
            | (go_at_call 15; (with_reducible refine (CM _ hbu).out.mono ?_); rintro e u2 ⟨rfl, hbu2⟩; have hbw2 := Below.step hbu hbu2; have d1 := (HD.out.below hbw2).d.cell 0; have dl1 := (HD.out.below hbw2).d.lt; simp at d1))
          simp only [Exit.jump]
          go_returns
          unfold ParR
          rw [HPE.out]
          exact ⟨A, c, by rw [HPL.out]; rfl, by rw [HPL.out]; exact hcap, (PR _ hbw2).out, Below.step hb hbw2⟩
      · have hpe : parseP l = ([], n, 70) := by rw [← HF.out, hfe, if_neg]; rintro ⟨h, _⟩; exact hse h
        have HPE := Lib.hid hpe
        have hne : (s == ([] : List UInt8)) = false := by simpa using hse
        clear hfe hpe hse hs
        go_wp2_with (go_at_call 25; (with_reducible refine CU.out.mono ?_); rintro e u ⟨rfl, hbu⟩)
        simp only [Exit.jump]
        go_returns
        unfold ParR
        rw [HPE.out]
        exact ⟨none, 0, rfl, by simp, ProgAt.nil _ _ _, Below.step hb hbu⟩
    · rw [cut_app b ha] at CU
      simp only at CU
      have CA := fun u (hu : Below w'.heap.size w' u) => Lib.hid (cadd_any (l := a) (by rw [List.length_append] at hlen; omega) u ((HT.out.below hb).below hu) (HD.out.below hu) hn HC.out)
      have hbl : b.length < (a ++ 10 :: b).length := by rw [List.length_append, List.length_cons]; omega
      have hlen2 : n + 1 + b.length ≤ l.length := by rw [List.length_append, List.length_cons] at hlen; omega
      have hne : ((a ++ 10 :: b : List UInt8) == []) = false := by simp
      cases hq : addQ (L.map (·.1)) a with
      | none =>
        have hpe : parseP l = ([], n, 70) := by rw [← HF.out, fin_bad n b ha hq]
        have HPE := Lib.hid hpe
        have HQ := Lib.hid hq
        clear hpe hq ha
        generalize (a ++ 10 :: b : List UInt8) = s at *
        go_wp2_with (first
          | (go_at_call 25; (with_reducible refine CU.out.mono ?_); rintro e u ⟨rfl, hbu⟩)
          | (go_at_call 26; (with_reducible refine (CA _ hbu).out.mono ?_); rintro e u2 ⟨t, rfl, hR1, hR2, hR3⟩; obtain rfl := hR3 HQ.out))
        simp only [Exit.jump]
        go_returns
        unfold ParR
        rw [HPE.out]
        exact ⟨none, 0, rfl, by simp, ProgAt.nil _ _ _, (Below.step hb hbu).trans hR1⟩
      | some q =>
        have hfs := fin_step n b ha hq
        rw [HF.out] at hfs
        obtain ⟨hq16, hqc⟩ := addQ_small hq (by rw [List.length_map]; exact hn) (fun f hf => by obtain ⟨x, hx, rfl⟩ := List.mem_map.1 hf; exact HC.out x hx)
        have HFS := Lib.hid hfs
        have HQ := Lib.hid hq
        have HQC := Lib.hid hqc
        clear hfs hq ha hqc
        generalize (a ++ 10 :: b : List UInt8) = s at *
        go_wp2_with (first
          | (go_at_call 25; (with_reducible refine CU.out.mono ?_); rintro e u ⟨rfl, hbu⟩)
          | (go_at_call 26; (with_reducible refine (CA _ hbu).out.mono ?_); rintro e u2 ⟨t, rfl, hR1, hR2, hR3⟩; obtain ⟨rfl, v', L', hDr', hm'⟩ := hR2 q HQ.out))
        go_step3
        refine ⟨rfl, ⟨b, n + 1, v', L', hDr', (Below.step hb hbu).trans hR1, ?_, hlen2, ?_, ?_, _, _, _, _, _, _, _, _, _, _, _, _, _, _, _, _, _, _, _, _, _, _, _, _, _, _, _, _, _, _, rfl⟩, ?_⟩
        · rw [hm', ← HFS.out]
        · rw [← hm', List.length_map] at hq16; exact hq16
        · intro x hx
          exact HQC.out x.1 (by rw [← hm']; exact List.mem_map.2 ⟨x, hx, rfl⟩)
        · simp [parMu, strb_size]
          omega
  · intro hp
    have Hp := Lib.hid hp
    clear hp
    go_wp2
    go_step3
    rename_i hK
    refine hK _ _ (Hp.out _ _ ⟨l, 0, .slice none 0 0, [], hD0, hB0, (parse_fin l).symm, by omega, by simp, by simp, _, _, _, _, _, _, _, _, _, _, _, _, _, _, _, _, _, _, _, _, _, _, _, _, _, _, _, _, _, _, rfl⟩)
end Go.Proofs.YtcfdbciooimjmaaGreatDoor

