/- Layer 6, plain: the operations, by their numbers and names; which instructions may be. -/
import Derived.WalkKit
import Derived.ProofKit
import Derived.Deep.Quiet
import Derived.StillTail
import Derived.Lib.QuietBelow
namespace Go.Proofs.YtjibkgildfjjoaaDoor
set_option linter.unusedVariables false
set_option linter.unusedSimpArgs false
open Go

/-- A row of the table: name, fields, pops, pushes, first and last of the first field, last of the second one. -/
structure Orow where
  nm : ByteArray
  f : Int
  p : Int
  q : Int
  lo : Int
  la : Int
  lb : Int
def opTab : List Orow := [
  ⟨⟨#[112, 117, 115, 104]⟩, 2, 0, 1, 0, 250, 250⟩,
  ⟨⟨#[108, 111, 97, 100]⟩, 1, 0, 1, 0, 15, 0⟩,
  ⟨⟨#[115, 116, 111, 114, 101]⟩, 1, 1, 0, 0, 15, 0⟩,
  ⟨⟨#[97, 100, 100]⟩, 0, 2, 1, 0, 0, 0⟩,
  ⟨⟨#[115, 117, 98]⟩, 0, 2, 1, 0, 0, 0⟩,
  ⟨⟨#[109, 117, 108]⟩, 0, 2, 1, 0, 0, 0⟩,
  ⟨⟨#[100, 105, 118]⟩, 0, 2, 1, 0, 0, 0⟩,
  ⟨⟨#[99, 111, 110, 106]⟩, 0, 1, 1, 0, 0, 0⟩,
  ⟨⟨#[100, 117, 112]⟩, 0, 1, 2, 0, 0, 0⟩,
  ⟨⟨#[100, 114, 111, 112]⟩, 0, 1, 0, 0, 0, 0⟩,
  ⟨⟨#[106, 117, 109, 112]⟩, 1, 0, 0, 0, 199, 0⟩,
  ⟨⟨#[122, 101, 114, 111]⟩, 1, 1, 0, 0, 199, 0⟩,
  ⟨⟨#[114, 97, 110, 100]⟩, 0, 0, 1, 0, 0, 0⟩,
  ⟨⟨#[115, 112, 97, 119, 110]⟩, 2, 0, 0, 0, 15, 7⟩,
  ⟨⟨#[106, 111, 105, 110]⟩, 1, 0, 1, 0, 7, 0⟩,
  ⟨⟨#[114, 101, 116]⟩, 0, 1, 0, 0, 0, 0⟩,
  ⟨⟨#[116, 114, 97, 112]⟩, 1, 0, 0, 16, 255, 0⟩]
def noOp : Orow := ⟨⟨#[]⟩, 0, 0, 0, 0, 0, 0⟩
/-- The operation of a number. -/
def orow (n : Nat) : Orow := opTab.getD n noOp
def okO (n : Int) : Bool := decide (0 ≤ n) && decide (n ≤ 16)
def rz (n : Int) : Orow := if okO n = true then orow n.toNat else noOp
theorem opTab_get {k : Nat} (hk : k < 17) : opTab[k]? = some (orow k) := by
  unfold orow
  rw [List.getD_eq_getElem?_getD]
  have : k < opTab.length := hk
  rw [List.getElem?_eq_getElem this]
  rfl
theorem rz_in {k : Nat} (h : k < 17) : rz k = orow k := by
  unfold rz
  rw [if_pos (by simp [okO]; omega)]
  rfl
theorem rz_out {n : Int} (h : okO n = false) : rz n = noOp := by unfold rz; rw [if_neg (by simp [h])]
theorem okZ_cases (n : Int) : (∃ k : Nat, k < 17 ∧ n = k) ∨ okO n = false := by
  by_cases h : okO n = true
  · simp only [okO, Bool.and_eq_true, decide_eq_true_eq] at h
    exact .inl ⟨n.toNat, by omega, by omega⟩
  · exact .inr (by simpa using h)

/-- Whether two texts are the same. -/
def eqS (a b : ByteArray) : Bool := decide (a = b)
theorem eqS_toList (a b : ByteArray) : (a.toList == b.toList) = eqS a b := by
  unfold eqS
  by_cases h : a = b
  · simp [h]
  · rw [decide_eq_false h]
    refine beq_eq_false_iff_ne.2 fun he => h ?_
    rw [ByteArray.toList_eq, ByteArray.toList_eq] at he
    exact ByteArray.ext (Array.toList_inj.1 he)
theorem eqS_iff {a b : ByteArray} : eqS a b = true ↔ a = b := by simp [eqS]

/-- The number of the operation of a name; 17 if there is none. -/
def idxN (s : ByteArray) : Nat := opTab.findIdx fun r => eqS r.nm s
theorem idx_le (s : ByteArray) : idxN s ≤ 17 := List.findIdx_le_length
theorem orow_get {k : Nat} (h : k < opTab.length) : opTab[k] = orow k := Option.some.inj ((List.getElem?_eq_getElem h).symm.trans (opTab_get h))
theorem idx_hit {s : ByteArray} {k : Nat} (hk : k < 17) (h : eqS (orow k).nm s = true) (hn : ∀ j, j < k → eqS (orow j).nm s = false) : idxN s = k := by
  have hl : k < opTab.length := hk
  refine (List.findIdx_eq hl).2 ⟨?_, fun j hj => ?_⟩
  · rw [orow_get hl]; exact h
  · rw [orow_get (Nat.lt_trans hj hl)]; exact hn j hj
theorem idx_miss {s : ByteArray} (hn : ∀ j, j < 17 → eqS (orow j).nm s = false) : idxN s = 17 := by
  rcases Nat.lt_or_ge (idxN s) 17 with h | h
  · have hl : opTab.findIdx (fun r => eqS r.nm s) < opTab.length := h
    have := List.findIdx_getElem (w := hl)
    rw [orow_get hl] at this
    exact absurd (hn _ h) (by simpa [idxN] using this)
  · exact Nat.le_antisymm (idx_le s) h
/-- What finding a name tells. -/
def numF (s : ByteArray) : Int := ((if idxN s < 17 then idxN s else 0 : Nat) : Int)
def isF (s : ByteArray) : Bool := decide (idxN s < 17)
theorem fnd_hit {s : ByteArray} {k : Nat} (h : idxN s = k) (hk : k < 17) : numF s = k ∧ isF s = true := by
  unfold numF isF
  rw [h, if_pos hk]
  exact ⟨rfl, decide_eq_true hk⟩
theorem fnd_miss {s : ByteArray} (h : idxN s = 17) : numF s = 0 ∧ isF s = false := by
  unfold numF isF
  rw [h]
  exact ⟨rfl, rfl⟩
theorem idx_name {s : ByteArray} (h : idxN s < 17) : (orow (idxN s)).nm = s := by
  have hl : opTab.findIdx (fun r => eqS r.nm s) < opTab.length := h
  have := List.findIdx_getElem (w := hl)
  rw [orow_get hl] at this
  exact eqS_iff.1 this

/-- An instruction. -/
abbrev iv (o a b : Int) : Value := .agg #[.int .i64 o, .int .i64 a, .int .i64 b]
/-- Whether it may be. -/
def mayZ (o a b : Int) : Bool := okO o && (decide ((rz o).lo ≤ a) && decide (a ≤ (rz o).la)) && (decide (0 ≤ b) && decide (b ≤ (rz o).lb))

theorem f_of : ∀ k, k < 17 → (orow k).f = (if k = 0 ∨ k = 13 then 2 else if k = 1 ∨ k = 2 ∨ k = 10 ∨ k = 11 ∨ k = 14 ∨ k = 16 then 1 else 0) := by decide
theorem okO_no {n : Int} (h : okO n = false) : n < 0 ∨ 16 < n := by
  simp only [okO, Bool.and_eq_false_iff, decide_eq_false_iff_not] at h
  omega

/-- A field's greatest number, as the document has it. -/
def mostZ (o j : Int) : Int := if o = 0 then 250 else if o = 1 ∨ o = 2 then 15 else if o = 10 ∨ o = 11 then 199 else if o = 13 then (if j = 1 then 7 else 15) else if o = 14 then 7 else 255
/-- What the document finds. -/
def rfnd (s : ByteArray) : Int := if isF s = true then numF s else -1
theorem rfnd_hit {s : ByteArray} {k : Nat} (h : idxN s = k) (hk : k < 17) : rfnd s = k := by
  unfold rfnd
  rw [(fnd_hit h hk).2, (fnd_hit h hk).1]
  rfl
theorem rfnd_miss {s : ByteArray} (h : idxN s = 17) : rfnd s = -1 := by
  unfold rfnd
  rw [(fnd_miss h).2]
  rfl

theorem row_ok : ∀ k, k < 17 → 0 ≤ (orow k).lo ∧ ((orow k).lo = 0 ∨ (k = 16 ∧ (orow k).lo = 16)) ∧ (orow k).la ≤ 255 ∧ (orow k).lb ≤ 255 ∧ (((orow k).f = 0 ∧ (orow k).la = 0 ∧ (orow k).lb = 0) ∨ ((orow k).f = 1 ∧ (orow k).lb = 0) ∨ (orow k).f = 2) := by decide
theorem may_iff {k : Nat} (hk : k < 17) (a b : Int) : mayZ k a b = true ↔ (orow k).lo ≤ a ∧ a ≤ (orow k).la ∧ 0 ≤ b ∧ b ≤ (orow k).lb := by
  unfold mayZ
  rw [rz_in hk, show okO (k : Int) = true by simp [okO]; omega]
  simp [and_assoc]
theorem apart : ∀ k, k < 17 → ∀ j, j < 17 → k ≠ j → (orow k).nm.size ≤ (orow j).nm.size → ((orow j).nm.extract 0 (orow k).nm.size).data.toList ≠ (orow k).nm.data.toList := by decide +kernel
end Go.Proofs.YtjibkgildfjjoaaDoor

/- A region that draws its order, whose first operations are quiet in a class of worlds, and whose last ones come one behind the other: one walk serves every order. -/
namespace Go.Proofs.YtjibkgildfjjoaaDoor
set_option linter.unusedVariables false
set_option linter.unusedSimpArgs false
open Go Go.Sort Go.RowKit

section
variable {P : Program} {ops : Array Oper} {md : Region.Mode} {C : World → Prop}

/-- f operations of the head, in whatever order, all quiet; then L. -/
def headQ (P : Program) (md : Region.Mode) (ops : Array Oper) (C : World → Prop) (n : Nat) (L : Array Bool → Act → Prop) : Nat → Array Bool → Act → Prop
  | 0, ls, a => L ls a
  | f + 1, ls, a => Region.ready md ops ls ≠ [] ∧ ∀ i ∈ Region.ready md ops ls, i < n ∧ qOp P ops C i (headQ P md ops C n L f (ls.setIfInBounds i true)) a

theorem any_of_headQ {n g : Nat} {L : Array Bool → Act → Prop} {Q' : Exit → Act → World → Prop} (hL : ∀ ls a w, C w → L ls a → wpAny P md ops Q' g ls a w) (f : Nat) :
    ∀ (ls : Array Bool) (a : Act) (w : World), C w → headQ P md ops C n L f ls a → wpAny P md ops Q' (f + g) ls a w := by
  induction f with
  | zero => intro ls a w hw h; simpa using hL ls a w hw h
  | succ f ih =>
    intro ls a w hw h
    have e : f + 1 + g = f + g + 1 := by omega
    rw [e]
    exact ⟨fun h0 => (h.1 h0).elim, fun i hi => wpOp_of_qOp hw (fun a' w' hw' hh => ih _ a' w' hw' hh) (h.2 i hi).2⟩

/-- What may come up, and is quiet and apart from all that doesn't wait for it, may be taken first. -/
theorem headQ_take {n i : Nat} {o : Oper} {v : Value} {L : Array Bool → Act → Prop} (hi : ops[i]? = some o) (hno : Region.noSelect ops = true)
    (hs : Region.sinkB md ops n = true) (hc : Region.chainB md ops n = true) (hn : n < ops.size) (hin : i < n)
    (hL : ∀ ls a, L ls a → ∀ j ∈ Region.ready md ops ls, n ≤ j) (f : Nat) :
    ∀ (ls : Array Bool) (a : Act), HeadInv md ops n ls →
      (∀ j oj, ops[j]? = some oj → j ≠ i → ls.getD j true = false → (∀ e ∈ oj.after, Region.binds md e = true → e.on ≠ i) → o.apart ops oj = true) →
      i ∈ Region.ready md ops ls → YieldsIn P ops C o v a → headQ P md ops C n L f (ls.setIfInBounds i true) (a.put o.dst v) → headQ P md ops C n L (f + 1) ls a := by
  have hsel := Region.noSelect_spec hno
  induction f with
  | zero =>
    intro ls a inv _ hr hy h
    have hun := (mem_ready.1 hr).1
    refine ⟨List.ne_nil_of_mem hr, fun j hj => ?_⟩
    have hjn : j < n := Nat.lt_of_not_le fun hle => tail_waits hs hc hn inv _ i rfl hin hun j hle hj
    by_cases hji : j = i
    · exact ⟨hjn, by rw [hji]; exact hy.qOp hi h⟩
    · have := hL _ _ h j (ready_mono hj hji)
      omega
  | succ f ih =>
    intro ls a inv hfree hr hy h
    have hun := (mem_ready.1 hr).1
    refine ⟨List.ne_nil_of_mem hr, fun j hj => ?_⟩
    have hjn : j < n := Nat.lt_of_not_le fun hle => tail_waits hs hc hn inv _ i rfl hin hun j hle hj
    refine ⟨hjn, ?_⟩
    by_cases hji : j = i
    · rw [hji]; exact hy.qOp hi h
    · obtain ⟨hju, oj, hoj, hall⟩ := mem_ready.1 hj
      have hap : o.apart ops oj = true := hfree j oj hoj hji hju fun e he hb heq => by
        have := hall e he hb
        rw [heq, getD_both hun] at this
        cases this
      have step := qOp_put hoj hap (fun cs b => hsel i o cs b hi) (fun cs b => hsel j oj cs b hoj) hy (h.2 j (ready_mono hj hji)).2
      refine qOp_mono (fun a' ⟨hy', hK⟩ => ih _ a' (inv.set hj hjn) (fun k ok hk hki hku hno' => hfree k ok hk hki ?_ hno') (ready_mono hr (Ne.symm hji)) hy' ?_) step
      · by_cases hjk : j = k
        · rw [← hjk]; exact hju
        · rwa [getD_set_ne true hjk] at hku
      · rw [Array.setIfInBounds_comm _ _ hji]; exact hK

theorem headQ_lex {n g : Nat} {L : Act → Prop} (hno : Region.noSelect ops = true) (hs : Region.sinkB md ops n = true) (hc : Region.chainB md ops n = true) (hn : n < ops.size) :
    ∀ (l : List Oper) (k : Nat) (ls : Array Bool) (a : Act), (∀ j, j < l.length → l[j]? = ops[k + j]?) → k + l.length = n → HeadInv md ops n ls →
      Region.lexHead md ops g l.length k ls = true → wpQuiet P ops C L l a → headQ P md ops C n (fun ls' a' => Region.seqB md ops g n ls' = true ∧ L a') l.length ls a := by
  intro l
  induction l with
  | nil =>
    intro k ls a _ hk _ hB h
    obtain rfl : k = n := by simpa using hk
    exact ⟨by simpa [Region.lexHead] using hB, h⟩
  | cons o l ih =>
    intro k ls a hl hk inv hB h
    have h0 : ops[k]? = some o := by simpa using (hl 0 (by simp)).symm
    simp only [List.length_cons, Region.lexHead, Bool.and_eq_true] at hB
    obtain ⟨⟨hr, hf⟩, hB'⟩ := hB
    have hkn : k < n := by simp only [List.length_cons] at hk; omega
    have hr' : k ∈ Region.ready md ops ls := by simpa using hr
    obtain ⟨v, hy, hK⟩ := yieldsIn_of_qOp h0 (show qOp P ops C k (wpQuiet P ops C L l) a by unfold qOp; simp only [h0]; exact h)
    refine headQ_take h0 hno hs hc hn hkn (fun _ _ hq => seqB_ready hq.1) l.length ls a inv (Region.free_spec h0 hf) hr' hy (ih (k + 1) _ _ (fun j hj => ?_) ?_ (inv.set hr' hkn) hB' hK)
    · have := hl (j + 1) (by simp; omega)
      simpa [Nat.add_assoc, Nat.add_comm 1 j] using this
    · simp only [List.length_cons] at hk; omega

/-- **One walk of the text's order serves every order**: the first n operations quiet in the class, the others behind them, one behind the other. -/
theorem wp_region_quiet_tail {id : Nat} {Q : Exit → Act → World → Prop} {a : Act} {w : World} {l : List Oper} (n : Nat) (hm : P.follows .mixedOrders = true) (hB : Region.lexTailB .any l.toArray n = true)
    (hC : C { w with drawn := w.drawn + 1 }) (h : wpQuiet P l.toArray C (fun a' => ∀ w', C w' → wpList P l.toArray Q (l.drop n) a' w') (l.take n) a) : (Code.region id l.toArray true).wp P Q a w := by
  simp only [Region.lexTailB, Bool.and_eq_true, decide_eq_true_eq] at hB
  obtain ⟨⟨⟨⟨hno, hn⟩, hs⟩, hc⟩, hlex⟩ := hB
  have hn' : n < l.length := by simpa using hn
  have htl : (l.take n).length = n := by rw [List.length_take]; omega
  have hdl : (l.drop n).length = l.toArray.size - n := by simp
  have inv : HeadInv .any l.toArray n (Array.replicate l.toArray.size false) :=
    ⟨by simp, fun j oj _ hj => (by rw [getD_replicate_false] at hj; cases hj), fun t _ ht => getD_in (by simpa using ht) (getD_replicate_false _ _)⟩
  have H := headQ_lex (md := .any) (g := l.toArray.size - n) hno hs hc hn (l.take n) 0 _ a (fun j hj => by rw [htl] at hj; simp [hj]) (by simpa using htl) inv (by rw [htl]; exact hlex) h
  have := any_of_headQ (Q' := Q) (g := l.toArray.size - n) (fun ls a' w' hw' hq => by
    have := wpAny_of_seq (md := .any) (Q' := Q) (l.drop n) n ls a' w' (fun j => by simp [List.getElem?_drop]) (by rw [hdl]; exact hq.1) (hq.2 w' hw')
    rwa [hdl] at this) _ _ _ _ hC H
  rw [htl, show n + (l.toArray.size - n) = l.toArray.size by omega] at this
  exact wp_region_any hm this

/-- At the class 'w, with blocks of the callees' own behind it'. -/
theorem wp_region_below_tail {id : Nat} {Q : Exit → Act → World → Prop} {a : Act} {w : World} {l : List Oper} (n : Nat) (hm : P.follows .mixedOrders = true) (hB : Region.lexTailB .any l.toArray n = true)
    (h : wpQuiet P l.toArray (fun w' => ∃ p : Regrown, w' = grow (redrawn w p.d) p.os) (fun a' => ∀ w', (∃ p : Regrown, w' = grow (redrawn w p.d) p.os) → wpList P l.toArray Q (l.drop n) a' w') (l.take n) a) : (Code.region id l.toArray true).wp P Q a w :=
  wp_region_quiet_tail n hm hB ⟨⟨w.drawn + 1, #[]⟩, by rw [grow_empty]; rfl⟩ h
end

/-- A callee's contract that ends in 'w = w'', met in a world of the class. -/
theorem Calls.regrown_same {P : Program} {f : FuncId} {args : Array Value} {w : World} {d : Nat} {os : Array Obj} {v : Value}
    (h : Calls P f args (grow (redrawn w d) os) fun e w' => e = .returned v ∧ grow (redrawn w d) os = w') : Calls P f args (grow (redrawn w d) os) fun e w'' => e = .returned v ∧ ∃ p : Regrown, w'' = grow (redrawn w p.d) p.os :=
  h.mono fun _ _ ⟨he, hb⟩ => ⟨he, ⟨d, os⟩, hb.symm⟩
end Go.Proofs.YtjibkgildfjjoaaDoor

