/- Layer 10, plain: what a program with which nothing is wrong ends with. -/
import Derived.Test.YtagjddnpaahebaaGreatDoorzSb
import Derived.Test.YtagjddnpaahebaaGreatDoorzGh
import Derived.Test.YtagjddnpaahebaaGreatDoorzHj
import Derived.Test.YtagjddnpaahebaaGreatDoorzGc
import Derived.Test.YtagjddnpaahebaaGreatDoorzGq
import Derived.Laws.OwnMore
import Derived.Test.YtagjddnpaahebaaGreatDoorzSj
import Derived.Test.YtagjddnpaahebaaGreatDoorzSh
import Derived.Test.YtagjddnpaahebaaGreatDoorzHb
import Derived.Deep.MidRow
namespace Go.Proofs.YtagjddnpaahebaaGreatDoor
set_option linter.unusedVariables false
set_option linter.unusedSimpArgs false
open Gm Go Go.RowKit

/-- A code that the program tells. -/
def InTrap (p : List Fun) (t : Int) : Prop := ∃ g ∈ p, ∃ x ∈ g.code, x.1 = 16 ∧ x.2.1 = t
/-- A code of no want of values or places. -/
def GoodT (p : List Fun) (t : Int) : Prop := t = 0 ∨ t = 1 ∨ t = 2 ∨ InTrap p t
/-- Values are values, and codes that are kept are such. -/
structure Inv (T : Int → Prop) (f : Frm) : Prop where
  stk : ∀ v ∈ f.stk, gMay v
  loc : ∀ v ∈ f.loc, gMay v
  slt : ∀ s ∈ f.slt, gMay (s.re, s.im) ∧ T s.tr ∧ (s.st = 2 → s.tr ≠ 0 → s.re = 0 ∧ s.im = 0)
  out : gMay (f.ore, f.oim) ∧ (f.otr ≠ 0 → f.ore = 0 ∧ f.oim = 0)
theorem vmay0 : gMay (0, 0) := ⟨by decide, by decide, by decide, by decide⟩
theorem draw_may (s k : Int) : gMay (drawZ s k) := ⟨(rs_bd _).1, (rs_bd _).2, (rs_bd _).1, (rs_bd _).2⟩
theorem getD_may {l : List V} (h : ∀ v ∈ l, gMay v) (i : Nat) : gMay (l.getD i (0, 0)) := by
  rw [List.getD_eq_getElem?_getD]
  cases hi : l[i]? with
  | none => exact vmay0
  | some v => exact h v (List.mem_of_getElem? hi)
section
variable {T : Int → Prop} {f : Frm}
theorem Inv.push (h : Inv T f) {l : List V} (hl : ∀ v ∈ l, gMay v) : Inv T (pushF f l) := ⟨fun v hv => (List.mem_append.1 hv).elim (h.stk v) (hl v), h.loc, h.slt, h.out⟩
theorem Inv.pop (h : Inv T f) (n : Nat) : Inv T (popF f n) := ⟨fun v hv => h.stk v (List.mem_of_mem_take hv), h.loc, h.slt, h.out⟩
theorem Inv.goF (h : Inv T f) (n : Int) : Inv T (goF f n) := ⟨h.stk, h.loc, h.slt, h.out⟩
theorem Inv.top (h : Inv T f) : gMay (topF f) := getD_may h.stk _
theorem Inv.low (h : Inv T f) : gMay (lowF f) := getD_may h.stk _
theorem Inv.end_ (h : Inv T f) (t : Int) {v : V} (hv : gMay v) (ht : t ≠ 0 → v = (0, 0)) : Inv T (endF f t v) := ⟨h.stk, h.loc, h.slt, hv, fun e => by rw [show v = (0, 0) from ht e] ; exact ⟨rfl, rfl⟩⟩
theorem Inv.set (h : Inv T f) (i : Nat) {s : Slt} (hs : gMay (s.re, s.im) ∧ T s.tr ∧ (s.st = 2 → s.tr ≠ 0 → s.re = 0 ∧ s.im = 0)) : Inv T { f with slt := f.slt.set i s } := ⟨h.stk, h.loc, fun x hx => (List.mem_or_eq_of_mem_set hx).elim (h.slt x) (fun e => e ▸ hs), h.out⟩
theorem slt_at (h : Inv T f) (h0 : T 0) (i : Int) : gMay ((sltAt f i).re, (sltAt f i).im) ∧ T (sltAt f i).tr ∧ ((sltAt f i).st = 2 → (sltAt f i).tr ≠ 0 → (sltAt f i).re = 0 ∧ (sltAt f i).im = 0) := by
  unfold sltAt
  rw [List.getD_eq_getElem?_getD]
  cases hi : f.slt[i.toNat]? with
  | none => exact ⟨vmay0, h0, fun e => by simp [slt0] at e⟩
  | some s => exact h.slt s (List.mem_of_getElem? hi)
end
theorem move_inv {T : Int → Prop} {f : Frm} (h : Inv T f) (x : Int × Int × Int) : Inv T (moveF f x) := by
  unfold moveF
  split
  · exact h.push fun v hv => by simp at hv; subst hv; exact ⟨(rs_bd _).1, (rs_bd _).2, (rs_bd _).1, (rs_bd _).2⟩
  split
  · exact h.push fun v hv => by rw [List.mem_singleton] at hv; subst hv; exact getD_may h.loc _
  split
  · have k := h.pop 1
    exact ⟨k.stk, fun v hv => (List.mem_or_eq_of_mem_set hv).elim (h.loc v) (fun e => e ▸ h.top), k.slt, k.out⟩
  split
  · exact (h.pop 1).push fun v hv => by rw [List.mem_singleton] at hv; subst hv; exact conj_may _
  split
  · exact (h.pop 1).push fun v hv => by simp at hv; subst hv; exact h.top
  split
  · exact h.pop 1
  split
  · have k := h.push (l := [drawZ f.seed f.drw]) fun v hv => by rw [List.mem_singleton] at hv; subst hv; exact draw_may _ _
    exact ⟨k.stk, k.loc, k.slt, k.out⟩
  · exact h
/-- What an instruction does keeps them; a trap is one of the codes. -/
theorem exec_inv {T : Int → Prop} {p : List Fun} {f : Frm} (h : Inv T f) (h0 : T 0) (h1 : T 1) (h2 : T 2) {x : Int × Int × Int} (hx : x.1 = 16 → T x.2.1) :
    Inv T (execF p f x).1 ∧ (∀ v ∈ (execF p f x).2.1.ar, gMay v) ∧ T (execF p f x).2.2 := by
  have hn : ∀ k, ∀ v ∈ (actK k).ar, gMay v := fun k v hv => by simp [actK] at hv
  have hn0 : ∀ v ∈ act0.ar, gMay v := fun v hv => by simp [act0] at hv
  unfold execF
  by_cases h16 : x.1 = 16
  · rw [if_pos h16]; exact ⟨h, hn0, hx h16⟩
  rw [if_neg h16]
  by_cases h15 : x.1 = 15
  · rw [if_pos h15]; exact ⟨(h.pop 1).end_ 0 h.top (fun e => absurd rfl e), hn 4, h0⟩
  rw [if_neg h15]
  by_cases h13 : x.1 = 13
  · rw [if_pos h13]
    unfold spawnF
    split
    · exact ⟨h, hn0, h2⟩
    · obtain ⟨s1, s2, s3⟩ := slt_at h h0 x.2.2
      have k := h.set x.2.2.toNat (s := { sltAt f x.2.2 with st := 1, kat := -1, kgn := 0 }) ⟨s1, s2, fun e => by simp at e⟩
      exact ⟨⟨fun v hv => h.stk v (List.mem_of_mem_take hv), k.loc, k.slt, k.out⟩, fun v hv => h.stk v (List.mem_of_mem_drop hv), h0⟩
  rw [if_neg h13]
  by_cases h14 : x.1 = 14
  · rw [if_pos h14]
    obtain ⟨s1, s2, s3⟩ := slt_at h h0 x.2.1
    have k := h.set x.2.1.toNat (s := slt0) ⟨vmay0, h0, fun e => by simp [slt0] at e⟩
    unfold joinF
    split
    · exact ⟨⟨h.stk, h.loc, h.slt, h.out⟩, hn 3, h0⟩
    · split
      · split
        · exact ⟨k, hn0, s2⟩
        · exact ⟨(k.push fun v hv => by rw [List.mem_singleton] at hv; subst hv; exact s1).goF _, hn 1, h0⟩
      · exact ⟨h, hn0, h2⟩
  rw [if_neg h14]
  by_cases hc : x.1 = 3 ∨ x.1 = 4 ∨ x.1 = 5 ∨ x.1 = 6
  · rw [if_pos hc]
    unfold compF
    split
    · refine ⟨((h.pop 2).push fun v hv => ?_).goF _, hn 1, h0⟩
      rw [List.mem_singleton] at hv
      subst hv
      unfold combF
      split
      · exact add_may _ _
      split
      · exact of_may _
      split
      · exact mul_may _ _
      · exact quo_may _ _
    · exact ⟨h, hn0, h1⟩
  rw [if_neg hc]
  by_cases h10 : x.1 = 10
  · rw [if_pos h10]; exact ⟨h.goF _, hn 1, h0⟩
  rw [if_neg h10]
  by_cases h11 : x.1 = 11
  · rw [if_pos h11]
    split
    · exact ⟨(h.pop 1).goF _, hn 1, h0⟩
    · exact ⟨(h.pop 1).goF _, hn 1, h0⟩
  rw [if_neg h11]
  exact ⟨(move_inv h x).goF _, hn 1, h0⟩
theorem do_inv {T : Int → Prop} {p : List Fun} {f : Frm} (h : Inv T f) (h0 : T 0) (h1 : T 1) (h2 : T 2) (hT : ∀ t, InTrap p t → T t) :
    Inv T (doF p f).1 ∧ (∀ v ∈ (doF p f).2.ar, gMay v) ∧ ((doF p f).2.kd = 4 → (doF p f).1.otr = 3 ∨ (doF p f).1.otr = 4 ∨ T (doF p f).1.otr) := by
  have hn : ∀ k, ∀ v ∈ (actK k).ar, gMay v := fun k v hv => by simp [actK] at hv
  unfold doF
  split
  · exact ⟨h, fun v hv => by simp [act0] at hv, fun e => by simp [act0] at e⟩
  · unfold runF
    split
    · rename_i hf
      refine ⟨h.end_ _ vmay0 fun _ => rfl, hn 4, fun _ => .inr (.inl ?_)⟩
      show (fetchF p f).2 = 4
      unfold fetchF at hf ⊢
      split
      · split
        · rename_i h1 h2; rw [if_pos h1, if_pos h2] at hf; exact absurd rfl hf
        · rfl
      · rfl
    · rename_i hf
      obtain ⟨⟨g, hg, hx⟩, _, _⟩ := fetch_mem (p := p) (f := f) (by simpa using hf)
      split
      · rename_i hd
        refine ⟨h.end_ _ vmay0 fun _ => rfl, hn 4, fun _ => .inl ?_⟩
        show depthF p f (fetchF p f).1 = 3
        unfold depthF at hd ⊢
        split
        · rfl
        · split
          · rfl
          · rename_i h1 h2; rw [if_neg h1, if_neg h2] at hd; exact absurd rfl hd
      · obtain ⟨e1, e2, e3⟩ := exec_inv (p := p) h h0 h1 h2 (x := (fetchF p f).1) (fun e => hT _ ⟨g, hg, _, hx, e, rfl⟩)
        split
        · exact ⟨e1.end_ _ vmay0 fun _ => rfl, hn 4, fun _ => .inr (.inr e3)⟩
        · rename_i he
          refine ⟨e1, e2, fun hk => ?_⟩
          right; right
          show T (execF p f (fetchF p f).1).1.otr
          have hk : (execF p f (fetchF p f).1).2.1.kd = 4 := hk
          unfold execF at hk ⊢
          split at hk
          · simp [act0] at hk
          split at hk
          · rename_i a b; rw [if_neg a, if_pos b]; exact h0
          split at hk
          · unfold spawnF at hk; split at hk <;> simp [act0] at hk
          split at hk
          · unfold joinF at hk
            split at hk
            · simp [actK] at hk
            · split at hk
              · split at hk <;> simp [actK, act0] at hk
              · simp [act0] at hk
          split at hk
          · unfold compF at hk; split at hk <;> simp [actK, act0] at hk
          split at hk
          · simp [actK] at hk
          split at hk
          · split at hk <;> simp [actK] at hk
          · simp [actK] at hk
theorem give_inv {T : Int → Prop} {f : Frm} (h : Inv T f) (sl : Int) {o : OutP} (ho : gMay o.2 ∧ T o.1 ∧ (o.1 ≠ 0 → o.2 = (0, 0))) : Inv T (giveO f sl o) := by
  have k := h.set sl.toNat (s := ⟨2, -1, 0, o.1, o.2.1, o.2.2⟩) ⟨ho.1, ho.2.1, fun _ e => by have := ho.2.2 e; exact ⟨congrArg Prod.fst this, congrArg Prod.snd this⟩⟩
  unfold giveO giveF
  split
  · split
    · exact ⟨k.stk, k.loc, k.slt, k.out⟩
    · exact k
  · exact h
theorem fin_inv {T : Int → Prop} {f : Frm} (h : Inv T f) (h0 : T 0) (ht : T f.otr) : gMay (outF f).2 ∧ T (outF f).1 ∧ ((outF f).1 ≠ 0 → (outF f).2 = (0, 0)) := by
  unfold outF finF
  split
  · exact ⟨vmay0, h0, fun e => absurd rfl e⟩
  · split
    · exact ⟨h.out.1, ht, fun e => Prod.ext (h.out.2 e).1 (h.out.2 e).2⟩
    · split
      · rename_i s hs
        have hm := List.mem_of_find?_eq_some hs
        exact ⟨vmay0, (h.slt s hm).2.1, fun _ => rfl⟩
      · exact ⟨h.out.1, h0, fun e => absurd rfl e⟩
/-- A frame that begins. -/
theorem new_inv {T : Int → Prop} (h0 : T 0) {p : List Fun} {fn : Int} {args : List V} {s : Int} (ha : ∀ v ∈ args, gMay v) : Inv T (newF p fn args s).1 := by
  have hz : Inv T frm0 := ⟨fun v hv => by simp [frm0] at hv, fun v hv => by simp [frm0] at hv, fun s hs => by simp [frm0] at hs, vmay0, fun e => absurd rfl e⟩
  unfold newF
  split
  · split
    · split
      · refine ⟨fun v hv => by simp at hv, fun v hv => ?_, fun s hs => ?_, vmay0, fun e => absurd rfl e⟩
        · rcases List.mem_append.1 hv with h | h
          · exact ha v h
          · rw [(List.mem_replicate.1 h).2]; exact vmay0
        · rw [(List.mem_replicate.1 hs).2]; exact ⟨vmay0, h0, fun e => by simp [slt0] at e⟩
      · exact hz
    · exact hz
  · exact hz
theorem new_facts {p : List Fun} {fn : Int} {args : List V} {s : Int} (h : (newF p fn args s).2 = true) :
    mayP p = true ∧ isZ s = true ∧ ∃ (k : Nat) (hk : k < p.length), fn = k ∧ p[k].ar = args.length ∧ p[k].ar ≤ p[k].lo ∧ (∀ v ∈ args, gMay v) ∧
      (newF p fn args s).1 = ⟨fn, 0, [], args ++ List.replicate (p[k].lo.toNat - args.length) (0, 0), List.replicate p[k].sl.toNat slt0, s, 0, 0, 0, 0, 0, 0, 0, -1, 0, 0⟩ := by
  unfold newF at h ⊢
  split at h
  · rename_i hm
    rw [if_pos hm]
    split at h
    · rename_i g hg
      split at h
      · rename_i ha
        obtain ⟨hk, hgk⟩ := List.getElem?_eq_some_iff.1 hg
        have hf := hm.2.1
        simp [hasI] at hf
        subst hgk
        refine ⟨hm.1, hm.2.2, fn.toNat, hk, by omega, ha.2.1, ha.1, fun v hv => ?_, by rw [if_pos ha]⟩
        have := List.all_eq_true.1 ha.2.2 v hv
        simp only [mayB, Bool.and_eq_true, decide_eq_true_eq] at this
        exact ⟨this.1.1, this.1.2, this.2.1, this.2.2⟩
      · cases h
    · cases h
  · cases h
theorem new_ok {p : List Fun} {k : Nat} (hk : k < p.length) {args : List V} {s : Int} (hm : mayP p = true) (hs : isZ s = true) (ha : p[k].ar = args.length) (hl : p[k].ar ≤ p[k].lo) (hv : ∀ v ∈ args, gMay v) : (newF p k args s).2 = true := by
  unfold newF
  have hall : (args.all fun v => mayB v.1 v.2) = true := List.all_eq_true.2 fun v hv2 => by
    obtain ⟨a, b, c, d⟩ := hv v hv2
    simp [mayB, a, b, c, d]
  rw [if_pos ⟨hm, by first | (simp [hasI]; done) | (simp [hasI]; omega), hs⟩, Int.toNat_natCast, List.getElem?_eq_getElem hk]
  dsimp only
  rw [if_pos ⟨hl, ha, hall⟩]
/-- A frame that begins is one at a place that is reached. -/
theorem new_safe {p : List Fun} (hc : (checkP p).2.2 = 0) {fn : Int} {args : List V} {s : Int} (h : (newF p fn args s).2 = true) {T : Int → Prop} :
    ∃ (k : Nat) (g : Fun), p[k]? = some g ∧ Safe p k g T (newF p fn args s).1 ∧ (newF p fn args s).1.st = 0 := by
  obtain ⟨hm, hs, k, hk, e, ha, hl, hv, h1⟩ := new_facts h
  have hmf := ((mayP_iff p).1 hm).2.2 p[k] (List.getElem_mem hk)
  have hhd : headB p[k].ar p[k].lo p[k].sl = true := by
    unfold mayF at hmf
    simp at hmf
    exact hmf.1.1
  obtain ⟨⟨a0, a1⟩, ⟨b0, b1⟩, c0, c1⟩ := (headB_iff _ _ _).1 hhd
  refine ⟨k, p[k], List.getElem?_eq_getElem hk, ?_, by rw [h1]⟩
  rw [h1]
  refine ⟨e, ⟨0, rfl, (solved_in hc hk).zero⟩, ?_, ?_, fun s hs => ?_⟩
  · simp only [List.length_append, List.length_replicate]; omega
  · simp only [List.length_replicate]; omega
  · rw [(List.mem_replicate.1 hs).2]; exact .inl rfl
end Go.Proofs.YtagjddnpaahebaaGreatDoor

/- Layer 10, plain: a program with which nothing is wrong ends with a value, or with a trap that is none of want of values or places. -/
namespace Go.Proofs.YtagjddnpaahebaaGreatDoor
set_option linter.unusedVariables false
set_option linter.unusedSimpArgs false
open Gm Go Go.RowKit

theorem exec_st (p : List Fun) (f : Frm) (x : Int × Int × Int) (hk : (execF p f x).2.1.kd = 1 ∨ (execF p f x).2.1.kd = 2) : (execF p f x).1.st = f.st := by
  unfold execF at hk ⊢
  by_cases h16 : x.1 = 16
  · (rw [if_pos h16]; first | done | rfl)
  rw [if_neg h16] at hk ⊢
  by_cases h15 : x.1 = 15
  · rw [if_pos h15] at hk; simp [actK] at hk
  rw [if_neg h15] at hk ⊢
  by_cases h13 : x.1 = 13
  · rw [if_pos h13]
    unfold spawnF
    split
    · rfl
    · rfl
  rw [if_neg h13] at hk ⊢
  by_cases h14 : x.1 = 14
  · rw [if_pos h14] at hk ⊢
    unfold joinF at hk ⊢
    by_cases g1 : (sltAt f x.2.1).st = 1
    · rw [if_pos g1] at hk; simp [actK] at hk
    · rw [if_neg g1]
      split
      · split
        · rfl
        · rfl
      · rfl
  rw [if_neg h14] at hk ⊢
  by_cases hc : x.1 = 3 ∨ x.1 = 4 ∨ x.1 = 5 ∨ x.1 = 6
  · rw [if_pos hc]
    unfold compF
    split
    · rfl
    · rfl
  rw [if_neg hc] at hk ⊢
  by_cases h10 : x.1 = 10
  · (rw [if_pos h10]; first | done | rfl)
  rw [if_neg h10] at hk ⊢
  by_cases h11 : x.1 = 11
  · rw [if_pos h11]
    split
    · rfl
    · rfl
  rw [if_neg h11] at hk ⊢
  show (moveF f x).st = f.st
  unfold moveF
  repeat' split
  all_goals rfl
theorem exec_two {p : List Fun} {f : Frm} {x : Int × Int × Int} (hk : (execF p f x).2.1.kd = 2) : x.1 = 13 := by
  refine Decidable.byContradiction fun h13 => ?_
  unfold execF at hk
  rw [if_neg h13] at hk
  unfold joinF compF at hk
  repeat' split at hk
  all_goals simp [act0, actK] at hk
/-- An instruction that asks for nothing, or for a child, was executed. -/
theorem do_exec {p : List Fun} {f : Frm} (hk : (doF p f).2.kd = 1 ∨ (doF p f).2.kd = 2) :
    f.st = 0 ∧ (fetchF p f).2 = 0 ∧ depthF p f (fetchF p f).1 = 0 ∧ (execF p f (fetchF p f).1).2.2 = 0 ∧ doF p f = ((execF p f (fetchF p f).1).1, (execF p f (fetchF p f).1).2.1) := by
  unfold doF at hk ⊢
  by_cases h1 : f.st ≠ 0 ∨ hasI p.length f.fn = false
  · rw [if_pos h1] at hk; simp [act0] at hk
  rw [if_neg h1] at hk ⊢
  unfold runF at hk ⊢
  by_cases h2 : (fetchF p f).2 ≠ 0
  · rw [if_pos h2] at hk; simp [actK] at hk
  rw [if_neg h2] at hk ⊢
  by_cases h3 : depthF p f (fetchF p f).1 ≠ 0
  · rw [if_pos h3] at hk; simp [actK] at hk
  rw [if_neg h3] at hk ⊢
  by_cases h4 : (execF p f (fetchF p f).1).2.2 ≠ 0
  · rw [if_pos h4] at hk; simp [actK] at hk
  rw [if_neg h4]
  exact ⟨Decidable.byContradiction fun e => h1 (.inl e), Decidable.byContradiction h2, Decidable.byContradiction h3, Decidable.byContradiction h4, rfl⟩
theorem do_st {p : List Fun} {f : Frm} (hk : (doF p f).2.kd = 1 ∨ (doF p f).2.kd = 2) : (doF p f).1.st = 0 := by
  obtain ⟨h0, _, _, _, e⟩ := do_exec hk
  rw [e] at hk ⊢
  rw [← h0]
  exact exec_st p f _ hk
/-- A child begins. -/
theorem do_kid {p : List Fun} {f : Frm} (hc : (checkP p).2.2 = 0) (hv : ∀ v ∈ (doF p f).2.ar, gMay v) (hk : (doF p f).2.kd = 2) : (newF p (doF p f).2.fn (doF p f).2.ar (doF p f).2.sd).2 = true := by
  obtain ⟨_, h2, h3, h4, e⟩ := do_exec (.inr hk)
  rw [e] at hk hv ⊢
  have h13 := exec_two hk
  obtain ⟨_, hm, hkn⟩ := fetch_mem h2
  clear e h2 h4
  generalize (fetchF p f).1 = x at *
  have ex : execF p f x = spawnF p f x.2.1 x.2.2 := by unfold execF; rw [if_neg (by omega), if_neg (by omega), if_pos h13]
  rw [ex] at hk hv ⊢
  unfold spawnF at hk hv ⊢
  by_cases h5 : (sltAt f x.2.2).st ≠ 0
  · rw [if_pos h5] at hk; simp [act0] at hk
  rw [if_neg h5] at hv ⊢
  unfold knowsF at hkn
  rw [if_neg (by omega), if_pos h13, Bool.and_eq_true] at hkn
  have hfn := hkn.1
  simp [hasI] at hfn
  have hk' : x.2.1.toNat < p.length := by omega
  have har : arP p x.2.1 = p[x.2.1.toNat].ar := by unfold arP; rw [List.getElem?_eq_getElem hk']
  have ho : offI p x = arP p x.2.1 := by unfold offI; rw [if_pos h13]
  have h6 : ¬ (offI p x < 0 ∨ (f.stk.length : Int) < offI p x) := by
    intro h6
    unfold depthF at h3
    rw [if_pos h6] at h3
    cases h3
  have hlo := (fun_facts ((check_facts hc).2 _ (List.getElem_mem hk'))).1
  have := new_ok hk' (args := f.stk.drop (f.stk.length - (arP p x.2.1).toNat)) (s := useZ f.seed 1 f.spn) (check_facts hc).1 (useZ_is _ _ _) (by rw [List.length_drop]; omega) hlo hv
  rwa [show ((x.2.1.toNat : Nat) : Int) = x.2.1 by omega] at this
theorem give_st {f : Frm} (h : f.st = 0) (sl : Int) (o : OutP) : (giveO f sl o).st = 0 := by
  unfold giveO giveF
  split
  · split
    · rfl
    · exact h
  · exact h
theorem good0 (p : List Fun) : GoodT p 0 := .inl rfl
theorem good1 (p : List Fun) : GoodT p 1 := .inr (.inl rfl)
theorem good2 (p : List Fun) : GoodT p 2 := .inr (.inr (.inl rfl))
theorem goodT (p : List Fun) : ∀ t, InTrap p t → GoodT p t := fun _ h => .inr (.inr (.inr h))
theorem step_kid {p : List Fun} {f : Frm} {sl : Int} {ts : List Tsk} (h2 : (doF p f).2.kd = 2) : stepT p ((f, sl) :: ts) = .inl ([] ++ (kidF p (doF p f).2, (doF p f).2.sl) :: ((doF p f).1, sl) :: ts) := by simp only [stepT]; rw [if_pos h2]; rfl
theorem step_fin {p : List Fun} {f : Frm} {sl : Int} (h4 : (doF p f).2.kd = 4) : stepT p [(f, sl)] = .inr (outF (doF p f).1) := by simp only [stepT]; rw [if_neg (by omega), if_pos h4]
theorem step_on {p : List Fun} {f : Frm} {sl : Int} {ts : List Tsk} (h2 : (doF p f).2.kd ≠ 2) (h4 : (doF p f).2.kd ≠ 4) : stepT p ((f, sl) :: ts) = .inl (((doF p f).1, sl) :: ts) := by simp only [stepT]; rw [if_neg h2, if_neg h4]
/-- Whatever frame it begins with. -/
theorem run_value {p : List Fun} (hc : (checkP p).2.2 = 0) : ∀ (n k : Nat) (g : Fun) (f : Frm) (o : OutP) (m : Nat), p[k]? = some g → Safe p k g (GoodT p) f → Inv (GoodT p) f → f.st = 0 →
    runT p n [(f, 0)] = some (o, m) → gMay o.2 ∧ GoodT p o.1 ∧ (o.1 ≠ 0 → o.2 = (0, 0)) := by
  intro n
  induction n using Nat.strongRecOn with
  | _ n ih =>
  intro k g f o m hg hs hi hst hr
  cases n with
  | zero => cases hr
  | succ n =>
  obtain ⟨d1, d2, d3⟩ := do_inv (p := p) hi (good0 p) (good1 p) (good2 p) (goodT p)
  by_cases h2 : (doF p f).2.kd = 2
  · have hkid := do_kid hc d2 h2
    rw [runT_inl (step_kid h2), runT_behind] at hr
    obtain ⟨k2, g2, hg2, hs2, hst2⟩ := new_safe hc hkid (T := GoodT p)
    cases hr2 : runT p n ([] ++ [(kidF p (doF p f).2, 0)]) with
    | none => rw [hr2] at hr; cases hr
    | some x =>
      obtain ⟨o2, m2⟩ := x
      rw [hr2] at hr
      have hm2 := runT_left hr2
      have ho2 := ih n (by omega) k2 g2 _ o2 m2 hg2 hs2 (new_inv (good0 p) d2) hst2 hr2
      have sp : stepP p f o2.1 o2.2 = (giveO (doF p f).1 (doF p f).2.sl o2, 2) := by unfold stepP; rw [if_pos h2]; rfl
      obtain ⟨_, _, s3⟩ := safe_step hc hg hs hst o2.1 o2.2 ho2.2.1
      rw [sp] at s3
      have hst3 := give_st (do_st (.inr h2)) (doF p f).2.sl o2
      exact ih m2 (by omega) k g _ o m hg (s3 hst3) (give_inv d1 _ ho2) hst3 hr
  · have sp : stepP p f 0 (0, 0) = ((doF p f).1, (doF p f).2.kd) := by unfold stepP; rw [if_neg h2]
    obtain ⟨s1, s2, s3⟩ := safe_step hc hg hs hst 0 (0, 0) (good0 p)
    rw [sp] at s1 s2 s3
    by_cases h4 : (doF p f).2.kd = 4
    · rw [runT_inr (step_fin h4)] at hr
      cases hr
      have ht : GoodT p (doF p f).1.otr := by
        have a := d3 h4
        have b := s2 h4
        rcases a with a | a | a
        · rcases b with b | b | b | b | b
          · simp only at b; omega
          · simp only at b; omega
          · simp only at b; omega
          · simp only at b; omega
          · exact b
        · rcases b with b | b | b | b | b
          · simp only at b; omega
          · simp only at b; omega
          · simp only at b; omega
          · simp only at b; omega
          · exact b
        · exact a
      exact fin_inv d1 (good0 p) ht
    · have h1 : (doF p f).2.kd = 1 := by
        rcases s1 with e | e | e
        · exact e
        · exact absurd e h2
        · exact absurd e h4
      rw [runT_inl (step_on h2 h4)] at hr
      have hst3 := do_st (.inl h1)
      exact ih n (by omega) k g _ o m hg (s3 hst3) d1 hst3 hr
/-- What begins a program with which nothing is wrong. -/
theorem new_iff {p : List Fun} (hc : (checkP p).2.2 = 0) (args : List V) (s : Int) :
    (newF p 0 args s).2 = true ↔ isZ s = true ∧ (∃ h : 0 < p.length, p[0].ar = args.length) ∧ ∀ v ∈ args, gMay v := by
  constructor
  · intro h
    obtain ⟨_, hs, k, hk, e, ha, _, hv, _⟩ := new_facts h
    obtain rfl : k = 0 := by omega
    exact ⟨hs, ⟨hk, ha⟩, hv⟩
  · rintro ⟨hs, ⟨hk, ha⟩, hv⟩
    have hlo := (fun_facts ((check_facts hc).2 _ (List.getElem_mem hk))).1
    have := new_ok hk (check_facts hc).1 hs ha hlo hv
    rwa [show ((0 : Nat) : Int) = 0 from rfl] at this
/-- All of SeqValue: how a program ends with which nothing is wrong. -/
theorem eval_value {p : List Fun} {args : List V} {s fuel : Int} (hf : 1 ≤ fuel) (hf2 : fuel ≤ 100000) :
    ((evalP p args s fuel).2.2 = 1 ∧ ¬ ((checkP p).2.2 = 0 ∧ isZ s = true ∧ (∃ h : 0 < p.length, p[0].ar = args.length) ∧ ∀ v ∈ args, gMay v)) ∨
    (((checkP p).2.2 = 0 ∧ isZ s = true ∧ (∃ h : 0 < p.length, p[0].ar = args.length) ∧ ∀ v ∈ args, gMay v) ∧
      (evalP p args s fuel = (zeroO, 0, 100) ∨ ((evalP p args s fuel).2.2 = 0 ∧ gMay (evalP p args s fuel).1.2 ∧ GoodT p (evalP p args s fuel).1.1 ∧ ((evalP p args s fuel).1.1 ≠ 0 → (evalP p args s fuel).1.2 = (0, 0))))) := by
  rcases evalP_cases p args s fuel with ⟨e, hn⟩ | ⟨hc, h⟩
  · refine .inl ⟨by rw [e], fun h => hn ⟨h.1, hf, hf2, (new_iff h.1 args s).2 h.2⟩⟩
  · refine .inr ⟨⟨hc.1, (new_iff hc.1 args s).1 hc.2.2.2⟩, ?_⟩
    rcases h with ⟨e, _⟩ | ⟨o, m, e, hr, _⟩
    · exact .inl e
    · right
      rw [e]
      obtain ⟨k, g, hg, hs, hst⟩ := new_safe hc.1 hc.2.2.2 (T := GoodT p)
      have hv := ((new_iff hc.1 args s).1 hc.2.2.2).2.2
      exact ⟨rfl, run_value hc.1 _ k g _ o m hg hs (new_inv (good0 p) hv) hst hr⟩
end Go.Proofs.YtagjddnpaahebaaGreatDoor

/- Layer 10, plain: a program's functions, moved by one behind another function, run alike. -/
namespace Go.Proofs.YtagjddnpaahebaaGreatDoor
set_option linter.unusedVariables false
set_option linter.unusedSimpArgs false
open Gm Go Go.RowKit

def mvI (x : Int × Int × Int) : Int × Int × Int := if x.1 = 13 then (13, x.2.1 + 1, x.2.2) else x
def mvF (f : Fun) : Fun := ⟨f.ar, f.lo, f.sl, f.code.map mvI⟩
def mvP (h : Fun) (p : List Fun) : List Fun := h :: p.map mvF
def upF (f : Frm) : Frm := { f with fn := f.fn + 1 }
def upA (a : ActP) : ActP := if a.kd = 2 then { a with fn := a.fn + 1 } else a
def upT (t : Tsk) : Tsk := (upF t.1, t.2)
theorem mvI_no {x : Int × Int × Int} (h : x.1 ≠ 13) : mvI x = x := if_neg h
theorem mvI_13 {x : Int × Int × Int} (h : x.1 = 13) : mvI x = (13, x.2.1 + 1, x.2.2) := if_pos h
theorem mvI_1 (x : Int × Int × Int) : (mvI x).1 = x.1 := by
  by_cases h : x.1 = 13
  · rw [mvI_13 h, h]
  · rw [mvI_no h]
section
variable {h : Fun} {p : List Fun}
theorem mv_at {i : Int} (hi : 0 ≤ i) : (mvP h p)[(i + 1).toNat]? = (p[i.toNat]?).map mvF := by
  rw [show (i + 1).toNat = i.toNat + 1 by omega]
  unfold mvP
  rw [List.getElem?_cons_succ, List.getElem?_map]
theorem code_up {i : Int} (hi : 0 ≤ i) : codeP (mvP h p) (i + 1) = (codeP p i).map mvI := by
  unfold codeP
  rw [mv_at hi]
  cases p[i.toNat]? with
  | none => rfl
  | some g => rfl
theorem ar_up {i : Int} (hi : 0 ≤ i) : arP (mvP h p) (i + 1) = arP p i := by
  unfold arP
  rw [mv_at hi]
  cases p[i.toNat]? with
  | none => rfl
  | some g => rfl
theorem off_up {x : Int × Int × Int} (hx : x.1 = 13 → 0 ≤ x.2.1) : offI (mvP h p) (mvI x) = offI p x := by
  unfold offI
  by_cases h13 : x.1 = 13
  · rw [mvI_13 h13, if_pos rfl, if_pos h13]; exact ar_up (hx h13)
  · rw [mvI_no h13, if_neg h13, if_neg h13]
theorem next_up (x : Int × Int × Int) (i : Int) : nextI (mvI x) i = nextI x i := by
  by_cases h13 : x.1 = 13
  · unfold nextI
    rw [mvI_1]
    rw [if_neg (by omega), if_neg (by omega), if_neg (by omega), if_neg (by omega), if_neg (by omega), if_neg (by omega)]
  · rw [mvI_no h13]
theorem node_up {x : Int × Int × Int} (hx : x.1 = 13 → 0 ≤ x.2.1) (i : Int) : nodeI (mvP h p) (mvI x) i = nodeI p x i := by
  unfold nodeI
  rw [off_up hx, mvI_1, next_up]
theorem field_up {f : Fun} {x : Int × Int × Int} (hf : fieldI p f x = 0) : fieldI (mvP h p) (mvF f) (mvI x) = 0 := by
  obtain ⟨h1, h2, h3, h4⟩ := fields_ok hf
  by_cases h13 : x.1 = 13
  · have h3 := h3 h13
    rw [mvI_13 h13]
    unfold fieldI
    simp only [mvF, mvP, List.length_cons, List.length_map]
    rw [if_neg (by omega), if_neg (by omega)]
  · rw [mvI_no h13]
    unfold fieldI
    simp only [mvF, mvP, List.length_cons, List.length_map]
    rw [if_neg (by omega), if_neg (by omega)]
theorem gr_up {c : List (Int × Int × Int)} (hx : ∀ x ∈ c, x.1 = 13 → 0 ≤ x.2.1) : grF (mvP h p) (c.map mvI) = grF p c := by
  funext i
  unfold grF
  rw [List.getElem?_map]
  cases hc : c[i]? with
  | none => rfl
  | some x => exact node_up (hx x (List.mem_of_getElem? hc)) i
theorem first_nil {p : List Fun} {f : Fun} : ∀ (l : List (Int × Int × Int)) (k : Int), (∀ x ∈ l, fieldI p f x = 0) → firstI p f l k = (0, 0)
  | [], _, _ => rfl
  | x :: l, k, h => by
    simp only [firstI]
    rw [if_pos (h x (by simp))]
    exact first_nil l _ fun y hy => h y (by simp [hy])
theorem fun_up {f : Fun} (hf : (funE p f).2 = 0) (hx : ∀ x ∈ f.code, x.1 = 13 → 0 ≤ x.2.1) : (funE (mvP h p) (mvF f)).2 = 0 := by
  obtain ⟨h1, h2, h3⟩ := fun_facts hf
  have h4 : firstI (mvP h p) (mvF f) (mvF f).code 0 = (0, 0) := first_nil _ _ fun y hy => by
    obtain ⟨x, hx, rfl⟩ := List.mem_map.1 hy
    exact field_up (h2 x hx)
  unfold funE
  rw [if_neg (show ¬ (mvF f).lo < (mvF f).ar from (show ¬ f.lo < f.ar by omega)), h4, if_pos rfl]
  unfold flowF at h3 ⊢
  show (flowS (grF (mvP h p) (f.code.map mvI)) 201 (initD (f.code.map mvI).length) (initW (f.code.map mvI).length)).2.2 = 0
  rw [gr_up hx, List.length_map]
  exact h3
theorem may_13 {a b : Int} (h : mayZ 13 a b = true) (hl : a < 15) : mayZ 13 (a + 1) b = true := by
  have e1 : (rz 13).lo = 0 := rfl
  have e2 : (rz 13).la = 15 := rfl
  simp only [mayZ, Bool.and_eq_true, decide_eq_true_eq] at h ⊢
  rw [e1, e2] at h ⊢
  exact ⟨⟨h.1.1, by omega, by omega⟩, h.2⟩
theorem may_up {x : Int × Int × Int} (hx : mayZ x.1 x.2.1 x.2.2 = true) (hl : x.1 = 13 → x.2.1 < 15) : mayZ (mvI x).1 (mvI x).2.1 (mvI x).2.2 = true := by
  by_cases h13 : x.1 = 13
  · rw [mvI_13 h13]
    rw [h13] at hx
    exact may_13 hx (hl h13)
  · rw [mvI_no h13]; exact hx
theorem check_up (hc : (checkP p).2.2 = 0) (hl : p.length ≤ 15) (hh : mayF h = true) (hf : (funE (mvP h p) h).2 = 0) : (checkP (mvP h p)).2.2 = 0 := by
  obtain ⟨hm, hfs⟩ := check_facts hc
  obtain ⟨_, _, hmf⟩ := (mayP_iff p).1 hm
  have hm2 : mayP (mvP h p) = true := by
    refine (mayP_iff _).2 ⟨by simp [mvP], by simp [mvP]; omega, fun f hf => ?_⟩
    rcases List.mem_cons.1 hf with rfl | hf
    · exact hh
    · obtain ⟨g, hg, rfl⟩ := List.mem_map.1 hf
      obtain ⟨a, b, c, d⟩ := (mayF_iff g).1 (hmf g hg)
      refine (mayF_iff _).2 ⟨a, by simpa [mvF] using b, by simpa [mvF] using c, fun y hy => ?_⟩
      obtain ⟨x, hx, rfl⟩ := List.mem_map.1 hy
      exact may_up (d x hx) fun e => by have := ((check_ok hc hg).spawn x hx e).2; omega
  rw [check_all hm2 fun f hf => ?_]
  rcases List.mem_cons.1 hf with rfl | hf
  · assumption
  · obtain ⟨g, hg, rfl⟩ := List.mem_map.1 hf
    exact fun_up (hfs g hg) fun x hx e => ((check_ok hc hg).spawn x hx e).1
/-! Runs -/
structure UpOk (p : List Fun) (f : Frm) : Prop where
  inv : Inv (fun _ => True) f
  lo : 0 ≤ f.fn
  hi : f.fn < p.length
theorem fetch_up (hc : (checkP p).2.2 = 0) (hl : p.length ≤ 15) {f : Frm} (hf : 0 ≤ f.fn) : fetchF (mvP h p) (upF f) = (mvI (fetchF p f).1, (fetchF p f).2) := by
  unfold fetchF
  rw [show (upF f).fn = f.fn + 1 from rfl, code_up hf, show (upF f).pc = f.pc from rfl, List.length_map]
  by_cases h1 : hasI (codeP p f.fn).length f.pc = true
  · rw [if_pos h1, if_pos h1]
    have hn : f.pc.toNat < (codeP p f.fn).length := by simp [hasI] at h1; omega
    have hg2 : ∃ g ∈ p, codeP p f.fn = g.code := by
      cases hg : p[f.fn.toNat]? with
      | none => unfold codeP at hn; rw [hg] at hn; simp at hn
      | some g => exact ⟨g, List.mem_of_getElem? hg, by unfold codeP; rw [hg]⟩
    obtain ⟨g, hg, hgc⟩ := hg2
    have e : ((codeP p f.fn).map mvI).getD f.pc.toNat (0, 0, 0) = mvI ((codeP p f.fn).getD f.pc.toNat (0, 0, 0)) := by
      rw [List.getD_eq_getElem?_getD, List.getElem?_map, List.getD_eq_getElem?_getD, List.getElem?_eq_getElem hn]
      rfl
    rw [e]
    have hx : (codeP p f.fn).getD f.pc.toNat (0, 0, 0) ∈ g.code := by
      rw [List.getD_eq_getElem?_getD, List.getElem?_eq_getElem hn, ← hgc]
      exact List.getElem_mem hn
    generalize (codeP p f.fn).getD f.pc.toNat (0, 0, 0) = x at *
    have hmz := ((mayF_iff g).1 (((mayP_iff p).1 (check_facts hc).1).2.2 g hg)).2.2.2 x hx
    have hsp := (check_ok hc hg).spawn x hx
    have hmz2 := may_up hmz fun e => by have := (hsp e).2; omega
    have hkn : knowsF (mvP h p) (upF f) (mvI x) = knowsF p f x := by
      by_cases h13 : x.1 = 13
      · rw [mvI_13 h13]
        obtain ⟨s1, s2⟩ := hsp h13
        unfold knowsF
        rw [if_neg (by simp), if_pos rfl, if_neg (by omega), if_pos h13]
        have a1 : hasI (mvP h p).length (x.2.1 + 1) = true := by simp [hasI, mvP]; omega
        have a2 : hasI p.length x.2.1 = true := by simp [hasI]; omega
        show (hasI (mvP h p).length (x.2.1 + 1) && _) = _
        rw [a1, a2]
        rfl
      · rw [mvI_no h13]
        unfold knowsF
        rw [if_neg h13, if_neg h13]
        rfl
    rw [hkn]
    by_cases h2 : knowsF p f x = true
    · rw [if_pos ⟨hmz2, h2⟩, if_pos ⟨hmz, h2⟩]
    · rw [if_neg (fun e => h2 e.2), if_neg (fun e => h2 e.2)]
      rfl
  · rw [if_neg h1, if_neg h1]
    rfl
theorem depth_up {f : Frm} {x : Int × Int × Int} (hx : x.1 = 13 → 0 ≤ x.2.1) : depthF (mvP h p) (upF f) (mvI x) = depthF p f x := by
  unfold depthF
  rw [off_up hx, mvI_1]
  rfl
theorem upA_no {a : ActP} (h : a.kd ≠ 2) : upA a = a := if_neg h
theorem upA_kd (a : ActP) : (upA a).kd = a.kd := by
  unfold upA
  split
  · rfl
  · rfl
theorem exec_13 {p : List Fun} {f : Frm} {x : Int × Int × Int} (h : x.1 = 13) : execF p f x = spawnF p f x.2.1 x.2.2 := by
  unfold execF
  rw [if_neg (by omega), if_neg (by omega), if_pos h]
theorem spawn_up {f : Frm} {a b : Int} (ha : 0 ≤ a) : spawnF (mvP h p) (upF f) (a + 1) b = (upF (spawnF p f a b).1, upA (spawnF p f a b).2.1, (spawnF p f a b).2.2) := by
  unfold spawnF
  rw [ar_up ha, show sltAt (upF f) b = sltAt f b from rfl, show useZ (upF f).seed 1 (upF f).spn = useZ f.seed 1 f.spn from rfl]
  generalize useZ f.seed 1 f.spn = z
  generalize (arP p a).toNat = n
  split
  · rfl
  · rfl
theorem join_up (f : Frm) (sl : Int) : joinF (upF f) sl = (upF (joinF f sl).1, upA (joinF f sl).2.1, (joinF f sl).2.2) := by
  unfold joinF
  rw [show sltAt (upF f) sl = sltAt f sl from rfl]
  split
  · rfl
  · split
    · split
      · rfl
      · rfl
    · rfl
theorem comp_up (f : Frm) (o : Int) : compF (upF f) o = (upF (compF f o).1, upA (compF f o).2.1, (compF f o).2.2) := by
  unfold compF
  rw [show topF (upF f) = topF f from rfl, show lowF (upF f) = lowF f from rfl]
  generalize combF o (lowF f) (topF f) = R
  split
  · rfl
  · rfl
theorem move_up (f : Frm) (x : Int × Int × Int) : moveF (upF f) x = upF (moveF f x) := by
  unfold moveF
  rw [show topF (upF f) = topF f from rfl, show (upF f).loc = f.loc from rfl, show drawZ (upF f).seed (upF f).drw = drawZ f.seed f.drw from rfl]
  generalize topF f = v
  generalize drawZ f.seed f.drw = d
  repeat' split
  all_goals rfl
theorem exec_up {f : Frm} {x : Int × Int × Int} (hx : x.1 = 13 → 0 ≤ x.2.1) : execF (mvP h p) (upF f) (mvI x) = (upF (execF p f x).1, upA (execF p f x).2.1, (execF p f x).2.2) := by
  by_cases h13 : x.1 = 13
  · rw [exec_13 (show (mvI x).1 = 13 by rw [mvI_1]; exact h13), exec_13 h13, mvI_13 h13]
    exact spawn_up (hx h13)
  rw [mvI_no h13]
  unfold execF
  rw [if_neg h13, if_neg h13, join_up, comp_up, move_up, show topF (upF f) = topF f from rfl, show (upF f).pc = f.pc from rfl]
  generalize joinF f x.2.1 = J
  generalize compF f x.1 = C
  generalize moveF f x = M
  generalize topF f = v
  repeat' split
  all_goals rfl
theorem do_up (hc : (checkP p).2.2 = 0) (hl : p.length ≤ 15) {f : Frm} (hf : UpOk p f) : doF (mvP h p) (upF f) = (upF (doF p f).1, upA (doF p f).2) := by
  have hlo := hf.lo
  have hhi := hf.hi
  unfold doF
  by_cases h0 : f.st ≠ 0
  · rw [if_pos (show (upF f).st ≠ 0 ∨ _ from .inl h0), if_pos (.inl h0)]; rfl
  · have a1 : hasI p.length f.fn = true := by simp [hasI]; omega
    have a2 : hasI (mvP h p).length (upF f).fn = true := by
      have e1 : (upF f).fn = f.fn + 1 := rfl
      have e2 : (mvP h p).length = p.length + 1 := by simp [mvP]
      rw [e1, e2]
      simp only [hasI, Bool.and_eq_true, decide_eq_true_eq]
      omega
    rw [if_neg (by rw [a2]; rintro (e | e); exact h0 e; cases e), if_neg (by rw [a1]; rintro (e | e); exact h0 e; cases e)]
    unfold runF
    rw [fetch_up hc hl hlo]
    dsimp only
    by_cases h2 : (fetchF p f).2 ≠ 0
    · rw [if_pos h2, if_pos h2]; rfl
    · rw [if_neg h2, if_neg h2]
      have hx : (fetchF p f).1.1 = 13 → 0 ≤ (fetchF p f).1.2.1 := fun _ => (may_node (fetch_mem (Decidable.byContradiction h2)).2.1).2.2
      rw [depth_up hx, exec_up hx]
      dsimp only
      by_cases h3 : depthF p f (fetchF p f).1 ≠ 0
      · rw [if_pos h3, if_pos h3]; rfl
      · rw [if_neg h3, if_neg h3]
        by_cases h4 : (execF p f (fetchF p f).1).2.2 ≠ 0
        · rw [if_pos h4, if_pos h4]; rfl
        · rw [if_neg h4, if_neg h4]
theorem new_up (hm : mayP (mvP h p) = true) {fn : Int} {args : List V} {s : Int} (hn : (newF p fn args s).2 = true) : newF (mvP h p) (fn + 1) args s = (upF (newF p fn args s).1, true) := by
  obtain ⟨_, hs, k, hk, rfl, ha, hlo, hv, e⟩ := new_facts hn
  rw [e]
  have hall : (args.all fun v => mayB v.1 v.2) = true := List.all_eq_true.2 fun v hv2 => by
    obtain ⟨a, b, c, d⟩ := hv v hv2
    simp [mayB, a, b, c, d]
  unfold newF
  rw [if_pos ⟨hm, by simp [hasI, mvP, hk]; omega, hs⟩, mv_at (by omega), Int.toNat_natCast, List.getElem?_eq_getElem hk]
  show (if (mvF p[k]).ar ≤ (mvF p[k]).lo ∧ (mvF p[k]).ar = args.length ∧ _ then _ else _) = _
  rw [if_pos ⟨hlo, ha, hall⟩]
  rfl
theorem give_up (f : Frm) (sl : Int) (o : OutP) : giveO (upF f) sl o = upF (giveO f sl o) := by
  unfold giveO giveF
  rw [show sltAt (upF f) sl = sltAt f sl from rfl, show (upF f).slt = f.slt from rfl, show (upF f).st = f.st from rfl, show (upF f).wt = f.wt from rfl]
  split
  · split
    · rfl
    · rfl
  · rfl
theorem give_fn (f : Frm) (sl : Int) (o : OutP) : (giveO f sl o).fn = f.fn := by
  unfold giveO giveF
  split
  · split
    · rfl
    · rfl
  · rfl
theorem new_upok {fn : Int} {args : List V} {s : Int} (hn : (newF p fn args s).2 = true) : UpOk p (newF p fn args s).1 := by
  obtain ⟨_, _, k, hk, e, _, _, hv, e1⟩ := new_facts hn
  have hi : Inv (fun _ => True) (newF p fn args s).1 := new_inv trivial hv
  have hfn : (newF p fn args s).1.fn = fn := by rw [e1]
  exact ⟨hi, by rw [hfn]; omega, by rw [hfn]; omega⟩
/-- Tasks of the moved program run as these do. -/
theorem run_up (hc : (checkP p).2.2 = 0) (hl : p.length ≤ 15) (hm : mayP (mvP h p) = true) : ∀ (n : Nat) (ts : List Tsk), ts ≠ [] → (∀ t ∈ ts, UpOk p t.1) → runT (mvP h p) n (ts.map upT) = runT p n ts
  | 0, _, _, _ => rfl
  | n + 1, [], hne, _ => absurd rfl hne
  | n + 1, (f, sl) :: ts, _, hok => by
    have hf := hok (f, sl) (by simp)
    have hd := do_up (h := h) hc hl hf
    obtain ⟨d1, d2, d3⟩ := do_inv (p := p) hf.inv trivial trivial trivial (fun _ _ => trivial)
    have hkd : (doF (mvP h p) (upF f)).2.kd = (doF p f).2.kd := by rw [hd]; exact upA_kd _
    have hfn : (doF p f).1.fn = f.fn := (do_keeps p f).1.fn
    have hf2 : UpOk p (doF p f).1 := ⟨d1, by rw [hfn]; exact hf.lo, by rw [hfn]; exact hf.hi⟩
    have hts : ∀ t ∈ ts, UpOk p t.1 := fun t ht => hok t (by simp [ht])
    show runT (mvP h p) (n + 1) ((upF f, sl) :: ts.map upT) = _
    by_cases h2 : (doF p f).2.kd = 2
    · have hkid := do_kid hc d2 h2
      rw [runT_inl (step_kid (hkd.trans h2)), runT_inl (step_kid h2), hd]
      have ek : kidF (mvP h p) (upA (doF p f).2) = upF (kidF p (doF p f).2) := by
        unfold kidF upA
        rw [if_pos h2]
        show (newF (mvP h p) ((doF p f).2.fn + 1) (doF p f).2.ar (doF p f).2.sd).1 = _
        rw [new_up hm hkid]
      have es : (upA (doF p f).2).sl = (doF p f).2.sl := by unfold upA; rw [if_pos h2]
      dsimp only
      rw [ek, es]
      refine run_up hc hl hm n ((kidF p (doF p f).2, (doF p f).2.sl) :: ((doF p f).1, sl) :: ts) (by simp) fun t ht => ?_
      rcases List.mem_cons.1 ht with rfl | ht
      · exact new_upok hkid
      · rcases List.mem_cons.1 ht with rfl | ht
        · exact hf2
        · exact hts t ht
    · by_cases h4 : (doF p f).2.kd = 4
      · cases ts with
        | nil => rw [List.map_nil, runT_inr (step_fin (hkd.trans h4)), runT_inr (step_fin h4), hd]; rfl
        | cons t us =>
          obtain ⟨g, sg⟩ := t
          have e : ∀ (q : List Fun) (k : Frm) (r : List Tsk) (b : Tsk), (doF q k).2.kd = 4 → stepT q ((k, sl) :: b :: r) = .inl (backT sl (outF (doF q k).1) (b :: r)) := fun q k r b e4 => by
            simp only [stepT]
            rw [if_neg (by omega), if_pos e4]
          rw [List.map_cons, runT_inl (e _ _ _ _ (hkd.trans h4)), runT_inl (e _ _ _ _ h4), hd]
          show runT (mvP h p) n ((giveO (upF g) sl (outF (doF p f).1), sg) :: us.map upT) = runT p n ((giveO g sl (outF (doF p f).1), sg) :: us)
          rw [give_up]
          refine run_up hc hl hm n ((giveO g sl (outF (doF p f).1), sg) :: us) (by simp) fun t ht => ?_
          have hg := hts (g, sg) (by simp)
          rcases List.mem_cons.1 ht with rfl | ht
          · have hO := fin_inv d1 trivial trivial
            exact ⟨give_inv hg.inv sl hO, by rw [give_fn]; exact hg.lo, by rw [give_fn]; exact hg.hi⟩
          · exact hts t (by simp [ht])
      · rw [runT_inl (step_on (by rw [hkd]; exact h2) (by rw [hkd]; exact h4)), runT_inl (step_on h2 h4), hd]
        refine run_up hc hl hm n (((doF p f).1, sl) :: ts) (by simp) fun t ht => ?_
        rcases List.mem_cons.1 ht with rfl | ht
        · exact hf2
        · exact hts t ht
end
end Go.Proofs.YtagjddnpaahebaaGreatDoor

/- Layer 10, plain: sums by two children. -/
namespace Go.Proofs.YtagjddnpaahebaaGreatDoor
set_option linter.unusedVariables false
set_option linter.unusedSimpArgs false
open Gm Go Go.RowKit

theorem do_of {p : List Fun} {f : Frm} {x : Int × Int × Int} (h0 : f.st = 0) (hi : hasI p.length f.fn = true) (hf : fetchF p f = (x, 0)) (hd : depthF p f x = 0) :
    doF p f = if (execF p f x).2.2 ≠ 0 then (endF (execF p f x).1 (execF p f x).2.2 (0, 0), actK 4) else ((execF p f x).1, (execF p f x).2.1) := by
  unfold doF
  rw [if_neg (by rw [hi]; simp [h0])]
  unfold runF
  rw [hf]
  dsimp only
  rw [if_neg (by simp), hd, if_neg (by simp)]
theorem run_step {p : List Fun} {n : Nat} {f g : Frm} {a : ActP} {sl : Int} {ts : List Tsk} (e : doF p f = (g, a)) (h2 : a.kd ≠ 2) (h4 : a.kd ≠ 4) : runT p (n + 1) ((f, sl) :: ts) = runT p n ((g, sl) :: ts) := by
  rw [runT_inl (step_on (by rw [e]; exact h2) (by rw [e]; exact h4)), e]
theorem run_child {p : List Fun} {n m : Nat} {f g : Frm} {a : ActP} {o : OutP} (e : doF p f = (g, a)) (h2 : a.kd = 2) (hk : runT p n [(kidF p a, 0)] = some (o, m)) : runT p (n + 1) [(f, 0)] = runT p m [(giveO g a.sl o, 0)] := by
  rw [runT_inl (step_kid (by rw [e]; exact h2)), e, runT_behind]
  show (match runT p n [(kidF p a, 0)] with | none => none | some (o, m) => runT p m (backT a.sl o [(g, 0)])) = _
  rw [hk]
  rfl
theorem run_child_none {p : List Fun} {n : Nat} {f g : Frm} {a : ActP} (e : doF p f = (g, a)) (h2 : a.kd = 2) (hk : runT p n [(kidF p a, 0)] = none) : runT p (n + 1) [(f, 0)] = none := by
  rw [runT_inl (step_kid (by rw [e]; exact h2)), e, runT_behind]
  show (match runT p n [(kidF p a, 0)] with | none => none | some (o, m) => runT p m (backT a.sl o [(g, 0)])) = _
  rw [hk]
theorem run_end {p : List Fun} {n : Nat} {f g : Frm} {a : ActP} (e : doF p f = (g, a)) (h4 : a.kd = 4) : runT p (n + 1) [(f, 0)] = some (outF g, n) := by
  rw [runT_inr (step_fin (by rw [e]; exact h4)), e]
/-- A child at the function next to the first one. -/
theorem kid_run {h : Fun} {p : List Fun} (hc : (checkP p).2.2 = 0) (hl : p.length ≤ 15) (hm : mayP (mvP h p) = true) {args : List V} {z : Int} (hn : (newF p 0 args z).2 = true) (n : Nat) :
    runT (mvP h p) n [((newF (mvP h p) 1 args z).1, 0)] = runT p n [((newF p 0 args z).1, 0)] := by
  have e := new_up (h := h) hm hn
  rw [show (0 : Int) + 1 = 1 from rfl] at e
  rw [e]
  exact run_up hc hl hm n [((newF p 0 args z).1, 0)] (by simp) (by intro t ht; rw [List.mem_singleton] at ht; subst ht; exact new_upok hn)
theorem mv_none {f : Fun} (hn : ∀ x ∈ f.code, x.1 ≠ 13) : mvF f = f := by
  obtain ⟨a, b, c, l⟩ := f
  unfold mvF
  rw [show l.map mvI = l from (List.map_congr_left fun x hx => mvI_no (hn x hx)).trans (List.map_id l)]
def mainS : Fun := ⟨1, 1, 2, [(1, 0, 0), (13, 1, 0), (1, 0, 0), (13, 1, 1), (14, 1, 0), (14, 0, 0), (3, 0, 0), (15, 0, 0)]⟩
def prS (f : Fun) : List Fun := [mainS, f]
/-- Frames of the sum. -/
def fS (pc : Int) (stk : List V) (v : V) (s0 s1 : Slt) (spn : Int) : Frm := ⟨0, pc, stk, [v], [s0, s1], 2, spn, 0, 0, 0, 0, 0, 0, -1, 0, 0⟩
def slO (o : OutP) : Slt := ⟨2, -1, 0, o.1, o.2.1, o.2.2⟩
def slK : Slt := ⟨1, -1, 0, 0, 0, 0⟩
section
variable (lo sl : Int) (code : List (Int × Int × Int)) (v : V)
theorem sS0 : doF (prS ⟨1, lo, sl, code⟩) (fS 0 [] v slt0 slt0 0) = (fS 1 [v] v slt0 slt0 0, actK 1) := by kernel_rfl
theorem sS1 : doF (prS ⟨1, lo, sl, code⟩) (fS 1 [v] v slt0 slt0 0) = (fS 2 [] v slK slt0 1, ⟨2, 1, 0, useZ 2 1 0, [v]⟩) := by kernel_rfl
theorem sS2 (a : Slt) : doF (prS ⟨1, lo, sl, code⟩) (fS 2 [] v a slt0 1) = (fS 3 [v] v a slt0 1, actK 1) := by kernel_rfl
theorem sS3 (a : Slt) : doF (prS ⟨1, lo, sl, code⟩) (fS 3 [v] v a slt0 1) = (fS 4 [] v a slK 2, ⟨2, 1, 1, useZ 2 1 1, [v]⟩) := by kernel_rfl
theorem sS4 (a : Slt) (u : V) : doF (prS ⟨1, lo, sl, code⟩) (fS 4 [] v a (slO (0, u)) 2) = (fS 5 [u] v a slt0 2, actK 1) := by kernel_rfl
theorem sS5 (u : V) : doF (prS ⟨1, lo, sl, code⟩) (fS 5 [u] v (slO (0, u)) slt0 2) = (fS 6 [u, u] v slt0 slt0 2, actK 1) := by kernel_rfl
theorem sS6 (u : V) : doF (prS ⟨1, lo, sl, code⟩) (fS 6 [u, u] v slt0 slt0 2) = (fS 7 [gAdd u u] v slt0 slt0 2, actK 1) := by kernel_rfl
theorem sS7 (u : V) : doF (prS ⟨1, lo, sl, code⟩) (fS 7 [u] v slt0 slt0 2) = (endF (fS 7 [] v slt0 slt0 2) 0 u, actK 4) := by kernel_rfl
theorem sS8 (a : Slt) (t : Int) (u : V) (ht : t ≠ 0) : doF (prS ⟨1, lo, sl, code⟩) (fS 4 [] v a (slO (t, u)) 2) = (endF (fS 4 [] v a slt0 2) t (0, 0), actK 4) := by
  have hx : execF (prS ⟨1, lo, sl, code⟩) (fS 4 [] v a (slO (t, u)) 2) (14, 1, 0) = (fS 4 [] v a slt0 2, act0, t) := by
    show joinF (fS 4 [] v a (slO (t, u)) 2) 1 = _
    unfold joinF
    rw [show sltAt (fS 4 [] v a (slO (t, u)) 2) 1 = slO (t, u) from rfl, if_neg (show ¬ (slO (t, u)).st = 1 from (by decide : ¬ (2 : Int) = 1)), if_pos (show (slO (t, u)).st = 2 from rfl), if_pos (show (slO (t, u)).tr ≠ 0 from ht)]
    rfl
  rw [do_of (x := (14, 1, 0)) rfl (by kernel_rfl) (by kernel_rfl) (by kernel_rfl), hx, if_pos ht]
end
theorem give0 (v : V) (a : Slt) (o : OutP) : giveO (fS 2 [] v slK slt0 1) 0 o = fS 2 [] v (slO o) slt0 1 := by kernel_rfl
theorem give1 (v : V) (a : Slt) (o : OutP) : giveO (fS 4 [] v a slK 2) 1 o = fS 4 [] v a (slO o) 2 := by kernel_rfl
/-- All of SeqSum. -/
theorem eval_sum {f : Fun} {v : V} (h1 : f.ar = 1) (hc : (checkP [f]).2.2 = 0) (hnr : NoRand [f]) (hns : ∀ x ∈ f.code, x.1 ≠ 13) (hv : gMay v) {o : OutP} {n : Int} (he : evalP [f] [v] 1 1000 = (o, n, 0)) :
    (o.1 ≠ 0 → ∃ m, evalP [mainS, f] [v] 2 3000 = (o, m, 0)) ∧ (o.1 = 0 → evalP [mainS, f] [v] 2 3000 = ((0, gAdd o.2 o.2), 2 * n + 8, 0)) := by
  rcases evalP_cases [f] [v] 1 1000 with ⟨e, _⟩ | ⟨hcan, ⟨e, _⟩ | ⟨o', m, e, hr, hm⟩⟩
  · rw [e] at he; cases he
  · rw [e] at he; cases he
  rw [e] at he
  obtain ⟨rfl, he2⟩ : o' = o ∧ (1000 : Int) - (m : Int) = n := by simp only [Prod.mk.injEq, and_true] at he; exact he
  have hval : o'.1 ≠ 0 → o'.2 = (0, 0) := by
    obtain ⟨k, g, hg, hs, hst⟩ := new_safe hc hcan.2.2.2 (T := GoodT [f])
    have hvv := ((new_iff hc [v] 1).1 hcan.2.2.2).2.2
    exact (run_value hc _ k g _ o' m hg hs (new_inv (good0 _) hvv) hst hr).2.2
  clear e he
  have hmv : mvP mainS [f] = prS f := by unfold mvP prS; rw [List.map_singleton, mv_none hns]
  have hq : (checkP (mvP mainS [f])).2.2 = 0 := by
    refine check_up hc (by simp) (by kernel_rfl) ?_
    rw [hmv]
    obtain ⟨a, b, c, d⟩ := f
    obtain rfl : a = 1 := h1
    kernel_rfl
  have hmay := (check_facts hq).1
  have hn2 : (newF (mvP mainS [f]) 0 [v] 2).2 = true := (new_iff hq [v] 2).2 ⟨by decide, ⟨by simp [mvP], rfl⟩, fun x hx => by rw [List.mem_singleton] at hx; subst hx; exact hv⟩
  have e0 : (newF (mvP mainS [f]) 0 [v] 2).1 = fS 0 [] v slt0 slt0 0 := by
    obtain ⟨_, _, k, hk, e, _, _, _, e1⟩ := new_facts hn2
    obtain rfl : k = 0 := by omega
    rw [e1]
    rfl
  have hrun : ∀ z, isZ z = true → ∀ N, runT (mvP mainS [f]) (1000 - m + N) [((newF (mvP mainS [f]) 1 [v] z).1, 0)] = some (o', N) := by
    intro z hz N
    have hnz : (newF [f] 0 [v] z).2 = true := (new_iff hc [v] z).2 ⟨hz, ((new_iff hc [v] 1).1 hcan.2.2.2).2⟩
    rw [kid_run hc (by simp) hmay hnz]
    obtain ⟨_, u, hu⟩ := new_seed [f] 0 [v] (show isZ 1 = true by decide) hz
    rw [hu, run_seed hnr (1000 - m + N) (ts := [((newF [f] 0 [v] 1).1, 0)]) (.cons ⟨u, rfl⟩ .nil)]
    have := runT_more (runT_just hr).1 N
    rw [show (1000 : Int).toNat - m = 1000 - m from rfl, Nat.zero_add] at this
    exact this
  have hev := evalP_can (p := mvP mainS [f]) (args := [v]) (s := 2) (fuel := 3000) ⟨hq, by decide, by decide, hn2⟩
  rw [e0] at hev
  rw [hmv] at hrun hev
  change evalP [mainS, f] [v] 2 3000 = _ at hev
  rw [hev]
  clear hev hn2 e0 hmay hq hmv
  obtain ⟨a, b, c, d⟩ := f
  obtain rfl : a = 1 := h1
  obtain ⟨u, hu⟩ : ∃ u : Nat, u = 1000 - m := ⟨_, rfl⟩
  rw [← hu] at hrun
  have hu2 : u ≤ 1000 := by omega
  have hun : (u : Int) = n := by rw [show (1000 : Int).toNat = 1000 from rfl] at hm; omega
  have eF : (3000 : Int).toNat = (((2992 - 2 * u + 4 + u) + 1 + 1 + u) + 1 + 1 : Nat) := by rw [show (3000 : Int).toNat = 3000 from rfl]; omega
  have K0 : runT (prS ⟨1, b, c, d⟩) (2992 - 2 * u + 4 + u + 1 + 1 + u) [(kidF (prS ⟨1, b, c, d⟩) ⟨2, 1, 0, useZ 2 1 0, [v]⟩, 0)] = some (o', 2992 - 2 * u + 4 + u + 1 + 1) := by
    rw [Nat.add_comm]
    exact hrun (useZ 2 1 0) (useZ_is _ _ _) _
  have K1 : runT (prS ⟨1, b, c, d⟩) (2992 - 2 * u + 4 + u) [(kidF (prS ⟨1, b, c, d⟩) ⟨2, 1, 1, useZ 2 1 1, [v]⟩, 0)] = some (o', 2992 - 2 * u + 4) := by
    rw [Nat.add_comm]
    exact hrun (useZ 2 1 1) (useZ_is _ _ _) _
  rw [eF, run_step (sS0 b c d v) (by decide) (by decide), run_child (sS1 b c d v) rfl K0, give0 v slt0 o', run_step (sS2 b c d v _) (by decide) (by decide), run_child (sS3 b c d v _) rfl K1, give1 v _ o']
  obtain ⟨t, w⟩ := o'
  constructor
  · intro ht
    have hw := hval ht
    simp only at hw ht
    subst hw
    rw [run_end (n := 2992 - 2 * u + 3) (sS8 b c d v _ t (0, 0) ht) rfl]
    have ho : outF (endF (fS 4 [] v (slO (t, (0, 0))) slt0 2) t (0, 0)) = (t, (0, 0)) := by
      unfold outF finF
      rw [if_neg (by simp [endF, fS, slO, slt0]), if_pos (show (endF (fS 4 [] v (slO (t, (0, 0))) slt0 2) t (0, 0)).otr ≠ 0 from ht)]
      rfl
    rw [ho]
    exact ⟨_, rfl⟩
  · intro ht
    simp only at ht
    subst ht
    rw [run_step (n := 2992 - 2 * u + 3) (sS4 b c d v _ w) (by decide) (by decide), run_step (n := 2992 - 2 * u + 2) (sS5 b c d v w) (by decide) (by decide), run_step (n := 2992 - 2 * u + 1) (sS6 b c d v w) (by decide) (by decide),
      run_end (n := 2992 - 2 * u) (sS7 b c d v _) rfl]
    have ho : outF (endF (fS 7 [] v slt0 slt0 2) 0 (gAdd w w)) = (0, gAdd w w) := by kernel_rfl
    rw [ho]
    show ((0, gAdd w w), (3000 : Int) - ((2992 - 2 * u : Nat) : Int), (0 : Int)) = _
    rw [show (3000 : Int) - ((2992 - 2 * u : Nat) : Int) = 2 * n + 8 by omega]
end Go.Proofs.YtagjddnpaahebaaGreatDoor

/- Layer 10, plain: a program that wraps another one. -/
namespace Go.Proofs.YtagjddnpaahebaaGreatDoor
set_option linter.unusedVariables false
set_option linter.unusedSimpArgs false
open Gm Go Go.RowKit

def loadsW (n : Nat) : List (Int × Int × Int) := (List.range n).map fun (i : Nat) => (1, (i : Int), 0)
def mainW (n : Nat) : Fun := ⟨n, n, 1, loadsW n ++ [(13, 1, 0), (14, 0, 0), (15, 0, 0)]⟩
def fW (pc : Int) (stk args : List V) (a : Slt) (s spn : Int) : Frm := ⟨0, pc, stk, args, [a], s, spn, 0, 0, 0, 0, 0, 0, -1, 0, 0⟩
theorem fetch_at {p : List Fun} {f : Frm} {x : Int × Int × Int} {i : Nat} (hp : f.pc = i) (hx : (codeP p f.fn)[i]? = some x) (hm : mayZ x.1 x.2.1 x.2.2 = true) (hk : knowsF p f x = true) : fetchF p f = (x, 0) := by
  obtain ⟨hi, e⟩ := List.getElem?_eq_some_iff.1 hx
  have hg : (codeP p f.fn).getD f.pc.toNat (0, 0, 0) = x := by rw [hp, Int.toNat_natCast, List.getD_eq_getElem?_getD, hx]; rfl
  unfold fetchF
  rw [hg, if_pos (by rw [hp]; simp [hasI]; omega), if_pos ⟨hm, hk⟩]
theorem mainW_len (n : Nat) : (loadsW n).length = n := by simp [loadsW]
theorem mainW_ld {n i : Nat} (h : i < n) : (mainW n).code[i]? = some (1, (i : Int), 0) := by
  unfold mainW
  show (loadsW n ++ _)[i]? = _
  rw [List.getElem?_append_left (by rw [mainW_len]; exact h)]
  simp [loadsW, h]
theorem mainW_k {n k : Nat} : (mainW n).code[n + k]? = [((13 : Int), (1 : Int), (0 : Int)), (14, 0, 0), (15, 0, 0)][k]? := by
  unfold mainW
  show (loadsW n ++ _)[n + k]? = _
  rw [List.getElem?_append_right (by rw [mainW_len]; omega), mainW_len, Nat.add_sub_cancel_left]
theorem has0 (h : Fun) (p : List Fun) : hasI (mvP h p).length 0 = true := by
  have : 0 < (mvP h p).length := by unfold mvP; rw [List.length_cons]; omega
  simp [hasI, this]
section
variable {p : List Fun} {args : List V} {n : Nat}
theorem sW0 (s : Int) {i : Nat} (hn : args.length = n) (hn8 : n ≤ 8) (hi : i < n) :
    doF (mvP (mainW n) p) (fW i (args.take i) args slt0 s 0) = (fW ((i + 1 : Nat) : Int) (args.take (i + 1)) args slt0 s 0, actK 1) := by
  have hia : i < args.length := by omega
  have hl : (args.take i).length = i := by rw [List.length_take]; omega
  have hfe : fetchF (mvP (mainW n) p) (fW i (args.take i) args slt0 s 0) = ((1, (i : Int), 0), 0) := by
    refine fetch_at (i := i) rfl (mainW_ld hi) ?_ ?_
    · have e1 : (rz 1).lo = 0 := rfl
      have e2 : (rz 1).la = 15 := rfl
      have e3 : (rz 1).lb = 0 := rfl
      simp only [mayZ, Bool.and_eq_true, decide_eq_true_eq]
      rw [e1, e2, e3]
      exact ⟨⟨rfl, by omega, by omega⟩, by omega, by omega⟩
    · show hasI args.length (i : Int) = true
      simp [hasI, hia]
  have hd : depthF (mvP (mainW n) p) (fW i (args.take i) args slt0 s 0) (1, (i : Int), 0) = 0 := by
    have e0 : offI (mvP (mainW n) p) (1, (i : Int), 0) = 0 := by kernel_rfl
    have e1 : (rz (1, (i : Int), (0 : Int)).1).q = 1 := by kernel_rfl
    have e2 : (fW i (args.take i) args slt0 s 0).stk.length = i := hl
    unfold depthF
    rw [e0, e1, e2, if_neg (by omega), if_neg (by omega)]
  rw [do_of rfl (has0 _ _) hfe hd]
  show (if (0 : Int) ≠ 0 then _ else (goF (pushF (fW i (args.take i) args slt0 s 0) [args.getD (i : Int).toNat (0, 0)]) ((i : Int) + 1), actK 1)) = _
  rw [if_neg (by simp), Int.toNat_natCast, List.getD_eq_getElem?_getD, List.getElem?_eq_getElem hia, List.take_add_one, List.getElem?_eq_getElem hia]
  rfl
theorem loads_run (s : Int) (hn : args.length = n) (hn8 : n ≤ 8) (N : Nat) : ∀ (j i : Nat), i + j = n → runT (mvP (mainW n) p) (N + j) [(fW i (args.take i) args slt0 s 0, 0)] = runT (mvP (mainW n) p) N [(fW n args args slt0 s 0, 0)]
  | 0, i, h => by
    obtain rfl : i = n := by omega
    rw [Nat.add_zero, ← hn, List.take_length]
  | j + 1, i, h => by
    rw [← Nat.add_assoc, run_step (sW0 s hn hn8 (by omega)) (by decide) (by decide)]
    exact loads_run s hn hn8 N j (i + 1) (by omega)
theorem sW1 (s : Int) (hn : args.length = n) (hn8 : n ≤ 8) (hp : 0 < p.length) (ha : p[0].ar = n) :
    doF (mvP (mainW n) p) (fW n args args slt0 s 0) = (fW ((n + 1 : Nat) : Int) [] args slK s 1, ⟨2, 1, 0, useZ s 1 0, args⟩) := by
  have har : arP (mvP (mainW n) p) 1 = n := by
    have := ar_up (h := mainW n) (p := p) (i := 0) (by omega)
    rw [show (0 : Int) + 1 = 1 from rfl] at this
    rw [this]
    unfold arP
    rw [show (0 : Int).toNat = 0 from rfl, List.getElem?_eq_getElem hp]
    exact ha
  have hfe : fetchF (mvP (mainW n) p) (fW n args args slt0 s 0) = ((13, 1, 0), 0) := by
    refine fetch_at (i := n) rfl (mainW_k (k := 0)) (by kernel_rfl) ?_
    show (hasI (mvP (mainW n) p).length 1 && hasI 1 0) = true
    simp [hasI, mvP]
    omega
  have hd : depthF (mvP (mainW n) p) (fW n args args slt0 s 0) (13, 1, 0) = 0 := by
    have e0 : offI (mvP (mainW n) p) (13, 1, 0) = n := har
    have e1 : (rz ((13 : Int), (1 : Int), (0 : Int)).1).q = 0 := by kernel_rfl
    have e2 : (fW n args args slt0 s 0).stk.length = n := hn
    unfold depthF
    rw [e0, e1, e2, if_neg (by omega), if_neg (by omega)]
  have hx : execF (mvP (mainW n) p) (fW n args args slt0 s 0) (13, 1, 0) = (fW ((n + 1 : Nat) : Int) [] args slK s 1, ⟨2, 1, 0, useZ s 1 0, args⟩, 0) := by
    rw [exec_13 rfl]
    show spawnF (mvP (mainW n) p) (fW n args args slt0 s 0) 1 0 = _
    unfold spawnF
    rw [har]
    generalize hz : useZ (fW n args args slt0 s 0).seed 1 (fW n args args slt0 s 0).spn = z
    have hz2 : useZ s 1 0 = z := hz
    rw [hz2, if_neg (show ¬ ((sltAt (fW n args args slt0 s 0) 0).st ≠ 0) from fun e => e rfl)]
    have e1 : (fW n args args slt0 s 0).stk.take ((fW n args args slt0 s 0).stk.length - (n : Int).toNat) = [] := by
      show args.take (args.length - (n : Int).toNat) = []
      rw [Int.toNat_natCast, hn, Nat.sub_self, List.take_zero]
    have e2 : (fW n args args slt0 s 0).stk.drop ((fW n args args slt0 s 0).stk.length - (n : Int).toNat) = args := by
      show args.drop (args.length - (n : Int).toNat) = args
      rw [Int.toNat_natCast, hn, Nat.sub_self, List.drop_zero]
    have e3 : wrap64 ((fW n args args slt0 s 0).spn + 1) = 1 := by show wrap64 (0 + 1) = 1; unfold wrap64; omega
    have e4 : (fW n args args slt0 s 0).pc + 1 = ((n + 1 : Nat) : Int) := by show (n : Int) + 1 = _; omega
    rw [e1, e2, e3, e4]
    rfl
  rw [do_of rfl (has0 _ _) hfe hd, hx, if_neg (by simp)]
theorem join_f (s : Int) (t : Int) (u : V) : fetchF (mvP (mainW n) p) (fW ((n + 1 : Nat) : Int) [] args (slO (t, u)) s 1) = ((14, 0, 0), 0) :=
  fetch_at (i := n + 1) rfl (mainW_k (k := 1)) (by kernel_rfl) (by kernel_rfl)
theorem sW2 (s : Int) (u : V) : doF (mvP (mainW n) p) (fW ((n + 1 : Nat) : Int) [] args (slO (0, u)) s 1) = (fW ((n + 2 : Nat) : Int) [u] args slt0 s 1, actK 1) := by
  have hx : execF (mvP (mainW n) p) (fW ((n + 1 : Nat) : Int) [] args (slO (0, u)) s 1) (14, 0, 0) = (fW ((n + 2 : Nat) : Int) [u] args slt0 s 1, actK 1, 0) := by
    show joinF (fW ((n + 1 : Nat) : Int) [] args (slO (0, u)) s 1) 0 = _
    unfold joinF
    rw [show sltAt (fW ((n + 1 : Nat) : Int) [] args (slO (0, u)) s 1) 0 = slO (0, u) from rfl, if_neg (show ¬ (slO (0, u)).st = 1 from (by decide : ¬ (2 : Int) = 1)), if_pos (show (slO (0, u)).st = 2 from rfl), if_neg (show ¬ (slO (0, u)).tr ≠ 0 from fun e => e rfl)]
    rfl
  rw [do_of rfl (has0 _ _) (join_f s 0 u) (by kernel_rfl), hx, if_neg (by simp)]
theorem sW3 (s t : Int) (u : V) (ht : t ≠ 0) : doF (mvP (mainW n) p) (fW ((n + 1 : Nat) : Int) [] args (slO (t, u)) s 1) = (endF (fW ((n + 1 : Nat) : Int) [] args slt0 s 1) t (0, 0), actK 4) := by
  have hx : execF (mvP (mainW n) p) (fW ((n + 1 : Nat) : Int) [] args (slO (t, u)) s 1) (14, 0, 0) = (fW ((n + 1 : Nat) : Int) [] args slt0 s 1, act0, t) := by
    show joinF (fW ((n + 1 : Nat) : Int) [] args (slO (t, u)) s 1) 0 = _
    unfold joinF
    rw [show sltAt (fW ((n + 1 : Nat) : Int) [] args (slO (t, u)) s 1) 0 = slO (t, u) from rfl, if_neg (show ¬ (slO (t, u)).st = 1 from (by decide : ¬ (2 : Int) = 1)), if_pos (show (slO (t, u)).st = 2 from rfl), if_pos (show (slO (t, u)).tr ≠ 0 from ht)]
    rfl
  rw [do_of rfl (has0 _ _) (join_f s t u) (by kernel_rfl), hx, if_pos ht]
theorem sW4 (s : Int) (u : V) : doF (mvP (mainW n) p) (fW ((n + 2 : Nat) : Int) [u] args slt0 s 1) = (endF (fW ((n + 2 : Nat) : Int) [] args slt0 s 1) 0 u, actK 4) := by
  have hfe : fetchF (mvP (mainW n) p) (fW ((n + 2 : Nat) : Int) [u] args slt0 s 1) = ((15, 0, 0), 0) := fetch_at (i := n + 2) rfl (mainW_k (k := 2)) (by kernel_rfl) (by kernel_rfl)
  rw [do_of rfl (has0 _ _) hfe (by kernel_rfl)]
  rfl
theorem giveW (pc s : Int) (o : OutP) : giveO (fW pc [] args slK s 1) 0 o = fW pc [] args (slO o) s 1 := by kernel_rfl
end
theorem mainW_may {n : Nat} (hn : n ≤ 8) : mayF (mainW n) = true := by
  have h : ∀ k : Fin 9, mayF (mainW k.1) = true := by decide +kernel
  exact h ⟨n, by omega⟩
theorem mainW_fun0 (b c : Int) (d : List (Int × Int × Int)) (p : List Fun) : (funE (mvP (mainW 0) (⟨((0 : Nat) : Int), b, c, d⟩ :: p)) (mainW 0)).2 = 0 := by kernel_rfl
theorem mainW_fun1 (b c : Int) (d : List (Int × Int × Int)) (p : List Fun) : (funE (mvP (mainW 1) (⟨((1 : Nat) : Int), b, c, d⟩ :: p)) (mainW 1)).2 = 0 := by kernel_rfl
theorem mainW_fun2 (b c : Int) (d : List (Int × Int × Int)) (p : List Fun) : (funE (mvP (mainW 2) (⟨((2 : Nat) : Int), b, c, d⟩ :: p)) (mainW 2)).2 = 0 := by kernel_rfl
theorem mainW_fun3 (b c : Int) (d : List (Int × Int × Int)) (p : List Fun) : (funE (mvP (mainW 3) (⟨((3 : Nat) : Int), b, c, d⟩ :: p)) (mainW 3)).2 = 0 := by kernel_rfl
theorem mainW_fun4 (b c : Int) (d : List (Int × Int × Int)) (p : List Fun) : (funE (mvP (mainW 4) (⟨((4 : Nat) : Int), b, c, d⟩ :: p)) (mainW 4)).2 = 0 := by kernel_rfl
theorem mainW_fun5 (b c : Int) (d : List (Int × Int × Int)) (p : List Fun) : (funE (mvP (mainW 5) (⟨((5 : Nat) : Int), b, c, d⟩ :: p)) (mainW 5)).2 = 0 := by kernel_rfl
theorem mainW_fun6 (b c : Int) (d : List (Int × Int × Int)) (p : List Fun) : (funE (mvP (mainW 6) (⟨((6 : Nat) : Int), b, c, d⟩ :: p)) (mainW 6)).2 = 0 := by kernel_rfl
theorem mainW_fun7 (b c : Int) (d : List (Int × Int × Int)) (p : List Fun) : (funE (mvP (mainW 7) (⟨((7 : Nat) : Int), b, c, d⟩ :: p)) (mainW 7)).2 = 0 := by kernel_rfl
theorem mainW_fun8 (b c : Int) (d : List (Int × Int × Int)) (p : List Fun) : (funE (mvP (mainW 8) (⟨((8 : Nat) : Int), b, c, d⟩ :: p)) (mainW 8)).2 = 0 := by kernel_rfl
theorem mainW_fun {p : List Fun} {n : Nat} (hn : n ≤ 8) (hp : 0 < p.length) (ha : p[0].ar = n) : (funE (mvP (mainW n) p) (mainW n)).2 = 0 := by
  match p, hp, ha with
  | ⟨a, b, c, d⟩ :: p, _, ha =>
    obtain rfl : a = n := ha
    have : n = 0 ∨ n = 1 ∨ n = 2 ∨ n = 3 ∨ n = 4 ∨ n = 5 ∨ n = 6 ∨ n = 7 ∨ n = 8 := by omega
    rcases this with rfl | rfl | rfl | rfl | rfl | rfl | rfl | rfl | rfl
    · exact mainW_fun0 b c d p
    · exact mainW_fun1 b c d p
    · exact mainW_fun2 b c d p
    · exact mainW_fun3 b c d p
    · exact mainW_fun4 b c d p
    · exact mainW_fun5 b c d p
    · exact mainW_fun6 b c d p
    · exact mainW_fun7 b c d p
    · exact mainW_fun8 b c d p
/-- All of SeqWraps. -/
theorem eval_wrap {p : List Fun} {args : List V} {s : Int} (hc : (checkP p).2.2 = 0) (hl : p.length ≤ 15) (hp : 0 < p.length) (ha : p[0].ar = args.length) (hs : isZ s = true) (hn8 : args.length ≤ 8) :
    ((evalP p args (useZ s 1 0) 2000).2.2 = 1 ∧ (evalP (mvP (mainW args.length) p) args s 2100).2.2 = 1) ∨
    ((evalP p args (useZ s 1 0) 2000).2.2 = 100 ∧ ((evalP (mvP (mainW args.length) p) args s 2100).2.2 = 100 ∨ 2000 < (evalP (mvP (mainW args.length) p) args s 2100).2.1)) ∨
    ((evalP p args (useZ s 1 0) 2000).2.2 = 0 ∧ evalP (mvP (mainW args.length) p) args s 2100 =
      ((evalP p args (useZ s 1 0) 2000).1, (evalP p args (useZ s 1 0) 2000).2.1 + (args.length + (if (evalP p args (useZ s 1 0) 2000).1.1 = 0 then 3 else 2)), 0)) := by
  obtain ⟨n, hn⟩ : ∃ n, n = args.length := ⟨_, rfl⟩
  rw [← hn] at hn8 ha ⊢
  have hq := check_up hc hl (mainW_may hn8) (mainW_fun hn8 hp ha)
  have hmay := (check_facts hq).1
  have hz : isZ (useZ s 1 0) = true := useZ_is _ _ _
  have ni := new_iff hc args (useZ s 1 0)
  have nq := new_iff hq args s
  have hq0 : ∃ h : 0 < (mvP (mainW n) p).length, (mvP (mainW n) p)[0].ar = args.length := ⟨by simp [mvP], by rw [← hn]; rfl⟩
  have hp0 : ∃ h : 0 < p.length, p[0].ar = args.length := ⟨hp, by rw [← hn]; exact ha⟩
  by_cases hv : ∀ v ∈ args, gMay v
  · have hnp := ni.2 ⟨hz, hp0, hv⟩
    have hnq := nq.2 ⟨hs, hq0, hv⟩
    have e0 : (newF (mvP (mainW n) p) 0 args s).1 = fW ((0 : Nat) : Int) (args.take 0) args slt0 s 0 := by
      obtain ⟨_, _, k, hk, e, _, _, _, e1⟩ := new_facts hnq
      obtain rfl : k = 0 := by omega
      rw [e1]
      show (⟨0, 0, [], args ++ List.replicate ((n : Int).toNat - args.length) (0, 0), List.replicate (1 : Int).toNat slt0, s, 0, 0, 0, 0, 0, 0, 0, -1, 0, 0⟩ : Frm) = _
      rw [Int.toNat_natCast, hn, Nat.sub_self, List.replicate_zero, List.append_nil]
      rfl
    have hevp := evalP_can (p := p) (args := args) (s := useZ s 1 0) (fuel := 2000) ⟨hc, by decide, by decide, hnp⟩
    have hevq := evalP_can (p := mvP (mainW n) p) (args := args) (s := s) (fuel := 2100) ⟨hq, by decide, by decide, hnq⟩
    have hkid : ∀ N, runT (mvP (mainW n) p) N [(kidF (mvP (mainW n) p) ⟨2, 1, 0, useZ s 1 0, args⟩, 0)] = runT p N [((newF p 0 args (useZ s 1 0)).1, 0)] := kid_run hc hl hmay hnp
    have eF : (2100 : Int).toNat = (2100 - n - 1) + 1 + n := by rw [show (2100 : Int).toNat = 2100 from rfl]; omega
    have step1 : ∀ N, runT (mvP (mainW n) p) (N + n) [((newF (mvP (mainW n) p) 0 args s).1, 0)] = runT (mvP (mainW n) p) N [(fW n args args slt0 s 0, 0)] := fun N => by
      rw [e0]; exact loads_run s hn.symm hn8 N n 0 (by omega)
    have sp := sW1 s hn.symm hn8 hp ha
    rw [eF, step1] at hevq
    rw [show (2000 : Int).toNat = 2000 from rfl] at hevp
    cases hr : runT p (2100 - n - 1) [((newF p 0 args (useZ s 1 0)).1, 0)] with
    | none =>
      rw [run_child_none sp rfl ((hkid _).trans hr)] at hevq
      have h2000 : runT p 2000 [((newF p 0 args (useZ s 1 0)).1, 0)] = none := by
        cases h2 : runT p 2000 [((newF p 0 args (useZ s 1 0)).1, 0)] with
        | none => rfl
        | some x =>
          obtain ⟨o, m⟩ := x
          have := runT_more h2 (100 - n - 1)
          rw [show 2000 + (100 - n - 1) = 2100 - n - 1 by omega, hr] at this
          cases this
      rw [h2000] at hevp
      rw [hevp, hevq]
      exact .inr (.inl ⟨rfl, .inl rfl⟩)
    | some x =>
      obtain ⟨⟨t, u⟩, m⟩ := x
      rw [run_child sp rfl ((hkid _).trans hr)] at hevq
      rw [giveW] at hevq
      have hlt := runT_left hr
      cases h2 : runT p 2000 [((newF p 0 args (useZ s 1 0)).1, 0)] with
      | none =>
        rw [h2] at hevp
        have hk : m < 100 - n - 1 := by
          refine Decidable.byContradiction fun hm => ?_
          have h3 := runT_more (runT_just hr).1 (2000 - (2100 - n - 1 - m))
          rw [show 2100 - n - 1 - m + (2000 - (2100 - n - 1 - m)) = 2000 by omega, h2] at h3
          cases h3
        refine .inr (.inl ⟨by rw [hevp], ?_⟩)
        cases h3 : runT (mvP (mainW n) p) m [(fW ((n + 1 : Nat) : Int) [] args (slO (t, u)) s 1, 0)] with
        | none => rw [h3] at hevq; exact .inl (by rw [hevq])
        | some y =>
          obtain ⟨o2, m2⟩ := y
          rw [h3] at hevq
          have := runT_left h3
          right
          rw [hevq]
          show (2000 : Int) < 2100 - (m2 : Int)
          omega
      | some y =>
        obtain ⟨o2, m2⟩ := y
        rw [h2] at hevp
        obtain ⟨e1, e2⟩ := runT_two hr h2
        have hlt2 := runT_left h2
        subst e1
        have hm2 : 2 ≤ m := by omega
        right; right
        rw [hevp]
        refine ⟨rfl, ?_⟩
        by_cases ht : t = 0
        · subst ht
          obtain ⟨m3, rfl⟩ : ∃ m3, m = m3 + 1 + 1 := ⟨m - 2, by omega⟩
          rw [run_step (sW2 s u) (by decide) (by decide), run_end (sW4 s u) rfl] at hevq
          have ho : outF (endF (fW ((n + 2 : Nat) : Int) [] args slt0 s 1) 0 u) = (0, u) := by kernel_rfl
          rw [ho] at hevq
          rw [hevq]
          show ((0, u), (2100 : Int) - (m3 : Int), (0 : Int)) = ((0, u), (2000 : Int) - (m2 : Int) + ((n : Int) + 3), 0)
          rw [show (2100 : Int) - (m3 : Int) = (2000 : Int) - (m2 : Int) + ((n : Int) + 3) by omega]
        · have hu : u = (0, 0) := by
            obtain ⟨k, g, hg, hsf, hst⟩ := new_safe hc hnp (T := GoodT p)
            exact (run_value hc _ k g _ (t, u) m hg hsf (new_inv (good0 _) hv) hst hr).2.2 ht
          subst hu
          obtain ⟨m3, rfl⟩ : ∃ m3, m = m3 + 1 := ⟨m - 1, by omega⟩
          rw [run_end (sW3 s t (0, 0) ht) rfl] at hevq
          have ho : outF (endF (fW ((n + 1 : Nat) : Int) [] args slt0 s 1) t (0, 0)) = (t, (0, 0)) := by
            unfold outF finF
            rw [if_neg (by simp [endF, fW, slt0]), if_pos (show (endF (fW ((n + 1 : Nat) : Int) [] args slt0 s 1) t (0, 0)).otr ≠ 0 from ht)]
            rfl
          rw [ho] at hevq
          rw [hevq]
          show ((t, (0, 0)), (2100 : Int) - (m3 : Int), (0 : Int)) = ((t, (0, 0)), (2000 : Int) - (m2 : Int) + ((n : Int) + (if t = 0 then 3 else 2)), 0)
          rw [if_neg ht, show (2100 : Int) - (m3 : Int) = (2000 : Int) - (m2 : Int) + ((n : Int) + 2) by omega]
  · have h1 : evalP p args (useZ s 1 0) 2000 = (zeroO, 0, 1) := evalP_no fun h => hv (ni.1 h.2.2.2).2.2
    have h2 : evalP (mvP (mainW n) p) args s 2100 = (zeroO, 0, 1) := evalP_no fun h => hv (nq.1 h.2.2.2).2.2
    rw [h1, h2]
    exact .inl ⟨rfl, rfl⟩
end Go.Proofs.YtagjddnpaahebaaGreatDoor

/- Layer 7: a program appended to a list of functions of the call's own; the codes stay where they lie. -/
namespace Go.Proofs.YtagjddnpaahebaaGreatDoor
set_option linter.unusedVariables false
set_option linter.unusedSimpArgs false
open Go.RowKit Go.ChangeShapes Go.WideShapes Go.ChangeAt Go.Sort

/-- Codes that lie somewhere, below block B. -/
def Lies (w : World) (B : Nat) (l : List (Fun × Value)) : Prop := ∀ x ∈ l, ∃ A c, x.2 = .slice A x.1.code.length c ∧ CodeAt w B A x.1.code
theorem Lies.below {w w' : World} {B C : Nat} {l : List (Fun × Value)} (h : Lies w B l) (hb : Below C w w') (hC : B ≤ C) : Lies w' B l := fun x hx => by
  obtain ⟨A, c, e, hc⟩ := h x hx
  exact ⟨A, c, e, hc.below hb hC⟩
/-- A program's cells, with its codes' values. -/
theorem cells_news : ∀ (p : List Fun) (w : World) (B b off : Nat), (∀ j (h : j < p.length), FunAt w B b (off + j * 4) p[j]) →
    ∃ l : List (Fun × Value), l.map (·.1) = p ∧ Lies w B l ∧ (∀ j u, (flatF l)[j]? = some u → w.cell? ⟨b, off + j, none⟩ = some u) ∧ ∀ u ∈ flatF l, u.oneCell' = true
  | [], _, _, _, _, _ => ⟨[], rfl, fun x hx => by simp at hx, fun j u h => by simp [flatF] at h, fun u hu => by simp [flatF] at hu⟩
  | f :: p, w, B, b, off, h => by
    obtain ⟨l, h1, h2, h3, h4⟩ := cells_news p w B b (off + 4) fun j hj => by
      have := h (j + 1) (by simpa using hj)
      rw [show off + (j + 1) * 4 = off + 4 + j * 4 by omega] at this
      exact this
    have g := h 0 (by simp)
    simp only [Nat.zero_mul, Nat.add_zero, List.getElem_cons_zero] at g
    obtain ⟨g0, g1, g2, A, c, g3, g4⟩ := g
    have e : flatF ((f, .slice A f.code.length c) :: l) = [.int .i64 f.ar, .int .i64 f.lo, .int .i64 f.sl, .slice A f.code.length c] ++ flatF l := by simp [flatF]
    refine ⟨(f, .slice A f.code.length c) :: l, by rw [List.map_cons, h1], fun x hx => ?_, fun j u hj => ?_, fun u hu => ?_⟩
    · rcases List.mem_cons.1 hx with rfl | hx
      · exact ⟨A, c, rfl, g4⟩
      · exact h2 x hx
    · rw [e] at hj
      match j, hj with
      | 0, hj => simp at hj; subst hj; exact g0
      | 1, hj => simp at hj; subst hj; exact g1
      | 2, hj => simp at hj; subst hj; exact g2
      | 3, hj => simp at hj; subst hj; exact g3
      | j + 4, hj =>
        rw [List.getElem?_append_right (by simp)] at hj
        simp only [List.length_cons, List.length_nil, Nat.zero_add, Nat.reduceAdd, Nat.add_sub_cancel] at hj
        have := h3 j u hj
        rw [show off + (j + 4) = off + 4 + j by omega]
        exact this
    · rw [e] at hu
      rcases List.mem_append.1 hu with hu | hu
      · simp at hu
        rcases hu with rfl | rfl | rfl | rfl <;> rfl
      · exact h4 u hu
/-- The call's own list of functions, whose codes lie below block B. -/
def OwnQ (w : World) (B : Nat) (v : Value) (l : List (Fun × Value)) : Prop := w.ownsRow B 41 4 v l.length (flatF l) ∧ Lies w B l
theorem OwnQ.made (w : World) : OwnQ (w.alloc (.cells #[] 41)) w.heap.size (.slice (some ⟨w.heap.size, 0, none⟩) 0 0) [] :=
  ⟨World.ownsRow_made w #[] 0 (Nat.le_refl _) (by decide) rfl, fun x hx => by simp at hx⟩
theorem OwnQ.prog {w : World} {B : Nat} {v : Value} {l : List (Fun × Value)} (h : OwnQ w B v l) (hB : B ≤ w.heap.size) : ∃ A c, v = .slice A (l.map (·.1)).length c ∧ ProgAt w w.heap.size A (l.map (·.1)) := by
  obtain ⟨h, hcd⟩ := h
  rw [List.length_map]
  have hc := fun g hg => h.cells (g := g) hg
  have hlt := h.lt
  rcases h.2 with ⟨rfl, h0⟩ | ⟨g, cap, cur, rfl, _⟩
  · have e : l = [] := List.eq_nil_of_length_eq_zero h0
    subst e
    exact ⟨none, 0, rfl, ProgAt.nil _ _ _⟩
  · refine ⟨_, _, rfl, fun _ => ⟨g, 0, rfl, (hlt g rfl).2, fun j hj => ?_⟩⟩
    have hj' : j < l.length := by simpa using hj
    obtain ⟨e0, e1, e2, e3⟩ := flatF_at l j hj'
    have k0 := hc g rfl _ _ e0
    have k1 := hc g rfl _ _ e1
    have k2 := hc g rfl _ _ e2
    have k3 := hc g rfl _ _ e3
    rw [addr_add] at k0 k1 k2 k3
    obtain ⟨A, c, e4, hcode⟩ := hcd _ (List.getElem_mem hj')
    rw [e4] at k3
    simp only [List.getElem_map]
    exact ⟨k0, k1, k2, A, c, k3, hcode.more hB⟩
theorem infoFq : (Tryz.prog.info? 41).map (fun i => (i.zero, i.size, i.bytes)) = some (some (.agg #[.int .i64 0, .int .i64 0, .int .i64 0, .slice none 0 0]), 4, 48) := by kernel_rfl
/-- A program appended. -/
theorem wpList_append_prog {w : World} {ops : Array Oper} {rest : List Oper} {o : Oper} {a : Act} {Q : Exit → Act → World → Prop} (t : TypeId) (ht : Tryz.prog.underlying t = some (.slice 41))
    (hg : o.guard = none) (s x : Operand) (hop : o.op = Op.call { callee := Callee.builtin Builtin.append, args := #[s, x], argTypes := #[t, t] })
    (B : Nat) (v : Value) (l : List (Fun × Value)) (hs : a.eval s = v) (own : OwnQ w B v l) {A : Option Addr} {p : List Fun} {c : Nat} (hx : a.eval x = .slice A p.length c) (hp : ProgAt w B A p)
    (h1 : 1 ≤ p.length) (hlen : l.length + p.length ≤ 1000000) (hB : B ≤ w.heap.size)
    (h : ∀ v' w' l', l'.map (·.1) = p → OwnQ w' B v' (l ++ l') → Below B w w' → wpList Tryz.prog ops Q rest (a.put o.dst v') w') : wpList Tryz.prog ops Q (o :: rest) a w := by
  obtain ⟨b, off, rfl, hbB, hf⟩ := hp (by omega)
  obtain ⟨l', e, hl, hn, ho⟩ := cells_news p w B b off hf
  obtain ⟨q, hi, hz0, hz1, hz2⟩ := info_parts infoFq
  have hpl : p.length = l'.length := by rw [← e, List.length_map]
  refine wpList_append_own _ hg s x t hop B 41 q (.agg #[.int .i64 0, .int .i64 0, .int .i64 0, .slice none 0 0]) 4 48 ht hi hz0 hz1 hz2 rfl (by decide) v l.length (flatF l) hs own.1 ⟨b, off, none⟩ p.length c
    (flatF l') hx (by rw [flatF_len, hpl]) (fun j u hj => by rw [addr_add]; exact hn j u hj) ho (by unfold maxLen; omega) (by omega) hB ?_
  intro v' w' k1 k2 _
  have hb : Below B w w' := (Below.refl B w).grown k2 hB (fun k hk => (own.1.lt k hk).1)
  refine h v' w' l' e ⟨?_, fun y hy => ?_⟩ hb
  · rw [List.length_append, ← hpl]
    have : flatF (l ++ l') = flatF l ++ flatF l' := by simp [flatF]
    rw [this]
    exact k1
  · rcases List.mem_append.1 hy with hy | hy
    · exact (own.2.below hb (Nat.le_refl _)) y hy
    · exact (hl.below hb (Nat.le_refl _)) y hy
theorem both_len {p : List Fun} {l : List (Fun × Value)} {n : Nat} (e : l.map (·.1) = p) (h : p.length + n ≤ 1000000) : (([] : List (Fun × Value)) ++ l).length + n ≤ 1000000 := by
  rw [← e, List.length_map] at h
  exact h
theorem both_prog {p q r : List Fun} (hr : p ++ q = r) {w : World} {B : Nat} {v : Value} {l m : List (Fun × Value)} (e : l.map (·.1) = p) (f : m.map (·.1) = q) (h : OwnQ w B v (([] ++ l) ++ m)) (hB : B ≤ w.heap.size) :
    ∃ A c, v = .slice A r.length c ∧ ProgAt w w.heap.size A r := by
  have := h.prog hB
  rw [List.nil_append, List.map_append, e, f, hr] at this
  exact this
end Go.Proofs.YtagjddnpaahebaaGreatDoor

/- A call's own copies: of a code, of a program; an element of them stored anew. -/
namespace Go.Proofs.YtagjddnpaahebaaGreatDoor
set_option linter.unusedVariables false
set_option linter.unusedSimpArgs false
open Go.RowKit Go.ChangeShapes Go.WideShapes Go.ChangeAt Go.Sort

/-- A code appended. -/
theorem wpList_append_code {w : World} {ops : Array Oper} {rest : List Oper} {o : Oper} {a : Act} {Q : Exit → Act → World → Prop}
    (hg : o.guard = none) (s x : Operand) (hop : o.op = Op.call { callee := Callee.builtin Builtin.append, args := #[s, x], argTypes := #[39, 39] })
    (B : Nat) (v : Value) (l : List Ins) (hs : a.eval s = v) (own : OwnC w B v l) {A : Option Addr} {k : List Ins} {c C : Nat} (hx : a.eval x = .slice A k.length c) (hc : CodeAt w C A k)
    (h1 : 1 ≤ k.length) (hlen : l.length + k.length ≤ 1000000) (hB : B ≤ w.heap.size)
    (h : ∀ g cap w', OwnC w' B (.slice (some ⟨g, 0, none⟩) (l.length + k.length) cap) (l ++ k) → Below B w w' → B ≤ g → g < w'.heap.size → wpList Tryz.prog ops Q rest (a.put o.dst (.slice (some ⟨g, 0, none⟩) (l.length + k.length) cap)) w') : wpList Tryz.prog ops Q (o :: rest) a w := by
  obtain ⟨b, off, rfl, hbC, hf⟩ := hc (by omega)
  obtain ⟨q, hi, hz0, hz1, hz2⟩ := info_parts infoIn
  refine wpList_append_lies _ hg s x 39 hop B 44 q (.agg #[.int .i64 0, .int .i64 0, .int .i64 0]) 3 24 Tryz.underlying39 hi hz0 hz1 hz2 rfl (by decide) v l.length (flatI l) hs own ⟨b, off, none⟩ k.length c
    (flatI k) hx (flatI_len k) (fun j u hj => ?_) (fun u hu => ?_) (by omega) (by unfold maxLen; omega) (by omega) hB _ rfl ?_
  · rw [addr_add]
    have hjl : j < (flatI k).length := by
      rcases Nat.lt_or_ge j (flatI k).length with h | h
      · exact h
      · rw [List.getElem?_eq_none h] at hj; cases hj
    rw [flatI_len] at hjl
    have hd : j = j / 3 * 3 + j % 3 := by omega
    obtain ⟨e0, e1, e2⟩ := flatI_at k (j / 3) (by omega)
    obtain ⟨c0, c1, c2⟩ := hf (j / 3) (by omega)
    have hm : j % 3 = 0 ∨ j % 3 = 1 ∨ j % 3 = 2 := by omega
    rcases hm with hm | hm | hm
    · rw [hm, Nat.add_zero] at hd
      rw [hd] at hj ⊢
      rw [e0] at hj
      rw [c0, hj]
    · rw [hm] at hd
      rw [hd] at hj ⊢
      rw [e1] at hj
      rw [show off + (j / 3 * 3 + 1) = off + j / 3 * 3 + 1 by omega, c1, hj]
    · rw [hm] at hd
      rw [hd] at hj ⊢
      rw [e2] at hj
      rw [show off + (j / 3 * 3 + 2) = off + j / 3 * 3 + 2 by omega, c2, hj]
  · unfold flatI at hu
    obtain ⟨y, _, hy⟩ := List.mem_flatMap.1 hu
    simp at hy
    rcases hy with rfl | rfl | rfl <;> rfl
  · intro g cap w' k1 k2 k3 k4
    have hb : Below B w w' := (Below.refl B w).grown k2 hB (fun j hj => (own.lt j hj).1)
    have hgB : B ≤ g := by
      rcases k3 with k3 | k3
      · exact (own.lt g k3).1
      · omega
    refine h g cap w' ?_ hb hgB k4
    unfold OwnC
    rw [List.length_append]
    have : flatI (l ++ k) = flatI l ++ flatI k := by simp [flatI]
    rw [this]
    exact k1
theorem flatI_set : ∀ (l : List Ins) (k : Nat) (y : Ins), k < l.length → (((flatI l).set (k * 3) (.int .i64 y.1)).set (k * 3 + 1) (.int .i64 y.2.1)).set (k * 3 + 2) (.int .i64 y.2.2) = flatI (l.set k y)
  | z :: l, 0, y, _ => rfl
  | z :: l, k + 1, y, h => by
    have ih := flatI_set l k y (by simpa using h)
    rw [List.set_cons_succ, show (k + 1) * 3 = k * 3 + 3 by omega]
    show .int .i64 z.1 :: .int .i64 z.2.1 :: .int .i64 z.2.2 :: (((flatI l).set (k * 3) _).set (k * 3 + 1) _).set (k * 3 + 2) _ = .int .i64 z.1 :: .int .i64 z.2.1 :: .int .i64 z.2.2 :: flatI (l.set k y)
    rw [ih]
theorem flatF_set : ∀ (l : List (Fun × Value)) (k : Nat) (y : Fun × Value), k < l.length → ((((flatF l).set (k * 4) (.int .i64 y.1.ar)).set (k * 4 + 1) (.int .i64 y.1.lo)).set (k * 4 + 2) (.int .i64 y.1.sl)).set (k * 4 + 3) y.2 = flatF (l.set k y)
  | z :: l, 0, y, _ => rfl
  | z :: l, k + 1, y, h => by
    have ih := flatF_set l k y (by simpa using h)
    rw [List.set_cons_succ, show (k + 1) * 4 = k * 4 + 4 by omega]
    show .int .i64 z.1.ar :: .int .i64 z.1.lo :: .int .i64 z.1.sl :: z.2 :: ((((flatF l).set (k * 4) _).set (k * 4 + 1) _).set (k * 4 + 2) _).set (k * 4 + 3) _ = .int .i64 z.1.ar :: .int .i64 z.1.lo :: .int .i64 z.1.sl :: z.2 :: flatF (l.set k y)
    rw [ih]
/-- An instruction stored in the call's own code. -/
theorem OwnC.set {w : World} {B g cap n : Nat} {l : List Ins} (h : OwnC w B (.slice (some ⟨g, 0, none⟩) n cap) l) (hn : l.length = n) (k : Nat) (y : Ins) (hk : k < l.length) :
    OwnC (((w.setCell ⟨g, k * 3, none⟩ (.int .i64 y.1)).setCell ⟨g, k * 3 + 1, none⟩ (.int .i64 y.2.1)).setCell ⟨g, k * 3 + 2, none⟩ (.int .i64 y.2.2)) B (.slice (some ⟨g, 0, none⟩) n cap) (l.set k y) := by
  subst hn
  unfold OwnC at *
  rw [List.length_set, ← flatI_set l k y hk]
  exact (((h.stored (k * 3) _).1.stored (k * 3 + 1) _).1.stored (k * 3 + 2) _).1
/-- A function stored in the call's own program. -/
theorem row_set4 {w : World} {B g cap n : Nat} {l : List (Fun × Value)} (h : w.ownsRow B 41 4 (.slice (some ⟨g, 0, none⟩) n cap) n (flatF l)) (k : Nat) (y : Fun × Value) (hk : k < l.length) :
    ((((w.setCell ⟨g, k * 4, none⟩ (.int .i64 y.1.ar)).setCell ⟨g, k * 4 + 1, none⟩ (.int .i64 y.1.lo)).setCell ⟨g, k * 4 + 2, none⟩ (.int .i64 y.1.sl)).setCell ⟨g, k * 4 + 3, none⟩ y.2).ownsRow B 41 4 (.slice (some ⟨g, 0, none⟩) n cap) n (flatF (l.set k y)) := by
  rw [← flatF_set l k y hk]
  exact ((((h.stored (k * 4) _).1.stored (k * 4 + 1) _).1.stored (k * 4 + 2) _).1.stored (k * 4 + 3) _).1
/-- A program out of a row whose codes lie anywhere. -/
theorem prog_of_row {w : World} {B g cap : Nat} {l : List (Fun × Value)} (h : w.ownsRow B 41 4 (.slice (some ⟨g, 0, none⟩) l.length cap) l.length (flatF l)) (hl : Lies w w.heap.size l) : ProgAt w w.heap.size (some ⟨g, 0, none⟩) (l.map (·.1)) := by
  have hlt := (h.lt g rfl).2
  refine fun _ => ⟨g, 0, rfl, hlt, fun j hj => ?_⟩
  have hj' : j < l.length := by simpa using hj
  obtain ⟨e0, e1, e2, e3⟩ := flatF_at l j hj'
  have k0 := (h.cellAt (j * 4) (by omega)).trans e0
  have k1 := (h.cellAt (j * 4 + 1) (by omega)).trans e1
  have k2 := (h.cellAt (j * 4 + 2) (by omega)).trans e2
  have k3 := (h.cellAt (j * 4 + 3) (by omega)).trans e3
  obtain ⟨A, c, e4, hcode⟩ := hl _ (List.getElem_mem hj')
  rw [e4] at k3
  simp only [List.getElem_map, Nat.zero_add]
  exact ⟨k0, k1, k2, A, c, k3, hcode⟩
theorem row_heap {w w' : World} {B n size g m cap : Nat} {e : TypeId} {xs : List Value} (h : w.ownsRow B e size (.slice (some ⟨g, 0, none⟩) m cap) n xs) (hh : w'.heap[g]? = w.heap[g]?) : w'.ownsRow B e size (.slice (some ⟨g, 0, none⟩) m cap) n xs := by
  refine ⟨h.1, ?_⟩
  rcases h.2 with ⟨h', _⟩ | ⟨g', cap', cur, h', hb, hg, r⟩
  · simp at h'
  · have hgg : g' = g := by simp at h'; omega
    subst hgg
    exact .inr ⟨g', cap', cur, h', hb, hh.trans hg, r⟩
theorem OwnC.made1 (w : World) (o : Obj) : OwnC ((w.alloc o).alloc (.cells #[] 44)) (w.heap.size + 1) (.slice (some ⟨w.heap.size + 1, 0, none⟩) 0 0) [] := by
  have := World.ownsRow_made (base := (w.alloc o).heap.size) (e := 44) (size := 3) (w.alloc o) #[] 0 (Nat.le_refl _) (by decide) rfl
  unfold OwnC
  simpa [flatI] using this
/-- What is known of a copy of a program, and of one of its functions. -/
theorem copy_open {w : World} {B : Nat} {v : Value} {p : List Fun} {l : List (Fun × Value)} (e : l.map (·.1) = p) (h : OwnQ w B v ([] ++ l)) {k : Nat} (hk : k < p.length) :
    ∃ g cap A c, v = .slice (some ⟨g, 0, none⟩) p.length cap ∧ B ≤ g ∧ g < w.heap.size ∧ w.ownsRow B 41 4 (.slice (some ⟨g, 0, none⟩) p.length cap) p.length (flatF l) ∧ Lies w B l ∧ CodeAt w B A p[k].code ∧
      w.cell? ⟨g, k * 4, none⟩ = some (.int .i64 p[k].ar) ∧ w.cell? ⟨g, k * 4 + 1, none⟩ = some (.int .i64 p[k].lo) ∧ w.cell? ⟨g, k * 4 + 2, none⟩ = some (.int .i64 p[k].sl) ∧ w.cell? ⟨g, k * 4 + 3, none⟩ = some (.slice A p[k].code.length c) := by
  rw [List.nil_append] at h
  have hl : l.length = p.length := by rw [← e, List.length_map]
  obtain ⟨h1, h2⟩ := h
  rw [hl] at h1
  obtain ⟨g, cap, rfl, hg1, hg2⟩ := h1.form (by omega)
  have hkl : k < l.length := by omega
  obtain ⟨e0, e1, e2, e3⟩ := flatF_at l k hkl
  have k0 := (h1.cellAt (k * 4) (by omega)).trans e0
  have k1 := (h1.cellAt (k * 4 + 1) (by omega)).trans e1
  have k2 := (h1.cellAt (k * 4 + 2) (by omega)).trans e2
  have k3 := (h1.cellAt (k * 4 + 3) (by omega)).trans e3
  obtain ⟨A, c, e4, hcode⟩ := h2 _ (List.getElem_mem hkl)
  have hpk : p[k] = l[k].1 := by subst e; simp
  rw [hpk]
  rw [e4] at k3
  exact ⟨g, cap, A, c, rfl, hg1, hg2, h1, h2, hcode, k0, k1, k2, k3⟩
/-- The copy's function stored anew, out of a box, whose code is the call's own. -/
theorem after_store {u : World} {B x g cap k : Nat} {l : List (Fun × Value)} {p : List Fun} (e : l.map (·.1) = p) (hr : u.ownsRow B 41 4 (.slice (some ⟨g, 0, none⟩) p.length cap) p.length (flatF l)) (hl : Lies u B l) (hk : k < p.length) (f : Fun) {A : Option Addr} {c : Nat} (y : Value)
    (ho : OwnC u (x + 1) (.slice A f.code.length c) f.code) (hgx : g < x) (hBg : B ≤ g) (hBu : B ≤ u.heap.size) :
    ProgAt (((((u.setCell ⟨x, 3, none⟩ y).setCell ⟨g, k * 4, none⟩ (.int .i64 f.ar)).setCell ⟨g, k * 4 + 1, none⟩ (.int .i64 f.lo)).setCell ⟨g, k * 4 + 2, none⟩ (.int .i64 f.sl)).setCell ⟨g, k * 4 + 3, none⟩ (.slice A f.code.length c))
      (((((u.setCell ⟨x, 3, none⟩ y).setCell ⟨g, k * 4, none⟩ (.int .i64 f.ar)).setCell ⟨g, k * 4 + 1, none⟩ (.int .i64 f.lo)).setCell ⟨g, k * 4 + 2, none⟩ (.int .i64 f.sl)).setCell ⟨g, k * 4 + 3, none⟩ (.slice A f.code.length c)).heap.size (some ⟨g, 0, none⟩) (p.set k f) ∧
    Below B u (((((u.setCell ⟨x, 3, none⟩ y).setCell ⟨g, k * 4, none⟩ (.int .i64 f.ar)).setCell ⟨g, k * 4 + 1, none⟩ (.int .i64 f.lo)).setCell ⟨g, k * 4 + 2, none⟩ (.int .i64 f.sl)).setCell ⟨g, k * 4 + 3, none⟩ (.slice A f.code.length c)) := by
  have hlp : l.length = p.length := by rw [← e, List.length_map]
  have hb : Below B u (((((u.setCell ⟨x, 3, none⟩ y).setCell ⟨g, k * 4, none⟩ (.int .i64 f.ar)).setCell ⟨g, k * 4 + 1, none⟩ (.int .i64 f.lo)).setCell ⟨g, k * 4 + 2, none⟩ (.int .i64 f.sl)).setCell ⟨g, k * 4 + 3, none⟩ (.slice A f.code.length c)) :=
    (((((Below.refl B u).setCell (p := ⟨x, 3, none⟩) (by show B ≤ x; omega) y).setCell (p := ⟨g, k * 4, none⟩) hBg _).setCell (p := ⟨g, k * 4 + 1, none⟩) hBg _).setCell (p := ⟨g, k * 4 + 2, none⟩) hBg _).setCell (p := ⟨g, k * 4 + 3, none⟩) hBg _
  have r1 := row_heap (w' := u.setCell ⟨x, 3, none⟩ y) hr (Below.heap_setCell u ⟨x, 3, none⟩ y g (by show g ≠ x; omega))
  have r2 := row_set4 r1 k (f, .slice A f.code.length c) (by omega)
  have hox : ∀ b, (Value.slice A f.code.length c).ownBlock = some b → x + 1 ≤ b := fun b hb => (ho.lt b hb).1
  have o1 := ((((ho.grown (grown_set u x 3 y) (fun b hb h => by have := hox b hb; cases h; omega)).grown (grown_set _ g (k * 4) (.int .i64 f.ar)) (fun b hb h => by have := hox b hb; cases h; omega)).grown (grown_set _ g (k * 4 + 1) (.int .i64 f.lo)) (fun b hb h => by have := hox b hb; cases h; omega)).grown (grown_set _ g (k * 4 + 2) (.int .i64 f.sl)) (fun b hb h => by have := hox b hb; cases h; omega)).grown (grown_set _ g (k * 4 + 3) (.slice A f.code.length c)) (fun b hb h => by have := hox b hb; cases h; omega)
  obtain ⟨A', c', e', hc⟩ := o1.code
  simp only [Value.slice.injEq, true_and] at e'
  obtain ⟨rfl, rfl⟩ := e'
  refine ⟨?_, hb⟩
  have hmap : (l.set k (f, .slice A f.code.length c)).map (·.1) = p.set k f := by rw [List.map_set, e]
  have hll : (l.set k (f, Value.slice A f.code.length c)).length = p.length := by rw [List.length_set, hlp]
  rw [← hmap]
  refine prog_of_row (B := B) (cap := cap) (by rw [hll]; exact r2) (fun z hz => ?_)
  rcases List.mem_or_eq_of_mem_set hz with hz | rfl
  · obtain ⟨A2, c2, e2, hc2⟩ := hl z hz
    exact ⟨A2, c2, e2, (hc2.below hb (Nat.le_refl _)).more (Nat.le_trans hBu hb.size)⟩
  · exact ⟨A, c, rfl, hc⟩
/-- The copy's function stored anew, out of a box, whose code is the call's own. -/
theorem after_store2 {u : World} {B x g cap k : Nat} {l : List (Fun × Value)} {p : List Fun} (e : l.map (·.1) = p) (hr : u.ownsRow B 41 4 (.slice (some ⟨g, 0, none⟩) p.length cap) p.length (flatF l)) (hl : Lies u B l) (hk : k < p.length) (f : Fun) {A : Option Addr} {c : Nat}
    (ho : OwnC u (x + 1) (.slice A f.code.length c) f.code) (hgx : g < x) (hBg : B ≤ g) (hBu : B ≤ u.heap.size) :
    ProgAt ((((u.setCell ⟨g, k * 4, none⟩ (.int .i64 f.ar)).setCell ⟨g, k * 4 + 1, none⟩ (.int .i64 f.lo)).setCell ⟨g, k * 4 + 2, none⟩ (.int .i64 f.sl)).setCell ⟨g, k * 4 + 3, none⟩ (.slice A f.code.length c))
      ((((u.setCell ⟨g, k * 4, none⟩ (.int .i64 f.ar)).setCell ⟨g, k * 4 + 1, none⟩ (.int .i64 f.lo)).setCell ⟨g, k * 4 + 2, none⟩ (.int .i64 f.sl)).setCell ⟨g, k * 4 + 3, none⟩ (.slice A f.code.length c)).heap.size (some ⟨g, 0, none⟩) (p.set k f) ∧
    Below B u ((((u.setCell ⟨g, k * 4, none⟩ (.int .i64 f.ar)).setCell ⟨g, k * 4 + 1, none⟩ (.int .i64 f.lo)).setCell ⟨g, k * 4 + 2, none⟩ (.int .i64 f.sl)).setCell ⟨g, k * 4 + 3, none⟩ (.slice A f.code.length c)) := by
  have hlp : l.length = p.length := by rw [← e, List.length_map]
  have hb : Below B u ((((u.setCell ⟨g, k * 4, none⟩ (.int .i64 f.ar)).setCell ⟨g, k * 4 + 1, none⟩ (.int .i64 f.lo)).setCell ⟨g, k * 4 + 2, none⟩ (.int .i64 f.sl)).setCell ⟨g, k * 4 + 3, none⟩ (.slice A f.code.length c)) :=
    ((((Below.refl B u).setCell (p := ⟨g, k * 4, none⟩) hBg _).setCell (p := ⟨g, k * 4 + 1, none⟩) hBg _).setCell (p := ⟨g, k * 4 + 2, none⟩) hBg _).setCell (p := ⟨g, k * 4 + 3, none⟩) hBg _
  have r2 := row_set4 hr k (f, .slice A f.code.length c) (by omega)
  have hox : ∀ b, (Value.slice A f.code.length c).ownBlock = some b → x + 1 ≤ b := fun b hb => (ho.lt b hb).1
  have o1 := (((ho.grown (grown_set u g (k * 4) (.int .i64 f.ar)) (fun b hb h => by have := hox b hb; cases h; omega)).grown (grown_set _ g (k * 4 + 1) (.int .i64 f.lo)) (fun b hb h => by have := hox b hb; cases h; omega)).grown (grown_set _ g (k * 4 + 2) (.int .i64 f.sl)) (fun b hb h => by have := hox b hb; cases h; omega)).grown (grown_set _ g (k * 4 + 3) (.slice A f.code.length c)) (fun b hb h => by have := hox b hb; cases h; omega)
  obtain ⟨A', c', e', hc⟩ := o1.code
  simp only [Value.slice.injEq, true_and] at e'
  obtain ⟨rfl, rfl⟩ := e'
  refine ⟨?_, hb⟩
  have hmap : (l.set k (f, .slice A f.code.length c)).map (·.1) = p.set k f := by rw [List.map_set, e]
  have hll : (l.set k (f, Value.slice A f.code.length c)).length = p.length := by rw [List.length_set, hlp]
  rw [← hmap]
  refine prog_of_row (B := B) (cap := cap) (by rw [hll]; exact r2) (fun z hz => ?_)
  rcases List.mem_or_eq_of_mem_set hz with hz | rfl
  · obtain ⟨A2, c2, e2, hc2⟩ := hl z hz
    exact ⟨A2, c2, e2, (hc2.below hb (Nat.le_refl _)).more (Nat.le_trans hBu hb.size)⟩
  · exact ⟨A, c, rfl, hc⟩
theorem wpList_wants {P : Program} {w : World} {ops : Array Oper} {rest : List Oper} {o : Oper} {a : Act} {Q : Exit → Act → World → Prop}
    (hw : Region.wanted o (yielded ops a.tmps) = true) (h : wpList P ops Q ({ o with guard := none } :: rest) a w) : wpList P ops Q (o :: rest) a w := by
  unfold wpList at h ⊢
  rw [if_pos hw]
  rw [if_pos (by simp [Region.wanted])] at h
  exact h
/-- Ints appended, that lie in a block of their own. -/
theorem wpList_append_list {w : World} {ops : Array Oper} {rest : List Oper} {o : Oper} {a : Act} {Q : Exit → Act → World → Prop}
    (hg : o.guard = none) (s x : Operand) (hop : o.op = Op.call { callee := Callee.builtin Builtin.append, args := #[s, x], argTypes := #[70, 70] })
    (B : Nat) (v : Value) (xs : List Value) (hs : a.eval s = v) (own : OwnV w B 3 v xs) {C : Nat} {y : Value} {l : List Int} (hx : a.eval x = y) (hy : LstAt w C y l)
    (h1 : 1 ≤ l.length) (hlen : xs.length + l.length ≤ 1000000) (hB : B ≤ w.heap.size)
    (h : ∀ v' w', OwnV w' B 3 v' (xs ++ l.map fun n => .int .i64 n) → Below B w w' → wpList Tryz.prog ops Q rest (a.put o.dst v') w') : wpList Tryz.prog ops Q (o :: rest) a w := by
  rcases hy with ⟨rfl, _⟩ | ⟨b, rfl, _, hb⟩
  · simp at h1
  · unfold OwnV at own
    obtain ⟨i, hi, hz0, hz1, hz2⟩ := info_parts infoI
    refine wpList_append_own _ hg s x 70 hop B 3 i (.int .i64 0) 1 8 Tryz.underlying70 hi hz0 hz1 hz2 rfl (by decide) v xs.length xs hs own ⟨b, 0, none⟩ l.length l.length (l.map fun n => .int .i64 n) hx (by simp) (fun j u hj => ?_) (fun u hu => ?_) (by unfold maxLen; omega) (by omega) hB ?_
    · rw [addr_add, Nat.zero_add, hb.cell]
      simpa using hj
    · obtain ⟨n, _, rfl⟩ := List.mem_map.1 hu
      rfl
    · intro v' w' k1 k2 _
      refine h v' w' ?_ ((Below.refl B w).grown k2 hB (fun k hk => (own.lt k hk).1))
      unfold OwnV
      simpa using k1
theorem run_zero (w : World) (g c c2 : Nat) (A : Option Addr) (ty : TypeId) : (Builtin.append_ #[39, 39] ty #[.slice (some ⟨g, 0, none⟩) 0 c, .slice A 0 c2]).run Tryz.prog w = .ok (.slice (some ⟨g, 0, none⟩) 0 c) w := by
  obtain ⟨i, hi, hz0, hz1, hz2⟩ := info_parts infoIn
  cases A <;> simp [Builtin.append_, run_underlying Tryz.underlying39, sizeOf, typeInfo, hi, storeCells, loadCellsFrom, Builtin.lenOf, Builtin.firstCells, loadCells]
/-- A code appended to what was just made: be it empty or not. -/
theorem wpList_append_code0 {w : World} {ops : Array Oper} {rest : List Oper} {o : Oper} {a : Act} {Q : Exit → Act → World → Prop}
    (hg : o.guard = none) (s x : Operand) (hop : o.op = Op.call { callee := Callee.builtin Builtin.append, args := #[s, x], argTypes := #[39, 39] })
    (w0 : World) (o1 : Obj) (hw : w = (w0.alloc o1).alloc (.cells #[] 44)) (hs : a.eval s = .slice (some ⟨w0.heap.size + 1, 0, none⟩) 0 0) {A : Option Addr} {k : List Ins} {c C : Nat} (hx : a.eval x = .slice A k.length c) (hc : CodeAt w C A k)
    (hlen : k.length ≤ 1000000)
    (h : ∀ g cap w', OwnC w' (w0.heap.size + 1) (.slice (some ⟨g, 0, none⟩) k.length cap) k → Below (w0.heap.size + 1) w w' → w0.heap.size + 1 ≤ g → g < w'.heap.size → wpList Tryz.prog ops Q rest (a.put o.dst (.slice (some ⟨g, 0, none⟩) k.length cap)) w') : wpList Tryz.prog ops Q (o :: rest) a w := by
  subst hw
  by_cases hk : k = []
  · subst hk
    refine wpList_plain hg fun K hK' => ?_
    have hr := fun ty => run_zero ((w0.alloc o1).alloc (.cells #[] 44)) (w0.heap.size + 1) 0 c A ty
    have hx2 : a.eval x = .slice A 0 c := hx
    unfold Oper.wp execOp
    simp only [hop, resolve, invoke, builtin, Sem.run_bind, Sem.run_pure, Result.andThen_ok, List.map_toArray, List.map_cons, List.map_nil, hs, hx2, hr]
    exact hK' _ _ (h (w0.heap.size + 1) 0 _ (OwnC.made1 w0 o1) (Below.refl _ _) (Nat.le_refl _) (by simp))
  · have h1 : 1 ≤ k.length := by
      cases k with
      | nil => exact absurd rfl hk
      | cons y ys => simp
    refine wpList_append_code hg s x hop (w0.heap.size + 1) _ [] hs (OwnC.made1 w0 o1) hx hc h1 (by simpa using hlen) (by simp) fun g cap w' k1 k2 k3 k4 => ?_
    simp only [List.length_nil, Nat.zero_add, List.nil_append] at k1
    have := h g cap w' k1 k2 k3 k4
    simpa using this
end Go.Proofs.YtagjddnpaahebaaGreatDoor

/- Layer 7: the document's Parse, with what it answers in memory of its own. -/
namespace Go.Proofs.YtagjddnpaahebaaGreatDoor
set_option linter.unusedVariables false
set_option linter.unusedSimpArgs false
open Go.RowKit Go.ChangeShapes Go.WideShapes Go.ChangeAt Go.Sort

theorem OwnL.mono {w : World} {B C : Nat} {v : Value} {l : List (Fun × Value)} (h : OwnL w B v l) (hC : C ≤ B) : OwnL w C v l :=
  ⟨⟨h.1.1, h.1.2.imp id fun ⟨g, cap, cur, e, hb, r⟩ => ⟨g, cap, cur, e, Nat.le_trans hC hb, r⟩⟩, fun x hx => (h.2.1 x hx).mono hC, h.2.2⟩
/-- What the document's Parse answers: memory of its own. -/
def ParO (w : World) (l : List UInt8) (e : Ending) (w' : World) : Prop :=
  ∃ v L, e = .returned (.tuple #[v, .int .i64 (parseP l).2.1, .int .i64 (parseP l).2.2]) ∧ OwnL w' w.heap.size v L ∧ L.map (·.1) = (parseP l).1 ∧ Below w.heap.size w w'

set_option maxHeartbeats 4000000 in
set_option maxRecDepth 100000 in
theorem pparse_own (l : List UInt8) (w : World) (hl : l.length ≤ 1000000) :
    Calls Tryz.prog 26 #[.string ⟨l.toArray⟩] w fun e w' => ParO w l e w' := by
  cases hs : splitL 10 l with
  | nil => exact absurd hs (splitL_ne 10 l)
  | cons w0 rest =>
    have S := Lib.hid (psplit_cells 10 hs hl w)
    rw [show ((10 : UInt8).toNat : Int) = 10 from rfl] at S
    have hwl : ∀ x ∈ w0 :: rest, x.length ≤ 1000000 := fun x hx => by
      have := split_len (c := 10) (l := l) x (by rw [hs]; exact hx)
      omega
    have HWL := Lib.hid hwl
    have HE := Lib.hid (fun (p : List Fun) h => parse_end hs (p := p) h)
    have HS := Lib.hid (fun (p : List Fun) n h => parse_stop hs (p := p) (n := n) h)
    have hlen : rest.length ≤ 1000000 := by
      have h1 := joinC_len 10 (splitL 10 l)
      rw [join_split, hs, List.length_cons] at h1
      omega
    clear hs hwl
    go_enter Tryz.func26, Tryz.ntmps26
    go_wp2_with (go_at_call 44; (with_reducible refine S.out.mono ?_); rintro e u ⟨g, cs, rfl, hg1, hg2, hcell, hbu⟩; have HCE := Lib.hid hcell; clear hcell)
    go_loopw [6, 7] (fun v iv wr => ∃ (k : Nat) (L : List (Fun × Value)), iv = .int .i64 k ∧ k ≤ rest.length ∧ OwnL wr u.heap.size v L ∧ L.length ≤ 16 ∧ (∀ x ∈ L, x.1.code.length ≤ 200) ∧ Below u.heap.size u wr ∧
      runL [] (w0 :: rest).dropLast = ((runL (L.map (·.1)) ((w0 :: rest).dropLast.drop k)).1, k + (runL (L.map (·.1)) ((w0 :: rest).dropLast.drop k)).2.1, (runL (L.map (·.1)) ((w0 :: rest).dropLast.drop k)).2.2)) (fun _ iv _ => rest.length - (intOf iv).toNat)
    case atStart => exact ⟨0, [], rfl, by omega, OwnL.made u, by simp, by simp, (Below.refl _ _).alloc (Nat.le_refl _) _, by simp⟩
    case round =>
      obtain ⟨k, L, rfl, hk, hO, h16, hc, hbr, hrun⟩ := hrel
      obtain ⟨Av, cv, rfl, hp⟩ := hO.prog
      by_cases hlt : k < rest.length
      · have hkk : k < (w0 :: rest).length := by simp; omega
        have c0 : wr.cell? ⟨g, k, none⟩ = some (.string ⟨((w0 :: rest)[k]).toArray⟩) := (hbr.cell (p := ⟨g, k, none⟩) hg2).trans (HCE.out k hkk)
        have hxl := HWL.out _ (List.getElem_mem hkk)
        rw [drop_last_cons (n := rest.length) (by simp) hlt] at hrun
        have hst : ∀ q, addQ (L.map (·.1)) ((w0 :: rest)[k]) = some q → runL [] (w0 :: rest).dropLast = ((runL q ((w0 :: rest).dropLast.drop (k + 1))).1, (k + 1) + (runL q ((w0 :: rest).dropLast.drop (k + 1))).2.1, (runL q ((w0 :: rest).dropLast.drop (k + 1))).2.2) := fun q hq => by
          rw [hrun, runL_some _ hq]
          simp only
          congr 2
          omega
        have hno : addQ (L.map (·.1)) ((w0 :: rest)[k]) = none → parseP l = ([], k, 70) := fun hq => by
          rw [runL_none _ hq] at hrun
          exact HS.out _ _ hrun
        have HST := Lib.hid hst
        have HNO := Lib.hid hno
        have P := play_any (l := (w0 :: rest)[k]) hxl wr hO hbr.size h16 hc
        have hsm := fun q (hq : addQ (L.map (·.1)) ((w0 :: rest)[k]) = some q) => addQ_small hq (by rw [List.length_map]; exact h16) (fun f hf => by
          obtain ⟨x, hx, rfl⟩ := List.mem_map.1 hf
          exact hc x hx)
        have HSM := Lib.hid hsm
        generalize (w0 :: rest)[k] = x at *
        have HP := Lib.hid P
        clear hst hno hrun hp P hsm hO hc hxl
        cases hq : addQ (L.map (·.1)) x with
        | none =>
          have HQ := Lib.hid hq
          have hpe := HNO.out hq
          clear hq
          go_wp2_with (go_at_call 45; (with_reducible refine HP.out.mono ?_); rintro e u2 ⟨v2, b, L2, rfl, hb2, ho2, _, hn2⟩; obtain rfl := hn2 HQ.out; obtain ⟨A2, c2, rfl, _⟩ := ho2.prog; have HPE := Lib.hid hpe; clear hn2 ho2 hpe)
          go_returns
          unfold ParO
          rw [HPE.out]
          exact ⟨.slice none 0 0, [], rfl, OwnL.nil _ _, rfl, Below.step hbu (hbr.trans hb2)⟩
        | some q =>
          have HQ := Lib.hid hq
          clear hq
          go_wp2_with (go_at_call 45; (with_reducible refine HP.out.mono ?_); rintro e u2 ⟨v2, b, L2, rfl, hb2, ho2, hs2, _⟩; obtain ⟨rfl, hm2⟩ := hs2 q HQ.out; obtain ⟨A2, c2, rfl, _⟩ := ho2.prog; have HO2 := Lib.hid ho2; have HM2 := Lib.hid hm2; clear hs2 ho2 hm2)
          go_round
          case rel =>
            obtain ⟨s1, s2⟩ := HSM.out q HQ.out
            rw [← HM2.out] at s1 s2
            refine ⟨k + 1, L2, by go_num, by omega, HO2.out, by rwa [List.length_map] at s1, fun y hy => s2 y.1 (List.mem_map.2 ⟨y, hy, rfl⟩), hbr.trans hb2, ?_⟩
            rw [HM2.out]
            exact HST.out q HQ.out
          case measure => simp [intOf]; omega
      · obtain rfl : k = rest.length := by omega
        rw [List.drop_of_length_le (by simp), runL_nil] at hrun
        have hpe := HE.out _ hrun
        have c0 : wr.cell? ⟨g, rest.length, none⟩ = some (.string ⟨((w0 :: rest)[rest.length]).toArray⟩) := (hbr.cell (p := ⟨g, rest.length, none⟩) hg2).trans (HCE.out rest.length (by simp))
        generalize (w0 :: rest)[rest.length] = x at *
        have hpl : (L.map (·.1)).length = L.length := List.length_map _
        have hsz : SizedP (L.map (·.1)) := ⟨by rw [hpl]; unfold maxLen; omega, fun f hf => by
          obtain ⟨y, hy, rfl⟩ := List.mem_map.1 hf
          have := hc y hy
          unfold maxLen
          omega⟩
        have PM := pmay_any cv wr hp hsz (Nat.le_refl _)
        rw [hpl] at PM
        have HP := Lib.hid hp
        have HPL := Lib.hid hpl
        have hwb := Below.step hbu hbr
        have HOO := Lib.hid (OwnL.mono hO hbu.size)
        clear hrun hp hsz hpl hO hc
        by_cases hx : x = []
        · subst hx
          cases hm : mayP (L.map (·.1)) with
          | true =>
            rw [hm] at PM
            rw [if_pos ⟨rfl, hm⟩] at hpe
            have HPE := Lib.hid hpe
            clear hpe hm
            go_wp2_with (go_at_call 39; (with_reducible refine PM.mono ?_); rintro e u2 ⟨rfl, hb2⟩)
            go_returns
            unfold ParO
            rw [HPE.out]
            exact ⟨_, L, rfl, HOO.out.below hb2, rfl, Below.step hwb hb2⟩
          | false =>
            rw [hm] at PM
            rw [if_neg (fun h => by rw [hm] at h; cases h.2)] at hpe
            have HPE := Lib.hid hpe
            clear hpe hm
            go_wp2_with (go_at_call 39; (with_reducible refine PM.mono ?_); rintro e u2 ⟨rfl, hb2⟩)
            go_returns
            unfold ParO
            rw [HPE.out]
            exact ⟨.slice none 0 0, [], rfl, OwnL.nil _ _, rfl, Below.step hwb hb2⟩
        · rw [if_neg (fun h => hx h.1)] at hpe
          have HPE := Lib.hid hpe
          have hne : (x == ([] : List UInt8)) = false := by simpa using hx
          clear hpe hx
          go_wp2_with fail
          go_returns
          unfold ParO
          rw [HPE.out]
          exact ⟨.slice none 0 0, [], rfl, OwnL.nil _ _, rfl, hwb⟩
end Go.Proofs.YtagjddnpaahebaaGreatDoor

/- Layer 10: a function as an argument, opened; programs of one function, of two. -/
namespace Go.Proofs.YtagjddnpaahebaaGreatDoor
set_option linter.unusedVariables false
set_option linter.unusedSimpArgs false
open Gm Go.RowKit Go.ChangeShapes Go.WideShapes Go.ChangeAt Go.Deep Go.Joins Go.Sort

theorem ciCode : Tryz.prog.cellsOf 39 = 1 := by kernel_rfl
theorem ciFn : Tryz.prog.cellsOf 41 = 4 := by kernel_rfl
theorem array4 {cs : Array Value} (h : cs.size = 4) : ∃ a b c d, cs = #[a, b, c, d] := by
  obtain ⟨l⟩ := cs
  match l, h with
  | [a, b, c, d], _ => exact ⟨a, b, c, d, rfl⟩
/-- A function's cells. -/
abbrev fnA (f : Fun) (A : Option Addr) (c : Nat) : Array Value := #[.int .i64 f.ar, .int .i64 f.lo, .int .i64 f.sl, .slice A f.code.length c]
set_option maxRecDepth 100000 in
theorem open_func {H : Type} {enc : TypeId × Value → H} {W : World} {base : Nat} {v : Value} {d : DataW H} {p : List MemPlace}
    (k : Value.okWide Tryz.prog W .any base 41 v) (h : DataW.Trod enc Tryz.prog W 0 (fun _ => true) true 41 v d p) :
    ∃ (f : Fun) (A : Option Addr) (c : Nat), v = .agg (fnA f A c) ∧ CodeAt W W.heap.size A f.code ∧ f.code.length ≤ maxLen := by
  obtain ⟨cs, rfl, hsz⟩ := okWide_struct Tryz.underlying41 k
  obtain ⟨c0, c1, c2, c3, rfl⟩ := array4 (hsz.trans ciFn)
  obtain ⟨fuel, hf⟩ := h
  obtain ⟨xs, n, _, _, hl, hlen, hg⟩ := DataW.trod_struct Tryz.underlying41 hf
  have hx : ∀ i, i < 4 → ∃ y, xs[i]? = some y := fun i hi => ⟨xs[i]'(by rw [hlen]; exact hi), List.getElem?_eq_getElem _⟩
  simp only [Value.cells] at hg
  clear hf hl hsz k
  obtain ⟨y0, e0⟩ := hx 0 (by omega)
  have g0 := (hg 0 _ rfl).trans e0
  simp [ci1, ciCode] at g0
  obtain ⟨y1, e1⟩ := hx 1 (by omega)
  have g1 := (hg 1 _ rfl).trans e1
  simp [ci1, ciCode] at g1
  obtain ⟨y2, e2⟩ := hx 2 (by omega)
  have g2 := (hg 2 _ rfl).trans e2
  simp [ci1, ciCode] at g2
  obtain ⟨y3, e3⟩ := hx 3 (by omega)
  have g3 := (hg 3 _ rfl).trans e3
  simp [ci1, ciCode] at g3
  obtain ⟨a, rfl⟩ := open_i g0
  obtain ⟨b, rfl⟩ := open_i g1
  obtain ⟨s, rfl⟩ := open_i g2
  obtain ⟨A, cc, l, h1, hC, hz⟩ := open_code g3
  simp only [List.cons.injEq, and_true] at h1
  subst h1
  exact ⟨⟨a, b, s, l⟩, A, cc, rfl, hC, hz⟩
/-- A program of one function, in a new block. -/
theorem one_prog {u : World} {f : Fun} {A : Option Addr} {c : Nat} (h : CodeAt u u.heap.size A f.code) :
    ProgAt (u.alloc (.cells (fnA f A c) 41)) (u.alloc (.cells (fnA f A c) 41)).heap.size (some ⟨u.heap.size, 0, none⟩) [f] := fun _ => by
  have hH := Held.new u 41 (fnA f A c)
  have hb : Below u.heap.size u (u.alloc (.cells (fnA f A c) 41)) := (Below.refl _ _).alloc (Nat.le_refl _) _
  refine ⟨_, _, rfl, hH.lt, fun j hj => ?_⟩
  obtain rfl : j = 0 := by simpa using hj
  exact ⟨hH.cell 0, hH.cell 1, hH.cell 2, A, c, hH.cell 3, (h.below hb (Nat.le_refl _)).more hb.size⟩
/-- The second of two functions of the call's own program is stored. -/
theorem two_prog {u : World} {B g cap : Nat} {x y : Fun × Value} {f : Fun} {A : Option Addr} {c : Nat} (h : OwnL u B (.slice (some ⟨g, 0, none⟩) 2 cap) [x, y]) (hA : CodeAt u B A f.code) (hB : B ≤ u.heap.size) :
    ProgAt (u.setCells g 4 (fnA f A c).toList) (u.setCells g 4 (fnA f A c).toList).heap.size (some ⟨g, 0, none⟩) [x.1, f] ∧ Below B u (u.setCells g 4 (fnA f A c).toList) := by
  have h1 := h.1.stored 4 (.int .i64 f.ar)
  have h2 := h1.1.stored 5 (.int .i64 f.lo)
  have h3 := h2.1.stored 6 (.int .i64 f.sl)
  have h4 := h3.1.stored 7 (.slice A f.code.length c)
  have hx : OwnC u B x.2 x.1.code := h.2.1 x (by simp)
  have n0 : ∀ b, x.2.ownBlock = some b → (some g : Option Nat) ≠ some b := fun b hb => own_ne hx h.1 b hb
  have oc := (((hx.grown h1.2 n0).grown h2.2 n0).grown h3.2 n0).grown h4.2 n0
  have hg := (h.1.lt g rfl).1
  have hbel : Below B u ((((u.setCell ⟨g, 4, none⟩ (.int .i64 f.ar)).setCell ⟨g, 5, none⟩ (.int .i64 f.lo)).setCell ⟨g, 6, none⟩ (.int .i64 f.sl)).setCell ⟨g, 7, none⟩ (.slice A f.code.length c)) :=
    ((((Below.refl B u).setCell (p := ⟨g, 4, none⟩) hg _).setCell (p := ⟨g, 5, none⟩) hg _).setCell (p := ⟨g, 6, none⟩) hg _).setCell (p := ⟨g, 7, none⟩) hg _
  have ew : u.setCells g 4 (fnA f A c).toList = ((((u.setCell ⟨g, 4, none⟩ (.int .i64 f.ar)).setCell ⟨g, 5, none⟩ (.int .i64 f.lo)).setCell ⟨g, 6, none⟩ (.int .i64 f.sl)).setCell ⟨g, 7, none⟩ (.slice A f.code.length c)) := rfl
  rw [ew]
  have hc := h4.1.cells (g := g) rfl
  have hlt := (h4.1.lt g rfl).2
  generalize ((((u.setCell ⟨g, 4, none⟩ (.int .i64 f.ar)).setCell ⟨g, 5, none⟩ (.int .i64 f.lo)).setCell ⟨g, 6, none⟩ (.int .i64 f.sl)).setCell ⟨g, 7, none⟩ (.slice A f.code.length c)) = W at *
  obtain ⟨Ax, cx, ex, hcx⟩ := oc.code
  have kk : ∀ j v, (((((flatF [x, y]).set 4 (.int .i64 f.ar)).set 5 (.int .i64 f.lo)).set 6 (.int .i64 f.sl)).set 7 (.slice A f.code.length c))[j]? = some v → W.cell? ⟨g, 0 + j, none⟩ = some v := fun j v hv => by
    have := hc j v hv
    rwa [addr_add] at this
  refine ⟨fun _ => ⟨g, 0, rfl, hlt, fun j hj => ?_⟩, hbel⟩
  match j, hj with
  | 0, _ =>
    exact ⟨kk 0 _ (by simp [flatF]), kk 1 _ (by simp [flatF]), kk 2 _ (by simp [flatF]), Ax, cx, kk 3 _ (by simp [flatF, ex]), hcx⟩
  | 1, _ =>
    exact ⟨kk 4 _ (by simp [flatF]), kk 5 _ (by simp [flatF]), kk 6 _ (by simp [flatF]), A, c, kk 7 _ (by simp [flatF]), (hA.below hbel (Nat.le_refl _)).more (Nat.le_trans hB hbel.size)⟩
/-- A program of two functions of the call's own: its block. -/
theorem own_two {u : World} {B : Nat} {v : Value} {L : List (Fun × Value)} {x y : Fun} (h : OwnL u B v L) (e : L.map (·.1) = [x, y]) :
    ∃ g cap a b, L = [a, b] ∧ a.1 = x ∧ v = .slice (some ⟨g, 0, none⟩) 2 cap ∧ B ≤ g ∧ u.there g 4 4 := by
  match L, e, h with
  | [a, b], e, h =>
    have ea : a.1 = x := by simp at e; exact e.1
    have hcells := fun g hg => h.1.cells (g := g) hg
    obtain ⟨_, h2⟩ := h.1
    rcases h2 with ⟨_, h0⟩ | ⟨g, cap, cur, rfl, hg, hb, _⟩
    · cases h0
    · refine ⟨g, cap, a, b, rfl, ea, rfl, hg, fun j hj => ⟨?_, fz_at hb _⟩⟩
      have hc := hcells g rfl
      have hj2 : 4 + j < (flatF [a, b]).length := by rw [flatF_len]; show 4 + j < 2 * 4; omega
      have := hc (4 + j) _ (List.getElem?_eq_getElem hj2)
      rw [addr_add, Nat.zero_add] at this
      rw [this]
      rfl
set_option maxHeartbeats 2000000 in
set_option maxRecDepth 100000 in
/-- A program of a text: memory of its own. -/
theorem of10_own (l : List UInt8) (w : World) (hl : l.length ≤ 1000000) :
    Calls Tryz.prog 15 #[.string ⟨l.toArray⟩] w fun e w' => ∃ v L, e = .returned v ∧ OwnL w' w.heap.size v L ∧ L.map (·.1) = (parseP l).1 ∧ Below w.heap.size w w' := by
  have PA := Lib.hid (pparse_own l w hl)
  unfold ParO at PA
  go_enter Tryz.func15, Tryz.ntmps15
  go_wp2_with (go_at_call 26; (with_reducible refine PA.out.mono ?_); rintro _ u ⟨v, L, rfl, hp, he, hb⟩)
  go_ret
  exact ⟨v, L, rfl, hp, he, hb⟩
end Go.Proofs.YtagjddnpaahebaaGreatDoor

/- Layer 10: what is built of a program that is wrapped: its memory. -/
namespace Go.Proofs.YtagjddnpaahebaaGreatDoor
set_option linter.unusedVariables false
set_option linter.unusedSimpArgs false
open Gm Go.RowKit Go.ChangeShapes Go.WideShapes Go.ChangeAt Go.Deep Go.Joins Go.Sort

theorem loads_succ (n : Nat) : loadsW (n + 1) = loadsW n ++ [(1, (n : Int), 0)] := by unfold loadsW; rw [List.range_succ, List.map_append]; rfl
/-- A code of which the first instructions are moved. -/
def lstW (l : List (Int × Int × Int)) (k : Nat) : List (Int × Int × Int) := (l.take k).map mvI ++ l.drop k
theorem lstW_zero (l : List (Int × Int × Int)) : lstW l 0 = l := rfl
theorem lstW_all (l : List (Int × Int × Int)) : lstW l l.length = l.map mvI := by unfold lstW; rw [List.take_length, List.drop_length, List.append_nil]
theorem lstW_len (l : List (Int × Int × Int)) {k : Nat} (hk : k ≤ l.length) : (lstW l k).length = l.length := by unfold lstW; rw [List.length_append, List.length_map, List.length_take, List.length_drop]; omega
theorem lstW_at (l : List (Int × Int × Int)) {k : Nat} (hk : k < l.length) : (lstW l k)[k]? = some l[k] := by
  unfold lstW
  rw [List.getElem?_append_right (by rw [List.length_map, List.length_take]; omega), List.length_map, List.length_take, Nat.min_eq_left (Nat.le_of_lt hk), Nat.sub_self, List.getElem?_drop, Nat.add_zero, List.getElem?_eq_getElem hk]
theorem lstW_succ (l : List (Int × Int × Int)) {k : Nat} (hk : k < l.length) : lstW l (k + 1) = (lstW l k).set k (mvI l[k]) := by
  unfold lstW
  have hl : ((l.take k).map mvI).length = k := by rw [List.length_map, List.length_take]; omega
  rw [List.take_succ_eq_append_getElem hk, List.map_append, List.set_append_right _ _ (by rw [hl]; exact Nat.le_refl _), hl, Nat.sub_self]
  have e : (l.drop k).set 0 (mvI l[k]) = mvI l[k] :: l.drop (k + 1) := by rw [List.drop_eq_getElem_cons hk]; rfl
  rw [e]
  simp
theorem lstW_same (l : List (Int × Int × Int)) {k : Nat} (hk : k < l.length) (h : l[k].1 ≠ 13) : lstW l (k + 1) = lstW l k := by
  rw [lstW_succ l hk, mvI_no h]
  apply List.ext_getElem?
  intro i
  rw [List.getElem?_set]
  split
  · rename_i e
    subst e
    rw [lstW_at l hk]
    split
    · rfl
    · rename_i e2
      rw [lstW_len l (Nat.le_of_lt hk)] at e2
      exact absurd hk e2
  · rfl
theorem keepW {Wr W : World} {g : Nat} {t : TypeId} {a b c : Value} (h : Held Wr g t #[a, b, c]) (hb : Below Wr.heap.size Wr W) : Below Wr.heap.size Wr W ∧ W.cell? ⟨g, 0, none⟩ = some a ∧ W.cell? ⟨g, 1, none⟩ = some b ∧ W.cell? ⟨g, 2, none⟩ = some c :=
  ⟨hb, (h.below hb).cell 0, (h.below hb).cell 1, (h.below hb).cell 2⟩
/-- A function laid in a new block: a program of the call's own. -/
theorem own_func1 {w : World} {B : Nat} {f : Fun} {c : Value} (h : OwnC w B c f.code) (hB : B ≤ w.heap.size) :
    OwnL (w.alloc (.cells #[.int .i64 f.ar, .int .i64 f.lo, .int .i64 f.sl, c] 41)) B (.slice (some ⟨w.heap.size, 0, none⟩) 1 1) [(f, c)] := by
  refine ⟨⟨rfl, .inr ⟨w.heap.size, 1, #[.int .i64 f.ar, .int .i64 f.lo, .int .i64 f.sl, c], rfl, hB, heap_alloc_new w _, Nat.le_refl _, by decide, rfl, rfl⟩⟩, ?_, ?_⟩
  · intro x hx
    rw [List.mem_singleton] at hx
    subst hx
    exact h.below ((Below.refl _ _).alloc (Nat.le_refl _) _)
  · exact List.pairwise_singleton _ _
/-- The last three of a wrapping function. -/
def endW : List (Int × Int × Int) := [(13, 1, 0), (14, 0, 0), (15, 0, 0)]
theorem mainW_code (n : Nat) : (mainW n).code = loadsW n ++ endW := rfl
theorem end_at (w : World) : CodeAt (w.alloc (.cells (flatI endW).toArray 44)) (w.alloc (.cells (flatI endW).toArray 44)).heap.size (some ⟨w.heap.size, 0, none⟩) endW := fun _ => by
  have h := Held.new w 44 (flatI endW).toArray
  refine ⟨_, _, rfl, h.lt, fun j hj => ?_⟩
  have hj3 : j < 3 := hj
  rcases (by omega : j = 0 ∨ j = 1 ∨ j = 2) with rfl | rfl | rfl
  · exact ⟨h.cell 0, h.cell 1, h.cell 2⟩
  · exact ⟨h.cell 3, h.cell 4, h.cell 5⟩
  · exact ⟨h.cell 6, h.cell 7, h.cell 8⟩
theorem bx4 {w : World} {g : Nat} {t : TypeId} {a b c d : Value} (h : Held w g t #[a, b, c, d]) : w.cell? ⟨g, 0, none⟩ = some a ∧ w.cell? ⟨g, 1, none⟩ = some b ∧ w.cell? ⟨g, 2, none⟩ = some c ∧ w.cell? ⟨g, 3, none⟩ = some d ∧ w.frozen? ⟨g, 3, none⟩ = false ∧ g < w.heap.size :=
  ⟨h.cell 0, h.cell 1, h.cell 2, h.cell 3, h.fz 3, h.lt⟩
theorem grow_set (W : World) (g i : Nat) (x : Value) : W.grownBy (W.setCell ⟨g, i, none⟩ x) (some g) := ⟨rfl, rfl, rfl, by simp [World.setCell], fun k _ hne => Below.heap_setCell W ⟨g, i, none⟩ x k (fun e => hne (by rw [e]))⟩
/-- A code appended to what was just made. -/
theorem wpList_append_code1 {w : World} {ops : Array Oper} {rest : List Oper} {o : Oper} {a : Act} {Q : Exit → Act → World → Prop}
    (hg : o.guard = none) (s x : Operand) (hop : o.op = Op.call { callee := Callee.builtin Builtin.append, args := #[s, x], argTypes := #[39, 39] })
    (B : Nat) (w1 : World) (hw : w = w1.alloc (.cells #[] 44)) (hs : a.eval s = .slice (some ⟨w1.heap.size, 0, none⟩) 0 0) {A : Option Addr} {k : List Ins} {n c C : Nat} (hx : a.eval x = .slice A n c) (hn : k.length = n) (hc : CodeAt w C A k)
    (h1 : 1 ≤ n) (hlen : n ≤ 1000000) (hB : B ≤ w1.heap.size)
    (h : ∀ g cap w', OwnC w' B (.slice (some ⟨g, 0, none⟩) n cap) k → Below B w w' → B ≤ g → g < w'.heap.size → wpList Tryz.prog ops Q rest (a.put o.dst (.slice (some ⟨g, 0, none⟩) n cap)) w') : wpList Tryz.prog ops Q (o :: rest) a w := by
  subst hw hn
  have own : OwnC (w1.alloc (.cells #[] 44)) B (.slice (some ⟨w1.heap.size, 0, none⟩) 0 0) [] := by
    unfold OwnC
    exact World.ownsRow_made w1 #[] 0 hB (by decide) rfl
  refine wpList_append_code hg s x hop B _ [] hs own hx hc h1 (by simpa using hlen) (Nat.le_trans hB (by simp)) fun g cap w' k1 k2 k3 k4 => ?_
  simp only [List.length_nil, Nat.zero_add, List.nil_append] at k1
  have := h g cap w' k1 k2 k3 k4
  simpa using this
theorem range4 {w : World} {b o : Nat} {x0 x1 x2 x3 : Value} (h0 : w.cell? ⟨b, o, none⟩ = some x0) (h1 : w.cell? ⟨b, o + 1, none⟩ = some x1) (h2 : w.cell? ⟨b, o + 2, none⟩ = some x2) (h3 : w.cell? ⟨b, o + 3, none⟩ = some x3) : w.rangeAt b o [x0, x1, x2, x3] := fun j v hj => by
  match j, hj with
  | 0, hj => simp at hj; subst hj; exact h0
  | 1, hj => simp at hj; subst hj; exact h1
  | 2, hj => simp at hj; subst hj; exact h2
  | 3, hj => simp at hj; subst hj; exact h3
  | j + 4, hj => simp at hj
theorem cellsW {w : World} {B g cap m i : Nat} {L : List Ins} {x : Ins} (h : OwnC w B (.slice (some ⟨g, 0, none⟩) m cap) L) (hl : L.length = m) (hi : i < m) (hx : L[i]? = some x) :
    w.cell? ⟨g, i * 3, none⟩ = some (.int .i64 x.1) ∧ w.cell? ⟨g, i * 3 + 1, none⟩ = some (.int .i64 x.2.1) ∧ w.cell? ⟨g, i * 3 + 2, none⟩ = some (.int .i64 x.2.2) ∧ w.frozen? ⟨g, i * 3, none⟩ = false ∧ w.frozen? ⟨g, i * 3 + 1, none⟩ = false ∧ w.frozen? ⟨g, i * 3 + 2, none⟩ = false ∧ g < w.heap.size := by
  have hil : i < L.length := by omega
  obtain ⟨e0, e1, e2⟩ := flatI_at L i hil
  have hxe : L[i] = x := by rw [List.getElem?_eq_getElem hil] at hx; exact Option.some.inj hx
  rw [hxe] at e0 e1 e2
  unfold OwnC at h
  rw [hl] at h
  exact ⟨(h.cellAt _ (by omega)).trans e0, (h.cellAt _ (by omega)).trans e1, (h.cellAt _ (by omega)).trans e2, h.frozenAt _, h.frozenAt _, h.frozenAt _, (h.lt g rfl).2⟩
theorem mvP_take {h : Fun} {p : List Fun} {i : Nat} (hi : i < p.length) : mvP h (p.take (i + 1)) = mvP h (p.take i) ++ [mvF p[i]] := by
  unfold mvP
  rw [List.take_succ_eq_append_getElem hi, List.map_append]
  rfl
end Go.Proofs.YtagjddnpaahebaaGreatDoor

