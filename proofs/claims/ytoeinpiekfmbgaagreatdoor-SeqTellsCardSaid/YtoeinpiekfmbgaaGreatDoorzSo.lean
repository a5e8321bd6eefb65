/- Layer 10, plain: what a program with which nothing is wrong ends with. -/
import Derived.Test.YtoeinpiekfmbgaaGreatDoorzSb
namespace Go.Proofs.YtoeinpiekfmbgaaGreatDoor
set_option linter.unusedVariables false
set_option linter.unusedSimpArgs false
open Gm Go Go.RowKit

/-- A code that the program tells. -/
def InTrap (p : List Fun) (t : Int) : Prop := ∃ g ∈ p, ∃ x ∈ g.code, x.1 = 16 ∧ x.2.1 = t
/-- A code of no want of values or places. -/
def GoodT (p : List Fun) (t : Int) : Prop := t = 0 ∨ t = 1 ∨ t = 2 ∨ InTrap p t
/-- Values are values, and codes that are kept are such. -/
structure Inv (T : Int → Prop) (f : Frm) : Prop where
  stk : ∀ v ∈ f.stk, gMay v
  loc : ∀ v ∈ f.loc, gMay v
  slt : ∀ s ∈ f.slt, gMay (s.re, s.im) ∧ T s.tr ∧ (s.st = 2 → s.tr ≠ 0 → s.re = 0 ∧ s.im = 0)
  out : gMay (f.ore, f.oim) ∧ (f.otr ≠ 0 → f.ore = 0 ∧ f.oim = 0)
theorem vmay0 : gMay (0, 0) := ⟨by decide, by decide, by decide, by decide⟩
theorem draw_may (s k : Int) : gMay (drawZ s k) := ⟨(rs_bd _).1, (rs_bd _).2, (rs_bd _).1, (rs_bd _).2⟩
theorem getD_may {l : List V} (h : ∀ v ∈ l, gMay v) (i : Nat) : gMay (l.getD i (0, 0)) := by
  rw [List.getD_eq_getElem?_getD]
  cases hi : l[i]? with
  | none => exact vmay0
  | some v => exact h v (List.mem_of_getElem? hi)
section
variable {T : Int → Prop} {f : Frm}
theorem Inv.push (h : Inv T f) {l : List V} (hl : ∀ v ∈ l, gMay v) : Inv T (pushF f l) := ⟨fun v hv => (List.mem_append.1 hv).elim (h.stk v) (hl v), h.loc, h.slt, h.out⟩
theorem Inv.pop (h : Inv T f) (n : Nat) : Inv T (popF f n) := ⟨fun v hv => h.stk v (List.mem_of_mem_take hv), h.loc, h.slt, h.out⟩
theorem Inv.goF (h : Inv T f) (n : Int) : Inv T (goF f n) := ⟨h.stk, h.loc, h.slt, h.out⟩
theorem Inv.top (h : Inv T f) : gMay (topF f) := getD_may h.stk _
theorem Inv.low (h : Inv T f) : gMay (lowF f) := getD_may h.stk _
theorem Inv.end_ (h : Inv T f) (t : Int) {v : V} (hv : gMay v) (ht : t ≠ 0 → v = (0, 0)) : Inv T (endF f t v) := ⟨h.stk, h.loc, h.slt, hv, fun e => by rw [show v = (0, 0) from ht e] ; exact ⟨rfl, rfl⟩⟩
theorem Inv.set (h : Inv T f) (i : Nat) {s : Slt} (hs : gMay (s.re, s.im) ∧ T s.tr ∧ (s.st = 2 → s.tr ≠ 0 → s.re = 0 ∧ s.im = 0)) : Inv T { f with slt := f.slt.set i s } := ⟨h.stk, h.loc, fun x hx => (List.mem_or_eq_of_mem_set hx).elim (h.slt x) (fun e => e ▸ hs), h.out⟩
theorem slt_at (h : Inv T f) (h0 : T 0) (i : Int) : gMay ((sltAt f i).re, (sltAt f i).im) ∧ T (sltAt f i).tr ∧ ((sltAt f i).st = 2 → (sltAt f i).tr ≠ 0 → (sltAt f i).re = 0 ∧ (sltAt f i).im = 0) := by
  unfold sltAt
  rw [List.getD_eq_getElem?_getD]
  cases hi : f.slt[i.toNat]? with
  | none => exact ⟨vmay0, h0, fun e => by simp [slt0] at e⟩
  | some s => exact h.slt s (List.mem_of_getElem? hi)
end
theorem move_inv {T : Int → Prop} {f : Frm} (h : Inv T f) (x : Int × Int × Int) : Inv T (moveF f x) := by
  unfold moveF
  split
  · exact h.push fun v hv => by simp at hv; subst hv; exact ⟨(rs_bd _).1, (rs_bd _).2, (rs_bd _).1, (rs_bd _).2⟩
  split
  · exact h.push fun v hv => by rw [List.mem_singleton] at hv; subst hv; exact getD_may h.loc _
  split
  · have k := h.pop 1
    exact ⟨k.stk, fun v hv => (List.mem_or_eq_of_mem_set hv).elim (h.loc v) (fun e => e ▸ h.top), k.slt, k.out⟩
  split
  · exact (h.pop 1).push fun v hv => by rw [List.mem_singleton] at hv; subst hv; exact conj_may _
  split
  · exact (h.pop 1).push fun v hv => by simp at hv; subst hv; exact h.top
  split
  · exact h.pop 1
  split
  · have k := h.push (l := [drawZ f.seed f.drw]) fun v hv => by rw [List.mem_singleton] at hv; subst hv; exact draw_may _ _
    exact ⟨k.stk, k.loc, k.slt, k.out⟩
  · exact h
/-- What an instruction does keeps them; a trap is one of the codes. -/
theorem exec_inv {T : Int → Prop} {p : List Fun} {f : Frm} (h : Inv T f) (h0 : T 0) (h1 : T 1) (h2 : T 2) {x : Int × Int × Int} (hx : x.1 = 16 → T x.2.1) :
    Inv T (execF p f x).1 ∧ (∀ v ∈ (execF p f x).2.1.ar, gMay v) ∧ T (execF p f x).2.2 := by
  have hn : ∀ k, ∀ v ∈ (actK k).ar, gMay v := fun k v hv => by simp [actK] at hv
  have hn0 : ∀ v ∈ act0.ar, gMay v := fun v hv => by simp [act0] at hv
  unfold execF
  by_cases h16 : x.1 = 16
  · rw [if_pos h16]; exact ⟨h, hn0, hx h16⟩
  rw [if_neg h16]
  by_cases h15 : x.1 = 15
  · rw [if_pos h15]; exact ⟨(h.pop 1).end_ 0 h.top (fun e => absurd rfl e), hn 4, h0⟩
  rw [if_neg h15]
  by_cases h13 : x.1 = 13
  · rw [if_pos h13]
    unfold spawnF
    split
    · exact ⟨h, hn0, h2⟩
    · obtain ⟨s1, s2, s3⟩ := slt_at h h0 x.2.2
      have k := h.set x.2.2.toNat (s := { sltAt f x.2.2 with st := 1, kat := -1, kgn := 0 }) ⟨s1, s2, fun e => by simp at e⟩
      exact ⟨⟨fun v hv => h.stk v (List.mem_of_mem_take hv), k.loc, k.slt, k.out⟩, fun v hv => h.stk v (List.mem_of_mem_drop hv), h0⟩
  rw [if_neg h13]
  by_cases h14 : x.1 = 14
  · rw [if_pos h14]
    obtain ⟨s1, s2, s3⟩ := slt_at h h0 x.2.1
    have k := h.set x.2.1.toNat (s := slt0) ⟨vmay0, h0, fun e => by simp [slt0] at e⟩
    unfold joinF
    split
    · exact ⟨⟨h.stk, h.loc, h.slt, h.out⟩, hn 3, h0⟩
    · split
      · split
        · exact ⟨k, hn0, s2⟩
        · exact ⟨(k.push fun v hv => by rw [List.mem_singleton] at hv; subst hv; exact s1).goF _, hn 1, h0⟩
      · exact ⟨h, hn0, h2⟩
  rw [if_neg h14]
  by_cases hc : x.1 = 3 ∨ x.1 = 4 ∨ x.1 = 5 ∨ x.1 = 6
  · rw [if_pos hc]
    unfold compF
    split
    · refine ⟨((h.pop 2).push fun v hv => ?_).goF _, hn 1, h0⟩
      rw [List.mem_singleton] at hv
      subst hv
      unfold combF
      split
      · exact add_may _ _
      split
      · exact of_may _
      split
      · exact mul_may _ _
      · exact quo_may _ _
    · exact ⟨h, hn0, h1⟩
  rw [if_neg hc]
  by_cases h10 : x.1 = 10
  · rw [if_pos h10]; exact ⟨h.goF _, hn 1, h0⟩
  rw [if_neg h10]
  by_cases h11 : x.1 = 11
  · rw [if_pos h11]
    split
    · exact ⟨(h.pop 1).goF _, hn 1, h0⟩
    · exact ⟨(h.pop 1).goF _, hn 1, h0⟩
  rw [if_neg h11]
  exact ⟨(move_inv h x).goF _, hn 1, h0⟩
theorem do_inv {T : Int → Prop} {p : List Fun} {f : Frm} (h : Inv T f) (h0 : T 0) (h1 : T 1) (h2 : T 2) (hT : ∀ t, InTrap p t → T t) :
    Inv T (doF p f).1 ∧ (∀ v ∈ (doF p f).2.ar, gMay v) ∧ ((doF p f).2.kd = 4 → (doF p f).1.otr = 3 ∨ (doF p f).1.otr = 4 ∨ T (doF p f).1.otr) := by
  have hn : ∀ k, ∀ v ∈ (actK k).ar, gMay v := fun k v hv => by simp [actK] at hv
  unfold doF
  split
  · exact ⟨h, fun v hv => by simp [act0] at hv, fun e => by simp [act0] at e⟩
  · unfold runF
    split
    · rename_i hf
      refine ⟨h.end_ _ vmay0 fun _ => rfl, hn 4, fun _ => .inr (.inl ?_)⟩
      show (fetchF p f).2 = 4
      unfold fetchF at hf ⊢
      split
      · split
        · rename_i h1 h2; rw [if_pos h1, if_pos h2] at hf; exact absurd rfl hf
        · rfl
      · rfl
    · rename_i hf
      obtain ⟨⟨g, hg, hx⟩, _, _⟩ := fetch_mem (p := p) (f := f) (by simpa using hf)
      split
      · rename_i hd
        refine ⟨h.end_ _ vmay0 fun _ => rfl, hn 4, fun _ => .inl ?_⟩
        show depthF p f (fetchF p f).1 = 3
        unfold depthF at hd ⊢
        split
        · rfl
        · split
          · rfl
          · rename_i h1 h2; rw [if_neg h1, if_neg h2] at hd; exact absurd rfl hd
      · obtain ⟨e1, e2, e3⟩ := exec_inv (p := p) h h0 h1 h2 (x := (fetchF p f).1) (fun e => hT _ ⟨g, hg, _, hx, e, rfl⟩)
        split
        · exact ⟨e1.end_ _ vmay0 fun _ => rfl, hn 4, fun _ => .inr (.inr e3)⟩
        · rename_i he
          refine ⟨e1, e2, fun hk => ?_⟩
          right; right
          show T (execF p f (fetchF p f).1).1.otr
          have hk : (execF p f (fetchF p f).1).2.1.kd = 4 := hk
          unfold execF at hk ⊢
          split at hk
          · simp [act0] at hk
          split at hk
          · rename_i a b; rw [if_neg a, if_pos b]; exact h0
          split at hk
          · unfold spawnF at hk; split at hk <;> simp [act0] at hk
          split at hk
          · unfold joinF at hk
            split at hk
            · simp [actK] at hk
            · split at hk
              · split at hk <;> simp [actK, act0] at hk
              · simp [act0] at hk
          split at hk
          · unfold compF at hk; split at hk <;> simp [actK, act0] at hk
          split at hk
          · simp [actK] at hk
          split at hk
          · split at hk <;> simp [actK] at hk
          · simp [actK] at hk
theorem give_inv {T : Int → Prop} {f : Frm} (h : Inv T f) (sl : Int) {o : OutP} (ho : gMay o.2 ∧ T o.1 ∧ (o.1 ≠ 0 → o.2 = (0, 0))) : Inv T (giveO f sl o) := by
  have k := h.set sl.toNat (s := ⟨2, -1, 0, o.1, o.2.1, o.2.2⟩) ⟨ho.1, ho.2.1, fun _ e => by have := ho.2.2 e; exact ⟨congrArg Prod.fst this, congrArg Prod.snd this⟩⟩
  unfold giveO giveF
  split
  · split
    · exact ⟨k.stk, k.loc, k.slt, k.out⟩
    · exact k
  · exact h
theorem fin_inv {T : Int → Prop} {f : Frm} (h : Inv T f) (h0 : T 0) (ht : T f.otr) : gMay (outF f).2 ∧ T (outF f).1 ∧ ((outF f).1 ≠ 0 → (outF f).2 = (0, 0)) := by
  unfold outF finF
  split
  · exact ⟨vmay0, h0, fun e => absurd rfl e⟩
  · split
    · exact ⟨h.out.1, ht, fun e => Prod.ext (h.out.2 e).1 (h.out.2 e).2⟩
    · split
      · rename_i s hs
        have hm := List.mem_of_find?_eq_some hs
        exact ⟨vmay0, (h.slt s hm).2.1, fun _ => rfl⟩
      · exact ⟨h.out.1, h0, fun e => absurd rfl e⟩
/-- A frame that begins. -/
theorem new_inv {T : Int → Prop} (h0 : T 0) {p : List Fun} {fn : Int} {args : List V} {s : Int} (ha : ∀ v ∈ args, gMay v) : Inv T (newF p fn args s).1 := by
  have hz : Inv T frm0 := ⟨fun v hv => by simp [frm0] at hv, fun v hv => by simp [frm0] at hv, fun s hs => by simp [frm0] at hs, vmay0, fun e => absurd rfl e⟩
  unfold newF
  split
  · split
    · split
      · refine ⟨fun v hv => by simp at hv, fun v hv => ?_, fun s hs => ?_, vmay0, fun e => absurd rfl e⟩
        · rcases List.mem_append.1 hv with h | h
          · exact ha v h
          · rw [(List.mem_replicate.1 h).2]; exact vmay0
        · rw [(List.mem_replicate.1 hs).2]; exact ⟨vmay0, h0, fun e => by simp [slt0] at e⟩
      · exact hz
    · exact hz
  · exact hz
theorem new_facts {p : List Fun} {fn : Int} {args : List V} {s : Int} (h : (newF p fn args s).2 = true) :
    mayP p = true ∧ isZ s = true ∧ ∃ (k : Nat) (hk : k < p.length), fn = k ∧ p[k].ar = args.length ∧ p[k].ar ≤ p[k].lo ∧ (∀ v ∈ args, gMay v) ∧
      (newF p fn args s).1 = ⟨fn, 0, [], args ++ List.replicate (p[k].lo.toNat - args.length) (0, 0), List.replicate p[k].sl.toNat slt0, s, 0, 0, 0, 0, 0, 0, 0, -1, 0, 0⟩ := by
  unfold newF at h ⊢
  split at h
  · rename_i hm
    rw [if_pos hm]
    split at h
    · rename_i g hg
      split at h
      · rename_i ha
        obtain ⟨hk, hgk⟩ := List.getElem?_eq_some_iff.1 hg
        have hf := hm.2.1
        simp [hasI] at hf
        subst hgk
        refine ⟨hm.1, hm.2.2, fn.toNat, hk, by omega, ha.2.1, ha.1, fun v hv => ?_, by rw [if_pos ha]⟩
        have := List.all_eq_true.1 ha.2.2 v hv
        simp only [mayB, Bool.and_eq_true, decide_eq_true_eq] at this
        exact ⟨this.1.1, this.1.2, this.2.1, this.2.2⟩
      · cases h
    · cases h
  · cases h
theorem new_ok {p : List Fun} {k : Nat} (hk : k < p.length) {args : List V} {s : Int} (hm : mayP p = true) (hs : isZ s = true) (ha : p[k].ar = args.length) (hl : p[k].ar ≤ p[k].lo) (hv : ∀ v ∈ args, gMay v) : (newF p k args s).2 = true := by
  unfold newF
  have hall : (args.all fun v => mayB v.1 v.2) = true := List.all_eq_true.2 fun v hv2 => by
    obtain ⟨a, b, c, d⟩ := hv v hv2
    simp [mayB, a, b, c, d]
  rw [if_pos ⟨hm, by first | (simp [hasI]; done) | (simp [hasI]; omega), hs⟩, Int.toNat_natCast, List.getElem?_eq_getElem hk]
  dsimp only
  rw [if_pos ⟨hl, ha, hall⟩]
/-- A frame that begins is one at a place that is reached. -/
theorem new_safe {p : List Fun} (hc : (checkP p).2.2 = 0) {fn : Int} {args : List V} {s : Int} (h : (newF p fn args s).2 = true) {T : Int → Prop} :
    ∃ (k : Nat) (g : Fun), p[k]? = some g ∧ Safe p k g T (newF p fn args s).1 ∧ (newF p fn args s).1.st = 0 := by
  obtain ⟨hm, hs, k, hk, e, ha, hl, hv, h1⟩ := new_facts h
  have hmf := ((mayP_iff p).1 hm).2.2 p[k] (List.getElem_mem hk)
  have hhd : headB p[k].ar p[k].lo p[k].sl = true := by
    unfold mayF at hmf
    simp at hmf
    exact hmf.1.1
  obtain ⟨⟨a0, a1⟩, ⟨b0, b1⟩, c0, c1⟩ := (headB_iff _ _ _).1 hhd
  refine ⟨k, p[k], List.getElem?_eq_getElem hk, ?_, by rw [h1]⟩
  rw [h1]
  refine ⟨e, ⟨0, rfl, (solved_in hc hk).zero⟩, ?_, ?_, fun s hs => ?_⟩
  · simp only [List.length_append, List.length_replicate]; omega
  · simp only [List.length_replicate]; omega
  · rw [(List.mem_replicate.1 hs).2]; exact .inl rfl
end Go.Proofs.YtoeinpiekfmbgaaGreatDoor

/- Layer 10, plain: a program with which nothing is wrong ends with a value, or with a trap that is none of want of values or places. -/
namespace Go.Proofs.YtoeinpiekfmbgaaGreatDoor
set_option linter.unusedVariables false
set_option linter.unusedSimpArgs false
open Gm Go Go.RowKit

theorem exec_st (p : List Fun) (f : Frm) (x : Int × Int × Int) (hk : (execF p f x).2.1.kd = 1 ∨ (execF p f x).2.1.kd = 2) : (execF p f x).1.st = f.st := by
  unfold execF at hk ⊢
  by_cases h16 : x.1 = 16
  · (rw [if_pos h16]; first | done | rfl)
  rw [if_neg h16] at hk ⊢
  by_cases h15 : x.1 = 15
  · rw [if_pos h15] at hk; simp [actK] at hk
  rw [if_neg h15] at hk ⊢
  by_cases h13 : x.1 = 13
  · rw [if_pos h13]
    unfold spawnF
    split
    · rfl
    · rfl
  rw [if_neg h13] at hk ⊢
  by_cases h14 : x.1 = 14
  · rw [if_pos h14] at hk ⊢
    unfold joinF at hk ⊢
    by_cases g1 : (sltAt f x.2.1).st = 1
    · rw [if_pos g1] at hk; simp [actK] at hk
    · rw [if_neg g1]
      split
      · split
        · rfl
        · rfl
      · rfl
  rw [if_neg h14] at hk ⊢
  by_cases hc : x.1 = 3 ∨ x.1 = 4 ∨ x.1 = 5 ∨ x.1 = 6
  · rw [if_pos hc]
    unfold compF
    split
    · rfl
    · rfl
  rw [if_neg hc] at hk ⊢
  by_cases h10 : x.1 = 10
  · (rw [if_pos h10]; first | done | rfl)
  rw [if_neg h10] at hk ⊢
  by_cases h11 : x.1 = 11
  · rw [if_pos h11]
    split
    · rfl
    · rfl
  rw [if_neg h11] at hk ⊢
  show (moveF f x).st = f.st
  unfold moveF
  repeat' split
  all_goals rfl
theorem exec_two {p : List Fun} {f : Frm} {x : Int × Int × Int} (hk : (execF p f x).2.1.kd = 2) : x.1 = 13 := by
  refine Decidable.byContradiction fun h13 => ?_
  unfold execF at hk
  rw [if_neg h13] at hk
  unfold joinF compF at hk
  repeat' split at hk
  all_goals simp [act0, actK] at hk
/-- An instruction that asks for nothing, or for a child, was executed. -/
theorem do_exec {p : List Fun} {f : Frm} (hk : (doF p f).2.kd = 1 ∨ (doF p f).2.kd = 2) :
    f.st = 0 ∧ (fetchF p f).2 = 0 ∧ depthF p f (fetchF p f).1 = 0 ∧ (execF p f (fetchF p f).1).2.2 = 0 ∧ doF p f = ((execF p f (fetchF p f).1).1, (execF p f (fetchF p f).1).2.1) := by
  unfold doF at hk ⊢
  by_cases h1 : f.st ≠ 0 ∨ hasI p.length f.fn = false
  · rw [if_pos h1] at hk; simp [act0] at hk
  rw [if_neg h1] at hk ⊢
  unfold runF at hk ⊢
  by_cases h2 : (fetchF p f).2 ≠ 0
  · rw [if_pos h2] at hk; simp [actK] at hk
  rw [if_neg h2] at hk ⊢
  by_cases h3 : depthF p f (fetchF p f).1 ≠ 0
  · rw [if_pos h3] at hk; simp [actK] at hk
  rw [if_neg h3] at hk ⊢
  by_cases h4 : (execF p f (fetchF p f).1).2.2 ≠ 0
  · rw [if_pos h4] at hk; simp [actK] at hk
  rw [if_neg h4]
  exact ⟨Decidable.byContradiction fun e => h1 (.inl e), Decidable.byContradiction h2, Decidable.byContradiction h3, Decidable.byContradiction h4, rfl⟩
theorem do_st {p : List Fun} {f : Frm} (hk : (doF p f).2.kd = 1 ∨ (doF p f).2.kd = 2) : (doF p f).1.st = 0 := by
  obtain ⟨h0, _, _, _, e⟩ := do_exec hk
  rw [e] at hk ⊢
  rw [← h0]
  exact exec_st p f _ hk
/-- A child begins. -/
theorem do_kid {p : List Fun} {f : Frm} (hc : (checkP p).2.2 = 0) (hv : ∀ v ∈ (doF p f).2.ar, gMay v) (hk : (doF p f).2.kd = 2) : (newF p (doF p f).2.fn (doF p f).2.ar (doF p f).2.sd).2 = true := by
  obtain ⟨_, h2, h3, h4, e⟩ := do_exec (.inr hk)
  rw [e] at hk hv ⊢
  have h13 := exec_two hk
  obtain ⟨_, hm, hkn⟩ := fetch_mem h2
  clear e h2 h4
  generalize (fetchF p f).1 = x at *
  have ex : execF p f x = spawnF p f x.2.1 x.2.2 := by unfold execF; rw [if_neg (by omega), if_neg (by omega), if_pos h13]
  rw [ex] at hk hv ⊢
  unfold spawnF at hk hv ⊢
  by_cases h5 : (sltAt f x.2.2).st ≠ 0
  · rw [if_pos h5] at hk; simp [act0] at hk
  rw [if_neg h5] at hv ⊢
  unfold knowsF at hkn
  rw [if_neg (by omega), if_pos h13, Bool.and_eq_true] at hkn
  have hfn := hkn.1
  simp [hasI] at hfn
  have hk' : x.2.1.toNat < p.length := by omega
  have har : arP p x.2.1 = p[x.2.1.toNat].ar := by unfold arP; rw [List.getElem?_eq_getElem hk']
  have ho : offI p x = arP p x.2.1 := by unfold offI; rw [if_pos h13]
  have h6 : ¬ (offI p x < 0 ∨ (f.stk.length : Int) < offI p x) := by
    intro h6
    unfold depthF at h3
    rw [if_pos h6] at h3
    cases h3
  have hlo := (fun_facts ((check_facts hc).2 _ (List.getElem_mem hk'))).1
  have := new_ok hk' (args := f.stk.drop (f.stk.length - (arP p x.2.1).toNat)) (s := useZ f.seed 1 f.spn) (check_facts hc).1 (useZ_is _ _ _) (by rw [List.length_drop]; omega) hlo hv
  rwa [show ((x.2.1.toNat : Nat) : Int) = x.2.1 by omega] at this
theorem give_st {f : Frm} (h : f.st = 0) (sl : Int) (o : OutP) : (giveO f sl o).st = 0 := by
  unfold giveO giveF
  split
  · split
    · rfl
    · exact h
  · exact h
theorem good0 (p : List Fun) : GoodT p 0 := .inl rfl
theorem good1 (p : List Fun) : GoodT p 1 := .inr (.inl rfl)
theorem good2 (p : List Fun) : GoodT p 2 := .inr (.inr (.inl rfl))
theorem goodT (p : List Fun) : ∀ t, InTrap p t → GoodT p t := fun _ h => .inr (.inr (.inr h))
theorem step_kid {p : List Fun} {f : Frm} {sl : Int} {ts : List Tsk} (h2 : (doF p f).2.kd = 2) : stepT p ((f, sl) :: ts) = .inl ([] ++ (kidF p (doF p f).2, (doF p f).2.sl) :: ((doF p f).1, sl) :: ts) := by simp only [stepT]; rw [if_pos h2]; rfl
theorem step_fin {p : List Fun} {f : Frm} {sl : Int} (h4 : (doF p f).2.kd = 4) : stepT p [(f, sl)] = .inr (outF (doF p f).1) := by simp only [stepT]; rw [if_neg (by omega), if_pos h4]
theorem step_on {p : List Fun} {f : Frm} {sl : Int} {ts : List Tsk} (h2 : (doF p f).2.kd ≠ 2) (h4 : (doF p f).2.kd ≠ 4) : stepT p ((f, sl) :: ts) = .inl (((doF p f).1, sl) :: ts) := by simp only [stepT]; rw [if_neg h2, if_neg h4]
/-- Whatever frame it begins with. -/
theorem run_value {p : List Fun} (hc : (checkP p).2.2 = 0) : ∀ (n k : Nat) (g : Fun) (f : Frm) (o : OutP) (m : Nat), p[k]? = some g → Safe p k g (GoodT p) f → Inv (GoodT p) f → f.st = 0 →
    runT p n [(f, 0)] = some (o, m) → gMay o.2 ∧ GoodT p o.1 ∧ (o.1 ≠ 0 → o.2 = (0, 0)) := by
  intro n
  induction n using Nat.strongRecOn with
  | _ n ih =>
  intro k g f o m hg hs hi hst hr
  cases n with
  | zero => cases hr
  | succ n =>
  obtain ⟨d1, d2, d3⟩ := do_inv (p := p) hi (good0 p) (good1 p) (good2 p) (goodT p)
  by_cases h2 : (doF p f).2.kd = 2
  · have hkid := do_kid hc d2 h2
    rw [runT_inl (step_kid h2), runT_behind] at hr
    obtain ⟨k2, g2, hg2, hs2, hst2⟩ := new_safe hc hkid (T := GoodT p)
    cases hr2 : runT p n ([] ++ [(kidF p (doF p f).2, 0)]) with
    | none => rw [hr2] at hr; cases hr
    | some x =>
      obtain ⟨o2, m2⟩ := x
      rw [hr2] at hr
      have hm2 := runT_left hr2
      have ho2 := ih n (by omega) k2 g2 _ o2 m2 hg2 hs2 (new_inv (good0 p) d2) hst2 hr2
      have sp : stepP p f o2.1 o2.2 = (giveO (doF p f).1 (doF p f).2.sl o2, 2) := by unfold stepP; rw [if_pos h2]; rfl
      obtain ⟨_, _, s3⟩ := safe_step hc hg hs hst o2.1 o2.2 ho2.2.1
      rw [sp] at s3
      have hst3 := give_st (do_st (.inr h2)) (doF p f).2.sl o2
      exact ih m2 (by omega) k g _ o m hg (s3 hst3) (give_inv d1 _ ho2) hst3 hr
  · have sp : stepP p f 0 (0, 0) = ((doF p f).1, (doF p f).2.kd) := by unfold stepP; rw [if_neg h2]
    obtain ⟨s1, s2, s3⟩ := safe_step hc hg hs hst 0 (0, 0) (good0 p)
    rw [sp] at s1 s2 s3
    by_cases h4 : (doF p f).2.kd = 4
    · rw [runT_inr (step_fin h4)] at hr
      cases hr
      have ht : GoodT p (doF p f).1.otr := by
        have a := d3 h4
        have b := s2 h4
        rcases a with a | a | a
        · rcases b with b | b | b | b | b
          · simp only at b; omega
          · simp only at b; omega
          · simp only at b; omega
          · simp only at b; omega
          · exact b
        · rcases b with b | b | b | b | b
          · simp only at b; omega
          · simp only at b; omega
          · simp only at b; omega
          · simp only at b; omega
          · exact b
        · exact a
      exact fin_inv d1 (good0 p) ht
    · have h1 : (doF p f).2.kd = 1 := by
        rcases s1 with e | e | e
        · exact e
        · exact absurd e h2
        · exact absurd e h4
      rw [runT_inl (step_on h2 h4)] at hr
      have hst3 := do_st (.inl h1)
      exact ih n (by omega) k g _ o m hg (s3 hst3) d1 hst3 hr
end Go.Proofs.YtoeinpiekfmbgaaGreatDoor

