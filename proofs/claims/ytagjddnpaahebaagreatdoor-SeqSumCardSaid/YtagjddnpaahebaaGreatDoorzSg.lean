/- Layer 10, plain: what a program with which nothing is wrong ends with. -/
import Derived.Test.YtagjddnpaahebaaGreatDoorzSb
namespace Go.Proofs.YtagjddnpaahebaaGreatDoor
set_option linter.unusedVariables false
set_option linter.unusedSimpArgs false
open Gm Go Go.RowKit

/-- A code that the program tells. -/
def InTrap (p : List Fun) (t : Int) : Prop := ∃ g ∈ p, ∃ x ∈ g.code, x.1 = 16 ∧ x.2.1 = t
/-- A code of no want of values or places. -/
def GoodT (p : List Fun) (t : Int) : Prop := t = 0 ∨ t = 1 ∨ t = 2 ∨ InTrap p t
/-- Values are values, and codes that are kept are such. -/
structure Inv (T : Int → Prop) (f : Frm) : Prop where
  stk : ∀ v ∈ f.stk, gMay v
  loc : ∀ v ∈ f.loc, gMay v
  slt : ∀ s ∈ f.slt, gMay (s.re, s.im) ∧ T s.tr ∧ (s.st = 2 → s.tr ≠ 0 → s.re = 0 ∧ s.im = 0)
  out : gMay (f.ore, f.oim) ∧ (f.otr ≠ 0 → f.ore = 0 ∧ f.oim = 0)
theorem vmay0 : gMay (0, 0) := ⟨by decide, by decide, by decide, by decide⟩
theorem draw_may (s k : Int) : gMay (drawZ s k) := ⟨(rs_bd _).1, (rs_bd _).2, (rs_bd _).1, (rs_bd _).2⟩
theorem getD_may {l : List V} (h : ∀ v ∈ l, gMay v) (i : Nat) : gMay (l.getD i (0, 0)) := by
  rw [List.getD_eq_getElem?_getD]
  cases hi : l[i]? with
  | none => exact vmay0
  | some v => exact h v (List.mem_of_getElem? hi)
section
variable {T : Int → Prop} {f : Frm}
theorem Inv.push (h : Inv T f) {l : List V} (hl : ∀ v ∈ l, gMay v) : Inv T (pushF f l) := ⟨fun v hv => (List.mem_append.1 hv).elim (h.stk v) (hl v), h.loc, h.slt, h.out⟩
theorem Inv.pop (h : Inv T f) (n : Nat) : Inv T (popF f n) := ⟨fun v hv => h.stk v (List.mem_of_mem_take hv), h.loc, h.slt, h.out⟩
theorem Inv.goF (h : Inv T f) (n : Int) : Inv T (goF f n) := ⟨h.stk, h.loc, h.slt, h.out⟩
theorem Inv.top (h : Inv T f) : gMay (topF f) := getD_may h.stk _
theorem Inv.low (h : Inv T f) : gMay (lowF f) := getD_may h.stk _
theorem Inv.end_ (h : Inv T f) (t : Int) {v : V} (hv : gMay v) (ht : t ≠ 0 → v = (0, 0)) : Inv T (endF f t v) := ⟨h.stk, h.loc, h.slt, hv, fun e => by rw [show v = (0, 0) from ht e] ; exact ⟨rfl, rfl⟩⟩
theorem Inv.set (h : Inv T f) (i : Nat) {s : Slt} (hs : gMay (s.re, s.im) ∧ T s.tr ∧ (s.st = 2 → s.tr ≠ 0 → s.re = 0 ∧ s.im = 0)) : Inv T { f with slt := f.slt.set i s } := ⟨h.stk, h.loc, fun x hx => (List.mem_or_eq_of_mem_set hx).elim (h.slt x) (fun e => e ▸ hs), h.out⟩
theorem slt_at (h : Inv T f) (h0 : T 0) (i : Int) : gMay ((sltAt f i).re, (sltAt f i).im) ∧ T (sltAt f i).tr ∧ ((sltAt f i).st = 2 → (sltAt f i).tr ≠ 0 → (sltAt f i).re = 0 ∧ (sltAt f i).im = 0) := by
  unfold sltAt
  rw [List.getD_eq_getElem?_getD]
  cases hi : f.slt[i.toNat]? with
  | none => exact ⟨vmay0, h0, fun e => by simp [slt0] at e⟩
  | some s => exact h.slt s (List.mem_of_getElem? hi)
end
theorem move_inv {T : Int → Prop} {f : Frm} (h : Inv T f) (x : Int × Int × Int) : Inv T (moveF f x) := by
  unfold moveF
  split
  · exact h.push fun v hv => by simp at hv; subst hv; exact ⟨(rs_bd _).1, (rs_bd _).2, (rs_bd _).1, (rs_bd _).2⟩
  split
  · exact h.push fun v hv => by rw [List.mem_singleton] at hv; subst hv; exact getD_may h.loc _
  split
  · have k := h.pop 1
    exact ⟨k.stk, fun v hv => (List.mem_or_eq_of_mem_set hv).elim (h.loc v) (fun e => e ▸ h.top), k.slt, k.out⟩
  split
  · exact (h.pop 1).push fun v hv => by rw [List.mem_singleton] at hv; subst hv; exact conj_may _
  split
  · exact (h.pop 1).push fun v hv => by simp at hv; subst hv; exact h.top
  split
  · exact h.pop 1
  split
  · have k := h.push (l := [drawZ f.seed f.drw]) fun v hv => by rw [List.mem_singleton] at hv; subst hv; exact draw_may _ _
    exact ⟨k.stk, k.loc, k.slt, k.out⟩
  · exact h
/-- What an instruction does keeps them; a trap is one of the codes. -/
theorem exec_inv {T : Int → Prop} {p : List Fun} {f : Frm} (h : Inv T f) (h0 : T 0) (h1 : T 1) (h2 : T 2) {x : Int × Int × Int} (hx : x.1 = 16 → T x.2.1) :
    Inv T (execF p f x).1 ∧ (∀ v ∈ (execF p f x).2.1.ar, gMay v) ∧ T (execF p f x).2.2 := by
  have hn : ∀ k, ∀ v ∈ (actK k).ar, gMay v := fun k v hv => by simp [actK] at hv
  have hn0 : ∀ v ∈ act0.ar, gMay v := fun v hv => by simp [act0] at hv
  unfold execF
  by_cases h16 : x.1 = 16
  · rw [if_pos h16]; exact ⟨h, hn0, hx h16⟩
  rw [if_neg h16]
  by_cases h15 : x.1 = 15
  · rw [if_pos h15]; exact ⟨(h.pop 1).end_ 0 h.top (fun e => absurd rfl e), hn 4, h0⟩
  rw [if_neg h15]
  by_cases h13 : x.1 = 13
  · rw [if_pos h13]
    unfold spawnF
    split
    · exact ⟨h, hn0, h2⟩
    · obtain ⟨s1, s2, s3⟩ := slt_at h h0 x.2.2
      have k := h.set x.2.2.toNat (s := { sltAt f x.2.2 with st := 1, kat := -1, kgn := 0 }) ⟨s1, s2, fun e => by simp at e⟩
      exact ⟨⟨fun v hv => h.stk v (List.mem_of_mem_take hv), k.loc, k.slt, k.out⟩, fun v hv => h.stk v (List.mem_of_mem_drop hv), h0⟩
  rw [if_neg h13]
  by_cases h14 : x.1 = 14
  · rw [if_pos h14]
    obtain ⟨s1, s2, s3⟩ := slt_at h h0 x.2.1
    have k := h.set x.2.1.toNat (s := slt0) ⟨vmay0, h0, fun e => by simp [slt0] at e⟩
    unfold joinF
    split
    · exact ⟨⟨h.stk, h.loc, h.slt, h.out⟩, hn 3, h0⟩
    · split
      · split
        · exact ⟨k, hn0, s2⟩
        · exact ⟨(k.push fun v hv => by rw [List.mem_singleton] at hv; subst hv; exact s1).goF _, hn 1, h0⟩
      · exact ⟨h, hn0, h2⟩
  rw [if_neg h14]
  by_cases hc : x.1 = 3 ∨ x.1 = 4 ∨ x.1 = 5 ∨ x.1 = 6
  · rw [if_pos hc]
    unfold compF
    split
    · refine ⟨((h.pop 2).push fun v hv => ?_).goF _, hn 1, h0⟩
      rw [List.mem_singleton] at hv
      subst hv
      unfold combF
      split
      · exact add_may _ _
      split
      · exact of_may _
      split
      · exact mul_may _ _
      · exact quo_may _ _
    · exact ⟨h, hn0, h1⟩
  rw [if_neg hc]
  by_cases h10 : x.1 = 10
  · rw [if_pos h10]; exact ⟨h.goF _, hn 1, h0⟩
  rw [if_neg h10]
  by_cases h11 : x.1 = 11
  · rw [if_pos h11]
    split
    · exact ⟨(h.pop 1).goF _, hn 1, h0⟩
    · exact ⟨(h.pop 1).goF _, hn 1, h0⟩
  rw [if_neg h11]
  exact ⟨(move_inv h x).goF _, hn 1, h0⟩
theorem do_inv {T : Int → Prop} {p : List Fun} {f : Frm} (h : Inv T f) (h0 : T 0) (h1 : T 1) (h2 : T 2) (hT : ∀ t, InTrap p t → T t) :
    Inv T (doF p f).1 ∧ (∀ v ∈ (doF p f).2.ar, gMay v) ∧ ((doF p f).2.kd = 4 → (doF p f).1.otr = 3 ∨ (doF p f).1.otr = 4 ∨ T (doF p f).1.otr) := by
  have hn : ∀ k, ∀ v ∈ (actK k).ar, gMay v := fun k v hv => by simp [actK] at hv
  unfold doF
  split
  · exact ⟨h, fun v hv => by simp [act0] at hv, fun e => by simp [act0] at e⟩
  · unfold runF
    split
    · rename_i hf
      refine ⟨h.end_ _ vmay0 fun _ => rfl, hn 4, fun _ => .inr (.inl ?_)⟩
      show (fetchF p f).2 = 4
      unfold fetchF at hf ⊢
      split
      · split
        · rename_i h1 h2; rw [if_pos h1, if_pos h2] at hf; exact absurd rfl hf
        · rfl
      · rfl
    · rename_i hf
      obtain ⟨⟨g, hg, hx⟩, _, _⟩ := fetch_mem (p := p) (f := f) (by simpa using hf)
      split
      · rename_i hd
        refine ⟨h.end_ _ vmay0 fun _ => rfl, hn 4, fun _ => .inl ?_⟩
        show depthF p f (fetchF p f).1 = 3
        unfold depthF at hd ⊢
        split
        · rfl
        · split
          · rfl
          · rename_i h1 h2; rw [if_neg h1, if_neg h2] at hd; exact absurd rfl hd
      · obtain ⟨e1, e2, e3⟩ := exec_inv (p := p) h h0 h1 h2 (x := (fetchF p f).1) (fun e => hT _ ⟨g, hg, _, hx, e, rfl⟩)
        split
        · exact ⟨e1.end_ _ vmay0 fun _ => rfl, hn 4, fun _ => .inr (.inr e3)⟩
        · rename_i he
          refine ⟨e1, e2, fun hk => ?_⟩
          right; right
          show T (execF p f (fetchF p f).1).1.otr
          have hk : (execF p f (fetchF p f).1).2.1.kd = 4 := hk
          unfold execF at hk ⊢
          split at hk
          · simp [act0] at hk
          split at hk
          · rename_i a b; rw [if_neg a, if_pos b]; exact h0
          split at hk
          · unfold spawnF at hk; split at hk <;> simp [act0] at hk
          split at hk
          · unfold joinF at hk
            split at hk
            · simp [actK] at hk
            · split at hk
              · split at hk <;> simp [actK, act0] at hk
              · simp [act0] at hk
          split at hk
          · unfold compF at hk; split at hk <;> simp [actK, act0] at hk
          split at hk
          · simp [actK] at hk
          split at hk
          · split at hk <;> simp [actK] at hk
          · simp [actK] at hk
theorem give_inv {T : Int → Prop} {f : Frm} (h : Inv T f) (sl : Int) {o : OutP} (ho : gMay o.2 ∧ T o.1 ∧ (o.1 ≠ 0 → o.2 = (0, 0))) : Inv T (giveO f sl o) := by
  have k := h.set sl.toNat (s := ⟨2, -1, 0, o.1, o.2.1, o.2.2⟩) ⟨ho.1, ho.2.1, fun _ e => by have := ho.2.2 e; exact ⟨congrArg Prod.fst this, congrArg Prod.snd this⟩⟩
  unfold giveO giveF
  split
  · split
    · exact ⟨k.stk, k.loc, k.slt, k.out⟩
    · exact k
  · exact h
theorem fin_inv {T : Int → Prop} {f : Frm} (h : Inv T f) (h0 : T 0) (ht : T f.otr) : gMay (outF f).2 ∧ T (outF f).1 ∧ ((outF f).1 ≠ 0 → (outF f).2 = (0, 0)) := by
  unfold outF finF
  split
  · exact ⟨vmay0, h0, fun e => absurd rfl e⟩
  · split
    · exact ⟨h.out.1, ht, fun e => Prod.ext (h.out.2 e).1 (h.out.2 e).2⟩
    · split
      · rename_i s hs
        have hm := List.mem_of_find?_eq_some hs
        exact ⟨vmay0, (h.slt s hm).2.1, fun _ => rfl⟩
      · exact ⟨h.out.1, h0, fun e => absurd rfl e⟩
/-- A frame that begins. -/
theorem new_inv {T : Int → Prop} (h0 : T 0) {p : List Fun} {fn : Int} {args : List V} {s : Int} (ha : ∀ v ∈ args, gMay v) : Inv T (newF p fn args s).1 := by
  have hz : Inv T frm0 := ⟨fun v hv => by simp [frm0] at hv, fun v hv => by simp [frm0] at hv, fun s hs => by simp [frm0] at hs, vmay0, fun e => absurd rfl e⟩
  unfold newF
  split
  · split
    · split
      · refine ⟨fun v hv => by simp at hv, fun v hv => ?_, fun s hs => ?_, vmay0, fun e => absurd rfl e⟩
        · rcases List.mem_append.1 hv with h | h
          · exact ha v h
          · rw [(List.mem_replicate.1 h).2]; exact vmay0
        · rw [(List.mem_replicate.1 hs).2]; exact ⟨vmay0, h0, fun e => by simp [slt0] at e⟩
      · exact hz
    · exact hz
  · exact hz
theorem new_facts {p : List Fun} {fn : Int} {args : List V} {s : Int} (h : (newF p fn args s).2 = true) :
    mayP p = true ∧ isZ s = true ∧ ∃ (k : Nat) (hk : k < p.length), fn = k ∧ p[k].ar = args.length ∧ p[k].ar ≤ p[k].lo ∧ (∀ v ∈ args, gMay v) ∧
      (newF p fn args s).1 = ⟨fn, 0, [], args ++ List.replicate (p[k].lo.toNat - args.length) (0, 0), List.replicate p[k].sl.toNat slt0, s, 0, 0, 0, 0, 0, 0, 0, -1, 0, 0⟩ := by
  unfold newF at h ⊢
  split at h
  · rename_i hm
    rw [if_pos hm]
    split at h
    · rename_i g hg
      split at h
      · rename_i ha
        obtain ⟨hk, hgk⟩ := List.getElem?_eq_some_iff.1 hg
        have hf := hm.2.1
        simp [hasI] at hf
        subst hgk
        refine ⟨hm.1, hm.2.2, fn.toNat, hk, by omega, ha.2.1, ha.1, fun v hv => ?_, by rw [if_pos ha]⟩
        have := List.all_eq_true.1 ha.2.2 v hv
        simp only [mayB, Bool.and_eq_true, decide_eq_true_eq] at this
        exact ⟨this.1.1, this.1.2, this.2.1, this.2.2⟩
      · cases h
    · cases h
  · cases h
theorem new_ok {p : List Fun} {k : Nat} (hk : k < p.length) {args : List V} {s : Int} (hm : mayP p = true) (hs : isZ s = true) (ha : p[k].ar = args.length) (hl : p[k].ar ≤ p[k].lo) (hv : ∀ v ∈ args, gMay v) : (newF p k args s).2 = true := by
  unfold newF
  have hall : (args.all fun v => mayB v.1 v.2) = true := List.all_eq_true.2 fun v hv2 => by
    obtain ⟨a, b, c, d⟩ := hv v hv2
    simp [mayB, a, b, c, d]
  rw [if_pos ⟨hm, by first | (simp [hasI]; done) | (simp [hasI]; omega), hs⟩, Int.toNat_natCast, List.getElem?_eq_getElem hk]
  dsimp only
  rw [if_pos ⟨hl, ha, hall⟩]
/-- A frame that begins is one at a place that is reached. -/
theorem new_safe {p : List Fun} (hc : (checkP p).2.2 = 0) {fn : Int} {args : List V} {s : Int} (h : (newF p fn args s).2 = true) {T : Int → Prop} :
    ∃ (k : Nat) (g : Fun), p[k]? = some g ∧ Safe p k g T (newF p fn args s).1 ∧ (newF p fn args s).1.st = 0 := by
  obtain ⟨hm, hs, k, hk, e, ha, hl, hv, h1⟩ := new_facts h
  have hmf := ((mayP_iff p).1 hm).2.2 p[k] (List.getElem_mem hk)
  have hhd : headB p[k].ar p[k].lo p[k].sl = true := by
    unfold mayF at hmf
    simp at hmf
    exact hmf.1.1
  obtain ⟨⟨a0, a1⟩, ⟨b0, b1⟩, c0, c1⟩ := (headB_iff _ _ _).1 hhd
  refine ⟨k, p[k], List.getElem?_eq_getElem hk, ?_, by rw [h1]⟩
  rw [h1]
  refine ⟨e, ⟨0, rfl, (solved_in hc hk).zero⟩, ?_, ?_, fun s hs => ?_⟩
  · simp only [List.length_append, List.length_replicate]; omega
  · simp only [List.length_replicate]; omega
  · rw [(List.mem_replicate.1 hs).2]; exact .inl rfl
end Go.Proofs.YtagjddnpaahebaaGreatDoor

/- Layer 10, plain: a program that draws one value. -/
namespace Go.Proofs.YtagjddnpaahebaaGreatDoor
set_option linter.unusedVariables false
set_option linter.unusedSimpArgs false
open Gm Go Go.RowKit

def pr10 : List Fun := [⟨0, 0, 0, [(12, 0, 0), (15, 0, 0)]⟩]
def tr10 : List UInt8 := [102, 117, 110, 99, 32, 48, 32, 48, 32, 48, 10, 114, 97, 110, 100, 10, 114, 101, 116, 10]
theorem pr10_of : (parseP tr10).1 = pr10 := by kernel_rfl
def fr10 (s : Int) : Frm := ⟨0, 0, [], [], [], s, 0, 0, 0, 0, 0, 0, 0, -1, 0, 0⟩
theorem step_go1 {p : List Fun} {f : Frm} {sl : Int} {ts : List Tsk} (h : (doF p f).2.kd ≠ 2) (h4 : (doF p f).2.kd ≠ 4) : stepT p ((f, sl) :: ts) = .inl (((doF p f).1, sl) :: ts) := by simp only [stepT]; rw [if_neg h, if_neg h4]
theorem step_out1 {p : List Fun} {f : Frm} {sl : Int} (h4 : (doF p f).2.kd = 4) : stepT p [(f, sl)] = .inr (outF (doF p f).1) := by simp only [stepT]; rw [if_neg (by omega), if_pos h4]
theorem ev10r {s : Int} (h : isZ s = true) : evalP pr10 [] s 2 = ((0, drawZ s 0), 2, 0) := by
  have hm : mayP pr10 = true := by kernel_rfl
  have h0 := new_ok (p := pr10) (k := 0) (args := []) (s := s) (by decide) hm h rfl (by decide) (by simp)
  have hn : (newF pr10 0 [] s).2 = true := by rw [show ((0 : Nat) : Int) = 0 from rfl] at h0; exact h0
  obtain ⟨_, _, k, hk, e, _, _, _, e1⟩ := new_facts hn
  have hk0 : k = 0 := by omega
  subst hk0
  have hc : canP pr10 [] s 2 := ⟨by kernel_rfl, by decide, by decide, hn⟩
  have e2 : (newF pr10 0 [] s).1 = fr10 s := by rw [e1]; rfl
  rw [evalP_can hc, e2]
  clear e1 e2 hc
  clear hn h0 h hm
  generalize hd : drawZ s 0 = d
  have d1 : doF pr10 (fr10 s) = ({ fr10 s with pc := 1, stk := [drawZ s 0], drw := wrap64 1 }, actK 1) := by kernel_rfl
  rw [hd] at d1
  obtain ⟨x, y⟩ := d
  have d2 : doF pr10 { fr10 s with pc := 1, stk := [(x, y)], drw := wrap64 1 } = (endF { fr10 s with pc := 1, stk := [], drw := wrap64 1 } 0 (x, y), actK 4) := by kernel_rfl
  have r1 : runT pr10 2 [(fr10 s, 0)] = some ((0, (x, y)), 0) := by
    rw [runT_inl (step_go1 (by rw [d1]; exact (by decide : (1 : Int) ≠ 2)) (by rw [d1]; exact (by decide : (1 : Int) ≠ 4))), d1]
    rw [runT_inr (step_out1 (by rw [d2]; rfl)), d2]
    simp [outF, finF, endF, fr10]
  have r2 : runT pr10 (2 : Int).toNat [(fr10 s, 0)] = some ((0, (x, y)), 0) := r1
  rw [r2]
  rfl
end Go.Proofs.YtagjddnpaahebaaGreatDoor

/- Layer 10, plain: a program with which nothing is wrong ends with a value, or with a trap that is none of want of values or places. -/
namespace Go.Proofs.YtagjddnpaahebaaGreatDoor
set_option linter.unusedVariables false
set_option linter.unusedSimpArgs false
open Gm Go Go.RowKit

theorem exec_st (p : List Fun) (f : Frm) (x : Int × Int × Int) (hk : (execF p f x).2.1.kd = 1 ∨ (execF p f x).2.1.kd = 2) : (execF p f x).1.st = f.st := by
  unfold execF at hk ⊢
  by_cases h16 : x.1 = 16
  · (rw [if_pos h16]; first | done | rfl)
  rw [if_neg h16] at hk ⊢
  by_cases h15 : x.1 = 15
  · rw [if_pos h15] at hk; simp [actK] at hk
  rw [if_neg h15] at hk ⊢
  by_cases h13 : x.1 = 13
  · rw [if_pos h13]
    unfold spawnF
    split
    · rfl
    · rfl
  rw [if_neg h13] at hk ⊢
  by_cases h14 : x.1 = 14
  · rw [if_pos h14] at hk ⊢
    unfold joinF at hk ⊢
    by_cases g1 : (sltAt f x.2.1).st = 1
    · rw [if_pos g1] at hk; simp [actK] at hk
    · rw [if_neg g1]
      split
      · split
        · rfl
        · rfl
      · rfl
  rw [if_neg h14] at hk ⊢
  by_cases hc : x.1 = 3 ∨ x.1 = 4 ∨ x.1 = 5 ∨ x.1 = 6
  · rw [if_pos hc]
    unfold compF
    split
    · rfl
    · rfl
  rw [if_neg hc] at hk ⊢
  by_cases h10 : x.1 = 10
  · (rw [if_pos h10]; first | done | rfl)
  rw [if_neg h10] at hk ⊢
  by_cases h11 : x.1 = 11
  · rw [if_pos h11]
    split
    · rfl
    · rfl
  rw [if_neg h11] at hk ⊢
  show (moveF f x).st = f.st
  unfold moveF
  repeat' split
  all_goals rfl
theorem exec_two {p : List Fun} {f : Frm} {x : Int × Int × Int} (hk : (execF p f x).2.1.kd = 2) : x.1 = 13 := by
  refine Decidable.byContradiction fun h13 => ?_
  unfold execF at hk
  rw [if_neg h13] at hk
  unfold joinF compF at hk
  repeat' split at hk
  all_goals simp [act0, actK] at hk
/-- An instruction that asks for nothing, or for a child, was executed. -/
theorem do_exec {p : List Fun} {f : Frm} (hk : (doF p f).2.kd = 1 ∨ (doF p f).2.kd = 2) :
    f.st = 0 ∧ (fetchF p f).2 = 0 ∧ depthF p f (fetchF p f).1 = 0 ∧ (execF p f (fetchF p f).1).2.2 = 0 ∧ doF p f = ((execF p f (fetchF p f).1).1, (execF p f (fetchF p f).1).2.1) := by
  unfold doF at hk ⊢
  by_cases h1 : f.st ≠ 0 ∨ hasI p.length f.fn = false
  · rw [if_pos h1] at hk; simp [act0] at hk
  rw [if_neg h1] at hk ⊢
  unfold runF at hk ⊢
  by_cases h2 : (fetchF p f).2 ≠ 0
  · rw [if_pos h2] at hk; simp [actK] at hk
  rw [if_neg h2] at hk ⊢
  by_cases h3 : depthF p f (fetchF p f).1 ≠ 0
  · rw [if_pos h3] at hk; simp [actK] at hk
  rw [if_neg h3] at hk ⊢
  by_cases h4 : (execF p f (fetchF p f).1).2.2 ≠ 0
  · rw [if_pos h4] at hk; simp [actK] at hk
  rw [if_neg h4]
  exact ⟨Decidable.byContradiction fun e => h1 (.inl e), Decidable.byContradiction h2, Decidable.byContradiction h3, Decidable.byContradiction h4, rfl⟩
theorem do_st {p : List Fun} {f : Frm} (hk : (doF p f).2.kd = 1 ∨ (doF p f).2.kd = 2) : (doF p f).1.st = 0 := by
  obtain ⟨h0, _, _, _, e⟩ := do_exec hk
  rw [e] at hk ⊢
  rw [← h0]
  exact exec_st p f _ hk
/-- A child begins. -/
theorem do_kid {p : List Fun} {f : Frm} (hc : (checkP p).2.2 = 0) (hv : ∀ v ∈ (doF p f).2.ar, gMay v) (hk : (doF p f).2.kd = 2) : (newF p (doF p f).2.fn (doF p f).2.ar (doF p f).2.sd).2 = true := by
  obtain ⟨_, h2, h3, h4, e⟩ := do_exec (.inr hk)
  rw [e] at hk hv ⊢
  have h13 := exec_two hk
  obtain ⟨_, hm, hkn⟩ := fetch_mem h2
  clear e h2 h4
  generalize (fetchF p f).1 = x at *
  have ex : execF p f x = spawnF p f x.2.1 x.2.2 := by unfold execF; rw [if_neg (by omega), if_neg (by omega), if_pos h13]
  rw [ex] at hk hv ⊢
  unfold spawnF at hk hv ⊢
  by_cases h5 : (sltAt f x.2.2).st ≠ 0
  · rw [if_pos h5] at hk; simp [act0] at hk
  rw [if_neg h5] at hv ⊢
  unfold knowsF at hkn
  rw [if_neg (by omega), if_pos h13, Bool.and_eq_true] at hkn
  have hfn := hkn.1
  simp [hasI] at hfn
  have hk' : x.2.1.toNat < p.length := by omega
  have har : arP p x.2.1 = p[x.2.1.toNat].ar := by unfold arP; rw [List.getElem?_eq_getElem hk']
  have ho : offI p x = arP p x.2.1 := by unfold offI; rw [if_pos h13]
  have h6 : ¬ (offI p x < 0 ∨ (f.stk.length : Int) < offI p x) := by
    intro h6
    unfold depthF at h3
    rw [if_pos h6] at h3
    cases h3
  have hlo := (fun_facts ((check_facts hc).2 _ (List.getElem_mem hk'))).1
  have := new_ok hk' (args := f.stk.drop (f.stk.length - (arP p x.2.1).toNat)) (s := useZ f.seed 1 f.spn) (check_facts hc).1 (useZ_is _ _ _) (by rw [List.length_drop]; omega) hlo hv
  rwa [show ((x.2.1.toNat : Nat) : Int) = x.2.1 by omega] at this
theorem give_st {f : Frm} (h : f.st = 0) (sl : Int) (o : OutP) : (giveO f sl o).st = 0 := by
  unfold giveO giveF
  split
  · split
    · rfl
    · exact h
  · exact h
theorem good0 (p : List Fun) : GoodT p 0 := .inl rfl
theorem good1 (p : List Fun) : GoodT p 1 := .inr (.inl rfl)
theorem good2 (p : List Fun) : GoodT p 2 := .inr (.inr (.inl rfl))
theorem goodT (p : List Fun) : ∀ t, InTrap p t → GoodT p t := fun _ h => .inr (.inr (.inr h))
theorem step_kid {p : List Fun} {f : Frm} {sl : Int} {ts : List Tsk} (h2 : (doF p f).2.kd = 2) : stepT p ((f, sl) :: ts) = .inl ([] ++ (kidF p (doF p f).2, (doF p f).2.sl) :: ((doF p f).1, sl) :: ts) := by simp only [stepT]; rw [if_pos h2]; rfl
theorem step_fin {p : List Fun} {f : Frm} {sl : Int} (h4 : (doF p f).2.kd = 4) : stepT p [(f, sl)] = .inr (outF (doF p f).1) := by simp only [stepT]; rw [if_neg (by omega), if_pos h4]
theorem step_on {p : List Fun} {f : Frm} {sl : Int} {ts : List Tsk} (h2 : (doF p f).2.kd ≠ 2) (h4 : (doF p f).2.kd ≠ 4) : stepT p ((f, sl) :: ts) = .inl (((doF p f).1, sl) :: ts) := by simp only [stepT]; rw [if_neg h2, if_neg h4]
/-- Whatever frame it begins with. -/
theorem run_value {p : List Fun} (hc : (checkP p).2.2 = 0) : ∀ (n k : Nat) (g : Fun) (f : Frm) (o : OutP) (m : Nat), p[k]? = some g → Safe p k g (GoodT p) f → Inv (GoodT p) f → f.st = 0 →
    runT p n [(f, 0)] = some (o, m) → gMay o.2 ∧ GoodT p o.1 ∧ (o.1 ≠ 0 → o.2 = (0, 0)) := by
  intro n
  induction n using Nat.strongRecOn with
  | _ n ih =>
  intro k g f o m hg hs hi hst hr
  cases n with
  | zero => cases hr
  | succ n =>
  obtain ⟨d1, d2, d3⟩ := do_inv (p := p) hi (good0 p) (good1 p) (good2 p) (goodT p)
  by_cases h2 : (doF p f).2.kd = 2
  · have hkid := do_kid hc d2 h2
    rw [runT_inl (step_kid h2), runT_behind] at hr
    obtain ⟨k2, g2, hg2, hs2, hst2⟩ := new_safe hc hkid (T := GoodT p)
    cases hr2 : runT p n ([] ++ [(kidF p (doF p f).2, 0)]) with
    | none => rw [hr2] at hr; cases hr
    | some x =>
      obtain ⟨o2, m2⟩ := x
      rw [hr2] at hr
      have hm2 := runT_left hr2
      have ho2 := ih n (by omega) k2 g2 _ o2 m2 hg2 hs2 (new_inv (good0 p) d2) hst2 hr2
      have sp : stepP p f o2.1 o2.2 = (giveO (doF p f).1 (doF p f).2.sl o2, 2) := by unfold stepP; rw [if_pos h2]; rfl
      obtain ⟨_, _, s3⟩ := safe_step hc hg hs hst o2.1 o2.2 ho2.2.1
      rw [sp] at s3
      have hst3 := give_st (do_st (.inr h2)) (doF p f).2.sl o2
      exact ih m2 (by omega) k g _ o m hg (s3 hst3) (give_inv d1 _ ho2) hst3 hr
  · have sp : stepP p f 0 (0, 0) = ((doF p f).1, (doF p f).2.kd) := by unfold stepP; rw [if_neg h2]
    obtain ⟨s1, s2, s3⟩ := safe_step hc hg hs hst 0 (0, 0) (good0 p)
    rw [sp] at s1 s2 s3
    by_cases h4 : (doF p f).2.kd = 4
    · rw [runT_inr (step_fin h4)] at hr
      cases hr
      have ht : GoodT p (doF p f).1.otr := by
        have a := d3 h4
        have b := s2 h4
        rcases a with a | a | a
        · rcases b with b | b | b | b | b
          · simp only at b; omega
          · simp only at b; omega
          · simp only at b; omega
          · simp only at b; omega
          · exact b
        · rcases b with b | b | b | b | b
          · simp only at b; omega
          · simp only at b; omega
          · simp only at b; omega
          · simp only at b; omega
          · exact b
        · exact a
      exact fin_inv d1 (good0 p) ht
    · have h1 : (doF p f).2.kd = 1 := by
        rcases s1 with e | e | e
        · exact e
        · exact absurd e h2
        · exact absurd e h4
      rw [runT_inl (step_on h2 h4)] at hr
      have hst3 := do_st (.inl h1)
      exact ih n (by omega) k g _ o m hg (s3 hst3) d1 hst3 hr
/-- What begins a program with which nothing is wrong. -/
theorem new_iff {p : List Fun} (hc : (checkP p).2.2 = 0) (args : List V) (s : Int) :
    (newF p 0 args s).2 = true ↔ isZ s = true ∧ (∃ h : 0 < p.length, p[0].ar = args.length) ∧ ∀ v ∈ args, gMay v := by
  constructor
  · intro h
    obtain ⟨_, hs, k, hk, e, ha, _, hv, _⟩ := new_facts h
    obtain rfl : k = 0 := by omega
    exact ⟨hs, ⟨hk, ha⟩, hv⟩
  · rintro ⟨hs, ⟨hk, ha⟩, hv⟩
    have hlo := (fun_facts ((check_facts hc).2 _ (List.getElem_mem hk))).1
    have := new_ok hk (check_facts hc).1 hs ha hlo hv
    rwa [show ((0 : Nat) : Int) = 0 from rfl] at this
/-- All of SeqValue: how a program ends with which nothing is wrong. -/
theorem eval_value {p : List Fun} {args : List V} {s fuel : Int} (hf : 1 ≤ fuel) (hf2 : fuel ≤ 100000) :
    ((evalP p args s fuel).2.2 = 1 ∧ ¬ ((checkP p).2.2 = 0 ∧ isZ s = true ∧ (∃ h : 0 < p.length, p[0].ar = args.length) ∧ ∀ v ∈ args, gMay v)) ∨
    (((checkP p).2.2 = 0 ∧ isZ s = true ∧ (∃ h : 0 < p.length, p[0].ar = args.length) ∧ ∀ v ∈ args, gMay v) ∧
      (evalP p args s fuel = (zeroO, 0, 100) ∨ ((evalP p args s fuel).2.2 = 0 ∧ gMay (evalP p args s fuel).1.2 ∧ GoodT p (evalP p args s fuel).1.1 ∧ ((evalP p args s fuel).1.1 ≠ 0 → (evalP p args s fuel).1.2 = (0, 0))))) := by
  rcases evalP_cases p args s fuel with ⟨e, hn⟩ | ⟨hc, h⟩
  · refine .inl ⟨by rw [e], fun h => hn ⟨h.1, hf, hf2, (new_iff h.1 args s).2 h.2⟩⟩
  · refine .inr ⟨⟨hc.1, (new_iff hc.1 args s).1 hc.2.2.2⟩, ?_⟩
    rcases h with ⟨e, _⟩ | ⟨o, m, e, hr, _⟩
    · exact .inl e
    · right
      rw [e]
      obtain ⟨k, g, hg, hs, hst⟩ := new_safe hc.1 hc.2.2.2 (T := GoodT p)
      have hv := ((new_iff hc.1 args s).1 hc.2.2.2).2.2
      exact ⟨rfl, run_value hc.1 _ k g _ o m hg hs (new_inv (good0 p) hv) hst hr⟩
end Go.Proofs.YtagjddnpaahebaaGreatDoor

/- Layer 10, plain: a program's functions, moved by one behind another function, run alike. -/
namespace Go.Proofs.YtagjddnpaahebaaGreatDoor
set_option linter.unusedVariables false
set_option linter.unusedSimpArgs false
open Gm Go Go.RowKit

def mvI (x : Int × Int × Int) : Int × Int × Int := if x.1 = 13 then (13, x.2.1 + 1, x.2.2) else x
def mvF (f : Fun) : Fun := ⟨f.ar, f.lo, f.sl, f.code.map mvI⟩
def mvP (h : Fun) (p : List Fun) : List Fun := h :: p.map mvF
def upF (f : Frm) : Frm := { f with fn := f.fn + 1 }
def upA (a : ActP) : ActP := if a.kd = 2 then { a with fn := a.fn + 1 } else a
def upT (t : Tsk) : Tsk := (upF t.1, t.2)
theorem mvI_no {x : Int × Int × Int} (h : x.1 ≠ 13) : mvI x = x := if_neg h
theorem mvI_13 {x : Int × Int × Int} (h : x.1 = 13) : mvI x = (13, x.2.1 + 1, x.2.2) := if_pos h
theorem mvI_1 (x : Int × Int × Int) : (mvI x).1 = x.1 := by
  by_cases h : x.1 = 13
  · rw [mvI_13 h, h]
  · rw [mvI_no h]
section
variable {h : Fun} {p : List Fun}
theorem mv_at {i : Int} (hi : 0 ≤ i) : (mvP h p)[(i + 1).toNat]? = (p[i.toNat]?).map mvF := by
  rw [show (i + 1).toNat = i.toNat + 1 by omega]
  unfold mvP
  rw [List.getElem?_cons_succ, List.getElem?_map]
theorem code_up {i : Int} (hi : 0 ≤ i) : codeP (mvP h p) (i + 1) = (codeP p i).map mvI := by
  unfold codeP
  rw [mv_at hi]
  cases p[i.toNat]? with
  | none => rfl
  | some g => rfl
theorem ar_up {i : Int} (hi : 0 ≤ i) : arP (mvP h p) (i + 1) = arP p i := by
  unfold arP
  rw [mv_at hi]
  cases p[i.toNat]? with
  | none => rfl
  | some g => rfl
theorem off_up {x : Int × Int × Int} (hx : x.1 = 13 → 0 ≤ x.2.1) : offI (mvP h p) (mvI x) = offI p x := by
  unfold offI
  by_cases h13 : x.1 = 13
  · rw [mvI_13 h13, if_pos rfl, if_pos h13]; exact ar_up (hx h13)
  · rw [mvI_no h13, if_neg h13, if_neg h13]
theorem next_up (x : Int × Int × Int) (i : Int) : nextI (mvI x) i = nextI x i := by
  by_cases h13 : x.1 = 13
  · unfold nextI
    rw [mvI_1]
    rw [if_neg (by omega), if_neg (by omega), if_neg (by omega), if_neg (by omega), if_neg (by omega), if_neg (by omega)]
  · rw [mvI_no h13]
theorem node_up {x : Int × Int × Int} (hx : x.1 = 13 → 0 ≤ x.2.1) (i : Int) : nodeI (mvP h p) (mvI x) i = nodeI p x i := by
  unfold nodeI
  rw [off_up hx, mvI_1, next_up]
theorem field_up {f : Fun} {x : Int × Int × Int} (hf : fieldI p f x = 0) : fieldI (mvP h p) (mvF f) (mvI x) = 0 := by
  obtain ⟨h1, h2, h3, h4⟩ := fields_ok hf
  by_cases h13 : x.1 = 13
  · have h3 := h3 h13
    rw [mvI_13 h13]
    unfold fieldI
    simp only [mvF, mvP, List.length_cons, List.length_map]
    rw [if_neg (by omega), if_neg (by omega)]
  · rw [mvI_no h13]
    unfold fieldI
    simp only [mvF, mvP, List.length_cons, List.length_map]
    rw [if_neg (by omega), if_neg (by omega)]
theorem gr_up {c : List (Int × Int × Int)} (hx : ∀ x ∈ c, x.1 = 13 → 0 ≤ x.2.1) : grF (mvP h p) (c.map mvI) = grF p c := by
  funext i
  unfold grF
  rw [List.getElem?_map]
  cases hc : c[i]? with
  | none => rfl
  | some x => exact node_up (hx x (List.mem_of_getElem? hc)) i
theorem first_nil {p : List Fun} {f : Fun} : ∀ (l : List (Int × Int × Int)) (k : Int), (∀ x ∈ l, fieldI p f x = 0) → firstI p f l k = (0, 0)
  | [], _, _ => rfl
  | x :: l, k, h => by
    simp only [firstI]
    rw [if_pos (h x (by simp))]
    exact first_nil l _ fun y hy => h y (by simp [hy])
theorem fun_up {f : Fun} (hf : (funE p f).2 = 0) (hx : ∀ x ∈ f.code, x.1 = 13 → 0 ≤ x.2.1) : (funE (mvP h p) (mvF f)).2 = 0 := by
  obtain ⟨h1, h2, h3⟩ := fun_facts hf
  have h4 : firstI (mvP h p) (mvF f) (mvF f).code 0 = (0, 0) := first_nil _ _ fun y hy => by
    obtain ⟨x, hx, rfl⟩ := List.mem_map.1 hy
    exact field_up (h2 x hx)
  unfold funE
  rw [if_neg (show ¬ (mvF f).lo < (mvF f).ar from (show ¬ f.lo < f.ar by omega)), h4, if_pos rfl]
  unfold flowF at h3 ⊢
  show (flowS (grF (mvP h p) (f.code.map mvI)) 201 (initD (f.code.map mvI).length) (initW (f.code.map mvI).length)).2.2 = 0
  rw [gr_up hx, List.length_map]
  exact h3
theorem may_13 {a b : Int} (h : mayZ 13 a b = true) (hl : a < 15) : mayZ 13 (a + 1) b = true := by
  have e1 : (rz 13).lo = 0 := rfl
  have e2 : (rz 13).la = 15 := rfl
  simp only [mayZ, Bool.and_eq_true, decide_eq_true_eq] at h ⊢
  rw [e1, e2] at h ⊢
  exact ⟨⟨h.1.1, by omega, by omega⟩, h.2⟩
theorem may_up {x : Int × Int × Int} (hx : mayZ x.1 x.2.1 x.2.2 = true) (hl : x.1 = 13 → x.2.1 < 15) : mayZ (mvI x).1 (mvI x).2.1 (mvI x).2.2 = true := by
  by_cases h13 : x.1 = 13
  · rw [mvI_13 h13]
    rw [h13] at hx
    exact may_13 hx (hl h13)
  · rw [mvI_no h13]; exact hx
theorem check_up (hc : (checkP p).2.2 = 0) (hl : p.length ≤ 15) (hh : mayF h = true) (hf : (funE (mvP h p) h).2 = 0) : (checkP (mvP h p)).2.2 = 0 := by
  obtain ⟨hm, hfs⟩ := check_facts hc
  obtain ⟨_, _, hmf⟩ := (mayP_iff p).1 hm
  have hm2 : mayP (mvP h p) = true := by
    refine (mayP_iff _).2 ⟨by simp [mvP], by simp [mvP]; omega, fun f hf => ?_⟩
    rcases List.mem_cons.1 hf with rfl | hf
    · exact hh
    · obtain ⟨g, hg, rfl⟩ := List.mem_map.1 hf
      obtain ⟨a, b, c, d⟩ := (mayF_iff g).1 (hmf g hg)
      refine (mayF_iff _).2 ⟨a, by simpa [mvF] using b, by simpa [mvF] using c, fun y hy => ?_⟩
      obtain ⟨x, hx, rfl⟩ := List.mem_map.1 hy
      exact may_up (d x hx) fun e => by have := ((check_ok hc hg).spawn x hx e).2; omega
  rw [check_all hm2 fun f hf => ?_]
  rcases List.mem_cons.1 hf with rfl | hf
  · assumption
  · obtain ⟨g, hg, rfl⟩ := List.mem_map.1 hf
    exact fun_up (hfs g hg) fun x hx e => ((check_ok hc hg).spawn x hx e).1
/-! Runs -/
structure UpOk (p : List Fun) (f : Frm) : Prop where
  inv : Inv (fun _ => True) f
  lo : 0 ≤ f.fn
  hi : f.fn < p.length
theorem fetch_up (hc : (checkP p).2.2 = 0) (hl : p.length ≤ 15) {f : Frm} (hf : 0 ≤ f.fn) : fetchF (mvP h p) (upF f) = (mvI (fetchF p f).1, (fetchF p f).2) := by
  unfold fetchF
  rw [show (upF f).fn = f.fn + 1 from rfl, code_up hf, show (upF f).pc = f.pc from rfl, List.length_map]
  by_cases h1 : hasI (codeP p f.fn).length f.pc = true
  · rw [if_pos h1, if_pos h1]
    have hn : f.pc.toNat < (codeP p f.fn).length := by simp [hasI] at h1; omega
    have hg2 : ∃ g ∈ p, codeP p f.fn = g.code := by
      cases hg : p[f.fn.toNat]? with
      | none => unfold codeP at hn; rw [hg] at hn; simp at hn
      | some g => exact ⟨g, List.mem_of_getElem? hg, by unfold codeP; rw [hg]⟩
    obtain ⟨g, hg, hgc⟩ := hg2
    have e : ((codeP p f.fn).map mvI).getD f.pc.toNat (0, 0, 0) = mvI ((codeP p f.fn).getD f.pc.toNat (0, 0, 0)) := by
      rw [List.getD_eq_getElem?_getD, List.getElem?_map, List.getD_eq_getElem?_getD, List.getElem?_eq_getElem hn]
      rfl
    rw [e]
    have hx : (codeP p f.fn).getD f.pc.toNat (0, 0, 0) ∈ g.code := by
      rw [List.getD_eq_getElem?_getD, List.getElem?_eq_getElem hn, ← hgc]
      exact List.getElem_mem hn
    generalize (codeP p f.fn).getD f.pc.toNat (0, 0, 0) = x at *
    have hmz := ((mayF_iff g).1 (((mayP_iff p).1 (check_facts hc).1).2.2 g hg)).2.2.2 x hx
    have hsp := (check_ok hc hg).spawn x hx
    have hmz2 := may_up hmz fun e => by have := (hsp e).2; omega
    have hkn : knowsF (mvP h p) (upF f) (mvI x) = knowsF p f x := by
      by_cases h13 : x.1 = 13
      · rw [mvI_13 h13]
        obtain ⟨s1, s2⟩ := hsp h13
        unfold knowsF
        rw [if_neg (by simp), if_pos rfl, if_neg (by omega), if_pos h13]
        have a1 : hasI (mvP h p).length (x.2.1 + 1) = true := by simp [hasI, mvP]; omega
        have a2 : hasI p.length x.2.1 = true := by simp [hasI]; omega
        show (hasI (mvP h p).length (x.2.1 + 1) && _) = _
        rw [a1, a2]
        rfl
      · rw [mvI_no h13]
        unfold knowsF
        rw [if_neg h13, if_neg h13]
        rfl
    rw [hkn]
    by_cases h2 : knowsF p f x = true
    · rw [if_pos ⟨hmz2, h2⟩, if_pos ⟨hmz, h2⟩]
    · rw [if_neg (fun e => h2 e.2), if_neg (fun e => h2 e.2)]
      rfl
  · rw [if_neg h1, if_neg h1]
    rfl
theorem depth_up {f : Frm} {x : Int × Int × Int} (hx : x.1 = 13 → 0 ≤ x.2.1) : depthF (mvP h p) (upF f) (mvI x) = depthF p f x := by
  unfold depthF
  rw [off_up hx, mvI_1]
  rfl
theorem upA_no {a : ActP} (h : a.kd ≠ 2) : upA a = a := if_neg h
theorem upA_kd (a : ActP) : (upA a).kd = a.kd := by
  unfold upA
  split
  · rfl
  · rfl
theorem exec_13 {p : List Fun} {f : Frm} {x : Int × Int × Int} (h : x.1 = 13) : execF p f x = spawnF p f x.2.1 x.2.2 := by
  unfold execF
  rw [if_neg (by omega), if_neg (by omega), if_pos h]
theorem spawn_up {f : Frm} {a b : Int} (ha : 0 ≤ a) : spawnF (mvP h p) (upF f) (a + 1) b = (upF (spawnF p f a b).1, upA (spawnF p f a b).2.1, (spawnF p f a b).2.2) := by
  unfold spawnF
  rw [ar_up ha, show sltAt (upF f) b = sltAt f b from rfl, show useZ (upF f).seed 1 (upF f).spn = useZ f.seed 1 f.spn from rfl]
  generalize useZ f.seed 1 f.spn = z
  generalize (arP p a).toNat = n
  split
  · rfl
  · rfl
theorem join_up (f : Frm) (sl : Int) : joinF (upF f) sl = (upF (joinF f sl).1, upA (joinF f sl).2.1, (joinF f sl).2.2) := by
  unfold joinF
  rw [show sltAt (upF f) sl = sltAt f sl from rfl]
  split
  · rfl
  · split
    · split
      · rfl
      · rfl
    · rfl
theorem comp_up (f : Frm) (o : Int) : compF (upF f) o = (upF (compF f o).1, upA (compF f o).2.1, (compF f o).2.2) := by
  unfold compF
  rw [show topF (upF f) = topF f from rfl, show lowF (upF f) = lowF f from rfl]
  generalize combF o (lowF f) (topF f) = R
  split
  · rfl
  · rfl
theorem move_up (f : Frm) (x : Int × Int × Int) : moveF (upF f) x = upF (moveF f x) := by
  unfold moveF
  rw [show topF (upF f) = topF f from rfl, show (upF f).loc = f.loc from rfl, show drawZ (upF f).seed (upF f).drw = drawZ f.seed f.drw from rfl]
  generalize topF f = v
  generalize drawZ f.seed f.drw = d
  repeat' split
  all_goals rfl
theorem exec_up {f : Frm} {x : Int × Int × Int} (hx : x.1 = 13 → 0 ≤ x.2.1) : execF (mvP h p) (upF f) (mvI x) = (upF (execF p f x).1, upA (execF p f x).2.1, (execF p f x).2.2) := by
  by_cases h13 : x.1 = 13
  · rw [exec_13 (show (mvI x).1 = 13 by rw [mvI_1]; exact h13), exec_13 h13, mvI_13 h13]
    exact spawn_up (hx h13)
  rw [mvI_no h13]
  unfold execF
  rw [if_neg h13, if_neg h13, join_up, comp_up, move_up, show topF (upF f) = topF f from rfl, show (upF f).pc = f.pc from rfl]
  generalize joinF f x.2.1 = J
  generalize compF f x.1 = C
  generalize moveF f x = M
  generalize topF f = v
  repeat' split
  all_goals rfl
theorem do_up (hc : (checkP p).2.2 = 0) (hl : p.length ≤ 15) {f : Frm} (hf : UpOk p f) : doF (mvP h p) (upF f) = (upF (doF p f).1, upA (doF p f).2) := by
  have hlo := hf.lo
  have hhi := hf.hi
  unfold doF
  by_cases h0 : f.st ≠ 0
  · rw [if_pos (show (upF f).st ≠ 0 ∨ _ from .inl h0), if_pos (.inl h0)]; rfl
  · have a1 : hasI p.length f.fn = true := by simp [hasI]; omega
    have a2 : hasI (mvP h p).length (upF f).fn = true := by
      have e1 : (upF f).fn = f.fn + 1 := rfl
      have e2 : (mvP h p).length = p.length + 1 := by simp [mvP]
      rw [e1, e2]
      simp only [hasI, Bool.and_eq_true, decide_eq_true_eq]
      omega
    rw [if_neg (by rw [a2]; rintro (e | e); exact h0 e; cases e), if_neg (by rw [a1]; rintro (e | e); exact h0 e; cases e)]
    unfold runF
    rw [fetch_up hc hl hlo]
    dsimp only
    by_cases h2 : (fetchF p f).2 ≠ 0
    · rw [if_pos h2, if_pos h2]; rfl
    · rw [if_neg h2, if_neg h2]
      have hx : (fetchF p f).1.1 = 13 → 0 ≤ (fetchF p f).1.2.1 := fun _ => (may_node (fetch_mem (Decidable.byContradiction h2)).2.1).2.2
      rw [depth_up hx, exec_up hx]
      dsimp only
      by_cases h3 : depthF p f (fetchF p f).1 ≠ 0
      · rw [if_pos h3, if_pos h3]; rfl
      · rw [if_neg h3, if_neg h3]
        by_cases h4 : (execF p f (fetchF p f).1).2.2 ≠ 0
        · rw [if_pos h4, if_pos h4]; rfl
        · rw [if_neg h4, if_neg h4]
theorem new_up (hm : mayP (mvP h p) = true) {fn : Int} {args : List V} {s : Int} (hn : (newF p fn args s).2 = true) : newF (mvP h p) (fn + 1) args s = (upF (newF p fn args s).1, true) := by
  obtain ⟨_, hs, k, hk, rfl, ha, hlo, hv, e⟩ := new_facts hn
  rw [e]
  have hall : (args.all fun v => mayB v.1 v.2) = true := List.all_eq_true.2 fun v hv2 => by
    obtain ⟨a, b, c, d⟩ := hv v hv2
    simp [mayB, a, b, c, d]
  unfold newF
  rw [if_pos ⟨hm, by simp [hasI, mvP, hk]; omega, hs⟩, mv_at (by omega), Int.toNat_natCast, List.getElem?_eq_getElem hk]
  show (if (mvF p[k]).ar ≤ (mvF p[k]).lo ∧ (mvF p[k]).ar = args.length ∧ _ then _ else _) = _
  rw [if_pos ⟨hlo, ha, hall⟩]
  rfl
theorem give_up (f : Frm) (sl : Int) (o : OutP) : giveO (upF f) sl o = upF (giveO f sl o) := by
  unfold giveO giveF
  rw [show sltAt (upF f) sl = sltAt f sl from rfl, show (upF f).slt = f.slt from rfl, show (upF f).st = f.st from rfl, show (upF f).wt = f.wt from rfl]
  split
  · split
    · rfl
    · rfl
  · rfl
theorem give_fn (f : Frm) (sl : Int) (o : OutP) : (giveO f sl o).fn = f.fn := by
  unfold giveO giveF
  split
  · split
    · rfl
    · rfl
  · rfl
theorem new_upok {fn : Int} {args : List V} {s : Int} (hn : (newF p fn args s).2 = true) : UpOk p (newF p fn args s).1 := by
  obtain ⟨_, _, k, hk, e, _, _, hv, e1⟩ := new_facts hn
  have hi : Inv (fun _ => True) (newF p fn args s).1 := new_inv trivial hv
  have hfn : (newF p fn args s).1.fn = fn := by rw [e1]
  exact ⟨hi, by rw [hfn]; omega, by rw [hfn]; omega⟩
/-- Tasks of the moved program run as these do. -/
theorem run_up (hc : (checkP p).2.2 = 0) (hl : p.length ≤ 15) (hm : mayP (mvP h p) = true) : ∀ (n : Nat) (ts : List Tsk), ts ≠ [] → (∀ t ∈ ts, UpOk p t.1) → runT (mvP h p) n (ts.map upT) = runT p n ts
  | 0, _, _, _ => rfl
  | n + 1, [], hne, _ => absurd rfl hne
  | n + 1, (f, sl) :: ts, _, hok => by
    have hf := hok (f, sl) (by simp)
    have hd := do_up (h := h) hc hl hf
    obtain ⟨d1, d2, d3⟩ := do_inv (p := p) hf.inv trivial trivial trivial (fun _ _ => trivial)
    have hkd : (doF (mvP h p) (upF f)).2.kd = (doF p f).2.kd := by rw [hd]; exact upA_kd _
    have hfn : (doF p f).1.fn = f.fn := (do_keeps p f).1.fn
    have hf2 : UpOk p (doF p f).1 := ⟨d1, by rw [hfn]; exact hf.lo, by rw [hfn]; exact hf.hi⟩
    have hts : ∀ t ∈ ts, UpOk p t.1 := fun t ht => hok t (by simp [ht])
    show runT (mvP h p) (n + 1) ((upF f, sl) :: ts.map upT) = _
    by_cases h2 : (doF p f).2.kd = 2
    · have hkid := do_kid hc d2 h2
      rw [runT_inl (step_kid (hkd.trans h2)), runT_inl (step_kid h2), hd]
      have ek : kidF (mvP h p) (upA (doF p f).2) = upF (kidF p (doF p f).2) := by
        unfold kidF upA
        rw [if_pos h2]
        show (newF (mvP h p) ((doF p f).2.fn + 1) (doF p f).2.ar (doF p f).2.sd).1 = _
        rw [new_up hm hkid]
      have es : (upA (doF p f).2).sl = (doF p f).2.sl := by unfold upA; rw [if_pos h2]
      dsimp only
      rw [ek, es]
      refine run_up hc hl hm n ((kidF p (doF p f).2, (doF p f).2.sl) :: ((doF p f).1, sl) :: ts) (by simp) fun t ht => ?_
      rcases List.mem_cons.1 ht with rfl | ht
      · exact new_upok hkid
      · rcases List.mem_cons.1 ht with rfl | ht
        · exact hf2
        · exact hts t ht
    · by_cases h4 : (doF p f).2.kd = 4
      · cases ts with
        | nil => rw [List.map_nil, runT_inr (step_fin (hkd.trans h4)), runT_inr (step_fin h4), hd]; rfl
        | cons t us =>
          obtain ⟨g, sg⟩ := t
          have e : ∀ (q : List Fun) (k : Frm) (r : List Tsk) (b : Tsk), (doF q k).2.kd = 4 → stepT q ((k, sl) :: b :: r) = .inl (backT sl (outF (doF q k).1) (b :: r)) := fun q k r b e4 => by
            simp only [stepT]
            rw [if_neg (by omega), if_pos e4]
          rw [List.map_cons, runT_inl (e _ _ _ _ (hkd.trans h4)), runT_inl (e _ _ _ _ h4), hd]
          show runT (mvP h p) n ((giveO (upF g) sl (outF (doF p f).1), sg) :: us.map upT) = runT p n ((giveO g sl (outF (doF p f).1), sg) :: us)
          rw [give_up]
          refine run_up hc hl hm n ((giveO g sl (outF (doF p f).1), sg) :: us) (by simp) fun t ht => ?_
          have hg := hts (g, sg) (by simp)
          rcases List.mem_cons.1 ht with rfl | ht
          · have hO := fin_inv d1 trivial trivial
            exact ⟨give_inv hg.inv sl hO, by rw [give_fn]; exact hg.lo, by rw [give_fn]; exact hg.hi⟩
          · exact hts t (by simp [ht])
      · rw [runT_inl (step_on (by rw [hkd]; exact h2) (by rw [hkd]; exact h4)), runT_inl (step_on h2 h4), hd]
        refine run_up hc hl hm n (((doF p f).1, sl) :: ts) (by simp) fun t ht => ?_
        rcases List.mem_cons.1 ht with rfl | ht
        · exact hf2
        · exact hts t ht
end
end Go.Proofs.YtagjddnpaahebaaGreatDoor

/- Layer 10, plain: sums by two children. -/
namespace Go.Proofs.YtagjddnpaahebaaGreatDoor
set_option linter.unusedVariables false
set_option linter.unusedSimpArgs false
open Gm Go Go.RowKit

theorem do_of {p : List Fun} {f : Frm} {x : Int × Int × Int} (h0 : f.st = 0) (hi : hasI p.length f.fn = true) (hf : fetchF p f = (x, 0)) (hd : depthF p f x = 0) :
    doF p f = if (execF p f x).2.2 ≠ 0 then (endF (execF p f x).1 (execF p f x).2.2 (0, 0), actK 4) else ((execF p f x).1, (execF p f x).2.1) := by
  unfold doF
  rw [if_neg (by rw [hi]; simp [h0])]
  unfold runF
  rw [hf]
  dsimp only
  rw [if_neg (by simp), hd, if_neg (by simp)]
theorem run_step {p : List Fun} {n : Nat} {f g : Frm} {a : ActP} {sl : Int} {ts : List Tsk} (e : doF p f = (g, a)) (h2 : a.kd ≠ 2) (h4 : a.kd ≠ 4) : runT p (n + 1) ((f, sl) :: ts) = runT p n ((g, sl) :: ts) := by
  rw [runT_inl (step_on (by rw [e]; exact h2) (by rw [e]; exact h4)), e]
theorem run_child {p : List Fun} {n m : Nat} {f g : Frm} {a : ActP} {o : OutP} (e : doF p f = (g, a)) (h2 : a.kd = 2) (hk : runT p n [(kidF p a, 0)] = some (o, m)) : runT p (n + 1) [(f, 0)] = runT p m [(giveO g a.sl o, 0)] := by
  rw [runT_inl (step_kid (by rw [e]; exact h2)), e, runT_behind]
  show (match runT p n [(kidF p a, 0)] with | none => none | some (o, m) => runT p m (backT a.sl o [(g, 0)])) = _
  rw [hk]
  rfl
theorem run_child_none {p : List Fun} {n : Nat} {f g : Frm} {a : ActP} (e : doF p f = (g, a)) (h2 : a.kd = 2) (hk : runT p n [(kidF p a, 0)] = none) : runT p (n + 1) [(f, 0)] = none := by
  rw [runT_inl (step_kid (by rw [e]; exact h2)), e, runT_behind]
  show (match runT p n [(kidF p a, 0)] with | none => none | some (o, m) => runT p m (backT a.sl o [(g, 0)])) = _
  rw [hk]
theorem run_end {p : List Fun} {n : Nat} {f g : Frm} {a : ActP} (e : doF p f = (g, a)) (h4 : a.kd = 4) : runT p (n + 1) [(f, 0)] = some (outF g, n) := by
  rw [runT_inr (step_fin (by rw [e]; exact h4)), e]
/-- A child at the function next to the first one. -/
theorem kid_run {h : Fun} {p : List Fun} (hc : (checkP p).2.2 = 0) (hl : p.length ≤ 15) (hm : mayP (mvP h p) = true) {args : List V} {z : Int} (hn : (newF p 0 args z).2 = true) (n : Nat) :
    runT (mvP h p) n [((newF (mvP h p) 1 args z).1, 0)] = runT p n [((newF p 0 args z).1, 0)] := by
  have e := new_up (h := h) hm hn
  rw [show (0 : Int) + 1 = 1 from rfl] at e
  rw [e]
  exact run_up hc hl hm n [((newF p 0 args z).1, 0)] (by simp) (by intro t ht; rw [List.mem_singleton] at ht; subst ht; exact new_upok hn)
theorem mv_none {f : Fun} (hn : ∀ x ∈ f.code, x.1 ≠ 13) : mvF f = f := by
  obtain ⟨a, b, c, l⟩ := f
  unfold mvF
  rw [show l.map mvI = l from (List.map_congr_left fun x hx => mvI_no (hn x hx)).trans (List.map_id l)]
def mainS : Fun := ⟨1, 1, 2, [(1, 0, 0), (13, 1, 0), (1, 0, 0), (13, 1, 1), (14, 1, 0), (14, 0, 0), (3, 0, 0), (15, 0, 0)]⟩
def prS (f : Fun) : List Fun := [mainS, f]
/-- Frames of the sum. -/
def fS (pc : Int) (stk : List V) (v : V) (s0 s1 : Slt) (spn : Int) : Frm := ⟨0, pc, stk, [v], [s0, s1], 2, spn, 0, 0, 0, 0, 0, 0, -1, 0, 0⟩
def slO (o : OutP) : Slt := ⟨2, -1, 0, o.1, o.2.1, o.2.2⟩
def slK : Slt := ⟨1, -1, 0, 0, 0, 0⟩
section
variable (lo sl : Int) (code : List (Int × Int × Int)) (v : V)
theorem sS0 : doF (prS ⟨1, lo, sl, code⟩) (fS 0 [] v slt0 slt0 0) = (fS 1 [v] v slt0 slt0 0, actK 1) := by kernel_rfl
theorem sS1 : doF (prS ⟨1, lo, sl, code⟩) (fS 1 [v] v slt0 slt0 0) = (fS 2 [] v slK slt0 1, ⟨2, 1, 0, useZ 2 1 0, [v]⟩) := by kernel_rfl
theorem sS2 (a : Slt) : doF (prS ⟨1, lo, sl, code⟩) (fS 2 [] v a slt0 1) = (fS 3 [v] v a slt0 1, actK 1) := by kernel_rfl
theorem sS3 (a : Slt) : doF (prS ⟨1, lo, sl, code⟩) (fS 3 [v] v a slt0 1) = (fS 4 [] v a slK 2, ⟨2, 1, 1, useZ 2 1 1, [v]⟩) := by kernel_rfl
theorem sS4 (a : Slt) (u : V) : doF (prS ⟨1, lo, sl, code⟩) (fS 4 [] v a (slO (0, u)) 2) = (fS 5 [u] v a slt0 2, actK 1) := by kernel_rfl
theorem sS5 (u : V) : doF (prS ⟨1, lo, sl, code⟩) (fS 5 [u] v (slO (0, u)) slt0 2) = (fS 6 [u, u] v slt0 slt0 2, actK 1) := by kernel_rfl
theorem sS6 (u : V) : doF (prS ⟨1, lo, sl, code⟩) (fS 6 [u, u] v slt0 slt0 2) = (fS 7 [gAdd u u] v slt0 slt0 2, actK 1) := by kernel_rfl
theorem sS7 (u : V) : doF (prS ⟨1, lo, sl, code⟩) (fS 7 [u] v slt0 slt0 2) = (endF (fS 7 [] v slt0 slt0 2) 0 u, actK 4) := by kernel_rfl
theorem sS8 (a : Slt) (t : Int) (u : V) (ht : t ≠ 0) : doF (prS ⟨1, lo, sl, code⟩) (fS 4 [] v a (slO (t, u)) 2) = (endF (fS 4 [] v a slt0 2) t (0, 0), actK 4) := by
  have hx : execF (prS ⟨1, lo, sl, code⟩) (fS 4 [] v a (slO (t, u)) 2) (14, 1, 0) = (fS 4 [] v a slt0 2, act0, t) := by
    show joinF (fS 4 [] v a (slO (t, u)) 2) 1 = _
    unfold joinF
    rw [show sltAt (fS 4 [] v a (slO (t, u)) 2) 1 = slO (t, u) from rfl, if_neg (show ¬ (slO (t, u)).st = 1 from (by decide : ¬ (2 : Int) = 1)), if_pos (show (slO (t, u)).st = 2 from rfl), if_pos (show (slO (t, u)).tr ≠ 0 from ht)]
    rfl
  rw [do_of (x := (14, 1, 0)) rfl (by kernel_rfl) (by kernel_rfl) (by kernel_rfl), hx, if_pos ht]
end
theorem give0 (v : V) (a : Slt) (o : OutP) : giveO (fS 2 [] v slK slt0 1) 0 o = fS 2 [] v (slO o) slt0 1 := by kernel_rfl
theorem give1 (v : V) (a : Slt) (o : OutP) : giveO (fS 4 [] v a slK 2) 1 o = fS 4 [] v a (slO o) 2 := by kernel_rfl
/-- All of SeqSum. -/
theorem eval_sum {f : Fun} {v : V} (h1 : f.ar = 1) (hc : (checkP [f]).2.2 = 0) (hnr : NoRand [f]) (hns : ∀ x ∈ f.code, x.1 ≠ 13) (hv : gMay v) {o : OutP} {n : Int} (he : evalP [f] [v] 1 1000 = (o, n, 0)) :
    (o.1 ≠ 0 → ∃ m, evalP [mainS, f] [v] 2 3000 = (o, m, 0)) ∧ (o.1 = 0 → evalP [mainS, f] [v] 2 3000 = ((0, gAdd o.2 o.2), 2 * n + 8, 0)) := by
  rcases evalP_cases [f] [v] 1 1000 with ⟨e, _⟩ | ⟨hcan, ⟨e, _⟩ | ⟨o', m, e, hr, hm⟩⟩
  · rw [e] at he; cases he
  · rw [e] at he; cases he
  rw [e] at he
  obtain ⟨rfl, he2⟩ : o' = o ∧ (1000 : Int) - (m : Int) = n := by simp only [Prod.mk.injEq, and_true] at he; exact he
  have hval : o'.1 ≠ 0 → o'.2 = (0, 0) := by
    obtain ⟨k, g, hg, hs, hst⟩ := new_safe hc hcan.2.2.2 (T := GoodT [f])
    have hvv := ((new_iff hc [v] 1).1 hcan.2.2.2).2.2
    exact (run_value hc _ k g _ o' m hg hs (new_inv (good0 _) hvv) hst hr).2.2
  clear e he
  have hmv : mvP mainS [f] = prS f := by unfold mvP prS; rw [List.map_singleton, mv_none hns]
  have hq : (checkP (mvP mainS [f])).2.2 = 0 := by
    refine check_up hc (by simp) (by kernel_rfl) ?_
    rw [hmv]
    obtain ⟨a, b, c, d⟩ := f
    obtain rfl : a = 1 := h1
    kernel_rfl
  have hmay := (check_facts hq).1
  have hn2 : (newF (mvP mainS [f]) 0 [v] 2).2 = true := (new_iff hq [v] 2).2 ⟨by decide, ⟨by simp [mvP], rfl⟩, fun x hx => by rw [List.mem_singleton] at hx; subst hx; exact hv⟩
  have e0 : (newF (mvP mainS [f]) 0 [v] 2).1 = fS 0 [] v slt0 slt0 0 := by
    obtain ⟨_, _, k, hk, e, _, _, _, e1⟩ := new_facts hn2
    obtain rfl : k = 0 := by omega
    rw [e1]
    rfl
  have hrun : ∀ z, isZ z = true → ∀ N, runT (mvP mainS [f]) (1000 - m + N) [((newF (mvP mainS [f]) 1 [v] z).1, 0)] = some (o', N) := by
    intro z hz N
    have hnz : (newF [f] 0 [v] z).2 = true := (new_iff hc [v] z).2 ⟨hz, ((new_iff hc [v] 1).1 hcan.2.2.2).2⟩
    rw [kid_run hc (by simp) hmay hnz]
    obtain ⟨_, u, hu⟩ := new_seed [f] 0 [v] (show isZ 1 = true by decide) hz
    rw [hu, run_seed hnr (1000 - m + N) (ts := [((newF [f] 0 [v] 1).1, 0)]) (.cons ⟨u, rfl⟩ .nil)]
    have := runT_more (runT_just hr).1 N
    rw [show (1000 : Int).toNat - m = 1000 - m from rfl, Nat.zero_add] at this
    exact this
  have hev := evalP_can (p := mvP mainS [f]) (args := [v]) (s := 2) (fuel := 3000) ⟨hq, by decide, by decide, hn2⟩
  rw [e0] at hev
  rw [hmv] at hrun hev
  change evalP [mainS, f] [v] 2 3000 = _ at hev
  rw [hev]
  clear hev hn2 e0 hmay hq hmv
  obtain ⟨a, b, c, d⟩ := f
  obtain rfl : a = 1 := h1
  obtain ⟨u, hu⟩ : ∃ u : Nat, u = 1000 - m := ⟨_, rfl⟩
  rw [← hu] at hrun
  have hu2 : u ≤ 1000 := by omega
  have hun : (u : Int) = n := by rw [show (1000 : Int).toNat = 1000 from rfl] at hm; omega
  have eF : (3000 : Int).toNat = (((2992 - 2 * u + 4 + u) + 1 + 1 + u) + 1 + 1 : Nat) := by rw [show (3000 : Int).toNat = 3000 from rfl]; omega
  have K0 : runT (prS ⟨1, b, c, d⟩) (2992 - 2 * u + 4 + u + 1 + 1 + u) [(kidF (prS ⟨1, b, c, d⟩) ⟨2, 1, 0, useZ 2 1 0, [v]⟩, 0)] = some (o', 2992 - 2 * u + 4 + u + 1 + 1) := by
    rw [Nat.add_comm]
    exact hrun (useZ 2 1 0) (useZ_is _ _ _) _
  have K1 : runT (prS ⟨1, b, c, d⟩) (2992 - 2 * u + 4 + u) [(kidF (prS ⟨1, b, c, d⟩) ⟨2, 1, 1, useZ 2 1 1, [v]⟩, 0)] = some (o', 2992 - 2 * u + 4) := by
    rw [Nat.add_comm]
    exact hrun (useZ 2 1 1) (useZ_is _ _ _) _
  rw [eF, run_step (sS0 b c d v) (by decide) (by decide), run_child (sS1 b c d v) rfl K0, give0 v slt0 o', run_step (sS2 b c d v _) (by decide) (by decide), run_child (sS3 b c d v _) rfl K1, give1 v _ o']
  obtain ⟨t, w⟩ := o'
  constructor
  · intro ht
    have hw := hval ht
    simp only at hw ht
    subst hw
    rw [run_end (n := 2992 - 2 * u + 3) (sS8 b c d v _ t (0, 0) ht) rfl]
    have ho : outF (endF (fS 4 [] v (slO (t, (0, 0))) slt0 2) t (0, 0)) = (t, (0, 0)) := by
      unfold outF finF
      rw [if_neg (by simp [endF, fS, slO, slt0]), if_pos (show (endF (fS 4 [] v (slO (t, (0, 0))) slt0 2) t (0, 0)).otr ≠ 0 from ht)]
      rfl
    rw [ho]
    exact ⟨_, rfl⟩
  · intro ht
    simp only at ht
    subst ht
    rw [run_step (n := 2992 - 2 * u + 3) (sS4 b c d v _ w) (by decide) (by decide), run_step (n := 2992 - 2 * u + 2) (sS5 b c d v w) (by decide) (by decide), run_step (n := 2992 - 2 * u + 1) (sS6 b c d v w) (by decide) (by decide),
      run_end (n := 2992 - 2 * u) (sS7 b c d v _) rfl]
    have ho : outF (endF (fS 7 [] v slt0 slt0 2) 0 (gAdd w w)) = (0, gAdd w w) := by kernel_rfl
    rw [ho]
    show ((0, gAdd w w), (3000 : Int) - ((2992 - 2 * u : Nat) : Int), (0 : Int)) = _
    rw [show (3000 : Int) - ((2992 - 2 * u : Nat) : Int) = 2 * n + 8 by omega]
end Go.Proofs.YtagjddnpaahebaaGreatDoor

