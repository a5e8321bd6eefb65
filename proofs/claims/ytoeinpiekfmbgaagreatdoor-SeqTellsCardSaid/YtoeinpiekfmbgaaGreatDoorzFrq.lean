/- Layer 9, plain: a frame of a program with which nothing is wrong never ends for want of a value, of room, or of a place. -/
import Derived.Test.YtoeinpiekfmbgaaGreatDoorzHa
import Derived.Test.YtoeinpiekfmbgaaGreatDoorzGs
namespace Go.Proofs.YtoeinpiekfmbgaaGreatDoor
set_option linter.unusedVariables false
set_option linter.unusedSimpArgs false
open Gm Go Go.RowKit

theorem solved_in {p : List Fun} (h : (checkP p).2.2 = 0) {k : Nat} (hk : k < p.length) : Solved (grF p p[k].code) p[k].code.length (depthsP p k) := by
  have hmem : p[k] ∈ p := List.getElem_mem hk
  have hok := check_ok h hmem
  have hfl := (fun_facts ((check_facts h).2 _ hmem)).2.2
  rw [depths_at h hk]
  exact flow_solved hok.fine hok.n1 (by have := hok.n2; omega) hfl
/-- A frame at a place that is reached, with the depth with which it is reached. -/
structure Safe (p : List Fun) (k : Nat) (g : Fun) (T : Int → Prop) (f : Frm) : Prop where
  fn : f.fn = k
  at_ : ∃ i : Nat, f.pc = i ∧ (depthsP p k)[i]? = some (f.stk.length : Int)
  loc : (f.loc.length : Int) = g.lo
  slt : (f.slt.length : Int) = g.sl
  own : ∀ s ∈ f.slt, s.st = 0 ∨ (s.st = 2 ∧ T s.tr)
theorem Safe.mono {p : List Fun} {k : Nat} {g : Fun} {T S : Int → Prop} {f : Frm} (h : Safe p k g T f) (hT : ∀ t, T t → S t) : Safe p k g S f :=
  ⟨h.fn, h.at_, h.loc, h.slt, fun s hs => (h.own s hs).imp id fun e => ⟨e.1, hT _ e.2⟩⟩
/-- An instruction; a child's end is given at once. -/
def stepP (p : List Fun) (f : Frm) (t : Int) (v : V) : Frm × Int := if (doF p f).2.kd = 2 then ((giveF (doF p f).1 (doF p f).2.sl t v).1, 2) else ((doF p f).1, (doF p f).2.kd)

theorem slt_mem {f : Frm} {i : Int} (h : hasI f.slt.length i = true) : sltAt f i ∈ f.slt := by
  simp [hasI] at h
  unfold sltAt
  rw [List.getD_eq_getElem?_getD, List.getElem?_eq_getElem (by omega)]
  exact List.getElem_mem _
theorem own_set {l : List Slt} {i : Nat} {a : Slt} {T : Int → Prop} (h : ∀ s ∈ l, s.st = 0 ∨ (s.st = 2 ∧ T s.tr)) (ha : a.st = 0 ∨ (a.st = 2 ∧ T a.tr)) : ∀ s ∈ l.set i a, s.st = 0 ∨ (s.st = 2 ∧ T s.tr) := fun s hs => by
  rcases List.mem_or_eq_of_mem_set hs with h1 | rfl
  · exact h s h1
  · exact ha
/-- What an instruction with enough values does. -/
theorem exec_facts (p : List Fun) (f : Frm) (x : Int × Int × Int) (T : Int → Prop) (hm : mayZ x.1 x.2.1 x.2.2 = true) (hk : knowsF p f x = true) (ho : 0 ≤ offI p x ∧ offI p x ≤ f.stk.length) (own : ∀ s ∈ f.slt, s.st = 0 ∨ (s.st = 2 ∧ T s.tr)) :
    ((execF p f x).2.2 = 0 ∧ (execF p f x).2.1.kd = 4 ∧ (execF p f x).1.st = 2 ∧ (execF p f x).1.otr = 0) ∨
    ((execF p f x).2.2 ≠ 0 ∧ ((execF p f x).2.2 = 1 ∨ (execF p f x).2.2 = 2 ∨ 16 ≤ (execF p f x).2.2 ∨ T (execF p f x).2.2)) ∨
    ((execF p f x).2.2 = 0 ∧ (execF p f x).1.pc ∈ nextI x f.pc ∧ ((execF p f x).1.stk.length : Int) = f.stk.length - offI p x + (rz x.1).q ∧ (execF p f x).1.st = f.st ∧
      (((execF p f x).2.1.kd = 1 ∧ ∀ s ∈ (execF p f x).1.slt, s.st = 0 ∨ (s.st = 2 ∧ T s.tr)) ∨
        ((execF p f x).2.1.kd = 2 ∧ hasI (execF p f x).1.slt.length (execF p f x).2.1.sl = true ∧ (sltAt (execF p f x).1 (execF p f x).2.1.sl).st = 1 ∧
          ∀ a : Slt, (a.st = 0 ∨ (a.st = 2 ∧ T a.tr)) → ∀ s ∈ (execF p f x).1.slt.set (execF p f x).2.1.sl.toNat a, s.st = 0 ∨ (s.st = 2 ∧ T s.tr)))) := by
  obtain ⟨k, hk17, hx⟩ := may_in hm
  have hr := rz_in hk17
  rw [← hx] at hr
  have hp := p_of k hk17
  have hq := q_of k hk17
  have hlo := o_of k hk17
  have hmay := hm
  simp only [mayZ, Bool.and_eq_true, decide_eq_true_eq, hr] at hmay
  rw [hlo] at hmay
  unfold offI at ho ⊢
  rw [hr] at ho ⊢
  have e13 : x.1 = 13 ↔ k = 13 := by omega
  unfold execF
  by_cases h16 : x.1 = 16
  · rw [if_pos h16]
    right; left
    have : 16 ≤ x.2.1 := by rw [if_pos (by omega)] at hmay; exact hmay.1.2.1
    exact ⟨by show x.2.1 ≠ 0; omega, .inr (.inr (.inl this))⟩
  rw [if_neg h16]
  by_cases h15 : x.1 = 15
  · rw [if_pos h15]
    exact .inl ⟨rfl, rfl, rfl, rfl⟩
  rw [if_neg h15]
  by_cases h13 : x.1 = 13
  · rw [if_pos h13]
    rw [if_pos h13] at ho ⊢
    unfold knowsF at hk
    rw [if_neg (by omega), if_pos h13, Bool.and_eq_true] at hk
    unfold spawnF
    split
    · exact .inr (.inl ⟨by simp, .inr (.inl rfl)⟩)
    · right; right
      refine ⟨rfl, ?_, ?_, rfl, .inr ⟨rfl, ?_, ?_, fun a ha => ?_⟩⟩
      · show f.pc + 1 ∈ nextI x f.pc
        unfold nextI
        rw [if_neg (by omega), if_neg (by omega), if_neg (by omega)]
        simp
      · show ((f.stk.take _).length : Int) = _
        have q0 : (orow k).q = 0 := by rw [hq, if_neg (by omega), if_neg (by omega)]
        rw [List.length_take, q0]
        omega
      · show hasI (f.slt.set _ _).length x.2.2 = true
        rw [List.length_set]; exact hk.2
      · show (sltAt _ x.2.2).st = 1
        have := hk.2
        simp [hasI] at this
        unfold sltAt
        simp only [List.getD_eq_getElem?_getD]
        rw [List.getElem?_set_self (by omega)]
        rfl
      · show ∀ s ∈ (f.slt.set x.2.2.toNat _).set x.2.2.toNat a, _
        rw [List.set_set]
        exact own_set own ha
  rw [if_neg h13]
  rw [if_neg h13] at ho ⊢
  by_cases h14 : x.1 = 14
  · rw [if_pos h14]
    unfold knowsF at hk
    rw [if_neg (by omega), if_neg h13, if_pos h14] at hk
    have hs := own _ (slt_mem hk)
    unfold joinF
    split
    · omega
    · split
      · split
        · exact .inr (.inl ⟨‹_›, .inr (.inr (.inr (hs.resolve_left (by omega)).2))⟩)
        · right; right
          refine ⟨rfl, ?_, ?_, rfl, .inl ⟨rfl, own_set own (.inl rfl)⟩⟩
          · show f.pc + 1 ∈ nextI x f.pc
            unfold nextI
            rw [if_neg (by omega), if_neg (by omega), if_neg (by omega)]
            simp
          · show ((f.stk ++ _).length : Int) = _
            have p0 : (orow k).p = 0 := by rw [hp, if_neg (by omega), if_neg (by omega)]
            have q0 : (orow k).q = 1 := by rw [hq, if_neg (by omega), if_pos (by omega)]
            rw [List.length_append, p0, q0]
            simp
      · exact .inr (.inl ⟨by simp, .inr (.inl rfl)⟩)
  rw [if_neg h14]
  by_cases hc : x.1 = 3 ∨ x.1 = 4 ∨ x.1 = 5 ∨ x.1 = 6
  · rw [if_pos hc]
    unfold compF
    split
    · right; right
      refine ⟨rfl, ?_, ?_, rfl, .inl ⟨rfl, own⟩⟩
      · show f.pc + 1 ∈ nextI x f.pc
        unfold nextI
        rw [if_neg (by omega), if_neg (by omega), if_neg (by omega)]
        simp
      · show ((f.stk.take _ ++ _).length : Int) = _
        have p0 : (orow k).p = 2 := by rw [hp, if_pos (by omega)]
        have q0 : (orow k).q = 1 := by rw [hq, if_neg (by omega), if_pos (by omega)]
        rw [p0] at ho ⊢
        rw [List.length_append, List.length_take, q0]
        simp
        omega
    · exact .inr (.inl ⟨by simp, .inl rfl⟩)
  rw [if_neg hc]
  right; right
  by_cases h10 : x.1 = 10
  · rw [if_pos h10]
    refine ⟨rfl, ?_, ?_, rfl, .inl ⟨rfl, own⟩⟩
    · show x.2.1 ∈ nextI x f.pc
      unfold nextI
      rw [if_pos h10]
      simp
    · show (f.stk.length : Int) = _
      have p0 : (orow k).p = 0 := by rw [hp, if_neg (by omega), if_neg (by omega)]
      have q0 : (orow k).q = 0 := by rw [hq, if_neg (by omega), if_neg (by omega)]
      rw [p0, q0]
      simp
  rw [if_neg h10]
  by_cases h11 : x.1 = 11
  · rw [if_pos h11]
    have hn : nextI x f.pc = [f.pc + 1, x.2.1] := by unfold nextI; rw [if_neg h10, if_neg (by omega), if_pos h11]
    have p0 : (orow k).p = 1 := by rw [hp, if_neg (by omega), if_pos (by omega)]
    have q0 : (orow k).q = 0 := by rw [hq, if_neg (by omega), if_neg (by omega)]
    rw [p0] at ho ⊢
    rw [q0, hn]
    have hl : ((f.stk.take (f.stk.length - 1)).length : Int) = f.stk.length - 1 + 0 := by rw [List.length_take]; omega
    split
    · exact ⟨rfl, by simp [goF, popF], hl, rfl, .inl ⟨rfl, own⟩⟩
    · exact ⟨rfl, by simp [goF, popF], hl, rfl, .inl ⟨rfl, own⟩⟩
  rw [if_neg h11]
  have hn : f.pc + 1 ∈ nextI x f.pc := by
    unfold nextI
    rw [if_neg (by omega), if_neg (by omega), if_neg (by omega)]
    simp
  refine ⟨rfl, hn, ?_, ?_, .inl ⟨rfl, ?_⟩⟩
  · show ((moveF f x).stk.length : Int) = _
    have hk' : k = 0 ∨ k = 1 ∨ k = 2 ∨ k = 7 ∨ k = 8 ∨ k = 9 ∨ k = 12 := by omega
    rw [hp] at ho ⊢
    rw [hq]
    unfold moveF
    rcases hk' with rfl | rfl | rfl | rfl | rfl | rfl | rfl <;> simp [hx, pushF, popF] at ho ⊢ <;> omega
  · show (moveF f x).st = f.st
    unfold moveF
    repeat' split
    all_goals rfl
  · show ∀ s ∈ (moveF f x).slt, _
    have : (moveF f x).slt = f.slt := by
      unfold moveF
      repeat' split
      all_goals rfl
    rw [this]
    exact own

theorem safe_step {p : List Fun} {k : Nat} {g : Fun} {T : Int → Prop} {f : Frm} (hc : (checkP p).2.2 = 0) (hg : p[k]? = some g) (h : Safe p k g T f) (hs : f.st = 0) (t : Int) (v : V) (ht : T t) :
    ((stepP p f t v).2 = 1 ∨ (stepP p f t v).2 = 2 ∨ (stepP p f t v).2 = 4) ∧
    ((stepP p f t v).2 = 4 → (stepP p f t v).1.otr = 0 ∨ (stepP p f t v).1.otr = 1 ∨ (stepP p f t v).1.otr = 2 ∨ 16 ≤ (stepP p f t v).1.otr ∨ T (stepP p f t v).1.otr) ∧
    ((stepP p f t v).1.st = 0 → Safe p k g T (stepP p f t v).1) := by
  obtain ⟨hk, rfl⟩ := List.getElem?_eq_some_iff.1 hg
  have hmem : p[k] ∈ p := List.getElem_mem hk
  have hS := solved_in hc hk
  have hok := check_ok hc hmem
  have hfi := (fun_facts ((check_facts hc).2 _ hmem)).2.1
  have hmf := ((mayP_iff p).1 (check_facts hc).1).2.2 _ hmem
  obtain ⟨i, hpc, hD⟩ := h.at_
  have hiD : i < p[k].code.length := by
    have := (List.getElem?_eq_some_iff.1 hD).1
    rw [hS.dl] at this
    exact this
  have hx : p[k].code[i] ∈ p[k].code := List.getElem_mem hiD
  have hmz := ((mayF_iff _).1 hmf).2.2.2 _ hx
  have hfo := fields_ok (hfi _ hx)
  have hoff := hok.off _ hx
  have hdn := hS.done i _ hD (by omega)
  rw [grF_at hiD] at hdn
  change offI p p[k].code[i] ≤ (f.stk.length : Int) ∧ (f.stk.length : Int) - offI p p[k].code[i] + (rz p[k].code[i].1).q ≤ 16 ∧ ∀ t ∈ nextI p[k].code[i] i, t < p[k].code.length ∧ (depthsP p k)[t.toNat]? = some ((f.stk.length : Int) - offI p p[k].code[i] + (rz p[k].code[i].1).q) at hdn
  have hcode : codeP p f.fn = p[k].code := by unfold codeP; rw [h.fn, Int.toNat_natCast, List.getElem?_eq_getElem hk]
  have hget : (codeP p f.fn).getD f.pc.toNat (0, 0, 0) = p[k].code[i] := by
    rw [hcode, hpc, Int.toNat_natCast, List.getD_eq_getElem?_getD, List.getElem?_eq_getElem hiD]; rfl
  have hnx := hok.next i hiD
  have hkn : knowsF p f p[k].code[i] = true := by
    have hl := h.loc
    have hl2 := h.slt
    have ha := (may_node hmz).2.2
    have hb : 0 ≤ p[k].code[i].2.2 := by
      simp only [mayZ, Bool.and_eq_true, decide_eq_true_eq] at hmz
      exact hmz.2.1
    unfold knowsF hasI
    split
    · have := hfo.1 ‹_›
      simp; omega
    · split
      · have := hfo.2.2.1 ‹_›
        simp; omega
      · split
        · have := hfo.2.1 ‹_›
          simp; omega
        · rfl
  have hfe : fetchF p f = (p[k].code[i], 0) := by
    unfold fetchF
    rw [hget, if_pos (by rw [hcode, hpc]; simp [hasI]; omega), if_pos ⟨hmz, hkn⟩]
  have hde : depthF p f p[k].code[i] = 0 := by
    unfold depthF
    rw [if_neg (by omega), if_neg (by omega)]
  have hx3 := exec_facts p f p[k].code[i] T hmz hkn ⟨hoff.1, hdn.1⟩ h.own
  have hkp : Keeps f (execF p f p[k].code[i]).1 (execF p f p[k].code[i]).2.1.kd := (exec_keeps p f p[k].code[i]).1
  have hdo : doF p f = if (execF p f p[k].code[i]).2.2 ≠ 0 then (endF (execF p f p[k].code[i]).1 (execF p f p[k].code[i]).2.2 (0, 0), actK 4) else ((execF p f p[k].code[i]).1, (execF p f p[k].code[i]).2.1) := by
    unfold doF
    rw [if_neg (by rw [h.fn]; simp [hs, hasI]; omega)]
    unfold runF
    rw [hfe]
    simp only []
    rw [if_neg (by simp), hde, if_neg (by simp)]
  generalize execF p f p[k].code[i] = R at *
  obtain ⟨r, a, e⟩ := R
  simp only at hx3 hkp hdo
  unfold stepP
  rw [hdo]
  rcases hx3 with ⟨h1, h2, h3, h4⟩ | ⟨h1, h2⟩ | ⟨h1, h2, h3, h4, h5⟩
  · rw [if_neg (show ¬ e ≠ 0 by omega)]
    simp only [h2]
    exact ⟨by simp, fun _ => .inl h4, fun e => by simp [h3] at e⟩
  · rw [if_pos h1]
    simp only [actK, endF]
    exact ⟨by simp, fun _ => by simpa using .inr h2, fun e => by simp at e⟩
  · rw [if_neg (show ¬ e ≠ 0 by omega)]
    simp only
    rw [hpc] at h2
    have ht2 := hnx _ h2
    have hd2 := (hdn.2.2 _ h2).2
    have hat : ∃ i : Nat, r.pc = i ∧ (depthsP p k)[i]? = some (r.stk.length : Int) := ⟨r.pc.toNat, by omega, by rw [hd2, h3]⟩
    rcases h5 with ⟨h5, h6⟩ | ⟨h5, h6, h7, h8⟩
    · rw [if_neg (show ¬ a.kd = 2 by omega)]
      refine ⟨.inl h5, fun e => by omega, fun _ => ⟨hkp.fn.trans h.fn, hat, by rw [hkp.loc]; exact h.loc, by rw [hkp.slt]; exact h.slt, h6⟩⟩
    · rw [if_pos h5]
      have hgv : giveF r a.sl t v = ({ r with slt := r.slt.set a.sl.toNat ⟨2, -1, 0, t, v.1, v.2⟩ }, true) := by
        unfold giveF
        rw [if_pos ⟨h6, h7⟩, if_neg (by rw [h4, hs]; simp)]
      rw [hgv]
      refine ⟨.inr (.inl rfl), fun e => by simp at e, fun _ => ⟨hkp.fn.trans h.fn, hat, by rw [← h.loc]; exact congrArg _ hkp.loc, by simp only [List.length_set]; rw [hkp.slt]; exact h.slt, h8 _ (.inr ⟨rfl, ht⟩)⟩⟩
end Go.Proofs.YtoeinpiekfmbgaaGreatDoor

