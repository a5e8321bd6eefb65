/- Layer 10, plain: a program that wraps another one. -/
import Derived.Test.YtagjddnpaahebaaDoorzSg
import Derived.Test.YtagjddnpaahebaaDoorzGb
import Derived.Test.YtagjddnpaahebaaDoorzRrm
import Derived.IntWalk
import Derived.Laws.IdiomStrings
namespace Go.Proofs.YtagjddnpaahebaaDoor
set_option linter.unusedVariables false
set_option linter.unusedSimpArgs false
open Gm Go Go.RowKit

def loadsW (n : Nat) : List (Int × Int × Int) := (List.range n).map fun (i : Nat) => (1, (i : Int), 0)
def mainW (n : Nat) : Fun := ⟨n, n, 1, loadsW n ++ [(13, 1, 0), (14, 0, 0), (15, 0, 0)]⟩
def fW (pc : Int) (stk args : List V) (a : Slt) (s spn : Int) : Frm := ⟨0, pc, stk, args, [a], s, spn, 0, 0, 0, 0, 0, 0, -1, 0, 0⟩
theorem fetch_at {p : List Fun} {f : Frm} {x : Int × Int × Int} {i : Nat} (hp : f.pc = i) (hx : (codeP p f.fn)[i]? = some x) (hm : mayZ x.1 x.2.1 x.2.2 = true) (hk : knowsF p f x = true) : fetchF p f = (x, 0) := by
  obtain ⟨hi, e⟩ := List.getElem?_eq_some_iff.1 hx
  have hg : (codeP p f.fn).getD f.pc.toNat (0, 0, 0) = x := by rw [hp, Int.toNat_natCast, List.getD_eq_getElem?_getD, hx]; rfl
  unfold fetchF
  rw [hg, if_pos (by rw [hp]; simp [hasI]; omega), if_pos ⟨hm, hk⟩]
theorem mainW_len (n : Nat) : (loadsW n).length = n := by simp [loadsW]
theorem mainW_ld {n i : Nat} (h : i < n) : (mainW n).code[i]? = some (1, (i : Int), 0) := by
  unfold mainW
  show (loadsW n ++ _)[i]? = _
  rw [List.getElem?_append_left (by rw [mainW_len]; exact h)]
  simp [loadsW, h]
theorem mainW_k {n k : Nat} : (mainW n).code[n + k]? = [((13 : Int), (1 : Int), (0 : Int)), (14, 0, 0), (15, 0, 0)][k]? := by
  unfold mainW
  show (loadsW n ++ _)[n + k]? = _
  rw [List.getElem?_append_right (by rw [mainW_len]; omega), mainW_len, Nat.add_sub_cancel_left]
theorem has0 (h : Fun) (p : List Fun) : hasI (mvP h p).length 0 = true := by
  have : 0 < (mvP h p).length := by unfold mvP; rw [List.length_cons]; omega
  simp [hasI, this]
section
variable {p : List Fun} {args : List V} {n : Nat}
theorem sW0 (s : Int) {i : Nat} (hn : args.length = n) (hn8 : n ≤ 8) (hi : i < n) :
    doF (mvP (mainW n) p) (fW i (args.take i) args slt0 s 0) = (fW ((i + 1 : Nat) : Int) (args.take (i + 1)) args slt0 s 0, actK 1) := by
  have hia : i < args.length := by omega
  have hl : (args.take i).length = i := by rw [List.length_take]; omega
  have hfe : fetchF (mvP (mainW n) p) (fW i (args.take i) args slt0 s 0) = ((1, (i : Int), 0), 0) := by
    refine fetch_at (i := i) rfl (mainW_ld hi) ?_ ?_
    · have e1 : (rz 1).lo = 0 := rfl
      have e2 : (rz 1).la = 15 := rfl
      have e3 : (rz 1).lb = 0 := rfl
      simp only [mayZ, Bool.and_eq_true, decide_eq_true_eq]
      rw [e1, e2, e3]
      exact ⟨⟨rfl, by omega, by omega⟩, by omega, by omega⟩
    · show hasI args.length (i : Int) = true
      simp [hasI, hia]
  have hd : depthF (mvP (mainW n) p) (fW i (args.take i) args slt0 s 0) (1, (i : Int), 0) = 0 := by
    have e0 : offI (mvP (mainW n) p) (1, (i : Int), 0) = 0 := by kernel_rfl
    have e1 : (rz (1, (i : Int), (0 : Int)).1).q = 1 := by kernel_rfl
    have e2 : (fW i (args.take i) args slt0 s 0).stk.length = i := hl
    unfold depthF
    rw [e0, e1, e2, if_neg (by omega), if_neg (by omega)]
  rw [do_of rfl (has0 _ _) hfe hd]
  show (if (0 : Int) ≠ 0 then _ else (goF (pushF (fW i (args.take i) args slt0 s 0) [args.getD (i : Int).toNat (0, 0)]) ((i : Int) + 1), actK 1)) = _
  rw [if_neg (by simp), Int.toNat_natCast, List.getD_eq_getElem?_getD, List.getElem?_eq_getElem hia, List.take_add_one, List.getElem?_eq_getElem hia]
  rfl
theorem loads_run (s : Int) (hn : args.length = n) (hn8 : n ≤ 8) (N : Nat) : ∀ (j i : Nat), i + j = n → runT (mvP (mainW n) p) (N + j) [(fW i (args.take i) args slt0 s 0, 0)] = runT (mvP (mainW n) p) N [(fW n args args slt0 s 0, 0)]
  | 0, i, h => by
    obtain rfl : i = n := by omega
    rw [Nat.add_zero, ← hn, List.take_length]
  | j + 1, i, h => by
    rw [← Nat.add_assoc, run_step (sW0 s hn hn8 (by omega)) (by decide) (by decide)]
    exact loads_run s hn hn8 N j (i + 1) (by omega)
theorem sW1 (s : Int) (hn : args.length = n) (hn8 : n ≤ 8) (hp : 0 < p.length) (ha : p[0].ar = n) :
    doF (mvP (mainW n) p) (fW n args args slt0 s 0) = (fW ((n + 1 : Nat) : Int) [] args slK s 1, ⟨2, 1, 0, useZ s 1 0, args⟩) := by
  have har : arP (mvP (mainW n) p) 1 = n := by
    have := ar_up (h := mainW n) (p := p) (i := 0) (by omega)
    rw [show (0 : Int) + 1 = 1 from rfl] at this
    rw [this]
    unfold arP
    rw [show (0 : Int).toNat = 0 from rfl, List.getElem?_eq_getElem hp]
    exact ha
  have hfe : fetchF (mvP (mainW n) p) (fW n args args slt0 s 0) = ((13, 1, 0), 0) := by
    refine fetch_at (i := n) rfl (mainW_k (k := 0)) (by kernel_rfl) ?_
    show (hasI (mvP (mainW n) p).length 1 && hasI 1 0) = true
    simp [hasI, mvP]
    omega
  have hd : depthF (mvP (mainW n) p) (fW n args args slt0 s 0) (13, 1, 0) = 0 := by
    have e0 : offI (mvP (mainW n) p) (13, 1, 0) = n := har
    have e1 : (rz ((13 : Int), (1 : Int), (0 : Int)).1).q = 0 := by kernel_rfl
    have e2 : (fW n args args slt0 s 0).stk.length = n := hn
    unfold depthF
    rw [e0, e1, e2, if_neg (by omega), if_neg (by omega)]
  have hx : execF (mvP (mainW n) p) (fW n args args slt0 s 0) (13, 1, 0) = (fW ((n + 1 : Nat) : Int) [] args slK s 1, ⟨2, 1, 0, useZ s 1 0, args⟩, 0) := by
    rw [exec_13 rfl]
    show spawnF (mvP (mainW n) p) (fW n args args slt0 s 0) 1 0 = _
    unfold spawnF
    rw [har]
    generalize hz : useZ (fW n args args slt0 s 0).seed 1 (fW n args args slt0 s 0).spn = z
    have hz2 : useZ s 1 0 = z := hz
    rw [hz2, if_neg (show ¬ ((sltAt (fW n args args slt0 s 0) 0).st ≠ 0) from fun e => e rfl)]
    have e1 : (fW n args args slt0 s 0).stk.take ((fW n args args slt0 s 0).stk.length - (n : Int).toNat) = [] := by
      show args.take (args.length - (n : Int).toNat) = []
      rw [Int.toNat_natCast, hn, Nat.sub_self, List.take_zero]
    have e2 : (fW n args args slt0 s 0).stk.drop ((fW n args args slt0 s 0).stk.length - (n : Int).toNat) = args := by
      show args.drop (args.length - (n : Int).toNat) = args
      rw [Int.toNat_natCast, hn, Nat.sub_self, List.drop_zero]
    have e3 : wrap64 ((fW n args args slt0 s 0).spn + 1) = 1 := by show wrap64 (0 + 1) = 1; unfold wrap64; omega
    have e4 : (fW n args args slt0 s 0).pc + 1 = ((n + 1 : Nat) : Int) := by show (n : Int) + 1 = _; omega
    rw [e1, e2, e3, e4]
    rfl
  rw [do_of rfl (has0 _ _) hfe hd, hx, if_neg (by simp)]
theorem join_f (s : Int) (t : Int) (u : V) : fetchF (mvP (mainW n) p) (fW ((n + 1 : Nat) : Int) [] args (slO (t, u)) s 1) = ((14, 0, 0), 0) :=
  fetch_at (i := n + 1) rfl (mainW_k (k := 1)) (by kernel_rfl) (by kernel_rfl)
theorem sW2 (s : Int) (u : V) : doF (mvP (mainW n) p) (fW ((n + 1 : Nat) : Int) [] args (slO (0, u)) s 1) = (fW ((n + 2 : Nat) : Int) [u] args slt0 s 1, actK 1) := by
  have hx : execF (mvP (mainW n) p) (fW ((n + 1 : Nat) : Int) [] args (slO (0, u)) s 1) (14, 0, 0) = (fW ((n + 2 : Nat) : Int) [u] args slt0 s 1, actK 1, 0) := by
    show joinF (fW ((n + 1 : Nat) : Int) [] args (slO (0, u)) s 1) 0 = _
    unfold joinF
    rw [show sltAt (fW ((n + 1 : Nat) : Int) [] args (slO (0, u)) s 1) 0 = slO (0, u) from rfl, if_neg (show ¬ (slO (0, u)).st = 1 from (by decide : ¬ (2 : Int) = 1)), if_pos (show (slO (0, u)).st = 2 from rfl), if_neg (show ¬ (slO (0, u)).tr ≠ 0 from fun e => e rfl)]
    rfl
  rw [do_of rfl (has0 _ _) (join_f s 0 u) (by kernel_rfl), hx, if_neg (by simp)]
theorem sW3 (s t : Int) (u : V) (ht : t ≠ 0) : doF (mvP (mainW n) p) (fW ((n + 1 : Nat) : Int) [] args (slO (t, u)) s 1) = (endF (fW ((n + 1 : Nat) : Int) [] args slt0 s 1) t (0, 0), actK 4) := by
  have hx : execF (mvP (mainW n) p) (fW ((n + 1 : Nat) : Int) [] args (slO (t, u)) s 1) (14, 0, 0) = (fW ((n + 1 : Nat) : Int) [] args slt0 s 1, act0, t) := by
    show joinF (fW ((n + 1 : Nat) : Int) [] args (slO (t, u)) s 1) 0 = _
    unfold joinF
    rw [show sltAt (fW ((n + 1 : Nat) : Int) [] args (slO (t, u)) s 1) 0 = slO (t, u) from rfl, if_neg (show ¬ (slO (t, u)).st = 1 from (by decide : ¬ (2 : Int) = 1)), if_pos (show (slO (t, u)).st = 2 from rfl), if_pos (show (slO (t, u)).tr ≠ 0 from ht)]
    rfl
  rw [do_of rfl (has0 _ _) (join_f s t u) (by kernel_rfl), hx, if_pos ht]
theorem sW4 (s : Int) (u : V) : doF (mvP (mainW n) p) (fW ((n + 2 : Nat) : Int) [u] args slt0 s 1) = (endF (fW ((n + 2 : Nat) : Int) [] args slt0 s 1) 0 u, actK 4) := by
  have hfe : fetchF (mvP (mainW n) p) (fW ((n + 2 : Nat) : Int) [u] args slt0 s 1) = ((15, 0, 0), 0) := fetch_at (i := n + 2) rfl (mainW_k (k := 2)) (by kernel_rfl) (by kernel_rfl)
  rw [do_of rfl (has0 _ _) hfe (by kernel_rfl)]
  rfl
theorem giveW (pc s : Int) (o : OutP) : giveO (fW pc [] args slK s 1) 0 o = fW pc [] args (slO o) s 1 := by kernel_rfl
end
theorem mainW_may {n : Nat} (hn : n ≤ 8) : mayF (mainW n) = true := by
  have h : ∀ k : Fin 9, mayF (mainW k.1) = true := by decide +kernel
  exact h ⟨n, by omega⟩
theorem mainW_fun0 (b c : Int) (d : List (Int × Int × Int)) (p : List Fun) : (funE (mvP (mainW 0) (⟨((0 : Nat) : Int), b, c, d⟩ :: p)) (mainW 0)).2 = 0 := by kernel_rfl
theorem mainW_fun1 (b c : Int) (d : List (Int × Int × Int)) (p : List Fun) : (funE (mvP (mainW 1) (⟨((1 : Nat) : Int), b, c, d⟩ :: p)) (mainW 1)).2 = 0 := by kernel_rfl
theorem mainW_fun2 (b c : Int) (d : List (Int × Int × Int)) (p : List Fun) : (funE (mvP (mainW 2) (⟨((2 : Nat) : Int), b, c, d⟩ :: p)) (mainW 2)).2 = 0 := by kernel_rfl
theorem mainW_fun3 (b c : Int) (d : List (Int × Int × Int)) (p : List Fun) : (funE (mvP (mainW 3) (⟨((3 : Nat) : Int), b, c, d⟩ :: p)) (mainW 3)).2 = 0 := by kernel_rfl
theorem mainW_fun4 (b c : Int) (d : List (Int × Int × Int)) (p : List Fun) : (funE (mvP (mainW 4) (⟨((4 : Nat) : Int), b, c, d⟩ :: p)) (mainW 4)).2 = 0 := by kernel_rfl
theorem mainW_fun5 (b c : Int) (d : List (Int × Int × Int)) (p : List Fun) : (funE (mvP (mainW 5) (⟨((5 : Nat) : Int), b, c, d⟩ :: p)) (mainW 5)).2 = 0 := by kernel_rfl
theorem mainW_fun6 (b c : Int) (d : List (Int × Int × Int)) (p : List Fun) : (funE (mvP (mainW 6) (⟨((6 : Nat) : Int), b, c, d⟩ :: p)) (mainW 6)).2 = 0 := by kernel_rfl
theorem mainW_fun7 (b c : Int) (d : List (Int × Int × Int)) (p : List Fun) : (funE (mvP (mainW 7) (⟨((7 : Nat) : Int), b, c, d⟩ :: p)) (mainW 7)).2 = 0 := by kernel_rfl
theorem mainW_fun8 (b c : Int) (d : List (Int × Int × Int)) (p : List Fun) : (funE (mvP (mainW 8) (⟨((8 : Nat) : Int), b, c, d⟩ :: p)) (mainW 8)).2 = 0 := by kernel_rfl
theorem mainW_fun {p : List Fun} {n : Nat} (hn : n ≤ 8) (hp : 0 < p.length) (ha : p[0].ar = n) : (funE (mvP (mainW n) p) (mainW n)).2 = 0 := by
  match p, hp, ha with
  | ⟨a, b, c, d⟩ :: p, _, ha =>
    obtain rfl : a = n := ha
    have : n = 0 ∨ n = 1 ∨ n = 2 ∨ n = 3 ∨ n = 4 ∨ n = 5 ∨ n = 6 ∨ n = 7 ∨ n = 8 := by omega
    rcases this with rfl | rfl | rfl | rfl | rfl | rfl | rfl | rfl | rfl
    · exact mainW_fun0 b c d p
    · exact mainW_fun1 b c d p
    · exact mainW_fun2 b c d p
    · exact mainW_fun3 b c d p
    · exact mainW_fun4 b c d p
    · exact mainW_fun5 b c d p
    · exact mainW_fun6 b c d p
    · exact mainW_fun7 b c d p
    · exact mainW_fun8 b c d p
/-- All of SeqWraps. -/
theorem eval_wrap {p : List Fun} {args : List V} {s : Int} (hc : (checkP p).2.2 = 0) (hl : p.length ≤ 15) (hp : 0 < p.length) (ha : p[0].ar = args.length) (hs : isZ s = true) (hn8 : args.length ≤ 8) :
    ((evalP p args (useZ s 1 0) 2000).2.2 = 1 ∧ (evalP (mvP (mainW args.length) p) args s 2100).2.2 = 1) ∨
    ((evalP p args (useZ s 1 0) 2000).2.2 = 100 ∧ ((evalP (mvP (mainW args.length) p) args s 2100).2.2 = 100 ∨ 2000 < (evalP (mvP (mainW args.length) p) args s 2100).2.1)) ∨
    ((evalP p args (useZ s 1 0) 2000).2.2 = 0 ∧ evalP (mvP (mainW args.length) p) args s 2100 =
      ((evalP p args (useZ s 1 0) 2000).1, (evalP p args (useZ s 1 0) 2000).2.1 + (args.length + (if (evalP p args (useZ s 1 0) 2000).1.1 = 0 then 3 else 2)), 0)) := by
  obtain ⟨n, hn⟩ : ∃ n, n = args.length := ⟨_, rfl⟩
  rw [← hn] at hn8 ha ⊢
  have hq := check_up hc hl (mainW_may hn8) (mainW_fun hn8 hp ha)
  have hmay := (check_facts hq).1
  have hz : isZ (useZ s 1 0) = true := useZ_is _ _ _
  have ni := new_iff hc args (useZ s 1 0)
  have nq := new_iff hq args s
  have hq0 : ∃ h : 0 < (mvP (mainW n) p).length, (mvP (mainW n) p)[0].ar = args.length := ⟨by simp [mvP], by rw [← hn]; rfl⟩
  have hp0 : ∃ h : 0 < p.length, p[0].ar = args.length := ⟨hp, by rw [← hn]; exact ha⟩
  by_cases hv : ∀ v ∈ args, gMay v
  · have hnp := ni.2 ⟨hz, hp0, hv⟩
    have hnq := nq.2 ⟨hs, hq0, hv⟩
    have e0 : (newF (mvP (mainW n) p) 0 args s).1 = fW ((0 : Nat) : Int) (args.take 0) args slt0 s 0 := by
      obtain ⟨_, _, k, hk, e, _, _, _, e1⟩ := new_facts hnq
      obtain rfl : k = 0 := by omega
      rw [e1]
      show (⟨0, 0, [], args ++ List.replicate ((n : Int).toNat - args.length) (0, 0), List.replicate (1 : Int).toNat slt0, s, 0, 0, 0, 0, 0, 0, 0, -1, 0, 0⟩ : Frm) = _
      rw [Int.toNat_natCast, hn, Nat.sub_self, List.replicate_zero, List.append_nil]
      rfl
    have hevp := evalP_can (p := p) (args := args) (s := useZ s 1 0) (fuel := 2000) ⟨hc, by decide, by decide, hnp⟩
    have hevq := evalP_can (p := mvP (mainW n) p) (args := args) (s := s) (fuel := 2100) ⟨hq, by decide, by decide, hnq⟩
    have hkid : ∀ N, runT (mvP (mainW n) p) N [(kidF (mvP (mainW n) p) ⟨2, 1, 0, useZ s 1 0, args⟩, 0)] = runT p N [((newF p 0 args (useZ s 1 0)).1, 0)] := kid_run hc hl hmay hnp
    have eF : (2100 : Int).toNat = (2100 - n - 1) + 1 + n := by rw [show (2100 : Int).toNat = 2100 from rfl]; omega
    have step1 : ∀ N, runT (mvP (mainW n) p) (N + n) [((newF (mvP (mainW n) p) 0 args s).1, 0)] = runT (mvP (mainW n) p) N [(fW n args args slt0 s 0, 0)] := fun N => by
      rw [e0]; exact loads_run s hn.symm hn8 N n 0 (by omega)
    have sp := sW1 s hn.symm hn8 hp ha
    rw [eF, step1] at hevq
    rw [show (2000 : Int).toNat = 2000 from rfl] at hevp
    cases hr : runT p (2100 - n - 1) [((newF p 0 args (useZ s 1 0)).1, 0)] with
    | none =>
      rw [run_child_none sp rfl ((hkid _).trans hr)] at hevq
      have h2000 : runT p 2000 [((newF p 0 args (useZ s 1 0)).1, 0)] = none := by
        cases h2 : runT p 2000 [((newF p 0 args (useZ s 1 0)).1, 0)] with
        | none => rfl
        | some x =>
          obtain ⟨o, m⟩ := x
          have := runT_more h2 (100 - n - 1)
          rw [show 2000 + (100 - n - 1) = 2100 - n - 1 by omega, hr] at this
          cases this
      rw [h2000] at hevp
      rw [hevp, hevq]
      exact .inr (.inl ⟨rfl, .inl rfl⟩)
    | some x =>
      obtain ⟨⟨t, u⟩, m⟩ := x
      rw [run_child sp rfl ((hkid _).trans hr)] at hevq
      rw [giveW] at hevq
      have hlt := runT_left hr
      cases h2 : runT p 2000 [((newF p 0 args (useZ s 1 0)).1, 0)] with
      | none =>
        rw [h2] at hevp
        have hk : m < 100 - n - 1 := by
          refine Decidable.byContradiction fun hm => ?_
          have h3 := runT_more (runT_just hr).1 (2000 - (2100 - n - 1 - m))
          rw [show 2100 - n - 1 - m + (2000 - (2100 - n - 1 - m)) = 2000 by omega, h2] at h3
          cases h3
        refine .inr (.inl ⟨by rw [hevp], ?_⟩)
        cases h3 : runT (mvP (mainW n) p) m [(fW ((n + 1 : Nat) : Int) [] args (slO (t, u)) s 1, 0)] with
        | none => rw [h3] at hevq; exact .inl (by rw [hevq])
        | some y =>
          obtain ⟨o2, m2⟩ := y
          rw [h3] at hevq
          have := runT_left h3
          right
          rw [hevq]
          show (2000 : Int) < 2100 - (m2 : Int)
          omega
      | some y =>
        obtain ⟨o2, m2⟩ := y
        rw [h2] at hevp
        obtain ⟨e1, e2⟩ := runT_two hr h2
        have hlt2 := runT_left h2
        subst e1
        have hm2 : 2 ≤ m := by omega
        right; right
        rw [hevp]
        refine ⟨rfl, ?_⟩
        by_cases ht : t = 0
        · subst ht
          obtain ⟨m3, rfl⟩ : ∃ m3, m = m3 + 1 + 1 := ⟨m - 2, by omega⟩
          rw [run_step (sW2 s u) (by decide) (by decide), run_end (sW4 s u) rfl] at hevq
          have ho : outF (endF (fW ((n + 2 : Nat) : Int) [] args slt0 s 1) 0 u) = (0, u) := by kernel_rfl
          rw [ho] at hevq
          rw [hevq]
          show ((0, u), (2100 : Int) - (m3 : Int), (0 : Int)) = ((0, u), (2000 : Int) - (m2 : Int) + ((n : Int) + 3), 0)
          rw [show (2100 : Int) - (m3 : Int) = (2000 : Int) - (m2 : Int) + ((n : Int) + 3) by omega]
        · have hu : u = (0, 0) := by
            obtain ⟨k, g, hg, hsf, hst⟩ := new_safe hc hnp (T := GoodT p)
            exact (run_value hc _ k g _ (t, u) m hg hsf (new_inv (good0 _) hv) hst hr).2.2 ht
          subst hu
          obtain ⟨m3, rfl⟩ : ∃ m3, m = m3 + 1 := ⟨m - 1, by omega⟩
          rw [run_end (sW3 s t (0, 0) ht) rfl] at hevq
          have ho : outF (endF (fW ((n + 1 : Nat) : Int) [] args slt0 s 1) t (0, 0)) = (t, (0, 0)) := by
            unfold outF finF
            rw [if_neg (by simp [endF, fW, slt0]), if_pos (show (endF (fW ((n + 1 : Nat) : Int) [] args slt0 s 1) t (0, 0)).otr ≠ 0 from ht)]
            rfl
          rw [ho] at hevq
          rw [hevq]
          show ((t, (0, 0)), (2100 : Int) - (m3 : Int), (0 : Int)) = ((t, (0, 0)), (2000 : Int) - (m2 : Int) + ((n : Int) + (if t = 0 then 3 else 2)), 0)
          rw [if_neg ht, show (2100 : Int) - (m3 : Int) = (2000 : Int) - (m2 : Int) + ((n : Int) + 2) by omega]
  · have h1 : evalP p args (useZ s 1 0) 2000 = (zeroO, 0, 1) := evalP_no fun h => hv (ni.1 h.2.2.2).2.2
    have h2 : evalP (mvP (mainW n) p) args s 2100 = (zeroO, 0, 1) := evalP_no fun h => hv (nq.1 h.2.2.2).2.2
    rw [h1, h2]
    exact .inl ⟨rfl, rfl⟩
end Go.Proofs.YtagjddnpaahebaaDoor

/- Layer 10, plain: traps of children. -/
namespace Go.Proofs.YtagjddnpaahebaaDoor
set_option linter.unusedVariables false
set_option linter.unusedSimpArgs false
open Gm Go Go.RowKit

def endT : Nat → List (Int × Int × Int)
  | 0 => [(14, 1, 0), (15, 0, 0)]
  | 1 => [(0, 1, 0), (15, 0, 0)]
  | 2 => [(16, 99, 0)]
  | _ => [(14, 0, 0), (15, 0, 0)]
def endX : Nat → List UInt8
  | 0 => [106, 111, 105, 110, 32, 49, 10, 114, 101, 116, 10]
  | 1 => [112, 117, 115, 104, 32, 49, 32, 48, 10, 114, 101, 116, 10]
  | 2 => [116, 114, 97, 112, 32, 57, 57, 10]
  | _ => [106, 111, 105, 110, 32, 48, 10, 114, 101, 116, 10]
def trF (a : Int) : Fun := ⟨0, 0, 0, [(16, a, 0)]⟩
def prT (k : Nat) (a b : Int) : List Fun := [⟨0, 0, 2, (13, 2, 1) :: (13, 1, 0) :: endT k⟩, trF a, trF b]
def hdT : List UInt8 := [102, 117, 110, 99, 32, 48, 32, 48, 32, 50, 10, 115, 112, 97, 119, 110, 32, 50, 32, 49, 10, 115, 112, 97, 119, 110, 32, 49, 32, 48, 10]
def m1T : List UInt8 := [102, 117, 110, 99, 32, 48, 32, 48, 32, 48, 10, 116, 114, 97, 112, 32]
def m2T : List UInt8 := [10, 102, 117, 110, 99, 32, 48, 32, 48, 32, 48, 10, 116, 114, 97, 112, 32]
def txT (k : Nat) (a b : Int) : List UInt8 := hdT ++ endX k ++ m1T ++ dgI a ++ m2T ++ dgI b ++ [10]
theorem mayZ16 {a : Int} (h : 16 ≤ a) (h2 : a ≤ 255) : mayZ 16 a 0 = true := by
  have e1 : (rz 16).lo = 16 := rfl
  have e2 : (rz 16).la = 255 := rfl
  have e3 : (rz 16).lb = 0 := rfl
  simp only [mayZ, Bool.and_eq_true, decide_eq_true_eq]
  rw [e1, e2, e3]
  exact ⟨⟨rfl, h, h2⟩, by omega, by omega⟩
theorem trF_may {a : Int} (h : 16 ≤ a) (h2 : a ≤ 255) : mayF (trF a) = true :=
  (mayF_iff _).2 ⟨rfl, by simp [trF], by simp [trF], fun x hx => by simp [trF] at hx; subst hx; exact mayZ16 h h2⟩
theorem mainT_may : ∀ k : Fin 4, mayF ⟨0, 0, 2, (13, 2, 1) :: (13, 1, 0) :: endT k.1⟩ = true := by decide +kernel
theorem prT_may {k : Nat} (hk : k < 4) {a b : Int} (h : 16 ≤ a) (h2 : a ≤ 255) (h3 : 16 ≤ b) (h4 : b ≤ 255) : mayP (prT k a b) = true :=
  (mayP_iff _).2 ⟨by simp [prT], by simp [prT], fun f hf => by
    simp only [prT, List.mem_cons, List.not_mem_nil, or_false] at hf
    rcases hf with rfl | rfl | rfl
    · exact mainT_may ⟨k, hk⟩
    · exact trF_may h h2
    · exact trF_may h3 h4⟩
theorem lineT16 (a : Int) : lineT (.ins 16 a 0) = [116, 114, 97, 112] ++ 32 :: dgI a := rfl
theorem text_T {k : Nat} (hk : k < 4) {a b : Int} (h : 16 ≤ a) (h2 : a ≤ 255) (h3 : 16 ≤ b) (h4 : b ≤ 255) : (parseP (txT k a b)).1 = prT k a b := by
  have hm := prT_may hk h h2 h3 h4
  have ht : textP (prT k a b) = txT k a b := by
    unfold textP
    rw [if_pos hm]
    have e1 : ∀ c : Int, (linesP [trF c]).map lineT = [[102, 117, 110, 99, 32, 48, 32, 48, 32, 48], [116, 114, 97, 112] ++ 32 :: dgI c] := fun c => by
      show [lineT (.head 0 0 0), lineT (.ins 16 c 0)] = _
      rw [lineT16, show lineT (.head 0 0 0) = [102, 117, 110, 99, 32, 48, 32, 48, 32, 48] by decide +kernel]
    have e2 : prT k a b = [⟨0, 0, 2, (13, 2, 1) :: (13, 1, 0) :: endT k⟩] ++ [trF a] ++ [trF b] := rfl
    have e3 : ∀ p q : List Fun, linesP (p ++ q) = linesP p ++ linesP q := fun p q => by unfold linesP; rw [List.map_append, List.flatten_append]
    have e4 : flatC 10 ((linesP [⟨0, 0, 2, (13, 2, 1) :: (13, 1, 0) :: endT k⟩]).map lineT) = hdT ++ endX k := by
      have : ∀ j : Fin 4, flatC 10 ((linesP [⟨0, 0, 2, (13, 2, 1) :: (13, 1, 0) :: endT j.1⟩]).map lineT) = hdT ++ endX j.1 := by decide +kernel
      exact this ⟨k, hk⟩
    rw [e2, e3, e3, List.map_append, List.map_append, flatC_app, flatC_app, e4, e1, e1]
    unfold txT m1T m2T
    simp [flatC]
  rw [← ht, parse_text hm]
def fT (pc : Int) (stk : List V) (s0 s1 : Slt) (spn : Int) : Frm := ⟨0, pc, stk, [], [s0, s1], 5, spn, 0, 0, 0, 0, 0, 0, -1, 0, 0⟩
def kT (fn z : Int) : Frm := ⟨fn, 0, [], [], [], z, 0, 0, 0, 0, 0, 0, 0, -1, 0, 0⟩
def wantT (k : Nat) (a b : Int) : Int × Int := match k with | 0 => (b, 5) | 1 => (a, 6) | 2 => (99, 5) | _ => (a, 5)
section
variable (a b : Int)
theorem fun0T : (∀ f ∈ prT 0 a b, (funE (prT 0 a b) f).2 = 0) := by
  intro f hf
  simp only [prT, List.mem_cons, List.not_mem_nil, or_false] at hf
  rcases hf with rfl | rfl | rfl
  · exact (show (funE (prT 0 a b) ⟨0, 0, 2, (13, 2, 1) :: (13, 1, 0) :: endT 0⟩).2 = 0 by kernel_rfl)
  · exact (show (funE (prT 0 a b) (trF a)).2 = 0 by kernel_rfl)
  · exact (show (funE (prT 0 a b) (trF b)).2 = 0 by kernel_rfl)
theorem s0T0 : doF (prT 0 a b) (fT 0 [] slt0 slt0 0) = (fT 1 [] slt0 slK 1, ⟨2, 2, 1, useZ 5 1 0, []⟩) := by kernel_rfl
theorem s0T1 (s : Slt) : doF (prT 0 a b) (fT 1 [] slt0 s 1) = (fT 2 [] slK s 2, ⟨2, 1, 0, useZ 5 1 1, []⟩) := by kernel_rfl
theorem s0T2 (ha : a ≠ 0) (hb : b ≠ 0) : doF (prT 0 a b) (fT 2 [] (slO (a, (0, 0))) (slO (b, (0, 0))) 2) = (endF (fT 2 [] (slO (a, (0, 0))) slt0 2) b (0, 0), actK 4) := by
  have hx : execF (prT 0 a b) (fT 2 [] (slO (a, (0, 0))) (slO (b, (0, 0))) 2) (14, 1, 0) = ((fT 2 [] (slO (a, (0, 0))) slt0 2), act0, b) := by
    show joinF (fT 2 [] (slO (a, (0, 0))) (slO (b, (0, 0))) 2) 1 = _
    unfold joinF
    rw [show sltAt (fT 2 [] (slO (a, (0, 0))) (slO (b, (0, 0))) 2) 1 = slO (b, (0, 0)) from rfl, if_neg (show ¬ (slO (b, (0, 0))).st = 1 from (by decide : ¬ (2 : Int) = 1)), if_pos (show (slO (b, (0, 0))).st = 2 from rfl), if_pos (show (slO (b, (0, 0))).tr ≠ 0 from hb)]
    rfl
  rw [do_of (x := (14, 1, 0)) rfl (by kernel_rfl) (by kernel_rfl) (by kernel_rfl), hx, if_pos hb]
theorem o0T (ha : a ≠ 0) (hb : b ≠ 0) : outF (endF (fT 2 [] (slO (a, (0, 0))) slt0 2) b (0, 0)) = (b, (0, 0)) := by
  unfold outF finF
  rw [if_neg (by simp [endF, fT, slO, slt0]), if_pos (show (endF (fT 2 [] (slO (a, (0, 0))) slt0 2) b (0, 0)).otr ≠ 0 from hb)]
  rfl
end
section
variable (a b : Int)
theorem fun1T : (∀ f ∈ prT 1 a b, (funE (prT 1 a b) f).2 = 0) := by
  intro f hf
  simp only [prT, List.mem_cons, List.not_mem_nil, or_false] at hf
  rcases hf with rfl | rfl | rfl
  · exact (show (funE (prT 1 a b) ⟨0, 0, 2, (13, 2, 1) :: (13, 1, 0) :: endT 1⟩).2 = 0 by kernel_rfl)
  · exact (show (funE (prT 1 a b) (trF a)).2 = 0 by kernel_rfl)
  · exact (show (funE (prT 1 a b) (trF b)).2 = 0 by kernel_rfl)
theorem s1T0 : doF (prT 1 a b) (fT 0 [] slt0 slt0 0) = (fT 1 [] slt0 slK 1, ⟨2, 2, 1, useZ 5 1 0, []⟩) := by kernel_rfl
theorem s1T1 (s : Slt) : doF (prT 1 a b) (fT 1 [] slt0 s 1) = (fT 2 [] slK s 2, ⟨2, 1, 0, useZ 5 1 1, []⟩) := by kernel_rfl
theorem s1T2 (s r : Slt) : doF (prT 1 a b) (fT 2 [] s r 2) = (fT 3 [(1, 0)] s r 2, actK 1) := by kernel_rfl
theorem s1T3 (s r : Slt) : doF (prT 1 a b) (fT 3 [(1, 0)] s r 2) = (endF (fT 3 [] s r 2) 0 (1, 0), actK 4) := by kernel_rfl
theorem o1T (ha : a ≠ 0) (hb : b ≠ 0) : outF (endF (fT 3 [] (slO (a, (0, 0))) (slO (b, (0, 0))) 2) 0 (1, 0)) = (a, (0, 0)) := by
  unfold outF finF
  rw [if_neg (by simp [endF, fT, slO]), if_neg (by simp [endF])]
  have : (endF (fT 3 [] (slO (a, (0, 0))) (slO (b, (0, 0))) 2) 0 (1, 0)).slt.find? (fun s => s.st == 2 && s.tr != 0) = some (slO (a, (0, 0))) := by
    simp [endF, fT, slO, ha]
  rw [this]
  rfl
end
section
variable (a b : Int)
theorem fun2T : (∀ f ∈ prT 2 a b, (funE (prT 2 a b) f).2 = 0) := by
  intro f hf
  simp only [prT, List.mem_cons, List.not_mem_nil, or_false] at hf
  rcases hf with rfl | rfl | rfl
  · exact (show (funE (prT 2 a b) ⟨0, 0, 2, (13, 2, 1) :: (13, 1, 0) :: endT 2⟩).2 = 0 by kernel_rfl)
  · exact (show (funE (prT 2 a b) (trF a)).2 = 0 by kernel_rfl)
  · exact (show (funE (prT 2 a b) (trF b)).2 = 0 by kernel_rfl)
theorem s2T0 : doF (prT 2 a b) (fT 0 [] slt0 slt0 0) = (fT 1 [] slt0 slK 1, ⟨2, 2, 1, useZ 5 1 0, []⟩) := by kernel_rfl
theorem s2T1 (s : Slt) : doF (prT 2 a b) (fT 1 [] slt0 s 1) = (fT 2 [] slK s 2, ⟨2, 1, 0, useZ 5 1 1, []⟩) := by kernel_rfl
theorem s2T2 (s r : Slt) : doF (prT 2 a b) (fT 2 [] s r 2) = (endF (fT 2 [] s r 2) 99 (0, 0), actK 4) := by kernel_rfl
theorem o2T (ha : a ≠ 0) (hb : b ≠ 0) : outF (endF (fT 2 [] (slO (a, (0, 0))) (slO (b, (0, 0))) 2) 99 (0, 0)) = (99, (0, 0)) := by kernel_rfl
end
section
variable (a b : Int)
theorem fun3T : (∀ f ∈ prT 3 a b, (funE (prT 3 a b) f).2 = 0) := by
  intro f hf
  simp only [prT, List.mem_cons, List.not_mem_nil, or_false] at hf
  rcases hf with rfl | rfl | rfl
  · exact (show (funE (prT 3 a b) ⟨0, 0, 2, (13, 2, 1) :: (13, 1, 0) :: endT 3⟩).2 = 0 by kernel_rfl)
  · exact (show (funE (prT 3 a b) (trF a)).2 = 0 by kernel_rfl)
  · exact (show (funE (prT 3 a b) (trF b)).2 = 0 by kernel_rfl)
theorem s3T0 : doF (prT 3 a b) (fT 0 [] slt0 slt0 0) = (fT 1 [] slt0 slK 1, ⟨2, 2, 1, useZ 5 1 0, []⟩) := by kernel_rfl
theorem s3T1 (s : Slt) : doF (prT 3 a b) (fT 1 [] slt0 s 1) = (fT 2 [] slK s 2, ⟨2, 1, 0, useZ 5 1 1, []⟩) := by kernel_rfl
theorem s3T2 (ha : a ≠ 0) (hb : b ≠ 0) : doF (prT 3 a b) (fT 2 [] (slO (a, (0, 0))) (slO (b, (0, 0))) 2) = (endF (fT 2 [] slt0 (slO (b, (0, 0))) 2) a (0, 0), actK 4) := by
  have hx : execF (prT 3 a b) (fT 2 [] (slO (a, (0, 0))) (slO (b, (0, 0))) 2) (14, 0, 0) = ((fT 2 [] slt0 (slO (b, (0, 0))) 2), act0, a) := by
    show joinF (fT 2 [] (slO (a, (0, 0))) (slO (b, (0, 0))) 2) 0 = _
    unfold joinF
    rw [show sltAt (fT 2 [] (slO (a, (0, 0))) (slO (b, (0, 0))) 2) 0 = slO (a, (0, 0)) from rfl, if_neg (show ¬ (slO (a, (0, 0))).st = 1 from (by decide : ¬ (2 : Int) = 1)), if_pos (show (slO (a, (0, 0))).st = 2 from rfl), if_pos (show (slO (a, (0, 0))).tr ≠ 0 from ha)]
    rfl
  rw [do_of (x := (14, 0, 0)) rfl (by kernel_rfl) (by kernel_rfl) (by kernel_rfl), hx, if_pos ha]
theorem o3T (ha : a ≠ 0) (hb : b ≠ 0) : outF (endF (fT 2 [] slt0 (slO (b, (0, 0))) 2) a (0, 0)) = (a, (0, 0)) := by
  unfold outF finF
  rw [if_neg (by simp [endF, fT, slO, slt0]), if_pos (show (endF (fT 2 [] slt0 (slO (b, (0, 0))) 2) a (0, 0)).otr ≠ 0 from ha)]
  rfl
end
theorem giveT1 (o : OutP) : giveO (fT 1 [] slt0 slK 1) 1 o = fT 1 [] slt0 (slO o) 1 := by kernel_rfl
theorem giveT0 (s : Slt) (o : OutP) : giveO (fT 2 [] slK s 2) 0 o = fT 2 [] (slO o) s 2 := by kernel_rfl
theorem kid_T {k : Nat} {a b : Int} (hm : mayP (prT k a b) = true) {j : Nat} {z t : Int} (hz : isZ z = true) (hj : (prT k a b)[j]? = some (trF t)) (ht : 16 ≤ t) (ht2 : t ≤ 255) (n sl : Int) (N : Nat) :
    runT (prT k a b) (N + 1) [(kidF (prT k a b) ⟨2, j, sl, z, []⟩, 0)] = some ((t, (0, 0)), N) := by
  obtain ⟨hjl, hje⟩ := List.getElem?_eq_some_iff.1 hj
  have hn : (newF (prT k a b) j [] z).2 = true := new_ok hjl hm hz (by rw [hje]; rfl) (by rw [hje]; exact (by decide : (0 : Int) ≤ 0)) (by simp)
  have hk : kidF (prT k a b) ⟨2, j, sl, z, []⟩ = kT j z := by
    unfold kidF
    show (newF (prT k a b) j [] z).1 = _
    obtain ⟨_, _, i, hi, e, _, _, _, e1⟩ := new_facts hn
    obtain rfl : i = j := by omega
    rw [e1, hje]
    rfl
  rw [hk]
  have hco : codeP (prT k a b) j = [(16, t, 0)] := by unfold codeP; rw [Int.toNat_natCast, hj]; rfl
  have hfe : fetchF (prT k a b) (kT j z) = ((16, t, 0), 0) := fetch_at (i := 0) rfl (by show (codeP (prT k a b) j)[0]? = _; rw [hco]; rfl) (mayZ16 ht ht2) rfl
  have hin : hasI (prT k a b).length (kT j z).fn = true := by
    show hasI (prT k a b).length (j : Int) = true
    simp [hasI, hjl]
  have hdo : doF (prT k a b) (kT j z) = (endF (kT j z) t (0, 0), actK 4) := by
    rw [do_of rfl hin hfe rfl]
    show (if t ≠ 0 then (endF (kT j z) t (0, 0), actK 4) else _) = _
    rw [if_pos (by omega)]
  rw [run_end hdo rfl]
  have ho : outF (endF (kT j z) t (0, 0)) = (t, (0, 0)) := by
    unfold outF finF
    rw [if_neg (by simp [endF, kT]), if_pos (show (endF (kT j z) t (0, 0)).otr ≠ 0 from (by show t ≠ 0; omega))]
    rfl
  rw [ho]
/-- All of SeqTraps. -/
theorem eval_traps {k : Nat} (hk : k < 4) {a b : Int} (h : 16 ≤ a) (h2 : a ≤ 255) (h3 : 16 ≤ b) (h4 : b ≤ 255) : evalP (prT k a b) [] 5 100 = (((wantT k a b).1, (0, 0)), (wantT k a b).2, 0) := by
  have hm := prT_may hk h h2 h3 h4
  have hall : ∀ f ∈ prT k a b, (funE (prT k a b) f).2 = 0 := by
    rcases (by omega : k = 0 ∨ k = 1 ∨ k = 2 ∨ k = 3) with rfl | rfl | rfl | rfl
    · exact fun0T a b
    · exact fun1T a b
    · exact fun2T a b
    · exact fun3T a b
  have hc : (checkP (prT k a b)).2.2 = 0 := by rw [check_all hm hall]
  have hn : (newF (prT k a b) 0 [] 5).2 = true := (new_iff hc [] 5).2 ⟨by decide, ⟨by simp [prT], rfl⟩, by simp⟩
  have e0 : (newF (prT k a b) 0 [] 5).1 = fT 0 [] slt0 slt0 0 := by
    obtain ⟨_, _, i, hi, e, _, _, _, e1⟩ := new_facts hn
    obtain rfl : i = 0 := by omega
    rw [e1]
    rfl
  have hev := evalP_can (p := prT k a b) (args := []) (s := 5) (fuel := 100) ⟨hc, by decide, by decide, hn⟩
  rw [e0] at hev
  have K0 : ∀ N, runT (prT k a b) (N + 1) [(kidF (prT k a b) ⟨2, 2, 1, useZ 5 1 0, []⟩, 0)] = some ((b, (0, 0)), N) := fun N => kid_T hm (j := 2) (useZ_is 5 1 0) rfl h3 h4 0 1 N
  have K1 : ∀ N, runT (prT k a b) (N + 1) [(kidF (prT k a b) ⟨2, 1, 0, useZ 5 1 1, []⟩, 0)] = some ((a, (0, 0)), N) := fun N => kid_T hm (j := 1) (useZ_is 5 1 1) rfl h h2 0 0 N
  have ha : a ≠ 0 := by omega
  have hb : b ≠ 0 := by omega
  rw [hev]
  clear hev e0 hn hc hall hm
  rcases (by omega : k = 0 ∨ k = 1 ∨ k = 2 ∨ k = 3) with rfl | rfl | rfl | rfl
  · have hr : runT (prT 0 a b) (95 + 1 + 1 + 1 + 1 + 1) [(fT 0 [] slt0 slt0 0, 0)] = some ((b, (0, 0)), 95) := by
      rw [run_child (s0T0 a b) rfl (K0 _), giveT1, run_child (s0T1 a b _) rfl (K1 _), giveT0, run_end (s0T2 a b ha hb) rfl, o0T a b ha hb]
    have hr2 : runT (prT 0 a b) (100 : Int).toNat [(fT 0 [] slt0 slt0 0, 0)] = some ((b, (0, 0)), 95) := hr
    rw [hr2]
    rfl
  · have hr : runT (prT 1 a b) (95 + 1 + 1 + 1 + 1 + 1) [(fT 0 [] slt0 slt0 0, 0)] = some ((a, (0, 0)), 94) := by
      rw [run_child (s1T0 a b) rfl (K0 _), giveT1, run_child (s1T1 a b _) rfl (K1 _), giveT0, run_step (s1T2 a b _ _) (by decide) (by decide), run_end (n := 94) (s1T3 a b _ _) rfl, o1T a b ha hb]
    have hr2 : runT (prT 1 a b) (100 : Int).toNat [(fT 0 [] slt0 slt0 0, 0)] = some ((a, (0, 0)), 94) := hr
    rw [hr2]
    rfl
  · have hr : runT (prT 2 a b) (95 + 1 + 1 + 1 + 1 + 1) [(fT 0 [] slt0 slt0 0, 0)] = some ((99, (0, 0)), 95) := by
      rw [run_child (s2T0 a b) rfl (K0 _), giveT1, run_child (s2T1 a b _) rfl (K1 _), giveT0, run_end (s2T2 a b _ _) rfl, o2T a b ha hb]
    have hr2 : runT (prT 2 a b) (100 : Int).toNat [(fT 0 [] slt0 slt0 0, 0)] = some ((99, (0, 0)), 95) := hr
    rw [hr2]
    rfl
  · have hr : runT (prT 3 a b) (95 + 1 + 1 + 1 + 1 + 1) [(fT 0 [] slt0 slt0 0, 0)] = some ((a, (0, 0)), 95) := by
      rw [run_child (s3T0 a b) rfl (K0 _), giveT1, run_child (s3T1 a b _) rfl (K1 _), giveT0, run_end (s3T2 a b ha hb) rfl, o3T a b ha hb]
    have hr2 : runT (prT 3 a b) (100 : Int).toNat [(fT 0 [] slt0 slt0 0, 0)] = some ((a, (0, 0)), 95) := hr
    rw [hr2]
    rfl
end Go.Proofs.YtagjddnpaahebaaDoor

/- Layer 10: the document's Digits below a thousand. -/
namespace Go.Proofs.YtagjddnpaahebaaDoor
set_option linter.unusedVariables false
set_option linter.unusedSimpArgs false
open Go.RowKit Go.ChangeShapes Go.WideShapes Go.ChangeAt Go.Sort

theorem dgd_len (n : Nat) : (Lib.decDigits n).length ≤ n + 1 := by
  induction n using Nat.strongRecOn with
  | _ n ih =>
    by_cases h : n < 10
    · rw [decd_lt h]; simp
    · rw [decd_ge h, List.length_append]
      have := ih (n / 10) (by omega)
      simp; omega
set_option maxHeartbeats 1000000 in
set_option maxRecDepth 100000 in
theorem rdgt_any (n : Nat) : ∀ (w : World), n < 1000 → Calls Tryd.prog 8 #[.int .i64 n] w fun e w' => e = .returned (.string ⟨(Lib.decDigits n).toArray⟩) ∧ Below w.heap.size w w' := by
  induction n using Nat.strongRecOn with
  | _ n ih =>
  intro w hn
  obtain ⟨c, hc⟩ : ∃ c, c = UInt8.ofNat (48 + n % 10) := ⟨_, rfl⟩
  have hv : (48 + (n : Int) % 10) % 256 = c.toNat := by rw [hc, UInt8.toNat_ofNat']; omega
  have hv2 : 48 + (n : Int) % 10 = c.toNat := by rw [hc, UInt8.toNat_ofNat']; omega
  have hN0 : 0 ≤ (n : Int) := by omega
  have hN1 : (n : Int) ≤ 999 := by omega
  have cv : ∀ (W : World) (g : Nat), W.cell? ⟨g, 0, none⟩ = some (.int .u8 (c.toNat : Int)) → (convert 56 9 (.slice (some ⟨g, 0, none⟩) 1 1)).run Tryd.prog W = .ok (.string ⟨#[c]⟩) W := fun W g hg =>
    run_convert_bytes_back W 56 9 5 ⟨g, 0, none⟩ 1 [c] Tryd.underlying56 Tryd.underlying5 Tryd.underlying9 (by
      intro j hj
      have : j = 0 := by simpa using hj
      subst this
      simpa [Addr.add] using hg)
  have cw : (convert 56 9 (.slice (some ⟨w.heap.size, 0, none⟩) 1 1)).run Tryd.prog (w.alloc (.cells #[.int .u8 (c.toNat : Int)] 5)) = .ok (.string ⟨#[c]⟩) (w.alloc (.cells #[.int .u8 (c.toNat : Int)] 5)) :=
    cv _ _ ((Held.new w 5 #[.int .u8 (c.toNat : Int)]).cell 0)
  by_cases h : n < 10
  · have hd := decd_lt h
    rw [← hc] at hd
    have HD := Lib.hid hd
    have hlt : decide (10 ≤ (n : Int)) = false := by simp; omega
    clear hd hc h ih hn
    generalize (n : Int) = N at *
    go_enter Tryd.func8, Tryd.ntmps8
    go_wp2_with fail
    go_ret
    rw [HD.out]
    exact ⟨rfl, (Below.refl _ _).alloc (Nat.le_refl _) _⟩
  · have hd := decd_ge h
    rw [← hc] at hd
    have hl := dgd_len (n / 10)
    have CD : ∀ W, Hid (Calls Tryd.prog 8 #[.int .i64 ((n : Int) / 10)] W fun e w' => e = .returned (.string ⟨(Lib.decDigits (n / 10)).toArray⟩) ∧ Below W.heap.size W w') := fun W => by
      have := ih (n / 10) (by omega) W (by omega)
      rw [show (n : Int) / 10 = ((n / 10 : Nat) : Int) by omega]
      exact Lib.hid this
    generalize Lib.decDigits (n / 10) = s at *
    have HD := Lib.hid hd
    have hlt : decide (10 ≤ (n : Int)) = true := by simp; omega
    have hs : s.length + 1 ≤ 9223372036854775807 := by omega
    clear hd hc h ih hn hl
    generalize (n : Int) = N at *
    go_enter Tryd.func8, Tryd.ntmps8
    go_wp2_with (go_at_call 8; (with_reducible refine (CD _).out.mono ?_); rintro e v ⟨rfl, hb⟩; have hw := Below.step ((Below.refl _ _).alloc (Nat.le_refl _) _) hb)
    go_ret
    rw [HD.out]
    refine ⟨ret_str ?_, hw⟩
    apply ByteArray.ext
    simp

end Go.Proofs.YtagjddnpaahebaaDoor

