/- Layer 8: CheckTells: what is wrong with any program, and where, and the depths of any function, are as the document says. For all programs. -/
import Derived.Test.YtdbmpcdianjaaaaDoorzL8fix
namespace Go.Proofs.YtdbmpcdianjaaaaDoor.checkTells
set_option linter.unusedVariables false
set_option linter.unusedSimpArgs false
open Go.ChangeShapes Go.WideShapes Go.ChangeAt Go.RowKit Go.Sort

theorem depths_len (p : List Fun) (n : Int) : (depthsP p n).length ≤ 1000 := by
  by_cases h : (checkP p).2.2 = 0
  · by_cases h1 : n < 0 ∨ (p.length : Int) ≤ n
    · rw [depths_bad (.inr h1)]
      simp
    · obtain ⟨k, rfl⟩ := Int.eq_ofNat_of_zero_le (show 0 ≤ n by omega)
      have hk : k < p.length := by omega
      have hmem : p[k] ∈ p := List.getElem_mem hk
      have hok := check_ok h hmem
      have hfl := (fun_facts ((check_facts h).2 _ hmem)).2.2
      rw [depths_at h hk]
      have := (flow_solved hok.fine hok.n1 (by have := hok.n2; omega) hfl).dl
      have h2 := hok.n2
      show (flowS (grF p p[k].code) 201 (initD p[k].code.length) (initW p[k].code.length)).1.length ≤ 1000
      omega
  · rw [depths_bad (.inl h)]
    simp
set_option maxHeartbeats 4000000 in
set_option maxRecDepth 100000 in
theorem walk {A : Option Addr} {p : List Fun} (c : Nat) (n : Int) (w : World) (hT : Otab w) (ha : ProgAt w w.heap.size A p) (hz : SizedP p) :
    Calls Tryd.prog 3 #[.slice A p.length c, .int .i64 n] w fun e w' => e = .returned (.bool true) ∧ Below w.heap.size w w' := by
  have hw : Below w.heap.size w w := Below.refl _ _
  have S1 := fun W (h : ProgAt W W.heap.size A p) => Lib.hid (psmall_any c 300 W h)
  have CK := fun W (h1 : Otab W) (h : ProgAt W W.heap.size A p) => Lib.hid (check_any c W h1 h hz (Nat.le_refl _))
  have DP := fun W (h1 : Otab W) (h : ProgAt W W.heap.size A p) => Lib.hid (depths_any c n W h1 h hz (Nat.le_refl _))
  have RC := fun W (h : ProgAt W W.heap.size A p) => Lib.hid (rcheck_any c W h hz (Nat.le_refl _))
  have RD := fun W (h : ProgAt W W.heap.size A p) => Lib.hid (rdepths_any c n W h hz (Nat.le_refl _))
  have hdl := depths_len p n
  have HA := Lib.hid ha
  clear ha
  generalize smallP p 300 = b1 at *
  generalize checkP p = R at *
  generalize depthsP p n = D at *
  obtain ⟨r1, r2, r3⟩ := R
  have e1 : (r1 == r1) = true := by simp
  have e2 : (r2 == r2) = true := by simp
  have e3 : (r3 == r3) = true := by simp
  have HDL := Lib.hid hdl
  clear hdl
  cases b1
  all_goals
    go_enter Tryd.func3, Tryd.ntmps3
    go_wp2_with (first
      | (go_at_call 10; (with_reducible refine (fixed8 _ hT).mono ?_); rintro e v ⟨rfl, hb⟩; replace HA := Lib.hid ((HA.out.below hb (Nat.le_refl _)).more hb.size); replace hT := hT.below hb; replace hw := Below.step hw hb; clear hb)
      | (go_at_call 9; (with_reducible refine (S1 _ HA.out).out.mono ?_); rintro e v ⟨rfl, rfl⟩)
      | (go_at_call 11; (with_reducible refine (CK _ hT HA.out).out.mono ?_); rintro e v ⟨rfl, hb⟩; replace HA := Lib.hid ((HA.out.below hb (Nat.le_refl _)).more hb.size); replace hT := hT.below hb; replace hw := Below.step hw hb; clear hb)
      | (go_at_call 12; (with_reducible refine (RC _ HA.out).out.mono ?_); rintro e v ⟨rfl, hb⟩; replace HA := Lib.hid ((HA.out.below hb (Nat.le_refl _)).more hb.size); replace hT := hT.below hb; replace hw := Below.step hw hb; clear hb)
      | (go_at_call 14; (with_reducible refine (DP _ hT HA.out).out.mono ?_); rintro e v ⟨x, rfl, hL, hb⟩; replace HA := Lib.hid ((HA.out.below hb (Nat.le_refl _)).more hb.size); replace hT := hT.below hb; replace hw := Below.step hw hb; clear hb)
      | (go_at_call 15; (with_reducible refine (RD _ HA.out).out.mono ?_); rintro e v ⟨y, rfl, hM, hb⟩; replace HA := Lib.hid ((HA.out.below hb (Nat.le_refl _)).more hb.size); replace hT := hT.below hb; replace hw := Below.step hw hb; replace hL := hL.below hb; clear hb)
      | (go_at_call 13; (refine (ints_any _ hL hM HDL.out).mono ?_); rintro _ u3 ⟨rfl, hb⟩; replace hT := hT.below hb; replace hw := Below.step hw hb; clear hb)
      )
    go_ret
    exact ⟨by simp, hw⟩
theorem entry {H : Type} {enc : TypeId × Value → H} (W : World) (base : Nat) (v0 v1 : Value) (d0 d1 : DataW H) (p0 p1 : List MemPlace)
    (k0 : Value.okWide Tryd.prog W .any base 23 v0)
    (k1 : Value.okWide Tryd.prog W .any base 3 v1)
    (h0 : DataW.Trod enc Tryd.prog W 0 (fun _ => true) true 23 v0 d0 p0)
    (h1 : DataW.Trod enc Tryd.prog W 0 (fun _ => true) true 3 v1 d1 p1)
    (hT : Otab W) : Calls Tryd.prog 3 #[v0, v1] W fun e w' => e = .returned (.bool true) ∧ Below W.heap.size W w' := by
  obtain ⟨A0, c0, ps0, rfl, hp0, hz0⟩ := open_prog k0 h0
  obtain ⟨a1, rfl, rfl, rfl, w1⟩ := open_int Tryd.underlying3 k1 h1
  exact walk c0 a1 W hT hp0 hz0
end Go.Proofs.YtdbmpcdianjaaaaDoor.checkTells

