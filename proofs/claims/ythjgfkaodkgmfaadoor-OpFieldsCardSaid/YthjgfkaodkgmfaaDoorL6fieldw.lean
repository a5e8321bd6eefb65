/- Layer 6: OpFields: for every instruction. -/
import Derived.Test.YthjgfkaodkgmfaaDoorL6fix
import Derived.OpenShut
import Derived.BigQuiet
import Derived.Lib.QuietBelow
import Derived.Test.YthjgfkaodkgmfaaDoorL6fields
namespace Go.Proofs.YthjgfkaodkgmfaaDoor.opFields
set_option linter.unusedVariables false
set_option linter.unusedSimpArgs false
open Go.ChangeShapes Go.WideShapes Go.ChangeAt Go.RowKit Go.Sort

theorem row_ok : ∀ k, k < 17 → 0 ≤ (orow k).lo ∧ ((orow k).lo = 0 ∨ (k = 16 ∧ (orow k).lo = 16)) ∧ (orow k).la ≤ 255 ∧ (orow k).lb ≤ 255 ∧ (((orow k).f = 0 ∧ (orow k).la = 0 ∧ (orow k).lb = 0) ∨ ((orow k).f = 1 ∧ (orow k).lb = 0) ∨ (orow k).f = 2) := by decide
theorem may_iff {k : Nat} (hk : k < 17) (a b : Int) : mayZ k a b = true ↔ (orow k).lo ≤ a ∧ a ≤ (orow k).la ∧ 0 ≤ b ∧ b ≤ (orow k).lb := by
  unfold mayZ
  rw [rz_in hk, show okZ (k : Int) = true by simp [okZ]; omega]
  simp [and_assoc]
set_option maxHeartbeats 1000000 in
set_option maxRecDepth 100000 in
theorem other (o a b : Int) (h : mayZ o a b = false) : Co Tryd.prog 5 #[iv o a b] (.bool true) := fun w hT => by
  have CM := co_may h
  have hx := Held.new w 23 #[.int .i64 o, .int .i64 a, .int .i64 b]
  replace hT := hT.below ((Below.refl _ w).alloc (Nat.le_refl _) (.cells #[.int .i64 o, .int .i64 a, .int .i64 b] 23))
  have hw : Below w.heap.size w (w.alloc (.cells #[.int .i64 o, .int .i64 a, .int .i64 b] 23)) := (Below.refl _ w).alloc (Nat.le_refl _) _
  have HX := Lib.hid hx
  clear hx
  go_enter Tryd.func5, Tryd.ntmps5
  go_wp2_with (first
    | (go_at_call 8; (with_reducible refine (fixed_true.go _ hT).mono ?_); rintro e v ⟨rfl, hb⟩; replace HX := Lib.hid (HX.out.below hb); have c0 := HX.out.cell 0; have c1 := HX.out.cell 1; have c2 := HX.out.cell 2; simp at c0 c1 c2; have hlt := HX.out.lt; replace hT := hT.below hb; replace hw := Below.step hw hb; clear hb)
    | (go_at_call 18; (with_reducible refine (CM.go _ hT).mono ?_); rintro e v1 ⟨rfl, hb⟩; replace HX := Lib.hid (HX.out.below hb); replace hT := hT.below hb; replace hw := Below.step hw hb; clear hb c0 c1 c2))
  go_ret
  exact ⟨rfl, hw⟩
theorem walk (o a b : Int) : Co Tryd.prog 5 #[iv o a b] (.bool true) := by
  cases hm : mayZ o a b
  · exact other o a b hm
  · rcases okZ_cases o with ⟨k, hk, rfl⟩ | ho
    · obtain ⟨h1, h2, h3, h4⟩ := (may_iff hk a b).1 hm
      obtain ⟨r1, r2, r3, r4, r5⟩ := row_ok k hk
      have CD := co_fields (n := (k : Int)) rfl
      rw [rz_in hk] at CD
      have hz : mayZ k a (b / 2) = true := (may_iff hk _ _).2 ⟨h1, h2, by omega, by omega⟩
      have h5 : mayZ k a (-1) = false := by
        rw [← Bool.not_eq_true, may_iff hk]
        omega
      have h6 : mayZ k (-1) b = false := by
        rw [← Bool.not_eq_true, may_iff hk]
        omega
      refine good k a b _ (mayZ k (a / 2) b) (by omega) (by omega) (by omega) (by omega) ?_ CD (co_may hm) (co_may hz) (co_may rfl) (co_may h5) (co_may h6) ?_
      · omega
      · cases hy : mayZ k (a / 2) b
        · rw [← Bool.not_eq_true, may_iff hk] at hy
          right
          refine ⟨rfl, ?_, ?_⟩ <;> omega
        · exact .inl rfl
    · unfold mayZ at hm
      rw [ho] at hm
      cases hm
theorem entry {H : Type} {enc : TypeId × Value → H} (W : World) (base : Nat) (v0 : Value) (d0 : DataW H) (p0 : List MemPlace)
    (k0 : Value.okWide Tryd.prog W .any base 23 v0)
    (h0 : DataW.Trod enc Tryd.prog W 0 (fun _ => true) true 23 v0 d0 p0)
    (hT : Otab W) :
    Calls Tryd.prog 5 #[v0] W fun e w' => e = .returned (.bool true) ∧ Below W.heap.size W w' := by
  obtain ⟨x0, y0, z0, rfl⟩ := open_instr k0 h0
  exact walk x0 y0 z0 W hT
end Go.Proofs.YthjgfkaodkgmfaaDoor.opFields
