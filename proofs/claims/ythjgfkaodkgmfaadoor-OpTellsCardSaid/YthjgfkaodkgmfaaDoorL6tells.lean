/- Layer 6: OpTells: the name, the fields and the stack of any number, the number of any name, and whether any instruction may be, are as the document says. -/
import Derived.Test.YthjgfkaodkgmfaaDoorL6fix
import Derived.OpenShut
import Derived.BigQuiet
import Derived.Lib.QuietBelow
import Derived.ChangeMaps5
import Derived.Test.YthjgfkaodkgmfaaDoorOrn
import Derived.Test.YthjgfkaodkgmfaaDoorOra
namespace Go.Proofs.YthjgfkaodkgmfaaDoor.opTells
set_option linter.unusedVariables false
set_option linter.unusedSimpArgs false
open Go.ChangeShapes Go.WideShapes Go.ChangeAt Go.RowKit Go.Sort

set_option maxHeartbeats 4000000 in
set_option maxRecDepth 100000 in
theorem good (n : Int) (s : ByteArray) (o a b : Int) (k : Int) (is : Bool) (r : Int) (hs : s.size ≤ 100) (hf : Co Tryd.prog 9 #[.string s] (.tuple #[.int .i64 k, .bool is])) (hr : Ct Tryd.prog 10 #[.string s] (.int .i64 r))
    (h1 : (if r < 0 then 0 else r) = k) (h2 : decide (0 ≤ r) = is) : Co Tryd.prog 3 #[.int .i64 n, .string s, iv o a b] (.bool true) := fun w hT => by
  have CN := co_name (n := n) rfl
  have RN := rname_any n
  have CD := co_fields (n := n) rfl
  have RD := rfields_any n
  have CS := co_stack (n := n) ⟨rfl, rfl⟩
  have R1 := roff_any n
  have R2 := ron_any n
  have CM := co_may (o := o) (a := a) (b := b) rfl
  have RM := rmay_any o a b
  generalize (rz n).nm = nm at *
  generalize (rz n).f = f at *
  generalize (rz n).p = p at *
  generalize (rz n).q = q at *
  generalize mayZ o a b = m at *
  have hT0 := hT
  have hx := Held.new w 23 #[.int .i64 o, .int .i64 a, .int .i64 b]
  replace hT := hT.below ((Below.refl _ w).alloc (Nat.le_refl _) (.cells #[.int .i64 o, .int .i64 a, .int .i64 b] 23))
  have hw : Below w.heap.size w (w.alloc (.cells #[.int .i64 o, .int .i64 a, .int .i64 b] 23)) := (Below.refl _ w).alloc (Nat.le_refl _) _
  have HX := Lib.hid hx
  clear hx
  go_enter Tryd.func3, Tryd.ntmps3
  go_wp2_with (first
    | (go_at_call 9; (with_reducible refine (hf.go _ hT).mono ?_); rintro e v ⟨rfl, hb⟩; replace HX := Lib.hid (HX.out.below hb); replace hT := hT.below hb; replace hw := Below.step hw hb; clear hb)
    | (go_at_call 10; (with_reducible refine (hr.go _).mono ?_); rintro e v1 ⟨rfl, hb⟩; replace HX := Lib.hid (HX.out.below hb); replace hT := hT.below hb; replace hw := Below.step hw hb; clear hb)
    | (go_at_call 11; (with_reducible refine (CS.go _ hT).mono ?_); rintro e v2 ⟨rfl, hb⟩; replace HX := Lib.hid (HX.out.below hb); replace hT := hT.below hb; replace hw := Below.step hw hb; clear hb))
  have c0 := HX.out.cell 0
  have c1 := HX.out.cell 1
  have c2 := HX.out.cell 2
  have g0 := fun d os => cell_regrown c0 d os
  have g1 := fun d os => cell_regrown c1 d os
  have g2 := fun d os => cell_regrown c2 d os
  clear c0 c1 c2
  have HT := fun d os => hT.regrown d os
  refine wp_region_quiet_below (by kernel_rfl) (by kernel_rfl) ?_
  (repeat (first
    | go_big_quiet_step ((first
        | (go_at_call 8; (with_reducible exact Calls.regrown_of (fixed_true.go _ (HT _ _))))
        | (go_at_call 12; (with_reducible exact Calls.regrown_of (CN.go _ (HT _ _))))
        | (go_at_call 13; (with_reducible exact Calls.regrown_of (RN.go _)))
        | (go_at_call 14; (with_reducible exact Calls.regrown_of (CD.go _ (HT _ _))))
        | (go_at_call 15; (with_reducible exact Calls.regrown_same (RD.go _)))
        | (go_at_call 16; (with_reducible exact Calls.regrown_same (R1.go _)))
        | (go_at_call 17; (with_reducible exact Calls.regrown_same (R2.go _)))
        | (go_at_call 18; (with_reducible exact Calls.regrown_of (CM.go _ (HT _ _))))
        | (go_at_call 19; (with_reducible exact Calls.regrown_of (RM.go _)))
        ))
    | quiet_step ((first
        | (go_at_call 8; (with_reducible exact Calls.regrown_of (fixed_true.go _ (HT _ _))))
        | (go_at_call 12; (with_reducible exact Calls.regrown_of (CN.go _ (HT _ _))))
        | (go_at_call 13; (with_reducible exact Calls.regrown_of (RN.go _)))
        | (go_at_call 14; (with_reducible exact Calls.regrown_of (CD.go _ (HT _ _))))
        | (go_at_call 15; (with_reducible exact Calls.regrown_same (RD.go _)))
        | (go_at_call 16; (with_reducible exact Calls.regrown_same (R1.go _)))
        | (go_at_call 17; (with_reducible exact Calls.regrown_same (R2.go _)))
        | (go_at_call 18; (with_reducible exact Calls.regrown_of (CM.go _ (HT _ _))))
        | (go_at_call 19; (with_reducible exact Calls.regrown_of (RM.go _)))
        ))))
  refine wpQuiet_nil ?_
  intro v3 hv
  have hb := below_of_regrown hv
  clear hv g0 g1 g2 HT
  go_wp2_with fail
  go_ret
  exact ⟨rfl, Below.step hw hb⟩

set_option maxHeartbeats 1000000 in
set_option maxRecDepth 100000 in
theorem long (n : Int) (s : ByteArray) (o a b : Int) (hs : 100 < s.size) : Co Tryd.prog 3 #[.int .i64 n, .string s, iv o a b] (.bool true) := fun w hT => by
  have hw : Below w.heap.size w (w.alloc (.cells #[.int .i64 o, .int .i64 a, .int .i64 b] 23)) := (Below.refl _ w).alloc (Nat.le_refl _) _
  replace hT := hT.below hw
  have h2 : (100 : Int) < s.size := by omega
  go_enter Tryd.func3, Tryd.ntmps3
  go_wp2_with (go_at_call 8; (with_reducible refine (fixed_true.go _ hT).mono ?_); rintro e v ⟨rfl, hb⟩; replace hw := Below.step hw hb; clear hb)
  go_ret
  exact ⟨rfl, hw⟩
theorem walk (n : Int) (s : ByteArray) (o a b : Int) : Co Tryd.prog 3 #[.int .i64 n, .string s, iv o a b] (.bool true) := by
  rcases Nat.lt_or_ge 100 s.size with h | h
  · exact long n s o a b h
  · by_cases hi : idxN s < 17
    · have F1 := co_find (fnd_hit (s := s) rfl hi)
      have R1 := rfind_any s
      rw [rfnd_hit (s := s) rfl hi] at R1
      exact good n s o a b _ _ _ h F1 R1 (by rw [if_neg (by omega)]) (by simp)
    · have he : idxN s = 17 := by have := idx_le s; omega
      have F1 := co_find (fnd_miss he)
      have R1 := rfind_any s
      rw [rfnd_miss he] at R1
      exact good n s o a b _ _ _ h F1 R1 (by decide) (by decide)
theorem entry {H : Type} {enc : TypeId × Value → H} (W : World) (base : Nat) (v0 v1 v2 : Value) (d0 d1 d2 : DataW H) (p0 p1 p2 : List MemPlace)
    (k0 : Value.okWide Tryd.prog W .any base 3 v0)
    (k1 : Value.okWide Tryd.prog W .any base 9 v1)
    (k2 : Value.okWide Tryd.prog W .any base 23 v2)
    (h0 : DataW.Trod enc Tryd.prog W 0 (fun _ => true) true 3 v0 d0 p0)
    (h1 : DataW.Trod enc Tryd.prog W 0 (fun _ => true) true 9 v1 d1 p1)
    (h2 : DataW.Trod enc Tryd.prog W 0 (fun _ => true) true 23 v2 d2 p2)
    (hT : Otab W) :
    Calls Tryd.prog 3 #[v0, v1, v2] W fun e w' => e = .returned (.bool true) ∧ Below W.heap.size W w' := by
  obtain ⟨a0, rfl, rfl, rfl, w0⟩ := open_int Tryd.underlying3 k0 h0
  obtain ⟨a1, rfl, rfl, rfl, w1⟩ := Go.ChangeMaps.open_string Tryd.underlying9 k1 h1
  obtain ⟨x2, y2, z2, rfl⟩ := open_instr k2 h2
  exact walk a0 a1 x2 y2 z2 W hT
end Go.Proofs.YthjgfkaodkgmfaaDoor.opTells
