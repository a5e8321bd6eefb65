/- Layer 6's code: operations, at every input, where the table is laid. -/
import Derived.Test.YtjibkgildfjjoaaGreatDoorzOt
import Derived.BigQuiet
import Derived.Lib.QuietBelow
namespace Go.Proofs.YtjibkgildfjjoaaGreatDoor
set_option linter.unusedVariables false
set_option linter.unusedSimpArgs false
open Go.RowKit Go.ChangeShapes Go.WideShapes Go.ChangeAt Go.Sort

set_option maxHeartbeats 1000000 in
theorem within_any (n a b : Int) (w : World) : Calls Tryz.prog 118 #[.int .i64 n, .int .i64 a, .int .i64 b] w fun e w' => e = .returned (.bool (decide (a ≤ n) && decide (n ≤ b))) ∧ w = w' := by
  go_enter Tryz.func118, Tryz.ntmps118
  go_wp2_with fail
  all_goals
    go_ret
    refine ⟨ret_bool ?_, rfl⟩
    rw [Bool.eq_iff_iff]
    simp
    omega
theorem cs_within {n a b : Int} {x : Bool} (h : (decide (a ≤ n) && decide (n ≤ b)) = x) : Cs Tryz.prog 118 #[.int .i64 n, .int .i64 a, .int .i64 b] (.bool x) := fun W => by have := within_any n a b W; rwa [h] at this

theorem seven {W : World} (h : Otab W) {k : Nat} (hk : k < 17) :
    W.cell? ⟨2, k * 7, none⟩ = some (.string (orow k).nm) ∧ W.cell? ⟨2, k * 7 + 1, none⟩ = some (.int .i64 (orow k).f) ∧
    W.cell? ⟨2, k * 7 + 2, none⟩ = some (.int .i64 (orow k).p) ∧ W.cell? ⟨2, k * 7 + 3, none⟩ = some (.int .i64 (orow k).q) ∧
    W.cell? ⟨2, k * 7 + 4, none⟩ = some (.int .i64 (orow k).lo) ∧ W.cell? ⟨2, k * 7 + 5, none⟩ = some (.int .i64 (orow k).la) ∧
    W.cell? ⟨2, k * 7 + 6, none⟩ = some (.int .i64 (orow k).lb) :=
  ⟨h.cell k 0 hk (by decide), h.cell k 1 hk (by decide), h.cell k 2 hk (by decide), h.cell k 3 hk (by decide), h.cell k 4 hk (by decide), h.cell k 5 hk (by decide), h.cell k 6 hk (by decide)⟩

set_option maxHeartbeats 1000000 in
set_option maxRecDepth 100000 in
theorem numbered_in (k : Nat) (hk : k < 17) (nm : ByteArray) (f p q lo la lb : Int) (hr : orow k = ⟨nm, f, p, q, lo, la, lb⟩) (w : World) (hT : Otab w) :
    Calls Tryz.prog 117 #[.int .i64 k] w fun e w' => e = .returned (.tuple #[ov nm f p q lo la lb, .bool true]) ∧ Below w.heap.size w w' := by
  have C := cs_within (n := k) (a := 0) (b := 16) (x := true) (by simp; omega)
  obtain ⟨c0, c1, c2, c3, c4, c5, c6⟩ := seven hT hk
  rw [hr] at c0 c1 c2 c3 c4 c5 c6
  have hlt := hT.lt
  clear hr
  go_enter Tryz.func117, Tryz.ntmps117
  go_wp2_with (go_at_call 118; (with_reducible refine (C.go _).mono ?_); rintro e v ⟨rfl, rfl⟩)
  go_returns
  exact ⟨rfl, by go_grown⟩

set_option maxHeartbeats 1000000 in
set_option maxRecDepth 100000 in
theorem numbered_out (n : Int) (hn : okO n = false) (w : World) :
    Calls Tryz.prog 117 #[.int .i64 n] w fun e w' => e = .returned (.tuple #[ov ⟨#[]⟩ 0 0 0 0 0 0, .bool false]) ∧ Below w.heap.size w w' := by
  have C := cs_within (n := n) (a := 0) (b := 16) (x := false) hn
  go_enter Tryz.func117, Tryz.ntmps117
  go_wp2_with (go_at_call 118; (with_reducible refine (C.go _).mono ?_); rintro e v ⟨rfl, rfl⟩)
  go_returns
  exact ⟨rfl, by go_grown⟩

/-- What there is of the operation n. -/
theorem numbered_any (n : Int) (nm : ByteArray) (f p q lo la lb : Int) (hr : rz n = ⟨nm, f, p, q, lo, la, lb⟩) (w : World) (hT : Otab w) :
    Calls Tryz.prog 117 #[.int .i64 n] w fun e w' => e = .returned (.tuple #[ov nm f p q lo la lb, .bool (okO n)]) ∧ Below w.heap.size w w' := by
  rcases okZ_cases n with ⟨k, hk, rfl⟩ | hn
  · rw [rz_in hk] at hr
    rw [show okO (k : Int) = true by simp [okO]; omega]
    exact numbered_in k hk nm f p q lo la lb hr w hT
  · rw [rz_out hn] at hr
    cases hr
    rw [hn]
    exact numbered_out n hn w

end Go.Proofs.YtjibkgildfjjoaaGreatDoor

/- Layer 6's code: op.Stack. -/
namespace Go.Proofs.YtjibkgildfjjoaaGreatDoor
set_option linter.unusedVariables false
set_option linter.unusedSimpArgs false
open Go.RowKit Go.ChangeShapes Go.WideShapes Go.ChangeAt Go.Sort

set_option maxHeartbeats 1000000 in
set_option maxRecDepth 100000 in
theorem stack_any (n : Int) (w : World) (hT : Otab w) : Calls Tryz.prog 123 #[.int .i64 n] w fun e w' => e = .returned (.tuple #[.int .i64 (rz n).p, .int .i64 (rz n).q]) ∧ Below w.heap.size w w' := by
  have hr : rz n = ⟨(rz n).nm, (rz n).f, (rz n).p, (rz n).q, (rz n).lo, (rz n).la, (rz n).lb⟩ := rfl
  have C := fun W h => Lib.hid (numbered_any n _ _ _ _ _ _ _ hr W h)
  clear hr
  generalize (rz n).nm = nm at *
  generalize (rz n).f = f at *
  generalize (rz n).p = p at *
  generalize (rz n).q = q at *
  generalize (rz n).lo = lo at *
  generalize (rz n).la = la at *
  generalize (rz n).lb = lb at *
  go_enter Tryz.func123, Tryz.ntmps123
  go_wp2_with (go_at_call 117; (with_reducible refine (C _ hT).out.mono ?_); rintro e v ⟨rfl, hb⟩; have hsz := hb.size)
  go_region
  all_goals (try go_wp2)
  all_goals go_ret2
  all_goals exact ⟨rfl, by go_grown⟩
end Go.Proofs.YtjibkgildfjjoaaGreatDoor

/- Layer 6's code: whether an instruction may be, at every input. -/
namespace Go.Proofs.YtjibkgildfjjoaaGreatDoor
set_option linter.unusedVariables false
set_option linter.unusedSimpArgs false
open Go.RowKit Go.ChangeShapes Go.WideShapes Go.ChangeAt Go.Sort

set_option maxHeartbeats 1000000 in
set_option maxRecDepth 100000 in
theorem opmay_any (o a b : Int) (w : World) (hT : Otab w) : Calls Tryz.prog 107 #[iv o a b] w fun e w' => e = .returned (.bool (mayZ o a b)) ∧ Below w.heap.size w w' := by
  have hr : rz o = ⟨(rz o).nm, (rz o).f, (rz o).p, (rz o).q, (rz o).lo, (rz o).la, (rz o).lb⟩ := rfl
  have C := fun W h => Lib.hid (numbered_any o _ _ _ _ _ _ _ hr W h)
  have hm : mayZ o a b = (okO o && (decide ((rz o).lo ≤ a) && decide (a ≤ (rz o).la)) && (decide (0 ≤ b) && decide (b ≤ (rz o).lb))) := rfl
  generalize mayZ o a b = m at *
  clear hr
  generalize (rz o).nm = nm at *
  generalize (rz o).f = f at *
  generalize (rz o).p = p at *
  generalize (rz o).q = q at *
  generalize (rz o).lo = lo at *
  generalize (rz o).la = la at *
  generalize (rz o).lb = lb at *
  generalize okO o = k at *
  have C1 := cs_within (n := a) (a := lo) (b := la) rfl
  have C2 := cs_within (n := b) (a := 0) (b := lb) rfl
  generalize (decide (lo ≤ a) && decide (a ≤ la)) = x at *
  generalize (decide (0 ≤ b) && decide (b ≤ lb)) = y at *
  subst hm
  have hT2 := fun o => Lib.hid (hT.below ((Below.refl _ w).alloc (Nat.le_refl _) o))
  clear hT
  cases k <;> cases x <;> cases y
  all_goals
    go_enter Tryz.func107, Tryz.ntmps107
    go_wp2_with (first
      | (go_at_call 117; (with_reducible refine (C _ (hT2 _).out).out.mono ?_); rintro e v ⟨rfl, hb⟩; have hx := (Held.new w 115 #[.int .i64 o, .int .i64 a, .int .i64 b]).below hb; have c0 := hx.cell 0; have c1 := hx.cell 1; have c2 := hx.cell 2; simp at c0 c1 c2; have hlt := hx.lt; replace hb := below_laid hb; have hsz := hb.size)
      | (go_at_call 118; (with_reducible refine (C1.go _).mono ?_); rintro e v ⟨rfl, rfl⟩)
      | (go_at_call 118; (with_reducible refine (C2.go _).mono ?_); rintro e v ⟨rfl, rfl⟩))
    go_ret
    exact ⟨rfl, by go_grown⟩
end Go.Proofs.YtjibkgildfjjoaaGreatDoor

