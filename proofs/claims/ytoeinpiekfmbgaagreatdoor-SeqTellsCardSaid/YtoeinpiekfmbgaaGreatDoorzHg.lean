/- Layer 9's code: how a frame ends; whether one is the same as itself. -/
import Derived.Test.YtoeinpiekfmbgaaGreatDoorzFdo
import Derived.Test.YtoeinpiekfmbgaaGreatDoorzRf
namespace Go.Proofs.YtoeinpiekfmbgaaGreatDoor
set_option linter.unusedVariables false
set_option linter.unusedSimpArgs false
open Gm Go.RowKit Go.ChangeShapes Go.WideShapes Go.ChangeAt Go.Sort

set_option maxHeartbeats 1000000 in
set_option maxRecDepth 100000 in
theorem busy_any (x : Slt) (w : World) : Calls Tryz.prog 92 #[sv x] w fun e w' => e = .returned (.bool (x.st == 1)) ∧ Below w.heap.size w w' := by
  obtain ⟨a, b, c, d, e, f⟩ := x
  go_enter Tryz.func92, Tryz.ntmps92
  go_wp2_with fail
  go_ret
  exact ⟨rfl, by go_grown⟩
set_option maxHeartbeats 1000000 in
set_option maxRecDepth 100000 in
theorem trapped_any (x : Slt) (w : World) : Calls Tryz.prog 93 #[sv x] w fun e w' => e = .returned (.bool (x.st == 2 && x.tr != 0)) ∧ Below w.heap.size w w' := by
  obtain ⟨a, b, c, d, e, f⟩ := x
  by_cases h : a = 2
  · subst h
    go_enter Tryz.func93, Tryz.ntmps93
    go_wp2_with fail
    go_ret
    exact ⟨by simp, by go_grown⟩
  · have h2 : (a == 2) = false := by simpa using h
    go_enter Tryz.func93, Tryz.ntmps93
    go_wp2_with fail
    go_ret
    exact ⟨by simp [h2], by go_grown⟩
/-- The value of a function without captures. -/
abbrev fnS (n : Nat) : Value := .func (.func n) #[] #[]
/-- The place of the first one; -1: there is none. -/
def idxS (q : Slt → Bool) (l : List Slt) : Int := match l.findIdx? q with
  | some i => i
  | none => -1
theorem idxS_hit {q : Slt → Bool} {l : List Slt} {j : Nat} (hj : j < l.length) (h : q l[j] = true) (hall : ∀ k (hk : k < j) (hk2 : k < l.length), q l[k] = false) : idxS q l = j := by
  unfold idxS
  have : l.findIdx? q = some j := List.findIdx?_eq_some_iff_getElem.2 ⟨hj, h, fun k hk => by simpa using hall k hk (by omega)⟩
  rw [this]
theorem idxS_miss {q : Slt → Bool} {l : List Slt} (hall : ∀ k (hk : k < l.length) (hk2 : k < l.length), q l[k] = false) : idxS q l = -1 := by
  unfold idxS
  have : l.findIdx? q = none := List.findIdx?_eq_none_iff.2 fun x hx => by
    obtain ⟨k, hk, rfl⟩ := List.getElem_of_mem hx
    exact hall k hk hk
  rw [this]
set_option maxHeartbeats 1000000 in
set_option maxRecDepth 100000 in
theorem idx_busy {B : Nat} {A : Option Addr} {l : List Slt} (c : Nat) (w : World) (h : SAt w B A l) (hl : l.length ≤ 1000) (hB : B ≤ w.heap.size) :
    Calls Tryz.prog 95 #[.slice A l.length c, fnS 92] w fun e w' => e = .returned (.int .i64 (idxS (fun x => x.st == 1) l)) ∧ Below w.heap.size w w' := by
  have HA := Lib.hid h
  have hl2 : (l.length : Int) ≤ 1000 := by omega
  generalize hR : idxS (fun x => x.st == 1) l = R
  have HR := Lib.hid hR
  clear h hR
  go_enter Tryz.func95, Tryz.ntmps95
  go_wp2
  go_loopw [8] (fun i W => ∃ j : Nat, j ≤ l.length ∧ i = .int .i64 j ∧ (∀ k (hk : k < j) (hk2 : k < l.length), (fun x : Slt => x.st == 1) l[k] = false) ∧ Below w.heap.size w W) (fun i _ => l.length - (intOf i).toNat)
  case atStart => exact ⟨0, by omega, rfl, by intro k hk; omega, Below.refl _ _⟩
  case round =>
    obtain ⟨j, hj, rfl, hall, hw⟩ := hrel
    have HJ := Lib.hid hall
    clear hall
    have hwz := hw.size
    by_cases hlt : j < l.length
    · obtain ⟨b, off, rfl, hbl, hd⟩ := (HA.out.below hw hB) (by omega)
      obtain ⟨d0, d1, d2, d3, d4, d5⟩ := hd j hlt
      clear hd
      have CM := fun W => Lib.hid (busy_any l[j] W)
      have HQ := Lib.hid (show (fun x : Slt => x.st == 1) l[j] = (fun x : Slt => x.st == 1) l[j] from rfl)
      cases hq : (fun x : Slt => x.st == 1) l[j]
      · have HF := Lib.hid hq
        simp only at hq
        rw [hq] at CM
        generalize l[j] = x at d0 d1 d2 d3 d4 d5 CM
        clear hq HQ
        go_wp2_with (go_at_call 92; (with_reducible refine (CM _).out.mono ?_); rintro e v ⟨rfl, hb⟩; replace hw := Below.step hw hb; clear hb)
        go_roundw
        case rel =>
          refine ⟨j + 1, by omega, by go_num, ?_, hw⟩
          intro k hk hk2
          rcases Nat.lt_or_ge k j with h | h
          · exact HJ.out k h hk2
          · obtain rfl : k = j := by omega
            exact HF.out
        case measure => simp [intOf]; omega
      · have HF := Lib.hid hq
        simp only at hq
        rw [hq] at CM
        generalize l[j] = x at d0 d1 d2 d3 d4 d5 CM
        have hr : R = (j : Int) := by
          rw [← HR.out]
          exact idxS_hit hlt HF.out HJ.out
        subst hr
        clear hq HQ
        go_wp2_with (go_at_call 92; (with_reducible refine (CM _).out.mono ?_); rintro e v ⟨rfl, hb⟩; replace hw := Below.step hw hb; clear hb)
        go_ret
        exact ⟨rfl, hw⟩
    · obtain rfl : j = l.length := by omega
      have hr : R = -1 := by
        rw [← HR.out]
        exact idxS_miss HJ.out
      subst hr
      go_wp2_with fail
      go_ret
      exact ⟨rfl, hw⟩
set_option maxHeartbeats 1000000 in
set_option maxRecDepth 100000 in
theorem idx_trap {B : Nat} {A : Option Addr} {l : List Slt} (c : Nat) (w : World) (h : SAt w B A l) (hl : l.length ≤ 1000) (hB : B ≤ w.heap.size) :
    Calls Tryz.prog 95 #[.slice A l.length c, fnS 93] w fun e w' => e = .returned (.int .i64 (idxS (fun x => x.st == 2 && x.tr != 0) l)) ∧ Below w.heap.size w w' := by
  have HA := Lib.hid h
  have hl2 : (l.length : Int) ≤ 1000 := by omega
  generalize hR : idxS (fun x => x.st == 2 && x.tr != 0) l = R
  have HR := Lib.hid hR
  clear h hR
  go_enter Tryz.func95, Tryz.ntmps95
  go_wp2
  go_loopw [8] (fun i W => ∃ j : Nat, j ≤ l.length ∧ i = .int .i64 j ∧ (∀ k (hk : k < j) (hk2 : k < l.length), (fun x : Slt => x.st == 2 && x.tr != 0) l[k] = false) ∧ Below w.heap.size w W) (fun i _ => l.length - (intOf i).toNat)
  case atStart => exact ⟨0, by omega, rfl, by intro k hk; omega, Below.refl _ _⟩
  case round =>
    obtain ⟨j, hj, rfl, hall, hw⟩ := hrel
    have HJ := Lib.hid hall
    clear hall
    have hwz := hw.size
    by_cases hlt : j < l.length
    · obtain ⟨b, off, rfl, hbl, hd⟩ := (HA.out.below hw hB) (by omega)
      obtain ⟨d0, d1, d2, d3, d4, d5⟩ := hd j hlt
      clear hd
      have CM := fun W => Lib.hid (trapped_any l[j] W)
      have HQ := Lib.hid (show (fun x : Slt => x.st == 2 && x.tr != 0) l[j] = (fun x : Slt => x.st == 2 && x.tr != 0) l[j] from rfl)
      cases hq : (fun x : Slt => x.st == 2 && x.tr != 0) l[j]
      · have HF := Lib.hid hq
        simp only at hq
        rw [hq] at CM
        generalize l[j] = x at d0 d1 d2 d3 d4 d5 CM
        clear hq HQ
        go_wp2_with (go_at_call 93; (with_reducible refine (CM _).out.mono ?_); rintro e v ⟨rfl, hb⟩; replace hw := Below.step hw hb; clear hb)
        go_roundw
        case rel =>
          refine ⟨j + 1, by omega, by go_num, ?_, hw⟩
          intro k hk hk2
          rcases Nat.lt_or_ge k j with h | h
          · exact HJ.out k h hk2
          · obtain rfl : k = j := by omega
            exact HF.out
        case measure => simp [intOf]; omega
      · have HF := Lib.hid hq
        simp only at hq
        rw [hq] at CM
        generalize l[j] = x at d0 d1 d2 d3 d4 d5 CM
        have hr : R = (j : Int) := by
          rw [← HR.out]
          exact idxS_hit hlt HF.out HJ.out
        subst hr
        clear hq HQ
        go_wp2_with (go_at_call 93; (with_reducible refine (CM _).out.mono ?_); rintro e v ⟨rfl, hb⟩; replace hw := Below.step hw hb; clear hb)
        go_ret
        exact ⟨rfl, hw⟩
    · obtain rfl : j = l.length := by omega
      have hr : R = -1 := by
        rw [← HR.out]
        exact idxS_miss HJ.out
      subst hr
      go_wp2_with fail
      go_ret
      exact ⟨rfl, hw⟩
theorem idxS_cases (q : Slt → Bool) (l : List Slt) : (∃ (j : Nat) (hj : j < l.length), idxS q l = j ∧ q l[j] = true ∧ l.find? q = some l[j] ∧ l.any q = true) ∨ (idxS q l = -1 ∧ l.find? q = none ∧ l.any q = false) := by
  unfold idxS
  cases h : l.findIdx? q with
  | none =>
    have hn := List.findIdx?_eq_none_iff.1 h
    exact .inr ⟨rfl, List.find?_eq_none.2 fun x hx => by simp [hn x hx], by rw [← Bool.not_eq_true, List.any_eq_true]; rintro ⟨x, hx, hq⟩; rw [hn x hx] at hq; cases hq⟩
  | some j =>
    obtain ⟨hj, h1, h2⟩ := List.findIdx?_eq_some_iff_getElem.1 h
    refine .inl ⟨j, hj, rfl, h1, ?_, List.any_eq_true.2 ⟨_, List.getElem_mem hj, h1⟩⟩
    exact List.find?_eq_some_iff_getElem.2 ⟨h1, j, hj, rfl, fun k hk => by simpa using h2 k hk⟩
set_option maxHeartbeats 1000000 in
set_option maxRecDepth 100000 in
theorem has_busy {B : Nat} {A : Option Addr} {l : List Slt} (c : Nat) (w : World) (h : SAt w B A l) (hl : l.length ≤ 1000) (hB : B ≤ w.heap.size) :
    Calls Tryz.prog 94 #[.slice A l.length c, fnS 92] w fun e w' => e = .returned (.bool (l.any fun x => x.st == 1)) ∧ Below w.heap.size w w' := by
  have IX := Lib.hid (idx_busy c w h hl hB)
  rcases idxS_cases (fun x => x.st == 1) l with ⟨j, hj, e1, _, _, e2⟩ | ⟨e1, _, e2⟩
  · rw [e1] at IX
    rw [e2]
    have : (0 : Int) ≤ j := by omega
    clear h e1 e2
    go_enter Tryz.func94, Tryz.ntmps94
    go_wp2_with (go_at_call 95; (with_reducible refine IX.out.mono ?_); rintro _ u ⟨rfl, hb⟩)
    go_ret
    exact ⟨ret_bool (by simp), hb⟩
  · rw [e1] at IX
    rw [e2]
    clear h e1 e2
    go_enter Tryz.func94, Tryz.ntmps94
    go_wp2_with (go_at_call 95; (with_reducible refine IX.out.mono ?_); rintro _ u ⟨rfl, hb⟩)
    go_ret
    exact ⟨ret_bool (by simp), hb⟩
/-- A result in a cell, and one that is not. -/
theorem results_ct {P : Program} {fn : Func} {p q : Tmp} {ty1 : TypeId} (h : fn.results = #[.cell p ty1, .tmp q]) (tmps : Array Value) (w : World) {a1 : Addr} {v1 v2 : Value} (hp : tmps.getD p undef = .pointer (some a1)) (hq : tmps.getD q undef = v2)
    (l1 : (loadVar ty1 a1).run P w = .ok v1 w) : (results fn tmps).run P w = .ok (.tuple #[v1, v2]) w := by
  have hp' : tmps[p]?.getD undef = .pointer (some a1) := by simpa using hp
  have hq' : tmps[q]?.getD undef = v2 := by simpa using hq
  simp [results, h, hp', hq', asAddr, l1]
set_option maxHeartbeats 2000000 in
set_option maxRecDepth 100000 in
theorem final_any {B : Nat} {v : Value} {f : Frm} (w : World) (h : FrmAt w B v f) (hl : FrmLen f) (hB : B ≤ w.heap.size) :
    Calls Tryz.prog 70 #[v] w fun e w' => e = .returned (.tuple #[outv (finF f).1 (finF f).2.1.1 (finF f).2.1.2, .bool (finF f).2.2]) ∧ Below w.heap.size w w' := by
  obtain ⟨A1, c1, A2, c2, A3, c3, rfl, h1, h2, h3⟩ := h
  have HB := fun W (hb : Below w.heap.size w W) => Lib.hid (has_busy c3 W (h3.below hb hB) hl.slt (Nat.le_trans hB hb.size))
  have IT := fun W (hb : Below w.heap.size w W) => Lib.hid (idx_trap c3 W (h3.below hb hB) hl.slt (Nat.le_trans hB hb.size))
  have H3 := fun W (hb : Below w.heap.size w W) => Lib.hid (h3.below hb hB)
  unfold finF
  have hcs := idxS_cases (fun x => x.st == 2 && x.tr != 0) f.slt
  generalize (f.slt.any fun s => s.st == 1) = bz at *
  clear h1 h2 h3 hl hB
  by_cases hs : f.st = 2
  · have e1 : (f.st != 2) = false := by simpa using hs
    cases bz
    · rw [if_neg (by simp [hs])]
      clear hs
      by_cases ht : f.otr = 0
      · rw [if_neg (by simp [ht])]
        rcases hcs with ⟨j, hj, e2, _, e3, _⟩ | ⟨e2, e3, _⟩
        · rw [e3]
          rw [e2] at IT
          have ht2 : (f.otr != 0) = false := by simpa using ht
          have hj2 : (j : Int) < f.slt.length := by omega
          have hj0 : (0 : Int) ≤ j := by omega
          have HJ := Lib.hid hj
          have SL := fun W hb => Lib.hid ((H3 W hb).out (by have := HJ.out; omega))
          clear e2 e3 ht
          go_enter Tryz.func70, Tryz.ntmps70
          go_wp2_with (first
            | (go_at_call 94; go_loud (((with_reducible refine (HB _ ?_).out.mono ?_); (focus (go_grown))); rintro _ u ⟨rfl, hb⟩; have hr := (Held.new1 w _ 32 #[.int .i64 0, .int .i64 0, .int .i64 0]).below hb; have hx := ((Held.new w 45 (fcA f (.slice A1 f.stk.length c1) (.slice A2 f.loc.length c2) (.slice A3 f.slt.length c3))).alloc (.cells #[.int .i64 0, .int .i64 0, .int .i64 0] 32)).below hb; have hbw := Below.step (below2 w _ _) hb; have x4 := hx.cell 4; simp at x4))
            | (go_at_call 95; go_loud ((with_reducible refine (IT _ hbw).out.mono ?_); rintro _ u2 ⟨rfl, hb2⟩; replace hr := hr.below hb2; replace hx := hx.below hb2; replace hbw := Below.step hbw hb2; obtain ⟨q0, q1, q2, z0, z1, z2⟩ := three hr; have x4 := hx.cell 4; have x10 := hx.cell 10; have x11 := hx.cell 11; have x12 := hx.cell 12; simp at x4 x10 x11 x12; obtain ⟨b, off, rfl, _, hc⟩ := (H3 _ hbw).out (by have := HJ.out; omega); obtain ⟨_, _, _, a3, _, _⟩ := hc j HJ.out; clear hc)))
          have k1 := set3h hr (.int .i64 f.slt[j].tr) (.int .i64 0) (.int .i64 0)
          have l1 := run_loadVar_row (P := Tryz.prog) _ (w.heap.size + 1) 32 32 _ (0, 0) _ k1 Tryz.underlying32 rfl (by kernel_rfl)
          exact bodyPost_ret (results_ct rfl _ _ rfl rfl l1) rfl ⟨rfl, set3b (by omega) hbw⟩
        · rw [e3]
          rw [e2] at IT
          have ht2 : (f.otr != 0) = false := by simpa using ht
          simp only
          rw [← ht]
          clear e2 e3 ht
          go_enter Tryz.func70, Tryz.ntmps70
          go_wp2_with (first
            | (go_at_call 94; go_loud (((with_reducible refine (HB _ ?_).out.mono ?_); (focus (go_grown))); rintro _ u ⟨rfl, hb⟩; have hr := (Held.new1 w _ 32 #[.int .i64 0, .int .i64 0, .int .i64 0]).below hb; have hx := ((Held.new w 45 (fcA f (.slice A1 f.stk.length c1) (.slice A2 f.loc.length c2) (.slice A3 f.slt.length c3))).alloc (.cells #[.int .i64 0, .int .i64 0, .int .i64 0] 32)).below hb; have hbw := Below.step (below2 w _ _) hb; have x4 := hx.cell 4; simp at x4))
            | (go_at_call 95; go_loud ((with_reducible refine (IT _ hbw).out.mono ?_); rintro _ u2 ⟨rfl, hb2⟩; replace hr := hr.below hb2; replace hx := hx.below hb2; replace hbw := Below.step hbw hb2; obtain ⟨q0, q1, q2, z0, z1, z2⟩ := three hr; have x4 := hx.cell 4; have x10 := hx.cell 10; have x11 := hx.cell 11; have x12 := hx.cell 12; simp at x4 x10 x11 x12)))
          have k1 := set3h hr (.int .i64 f.otr) (.int .i64 f.ore) (.int .i64 f.oim)
          have l1 := run_loadVar_row (P := Tryz.prog) _ (w.heap.size + 1) 32 32 _ (0, 0) _ k1 Tryz.underlying32 rfl (by kernel_rfl)
          exact bodyPost_ret (results_ct rfl _ _ rfl rfl l1) rfl ⟨rfl, set3b (by omega) hbw⟩
      · rw [if_pos ht]
        have ht2 : (f.otr != 0) = true := by simpa using ht
        generalize idxS (fun x => x.st == 2 && x.tr != 0) f.slt = ix at *
        clear hcs
        go_enter Tryz.func70, Tryz.ntmps70
        go_wp2_with (first
          | (go_at_call 94; go_loud (((with_reducible refine (HB _ ?_).out.mono ?_); (focus (go_grown))); rintro _ u ⟨rfl, hb⟩; have hr := (Held.new1 w _ 32 #[.int .i64 0, .int .i64 0, .int .i64 0]).below hb; have hx := ((Held.new w 45 (fcA f (.slice A1 f.stk.length c1) (.slice A2 f.loc.length c2) (.slice A3 f.slt.length c3))).alloc (.cells #[.int .i64 0, .int .i64 0, .int .i64 0] 32)).below hb; have hbw := Below.step (below2 w _ _) hb; have x4 := hx.cell 4; simp at x4))
          | (go_at_call 95; go_loud ((with_reducible refine (IT _ hbw).out.mono ?_); rintro _ u2 ⟨rfl, hb2⟩; replace hr := hr.below hb2; replace hx := hx.below hb2; replace hbw := Below.step hbw hb2; obtain ⟨q0, q1, q2, z0, z1, z2⟩ := three hr; have x4 := hx.cell 4; have x10 := hx.cell 10; have x11 := hx.cell 11; have x12 := hx.cell 12; simp at x4 x10 x11 x12)))
        have k1 := set3h hr (.int .i64 f.otr) (.int .i64 f.ore) (.int .i64 f.oim)
        have l1 := run_loadVar_row (P := Tryz.prog) _ (w.heap.size + 1) 32 32 _ (0, 0) _ k1 Tryz.underlying32 rfl (by kernel_rfl)
        exact bodyPost_ret (results_ct rfl _ _ rfl rfl l1) rfl ⟨rfl, set3b (by omega) hbw⟩
    · rw [if_pos (.inr rfl)]
      go_enter Tryz.func70, Tryz.ntmps70
      go_wp2_with (go_at_call 94; go_loud (((with_reducible refine (HB _ ?_).out.mono ?_); (focus (go_grown))); rintro _ u ⟨rfl, hb⟩; have hr := (Held.new1 w _ 32 #[.int .i64 0, .int .i64 0, .int .i64 0]).below hb; have hbw := Below.step (below2 w _ _) hb; obtain ⟨q0, q1, q2, z0, z1, z2⟩ := three hr))
      have k1 := set3h hr (.int .i64 0) (.int .i64 0) (.int .i64 0)
      have l1 := run_loadVar_row (P := Tryz.prog) _ (w.heap.size + 1) 32 32 _ (0, 0) _ k1 Tryz.underlying32 rfl (by kernel_rfl)
      exact bodyPost_ret (results_ct rfl _ _ rfl rfl l1) rfl ⟨rfl, set3b (by omega) hbw⟩
  · rw [if_pos (.inl hs)]
    have e1 : (f.st != 2) = true := by simpa using hs
    go_enter Tryz.func70, Tryz.ntmps70
    go_wp2_with fail
    go_returns
    exact ⟨rfl, by go_grown⟩
end Go.Proofs.YtoeinpiekfmbgaaGreatDoor

/- Layer 9's code: whether one of a list of values is not valid. -/
namespace Go.Proofs.YtoeinpiekfmbgaaGreatDoor
set_option linter.unusedVariables false
set_option linter.unusedSimpArgs false
open Gm Go.RowKit Go.ChangeShapes Go.WideShapes Go.ChangeAt Go.Sort

set_option maxHeartbeats 1000000 in
set_option maxRecDepth 100000 in
theorem newbad_any (v : V) (w : World) : Calls Tryz.prog 22 #[gv v.1 v.2] w fun e w' => e = .returned (.bool (!mayB v.1 v.2)) ∧ Below w.heap.size w w' := by
  have C := fun W => Lib.hid (may_any v.1 v.2 W)
  change ∀ W, Hid (Calls Tryz.prog 23 #[gv v.1 v.2] W fun e w' => e = .returned (.bool (mayB v.1 v.2)) ∧ Below W.heap.size W w') at C
  generalize mayB v.1 v.2 = b at *
  cases b
  all_goals
    go_enter Tryz.func22, Tryz.ntmps22
    go_wp2_with (go_at_call 23; (with_reducible refine (C _).out.mono ?_); rintro _ u ⟨rfl, hb⟩; have hbw := below_laid hb)
    go_ret
    exact ⟨rfl, hbw⟩
set_option maxHeartbeats 1000000 in
set_option maxRecDepth 100000 in
theorem anybad_any {B : Nat} {A : Option Addr} {l : List V} (c : Nat) (w : World) (h : VAt w B A l) (hl : l.length ≤ 1000) (hB : B ≤ w.heap.size) :
    Calls Tryz.prog 21 #[.slice A l.length c, fnS 22] w fun e w' => e = .returned (.bool (!l.all fun v => mayB v.1 v.2)) ∧ Below w.heap.size w w' := by
  have IX : Calls Tryz.prog 40 #[.slice A l.length c, fnS 22] w fun e w' => ∃ n : Int, e = .returned (.int .i64 n) ∧ (decide (0 ≤ n) = !l.all fun v => mayB v.1 v.2) ∧ Below w.heap.size w w' := by
    have HA := Lib.hid h
    have hl2 : (l.length : Int) ≤ 1000 := by omega
    clear h
    go_enter Tryz.func40, Tryz.ntmps40
    go_wp2
    go_loopw [8] (fun i W => ∃ j : Nat, j ≤ l.length ∧ i = .int .i64 j ∧ (∀ x ∈ l.take j, mayB x.1 x.2 = true) ∧ Below w.heap.size w W) (fun i _ => l.length - (intOf i).toNat)
    case atStart => exact ⟨0, by omega, rfl, by simp, Below.refl _ _⟩
    case round =>
      obtain ⟨j, hj, rfl, hall, hw⟩ := hrel
      have HJ := Lib.hid hall
      clear hall
      have hwz := hw.size
      by_cases hlt : j < l.length
      · obtain ⟨b, off, rfl, hbl, hd⟩ := (HA.out.below hw hB) (by omega)
        obtain ⟨d0, d1⟩ := hd j hlt
        clear hd
        have hjt : l.take (j + 1) = l.take j ++ [l[j]] := List.take_succ_eq_append_getElem hlt
        have hjm : l[j] ∈ l := List.getElem_mem hlt
        have HJT := Lib.hid hjt
        have HJM := Lib.hid hjm
        have CM := fun W => Lib.hid (newbad_any l[j] W)
        generalize l[j] = x at *
        clear hjt hjm
        cases hx : mayB x.1 x.2
        · rw [hx] at CM
          have hf : (l.all fun v => mayB v.1 v.2) = false := by
            rw [← Bool.not_eq_true, List.all_eq_true]
            intro h
            have := h _ HJM.out
            rw [hx] at this
            cases this
          have HF := Lib.hid hf
          clear hf hx
          go_wp2_with (go_at_call 22; (with_reducible refine (CM _).out.mono ?_); rintro e v ⟨rfl, hb⟩; replace hw := Below.step hw hb; clear hb)
          go_ret
          exact ⟨_, rfl, by rw [HF.out]; simp, hw⟩
        · rw [hx] at CM
          have HX := Lib.hid hx
          clear hx
          go_wp2_with (go_at_call 22; (with_reducible refine (CM _).out.mono ?_); rintro e v ⟨rfl, hb⟩; replace hw := Below.step hw hb; clear hb)
          go_roundw
          case rel =>
            refine ⟨j + 1, by omega, by go_num, ?_, hw⟩
            rw [HJT.out]
            intro y hy
            rcases List.mem_append.1 hy with h | h
            · exact HJ.out y h
            · simp only [List.mem_singleton] at h
              subst h
              exact HX.out
          case measure => simp [intOf]; omega
      · obtain rfl : j = l.length := by omega
        have hall := HJ.out
        rw [List.take_length] at hall
        have hf : (l.all fun v => mayB v.1 v.2) = true := List.all_eq_true.2 hall
        have HF := Lib.hid hf
        clear hf hall
        go_wp2_with fail
        go_ret
        exact ⟨_, rfl, by rw [HF.out]; simp, hw⟩
  have IX2 := Lib.hid IX
  clear IX h
  generalize (l.all fun v => mayB v.1 v.2) = r at *
  go_enter Tryz.func21, Tryz.ntmps21
  go_wp2_with (go_at_call 40; (with_reducible refine IX2.out.mono ?_); rintro _ u ⟨n, rfl, hn, hb⟩)
  go_ret
  exact ⟨ret_bool (by rw [← hn]), hb⟩
end Go.Proofs.YtoeinpiekfmbgaaGreatDoor

