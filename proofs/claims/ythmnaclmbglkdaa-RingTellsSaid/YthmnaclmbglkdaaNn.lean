/- Layer 11: the document's New: refs that are made. -/
import Derived.Test.YthmnaclmbglkdaaNu
import Derived.Laws.IdiomCopy
namespace Go.Proofs.Ythmnaclmbglkdaa
set_option linter.unusedVariables false
set_option linter.unusedSimpArgs false
open Go.RowKit Go.ChangeShapes Go.WideShapes Go.ChangeAt Go.Sort

def zeroR (n : Nat) : Array Value := (flatP (List.replicate n (0, 0))).toArray
theorem flatP_rep : ∀ n, flatP (List.replicate n (0, 0)) = List.replicate (n * 2) (.int .i64 0)
  | 0 => rfl
  | n + 1 => by
    rw [List.replicate_succ, show (n + 1) * 2 = n * 2 + 1 + 1 by omega, List.replicate_succ, List.replicate_succ, ← flatP_rep n]
    rfl
theorem madeR (n : Nat) : madeCells #[Value.int .i64 0, .int .i64 0] (n * 2) = zeroR n := by
  unfold zeroR
  rw [flatP_rep]
  apply Array.ext'
  apply List.ext_getElem?
  intro j
  simp only [madeCells]
  by_cases hj : j < n * 2
  · have hm : j % 2 = 0 ∨ j % 2 = 1 := by omega
    rcases hm with hm | hm <;> simp [hj, hm]
  · simp [hj]
theorem make_rs {n : Nat} (hn : n ≤ 2000) (w : World) : (Instr.makeSlice 22 (.int .i64 (n : Int)) (.int .i64 (n : Int))).run Try.prog w = .ok (.slice (some ⟨w.heap.size, 0, none⟩) n n) (w.alloc (.cells (zeroR n) 33)) := by
  obtain ⟨q, hi, hz0, hz1, hz2⟩ := info_parts infoR
  have hr := run_make (P := Try.prog) w 22 33 q _ Try.underlying22 hi hz0 .i64 .i64 n n (by omega) (Int.le_refl _) (by rw [hz2]; omega) (by omega)
  simp only [Int.toNat_natCast, hz1] at hr
  rw [hr, ← madeR]
  rfl
theorem zeroR_own {w : World} {B g n : Nat} (h : Held w g 33 (zeroR n)) (hB : B ≤ g) (hn : n ≤ 1000000) : OwnR w B (.slice (some ⟨g, 0, none⟩) n n) (List.replicate n (0, 0)) := by
  have := own2_held (l := List.replicate n ((0, 0) : P2)) h hB (by rw [List.length_replicate]; exact hn)
  rwa [List.length_replicate] at this
theorem results_ct0 {P : Program} {fn : Func} {p q : Tmp} {ty1 : TypeId} (h : fn.results = #[.cell p ty1, .tmp q]) (tmps : Array Value) (w : World) {a1 : Addr} {v1 v2 : Value} (hp : tmps.getD p undef = .pointer (some a1)) (hq : tmps.getD q undef = v2)
    (l1 : (loadVar ty1 a1).run P w = .ok v1 w) : (results fn tmps).run P w = .ok (.tuple #[v1, v2]) w := by
  have hp' : tmps[p]?.getD undef = .pointer (some a1) := by simpa using hp
  have hq' : tmps[q]?.getD undef = v2 := by simpa using hq
  simp [results, h, hp', hq', asAddr, l1]
abbrev rz0 : Array Value := #[.slice none 0 0, .int .i64 0, .int .i64 0, .int .i64 0]
/-- A ring of the call's own, and more. -/
def RingO (w : World) (B : Nat) (v : Value) (r : Rng) : Prop := ∃ A c, v = rgv A r.buf.length c r.head r.many r.most ∧ OwnR w B (.slice A r.buf.length c) r.buf
def RingQ (w : World) (R : Rng) (x : Value) (e : Ending) (w' : World) : Prop := ∃ v, e = .returned (.tuple #[v, x]) ∧ RingO w' w.heap.size v R ∧ Below w.heap.size w w'
set_option maxHeartbeats 2000000 in
set_option maxRecDepth 100000 in
theorem rnewr_any (room most : Int) (w : World) : Calls Try.prog 20 #[.int .i64 room, .int .i64 most] w (RingQ w (newR room most).1 (.bool (newR room most).2)) := by
  have g4 := Held.new w 24 rz0
  have hb0 : Below w.heap.size w (w.alloc (.cells rz0 24)) := (Below.refl _ _).alloc (Nat.le_refl _) _
  by_cases h : 1 ≤ most ∧ most ≤ 1024 ∧ 1 ≤ room ∧ room ≤ most
  · have e : newR room most = (⟨List.replicate room.toNat (0, 0), 0, 0, most⟩, true) := if_pos h
    rw [e]
    obtain ⟨h1, h2, h3, h4⟩ := h
    obtain ⟨n, rfl⟩ : ∃ n : Nat, room = n := ⟨room.toNat, by omega⟩
    have c1 : decide (most < 1) = false := decide_eq_false (by omega)
    have c2 : decide (1024 < most) = false := decide_eq_false (by omega)
    have c3 : decide ((n : Int) < 1) = false := decide_eq_false (by omega)
    have c4 : decide (most < (n : Int)) = false := decide_eq_false (by omega)
    have HN := Lib.hid (show n ≤ 1024 by omega)
    have MK := fun W => make_rs (n := n) (by omega) W
    clear h1 h2 h3 h4 e
    go_enter Try.func20, Try.ntmps20
    go_upto_region 1 with (fail)
    generalize w.alloc (.cells rz0 24) = W0 at *
    have k4 := g4.alloc (.cells (zeroR n) 33)
    have hne := g4.lt
    go_wp2_with (guard_target = wpList _ _ _ (Oper.mk _ (Op.store 24 (.tmp 4) _) _ _ _ none :: _) _ _; refine wpList_store_row rfl 24 _ _ rfl w.heap.size (rgc (some ⟨W0.heap.size, 0, none⟩) n n 0 0 most) rfl rfl _ _ k4 (by kernel_rfl) rfl (by simp [Value.oneCell']) ?_)
    have ho : OwnR ((W0.alloc (.cells (zeroR n) 33)).setRow w.heap.size (rgc (some ⟨W0.heap.size, 0, none⟩) n n 0 0 most)) w.heap.size (.slice (some ⟨W0.heap.size, 0, none⟩) n n) (List.replicate n (0, 0)) :=
      zeroR_own (held_row (Held.new W0 33 (zeroR n)) (by omega) _) (by omega) (by have := HN.out; omega)
    refine bodyPost_ret (results_ct0 rfl _ _ rfl rfl (load_ring (held_rowSelf k4 (rgc (some ⟨W0.heap.size, 0, none⟩) n n 0 0 most)) rfl)) rfl ⟨_, rfl, ⟨some ⟨W0.heap.size, 0, none⟩, n, ?_, ?_⟩, below_setRow (hb0.alloc hb0.size _) (Nat.le_refl _) _⟩
    · simp only [Int.toNat_natCast, List.length_replicate]
    · simp only [Int.toNat_natCast, List.length_replicate]; exact ho
  · have e : newR room most = (⟨[], 0, 0, 0⟩, false) := if_neg h
    rw [e]
    have hcs : decide (most < 1) = true ∨ (decide (most < 1) = false ∧ decide (1024 < most) = true) ∨ (decide (most < 1) = false ∧ decide (1024 < most) = false ∧ decide (room < 1) = true) ∨ (decide (most < 1) = false ∧ decide (1024 < most) = false ∧ decide (room < 1) = false ∧ decide (most < room) = true) := by
      simp only [decide_eq_true_eq, decide_eq_false_iff_not]
      omega
    clear h e
    rcases hcs with c1 | ⟨c1, c2⟩ | ⟨c1, c2, c3⟩ | ⟨c1, c2, c3, c4⟩
    all_goals
      go_enter Try.func20, Try.ntmps20
      go_wp2_with (guard_target = wpList _ _ _ (Oper.mk _ (Op.store 24 (.tmp 4) _) _ _ _ none :: _) _ _; refine wpList_store_row rfl 24 _ _ rfl w.heap.size rz0 rfl rfl _ _ g4 (by kernel_rfl) rfl (by simp [Value.oneCell']) ?_)
      exact bodyPost_ret (results_ct0 rfl _ _ rfl rfl (load_ring (held_rowSelf g4 rz0) rfl)) rfl ⟨_, rfl, ⟨none, 0, rfl, Own2.nil _ _ _⟩, below_setRow hb0 (Nat.le_refl _) _⟩
end Go.Proofs.Ythmnaclmbglkdaa
