/- Layer 1: WireReads: a reader of any bytes tells, at whatever is read of it, one behind the other, and keeps as its error, what the document says. For every text and every list of calls. -/
import Derived.Test.YtcnacdjpihbfmaaL1fix
import Derived.Test.YtcnacdjpihbfmaaWrx
import Derived.Test.YtcnacdjpihbfmaaWrf
import Derived.Test.YtcnacdjpihbfmaaWreft
import Derived.Deep.RegionWith
import Derived.Deep.RegionHeld3
import Derived.Deep.DeepCutAuto
import Derived.Deep.CutBlock
import Derived.Deep.Slices
import Derived.ChangeArms
namespace Go.Proofs.Ytcnacdjpihbfmaa.wireReads
set_option linter.unusedVariables false
set_option linter.unusedSimpArgs false
open Go.ChangeShapes Go.WideShapes Go.ChangeAt Go.RowKit

/-- The document's reader lies in block h. -/
def RX (w : World) (h : Nat) (s : ByteArray) (a e : Int) : Prop := w.heap[h]? = some (.cells #[.string s, .int .i64 a, .int .i64 e] 28 (0, 0))

/-- The slice's cells are the steps ds. -/
def Stps (w : World) (A : Option Addr) (ds : List (Int × Int)) : Prop :=
  0 < ds.length → ∃ b off, A = some ⟨b, off, none⟩ ∧ b < w.heap.size ∧ ∀ i (hi : i < ds.length), w.cell? ⟨b, off + i * 2, none⟩ = some (.int .i64 ds[i].1) ∧ w.cell? ⟨b, off + i * 2 + 1, none⟩ = some (.int .i64 ds[i].2)

def RelR (w : World) (s : ByteArray) (n g h : Nat) (i : Value) (wr : World) : Prop :=
  ∃ (k : Nat) (a e : Int), k ≤ n ∧ i = .int .i64 k ∧ Rd wr g s a e ∧ RX wr h s a e ∧ 0 ≤ a ∧ a ≤ s.size ∧ Below w.heap.size w wr

theorem RX.set3 {w : World} {x : Nat} {c0 c1 c2 : Value} (hx : w.heap[x]? = some (.cells #[c0, c1, c2] 28 (0, 0))) (s : ByteArray) (a e : Int) :
    RX (((w.setCell ⟨x, 0, none⟩ (.string s)).setCell ⟨x, 1, none⟩ (.int .i64 a)).setCell ⟨x, 2, none⟩ (.int .i64 e)) x s a e := by
  unfold RX; simp [World.setCell, Array.getElem?_modify, hx]
theorem RX.far {w : World} {h : Nat} {s : ByteArray} {a e : Int} (r : RX w h s a e) {p : Addr} (hp : h ≠ p.block) (u : Value) : RX (w.setCell p u) h s a e := (Below.heap_setCell w p u h hp).trans r
theorem RX.alloc {w : World} {h : Nat} {s : ByteArray} {a e : Int} (r : RX w h s a e) (hl : h < w.heap.size) (o : Obj) : RX (w.alloc o) h s a e := (Below.heap_alloc w o h hl).trans r
theorem RX.below {w w' : World} {h : Nat} {s : ByteArray} {a e : Int} {B : Nat} (r : RX w h s a e) (hb : Below B w w') (hB : h < B) : RX w' h s a e := (hb.block h hB).trans r
theorem numF_bd (s : List UInt8) (a e m : Int) (h0 : 0 ≤ a) (h1 : a ≤ s.length) : 0 ≤ (numF s a e m).2.1 ∧ (numF s a e m).2.1 ≤ s.length := by
  have hh := getF_bd s a
  unfold numF
  split
  · exact ⟨h0, h1⟩
  · split
    · exact ⟨h0, h1⟩
    · split
      · exact ⟨h0, h1⟩
      · simp only []; omega
theorem fixdF_bd (s : List UInt8) (a e : Int) (h0 : 0 ≤ a) (h1 : a ≤ s.length) : 0 ≤ (fixdF s a e).2.1 ∧ (fixdF s a e).2.1 ≤ s.length := by
  unfold fixdF
  split
  · exact ⟨h0, h1⟩
  · split
    · exact ⟨h0, h1⟩
    · rename_i _ hq
      unfold gfxF at hq ⊢
      rw [if_neg (by omega)] at hq ⊢
      split
      · rename_i heq
        have hl := congrArg List.length heq
        simp at hl
        simp only []
        omega
      · rename_i heq
        exfalso; apply hq
        split
        · rename_i h2; exact absurd h2 (heq _ _ _ _ _)
        · rename_i h2; simp at hq
theorem textF_bd (s : List UInt8) (a e m : Int) (h0 : 0 ≤ a) (h1 : a ≤ s.length) : 0 ≤ (textF s a e m).2.1 ∧ (textF s a e m).2.1 ≤ s.length := by
  have hh := numF_bd s a e m h0 h1
  have hg := getF_bd s a
  unfold textF
  split
  · exact ⟨h0, h1⟩
  · split
    · exact ⟨h0, h1⟩
    · have : 0 ≤ (numF s a e m).1 := by
        unfold numF
        split
        · simp
        · split
          · simp
          · split
            · simp
            · exact hg.1
      simp only []
      omega

/-- Behind what was read: both readers stand alike. -/
def Mid (w : World) (s : ByteArray) (g h : Nat) (wr : World) : Prop :=
  ∃ (a e : Int), Rd wr g s a e ∧ RX wr h s a e ∧ 0 ≤ a ∧ a ≤ s.size ∧ Below w.heap.size w wr ∧ h < wr.heap.size
/-- Behind the document's answer: it lies in a block of its own. -/
def Ans (w : World) (s : ByteArray) (g h : Nat) (a e a' e' : Int) (n v8 v9 : Value) (wr : World) : Prop :=
  v8 = n ∧ ∃ x : Nat, v9 = .pointer (some ⟨x, 0, none⟩) ∧ RX wr x s a' e' ∧ Rd wr g s a e ∧ RX wr h s a e ∧ Below w.heap.size w wr ∧ h < wr.heap.size ∧ h < x

set_option maxHeartbeats 2000000 in
set_option maxRecDepth 100000 in
theorem walk (s : ByteArray) (A : Option Addr) (cap : Nat) (ds : List (Int × Int)) (w : World) (hA : Stps w A ds) (hs : s.size ≤ 200) (hl : ds.length ≤ 30) :
    Calls Try.prog 3 #[.string s, .slice A ds.length cap] w fun e w' => e = .returned (.bool true) ∧ Below w.heap.size w w' := by
  have HA := Lib.hid hA; clear hA
  go_enter Try.func3, Try.ntmps3
  go_wp2_with (go_at_call 9; refine (new_any _ _).mono ?_; rintro e v1 ⟨rfl, r0, hb, hz⟩; have HZ := Lib.hid hz; clear hz)
  have hgh : w.heap.size < v1.heap.size := by have := HZ.out; omega
  have r1 := r0.alloc (Obj.cells #[Value.string s, Value.int IntKind.i64 0, Value.int IntKind.i64 0] 28)
  have x1 : RX (v1.alloc (Obj.cells #[Value.string s, Value.int IntKind.i64 0, Value.int IntKind.i64 0] 28)) v1.heap.size s 0 0 := heap_alloc_last _ _
  have hb1 : Below w.heap.size w (v1.alloc (Obj.cells #[Value.string s, Value.int IntKind.i64 0, Value.int IntKind.i64 0] 28)) := hb.alloc hb.size _
  clear r0 hb HZ
  generalize v1.alloc (Obj.cells #[Value.string s, Value.int IntKind.i64 0, Value.int IntKind.i64 0] 28) = v2 at *
  generalize v1.heap.size = h at *
  go_loopw [7] (fun i wr => RelR w s ds.length w.heap.size h i wr) (fun i _ => ds.length - (intOf i).toNat)
  case atStart => exact ⟨0, 0, 0, by omega, rfl, r1, x1, by omega, by omega, hb1⟩
  case round =>
    obtain ⟨k, a, e, hk, rfl, r2, x2, ha0, ha1, hb2⟩ := hrel
    clear r1 x1 hb1
    have hsz := hb2.size
    have hlh : h < wr.heap.size := by
      rcases Nat.lt_or_ge h wr.heap.size with hlt | hge
      · exact hlt
      · unfold RX at x2; rw [Array.getElem?_eq_none hge] at x2; cases x2
    by_cases hlt : k < ds.length
    · obtain ⟨b, off, rfl, hbl, hc⟩ := HA.out (by omega)
      have hc1 := (hb2.cell (p := ⟨b, off + k * 2, none⟩) hbl).trans (hc k hlt).1
      have hc2 := (hb2.cell (p := ⟨b, off + k * 2 + 1, none⟩) hbl).trans (hc k hlt).2
      have hcw2 := (hc k hlt).2
      clear hc
      generalize ds[k].1 = d at *
      generalize ds[k].2 = m at *
      have f0 := cell_at x2 0
      have f1 := cell_at x2 1
      have f2 := cell_at x2 2
      simp at f0 f1 f2
      have y0 := fz_at x2 0
      have y1 := fz_at x2 1
      have y2 := fz_at x2 2
      go_upto_block 2 with (fail)
      go_cut [] (fun wx => Mid w s w.heap.size h wx)
      case first =>
        by_cases d0 : d = 0
        · subst d0
          obtain ⟨n, a', e', hg⟩ : ∃ n a' e', numF s.data.toList a e m = (n, a', e') := ⟨_, _, _, rfl⟩
          have hbd : 0 ≤ a' ∧ a' ≤ s.size := by
            have hh := getF_bd s.data.toList a
            have hl : s.data.toList.length = s.size := rfl
            rw [hl] at hh
            unfold numF at hg
            split at hg
            · simp only [Prod.mk.injEq] at hg; omega
            · split at hg
              · simp only [Prod.mk.injEq] at hg; omega
              · split at hg <;> simp only [Prod.mk.injEq] at hg <;> omega
          have CN : Ct Try.prog 10 #[.agg #[.string s, .int .i64 a, .int .i64 e], .int .i64 m] (.tuple #[.int .i64 n, .agg #[.string s, .int .i64 a', .int .i64 e']]) :=
            fun W => by have := rnum_all s a e m W (by omega); rw [hg] at this; exact this
          have hlb : b < wr.heap.size := by omega
          have hn1 : ¬ h = wr.heap.size := by omega
          have hn2 : ¬ wr.heap.size = h := by omega
          have hn3 : ¬ b = wr.heap.size := by omega
          have hn4 : ¬ wr.heap.size = b := by omega
          go_upto_region 9 with (fail)
          go_cut [8, 9] (fun v8 v9 wx => Ans w s w.heap.size h a e a' e' (.int .i64 n) v8 v9 wx)
          case first =>
            go_region_held3 (fun w' => w'.cell? ⟨h, 0, none⟩ = some (.string s) ∧ w'.cell? ⟨h, 1, none⟩ = some (.int .i64 a) ∧ w'.cell? ⟨h, 2, none⟩ = some (.int .i64 e) ∧ w'.cell? ⟨b, off + k * 2 + 1, none⟩ = some (.int .i64 m))
              (first | go_keep | exact ⟨f0, f1, f2, hc2⟩ | exact ⟨p0, p1, p2, p3⟩)
              (first | (go_at_call 10; (with_reducible refine (CN.go _).mono ?_); rintro en w3 ⟨rfl, hb3⟩
                        have hbw : Below wr.heap.size wr w3 := by first | exact (Below.refl _ _).drew.trans hb3 | exact (((Below.refl _ _).alloc (Nat.le_refl _) _).drew).trans (hb3.mono (by simp))
                        try (have kk := one_laid_d (by simp) hb3; have z0 := cell_at kk 0; have z1 := cell_at kk 1; have z2 := cell_at kk 2; have u0 := fz_at kk 0; have u1 := fz_at kk 1; have u2 := fz_at kk 2; have KK := Lib.hid kk; clear kk; simp at z0 z1 z2)
                        have p0 : w3.cell? ⟨h, 0, none⟩ = some (.string s) := (hb3.cell (p := ⟨h, 0, none⟩) (by simp; omega)).trans (by go_simp)
                        have p1 : w3.cell? ⟨h, 1, none⟩ = some (.int .i64 a) := (hb3.cell (p := ⟨h, 1, none⟩) (by simp; omega)).trans (by go_simp)
                        have p2 : w3.cell? ⟨h, 2, none⟩ = some (.int .i64 e) := (hb3.cell (p := ⟨h, 2, none⟩) (by simp; omega)).trans (by go_simp)
                        have p3 : w3.cell? ⟨b, off + k * 2 + 1, none⟩ = some (.int .i64 m) := (hb3.cell (p := ⟨b, off + k * 2 + 1, none⟩) (by simp; omega)).trans (by go_simp)))
            all_goals
              go_wp2_with (fail)
              go_meet
              have hws := hbw.size
            · exact ⟨rfl, w3.heap.size, rfl, heap_alloc_last _ _, (Rd.below r2 hbw (by omega)).alloc _, (x2.below hbw hlh).alloc (by omega) _, (hb2.trans (hbw.mono hsz)).alloc (by omega) _, by simp; omega, by omega⟩
            · exact ⟨rfl, wr.heap.size, rfl, RX.set3 KK.out _ _ _, (((Rd.below r2 hbw (by omega)).far (by simp; omega) _).far (by simp; omega) _).far (by simp; omega) _, (((x2.below hbw hlh).far (by simp; omega) _).far (by simp; omega) _).far (by simp; omega) _,
                (((hb2.trans (hbw.mono hsz)).setCell (by simp; omega) _).setCell (by simp; omega) _).setCell (by simp; omega) _, by simp; omega, by omega⟩
          case rest =>
            obtain ⟨rfl, x, rfl, x3, r3, x4, hb4, hl4, hx4⟩ := hcut
            have hsz4 := hb4.size
            clear f0 f1 f2 y0 y1 y2 hc1 hn1 hn2 hn3 hn4
            have hc3 := (hb4.cell (p := ⟨b, off + k * 2 + 1, none⟩) hbl).trans hcw2
            clear hc2
            have hnn : (n != n) = false := by simp
            have HM : ∀ {W : World}, Rd W w.heap.size s a e → Hid (Calls Try.prog 11 #[.pointer (some ⟨w.heap.size, 0, none⟩), .int .i64 m] W fun en w' => en = .returned (.int .i64 n) ∧ Rd w' w.heap.size s a' e' ∧ W.grownBy w' (some w.heap.size)) :=
              fun hW => Lib.hid (by have := number_any hW m (by unfold maxLen; omega); rw [hg] at this; exact this)
            go_wp2_with fail
            refine (HM r3).out.mono ?_
            rintro en w5 ⟨rfl, r5, o5⟩
            have hs5 := o5.size
            have x5 : RX w5 h s a e := (o5.block h (by omega) (by simp; omega)).trans x4
            have x6 : RX w5 x s a' e' := (o5.block x (by
              rcases Nat.lt_or_ge x wc.heap.size with hlt | hge
              · exact hlt
              · unfold RX at x3; rw [Array.getElem?_eq_none hge] at x3; cases x3) (by simp; omega)).trans x3
            have f0 := cell_at x5 0; have f1 := cell_at x5 1; have f2 := cell_at x5 2
            have g0 := cell_at x6 0; have g1 := cell_at x6 1; have g2 := cell_at x6 2
            have y0 := fz_at x5 0; have y1 := fz_at x5 1; have y2 := fz_at x5 2
            simp at f0 f1 f2 g0 g1 g2
            have hn1 : ¬ h = x := by omega
            have hn2 : ¬ x = h := by omega
            go_wp2_with fail
            go_meet
            exact ⟨a', e', ((r5.far (by simp; omega) _).far (by simp; omega) _).far (by simp; omega) _, RX.set3 x5 _ _ _, hbd.1, hbd.2, (((hb4.grown o5 hsz4 fun i hi => by injection hi with hi; omega).setCell (by simp; omega) _).setCell (by simp; omega) _).setCell (by simp; omega) _, by simp; omega⟩
        · have b0 : (d == 0) = false := by simpa using d0
          by_cases d1 : d = 1
          · subst d1
            clear d0 b0
            obtain ⟨n, a', e', hg⟩ : ∃ n a' e', fixdF s.data.toList a e = (n, a', e') := ⟨_, _, _, rfl⟩
            have hbd : 0 ≤ a' ∧ a' ≤ s.size := by
              have hh := fixdF_bd s.data.toList a e ha0 ha1
              rw [hg] at hh
              exact hh
            have CN : Ct Try.prog 12 #[.agg #[.string s, .int .i64 a, .int .i64 e]] (.tuple #[.int .i64 n, .agg #[.string s, .int .i64 a', .int .i64 e']]) :=
              fun W => by have := rfixd_all s a e W (by omega); rw [hg] at this; exact this
            have hnn : (n != n) = false := by simp
            have HM : ∀ {W : World}, Rd W w.heap.size s a e → Hid (Calls Try.prog 13 #[.pointer (some ⟨w.heap.size, 0, none⟩)] W fun en w' => en = .returned (.int .i64 n) ∧ Rd w' w.heap.size s a' e' ∧ W.grownBy w' (some w.heap.size)) :=
              fun hW => Lib.hid (by have := fixed_any hW (by unfold maxLen; omega); rw [hg] at this; exact this)
            go_wp2_with fail
            refine (CN.go _).mono ?_
            rintro en w3 ⟨rfl, hb3⟩
            have hs3 := hb3.size
            go_wp2_with fail
            have r3 := (Rd.below r2 hb3 (by omega)).alloc (Obj.cells #[Value.string s, Value.int IntKind.i64 a', Value.int IntKind.i64 e'] 28)
            have x4 := (x2.below hb3 hlh).alloc (by omega) (Obj.cells #[Value.string s, Value.int IntKind.i64 a', Value.int IntKind.i64 e'] 28)
            have x3 : RX (w3.alloc (Obj.cells #[Value.string s, Value.int IntKind.i64 a', Value.int IntKind.i64 e'] 28)) w3.heap.size s a' e' := heap_alloc_last _ _
            have hb4 := (hb2.trans (hb3.mono hsz)).alloc (by omega) (Obj.cells #[Value.string s, Value.int IntKind.i64 a', Value.int IntKind.i64 e'] 28)
            have hsz4 := hb4.size
            have hl4 : w3.heap.size < (w3.alloc (Obj.cells #[Value.string s, Value.int IntKind.i64 a', Value.int IntKind.i64 e'] 28)).heap.size := by simp
            generalize w3.alloc (Obj.cells #[Value.string s, Value.int IntKind.i64 a', Value.int IntKind.i64 e'] 28) = wc at *
            have hxx : h < w3.heap.size := by omega
            generalize w3.heap.size = x at *
            clear f0 f1 f2 y0 y1 y2 hc1
            refine (HM r3).out.mono ?_
            rintro en w5 ⟨rfl, r5, o5⟩
            have hs5 := o5.size
            have x5 : RX w5 h s a e := (o5.block h (by omega) (by simp; omega)).trans x4
            have x6 : RX w5 x s a' e' := (o5.block x hl4 (by simp; omega)).trans x3
            have f0 := cell_at x5 0; have f1 := cell_at x5 1; have f2 := cell_at x5 2
            have g0 := cell_at x6 0; have g1 := cell_at x6 1; have g2 := cell_at x6 2
            have y0 := fz_at x5 0; have y1 := fz_at x5 1; have y2 := fz_at x5 2
            simp at f0 f1 f2 g0 g1 g2
            have hn1 : ¬ h = x := by omega
            have hn2 : ¬ x = h := by omega
            go_wp2_with fail
            go_meet
            exact ⟨a', e', ((r5.far (by simp; omega) _).far (by simp; omega) _).far (by simp; omega) _, RX.set3 x5 _ _ _, hbd.1, hbd.2, (((hb4.grown o5 hsz4 fun i hi => by injection hi with hi; omega).setCell (by simp; omega) _).setCell (by simp; omega) _).setCell (by simp; omega) _, by simp; omega⟩
          · have b1 : (d == 1) = false := by simpa using d1
            by_cases d2 : d = 2
            · subst d2
              clear d0 b0 d1 b1
              obtain ⟨n, a', e', hg⟩ : ∃ n a' e', textF s.data.toList a e m = (n, a', e') := ⟨_, _, _, rfl⟩
              have hbd : 0 ≤ a' ∧ a' ≤ s.size := by
                have hh := textF_bd s.data.toList a e m ha0 ha1
                rw [hg] at hh
                exact hh
              have CN : Ct Try.prog 14 #[.agg #[.string s, .int .i64 a, .int .i64 e], .int .i64 m] (.tuple #[.string ⟨n.toArray⟩, .agg #[.string s, .int .i64 a', .int .i64 e']]) :=
                fun W => by have := rtext_all s a e m W (by omega) ha0 ha1; rw [hg] at this; exact this
              have hlb : b < wr.heap.size := by omega
              have hn1 : ¬ h = wr.heap.size := by omega
              have hn2 : ¬ wr.heap.size = h := by omega
              have hn3 : ¬ b = wr.heap.size := by omega
              have hn4 : ¬ wr.heap.size = b := by omega
              go_upto_region 19 with (fail)
              go_cut [12, 13] (fun v8 v9 wx => Ans w s w.heap.size h a e a' e' (.string ⟨n.toArray⟩) v8 v9 wx)
              case first =>
                go_region_held3 (fun w' => w'.cell? ⟨h, 0, none⟩ = some (.string s) ∧ w'.cell? ⟨h, 1, none⟩ = some (.int .i64 a) ∧ w'.cell? ⟨h, 2, none⟩ = some (.int .i64 e) ∧ w'.cell? ⟨b, off + k * 2 + 1, none⟩ = some (.int .i64 m))
                  (first | go_keep | exact ⟨f0, f1, f2, hc2⟩ | exact ⟨p0, p1, p2, p3⟩)
                  (first | (go_at_call 14; (with_reducible refine (CN.go _).mono ?_); rintro en w3 ⟨rfl, hb3⟩
                            have hbw : Below wr.heap.size wr w3 := by first | exact (Below.refl _ _).drew.trans hb3 | exact (((Below.refl _ _).alloc (Nat.le_refl _) _).drew).trans (hb3.mono (by simp))
                            try (have kk := one_laid_d (by simp) hb3; have z0 := cell_at kk 0; have z1 := cell_at kk 1; have z2 := cell_at kk 2; have u0 := fz_at kk 0; have u1 := fz_at kk 1; have u2 := fz_at kk 2; have KK := Lib.hid kk; clear kk; simp at z0 z1 z2)
                            have p0 : w3.cell? ⟨h, 0, none⟩ = some (.string s) := (hb3.cell (p := ⟨h, 0, none⟩) (by simp; omega)).trans (by go_simp)
                            have p1 : w3.cell? ⟨h, 1, none⟩ = some (.int .i64 a) := (hb3.cell (p := ⟨h, 1, none⟩) (by simp; omega)).trans (by go_simp)
                            have p2 : w3.cell? ⟨h, 2, none⟩ = some (.int .i64 e) := (hb3.cell (p := ⟨h, 2, none⟩) (by simp; omega)).trans (by go_simp)
                            have p3 : w3.cell? ⟨b, off + k * 2 + 1, none⟩ = some (.int .i64 m) := (hb3.cell (p := ⟨b, off + k * 2 + 1, none⟩) (by simp; omega)).trans (by go_simp)))
                all_goals
                  go_wp2_with (fail)
                  go_meet
                  have hws := hbw.size
                · exact ⟨rfl, w3.heap.size, rfl, heap_alloc_last _ _, (Rd.below r2 hbw (by omega)).alloc _, (x2.below hbw hlh).alloc (by omega) _, (hb2.trans (hbw.mono hsz)).alloc (by omega) _, by simp; omega, by omega⟩
                · exact ⟨rfl, wr.heap.size, rfl, RX.set3 KK.out _ _ _, (((Rd.below r2 hbw (by omega)).far (by simp; omega) _).far (by simp; omega) _).far (by simp; omega) _, (((x2.below hbw hlh).far (by simp; omega) _).far (by simp; omega) _).far (by simp; omega) _,
                    (((hb2.trans (hbw.mono hsz)).setCell (by simp; omega) _).setCell (by simp; omega) _).setCell (by simp; omega) _, by simp; omega, by omega⟩
              case rest =>
                obtain ⟨rfl, x, rfl, x3, r3, x4, hb4, hl4, hx4⟩ := hcut
                have hsz4 := hb4.size
                clear f0 f1 f2 y0 y1 y2 hc1 hn1 hn2 hn3 hn4
                have hc3 := (hb4.cell (p := ⟨b, off + k * 2 + 1, none⟩) hbl).trans hcw2
                clear hc2
                have hnn : ((n : List UInt8) != n) = false := by simp
                have HM : ∀ {W : World}, Rd W w.heap.size s a e → Hid (Calls Try.prog 15 #[.pointer (some ⟨w.heap.size, 0, none⟩), .int .i64 m] W fun en w' => en = .returned (.string ⟨n.toArray⟩) ∧ Rd w' w.heap.size s a' e' ∧ W.grownBy w' (some w.heap.size)) :=
                  fun hW => Lib.hid (by have := text_any hW m (by unfold maxLen; omega) ha0 ha1; rw [hg] at this; exact this)
                go_wp2_with fail
                refine (HM r3).out.mono ?_
                rintro en w5 ⟨rfl, r5, o5⟩
                have hs5 := o5.size
                have x5 : RX w5 h s a e := (o5.block h (by omega) (by simp; omega)).trans x4
                have x6 : RX w5 x s a' e' := (o5.block x (by
                  rcases Nat.lt_or_ge x wc.heap.size with hlt | hge
                  · exact hlt
                  · unfold RX at x3; rw [Array.getElem?_eq_none hge] at x3; cases x3) (by simp; omega)).trans x3
                have f0 := cell_at x5 0; have f1 := cell_at x5 1; have f2 := cell_at x5 2
                have g0 := cell_at x6 0; have g1 := cell_at x6 1; have g2 := cell_at x6 2
                have y0 := fz_at x5 0; have y1 := fz_at x5 1; have y2 := fz_at x5 2
                simp at f0 f1 f2 g0 g1 g2
                have hn1 : ¬ h = x := by omega
                have hn2 : ¬ x = h := by omega
                go_wp2_with fail
                go_meet
                exact ⟨a', e', ((r5.far (by simp; omega) _).far (by simp; omega) _).far (by simp; omega) _, RX.set3 x5 _ _ _, hbd.1, hbd.2, (((hb4.grown o5 hsz4 fun i hi => by injection hi with hi; omega).setCell (by simp; omega) _).setCell (by simp; omega) _).setCell (by simp; omega) _, by simp; omega⟩
            · have b2 : (d == 2) = false := by simpa using d2
              go_wp2_with fail
              go_meet
              exact ⟨a, e, r2, x2, ha0, ha1, hb2, hlh⟩
      case rest =>
        obtain ⟨a1, e1, r3, x3, ha2, ha3, hb3, hl3⟩ := hcut
        clear f0 f1 f2 y0 y1 y2 hc1 hc2 hcw2
        have f0 := cell_at x3 0
        have f1 := cell_at x3 1
        have f2 := cell_at x3 2
        simp at f0 f1 f2
        by_cases he : e1 = 0
        · subst he
          have HE : ∀ {W : World}, Rd W w.heap.size s a1 0 → Hid (Calls Try.prog 16 #[.pointer (some ⟨w.heap.size, 0, none⟩)] W fun en w' => en = .returned (.tuple #[.int .i64 0, .int .i64 0]) ∧ ∃ n, w' = W.drewN n) :=
            fun h => Lib.hid (error_any h)
          have HL : ∀ {W : World}, Rd W w.heap.size s a1 0 → Hid (Calls Try.prog 17 #[.pointer (some ⟨w.heap.size, 0, none⟩)] W fun en w' => en = .returned (.int .i64 (s.size - a1)) ∧ ∃ n, w' = W.drewN n) :=
            fun hW => Lib.hid (by have := left_any hW (by unfold maxLen; omega) ha2 ha3; rw [if_pos rfl] at this; exact this)
          have hnn : ((s.size : Int) - a1 != (s.size : Int) - a1) = false := by simp
          have hq1 : (0 : Int) ≤ (s.size : Int) - a1 := by omega
          go_wp2_with (first
            | (go_at_call 16; refine (HE r3).out.mono ?_; rintro en w5 ⟨rfl, nq, rfl⟩)
            | (go_at_call 17; refine (HL (r3.drewN _)).out.mono ?_; rintro en w6 ⟨rfl, nr, rfl⟩))
          go_roundw
          case rel => exact ⟨k + 1, a1, 0, by omega, by go_num, r3, x3, ha2, ha3, below_drewN hb3 _⟩
          case measure => simp [intOf]; omega
        · have heb : (e1 == 0) = false := by simpa using he
          have hen : (e1 != 0) = true := by simpa using he
          have hee : (e1 != e1) = false := by simp
          have haa : (a1 != a1) = false := by simp
          have hq1 : (0 : Int) ≤ (s.size : Int) - a1 := by omega
          have HE : ∀ {W : World}, Rd W w.heap.size s a1 e1 → Hid (Calls Try.prog 16 #[.pointer (some ⟨w.heap.size, 0, none⟩)] W fun en w' => en = .returned (.tuple #[.int .i64 e1, .int .i64 a1]) ∧ ∃ n, w' = W.drewN n) :=
            fun h => Lib.hid (by have := error_any h; rw [if_neg he] at this; exact this)
          have HL : ∀ {W : World}, Rd W w.heap.size s a1 e1 → Hid (Calls Try.prog 17 #[.pointer (some ⟨w.heap.size, 0, none⟩)] W fun en w' => en = .returned (.int .i64 0) ∧ ∃ n, w' = W.drewN n) :=
            fun hW => Lib.hid (by have := left_any hW (by unfold maxLen; omega) ha2 ha3; rw [if_neg he] at this; exact this)
          clear he
          go_wp2_with (first
            | (go_at_call 16; refine (HE r3).out.mono ?_; rintro en w5 ⟨rfl, nq, rfl⟩)
            | (go_at_call 17; refine (HL (r3.drewN _)).out.mono ?_; rintro en w6 ⟨rfl, nr, rfl⟩))
          go_roundw
          case rel => exact ⟨k + 1, a1, e1, by omega, by go_num, r3, x3, ha2, ha3, below_drewN hb3 _⟩
          case measure => simp [intOf]; omega
    · go_wp2_with (go_at_call 8; refine (fixed_true _).mono ?_; rintro e w1 ⟨rfl, hb1⟩)
      go_ret
      exact ⟨rfl, Below.step hb2 hb1⟩

theorem cells1 : Try.prog.cellsOf 3 = 1 := by kernel_rfl
theorem cells2 : Try.prog.cellsOf 30 = 2 := by kernel_rfl

set_option maxHeartbeats 1000000 in
set_option maxRecDepth 100000 in
theorem other (s : ByteArray) (A : Option Addr) (len cap : Nat) (w : World) (h : ¬ (s.size ≤ 200 ∧ len ≤ 30)) :
    Calls Try.prog 3 #[.string s, .slice A len cap] w fun e w' => e = .returned (.bool true) ∧ Below w.heap.size w w' := by
  by_cases c0 : (200 : Int) < s.size
  · clear h
    go_enter Try.func3, Try.ntmps3
    go_wp2_with (go_at_call 8; refine (fixed_true _).mono ?_; rintro e w1 ⟨rfl, hb⟩)
    go_ret
    exact ⟨rfl, hb⟩
  · have c1 : (30 : Int) < len := by omega
    clear h
    go_enter Try.func3, Try.ntmps3
    go_wp2_with (go_at_call 8; refine (fixed_true _).mono ?_; rintro e w1 ⟨rfl, hb⟩)
    go_ret
    exact ⟨rfl, hb⟩

theorem whole (s : ByteArray) (A : Option Addr) (cap : Nat) (ds : List (Int × Int)) (w : World) (hA : Stps w A ds) :
    Calls Try.prog 3 #[.string s, .slice A ds.length cap] w fun e w' => e = .returned (.bool true) ∧ Below w.heap.size w w' := by
  by_cases h : s.size ≤ 200 ∧ ds.length ≤ 30
  · exact walk s A cap ds w hA h.1 h.2
  · exact other s A ds.length cap w h

end Go.Proofs.Ytcnacdjpihbfmaa.wireReads
