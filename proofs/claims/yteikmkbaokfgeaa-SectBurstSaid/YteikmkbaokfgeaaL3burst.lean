/- Layer 3: SectBurst: a section in whose payload some bits change, within 32 bits side by side, is none, by its sum; where all is as it was it is one. For every section and every pair of numbers. -/
import Derived.Test.YteikmkbaokfgeaaSfix
import Derived.Test.YteikmkbaokfgeaaSm2
import Derived.Test.YteikmkbaokfgeaaSopen
import Derived.Test.YteikmkbaokfgeaaCbit
import Derived.ChangeMaps5
import Derived.RegionTactic
import Derived.BigQuiet
namespace Go.Proofs.Yteikmkbaokfgeaa.sectBurst
set_option linter.unusedVariables false
set_option linter.unusedSimpArgs false
open Go.ChangeShapes Go.WideShapes Go.ChangeAt Go.RowKit Cm Cbit

/-- A section whose payload, or sum, is another one. -/
theorem secG_gen (c : UInt8) (p : List UInt8) (n : Nat) (h : p.length ≤ 300) (hn : n ≤ 4294967295) :
    secG c (putG 7 p.length ++ (p ++ fixG n)) = if (n : Int) ≠ rollF 0 (c :: p) then ([], 0, 30) else (p, (putG 7 p.length).length + p.length + 4, 0) := by
  generalize ht : putG 7 p.length ++ (p ++ fixG n) = t
  have hg : getL t 0 0 = ((p.length : Int), (putG 7 p.length).length, 0) := by
    rw [← ht, getL_putG _ 7 0 p.length 0 (by omega) (by omega) (by omega) (by omega) (fun _ => by omega) (by omega)]
    simp
  have hl : t.length = (putG 7 p.length).length + (p.length + 4) := by rw [← ht]; simp [fixG_len]
  have hd : t.drop (putG 7 p.length).length = p ++ fixG n := by rw [← ht, List.drop_left]
  have hk : (p ++ fixG n).take p.length = p := List.take_left
  have hx : gfxF t (((putG 7 p.length).length : Int) + (p.length : Int)) = ((n : Int), ((putG 7 p.length).length : Int) + (p.length : Int) + 4, 0) := by
    have := gfxF_fix (putG 7 p.length ++ p) [] n hn
    rw [show putG 7 p.length ++ p ++ fixG n ++ [] = t by rw [← ht]; simp] at this
    rw [show ((putG 7 p.length ++ p).length : Int) = ((putG 7 p.length).length : Int) + (p.length : Int) by simp] at this
    exact this
  unfold secG
  rw [hg]
  simp only [Int.toNat_natCast]
  rw [hl, if_neg (by simp), if_neg (by omega), if_neg (by omega), hx, hd, hk]

/-- A section's bytes around its payload. -/
def around (t : Int) (p p' : List UInt8) : List UInt8 := (tagB t :: putG 7 p.length) ++ (p' ++ fixG (rollF 0 (tagB t :: p)).toNat)
theorem around_put {t : Int} {p : List UInt8} (h0 : 0 ≤ t) (h1 : t ≤ 255) (hp : p.length ≤ 300) : putS t p = around t p p := by
  have hs := sum_in (tagB t :: p)
  rw [putS_eq h0 h1 (by omega), bodyS, putTextF_eq (by omega), fixF_eq hs.1 hs.2, around]; simp
theorem around_len (t : Int) (p p' : List UInt8) (h : p'.length = p.length) : (around t p p').length = 1 + (putG 7 p.length).length + p.length + 4 := by
  simp [around, fixG_len]; omega
theorem around_at (t : Int) (p p' : List UInt8) (j : Nat) (hj : j < p'.length) : ∃ h, (around t p p')[1 + (putG 7 p.length).length + j]'h = p'[j] := by
  have hl : (tagB t :: putG 7 p.length).length = 1 + (putG 7 p.length).length := by simp; omega
  refine ⟨by simp [around]; omega, ?_⟩
  unfold around
  rw [List.getElem_append_right (by omega), List.getElem_append_left (by omega)]
  congr 1
  omega
theorem around_set (t : Int) (p p' : List UInt8) (j : Nat) (hj : j < p'.length) (c : UInt8) : (around t p p').set (1 + (putG 7 p.length).length + j) c = around t p (p'.set j c) := by
  have hl : (tagB t :: putG 7 p.length).length = 1 + (putG 7 p.length).length := by simp; omega
  unfold around
  rw [List.set_append_right _ _ (by omega), List.set_append_left _ _ (by omega)]
  congr 3
  omega
theorem around_inj {t : Int} {p p' : List UInt8} (h : p'.length = p.length) : around t p p' = around t p p ↔ p' = p := by
  constructor
  · intro e
    unfold around at e
    have := List.append_cancel_left e
    exact List.append_cancel_right this
  · rintro rfl; rfl
theorem getS_around {t : Int} {p p' : List UInt8} (h0 : 0 ≤ t) (h1 : t ≤ 255) (hp : p.length ≤ 300) (h : p'.length = p.length) (hne : crcL 4294967295 (tagB t :: p') = crcL 4294967295 (tagB t :: p) ↔ p' = p) :
    getS (around t p p') 0 = if p' = p then (t, p, ((around t p p).length : Int), 0) else (0, [], 0, 30) := by
  have hs := sum_in (tagB t :: p)
  have hg := secG_gen (tagB t) p' (rollF 0 (tagB t :: p)).toNat (by omega) (by omega)
  rw [h] at hg
  have hsum : (((rollF 0 (tagB t :: p)).toNat : Nat) : Int) = rollF 0 (tagB t :: p) := by omega
  rw [hsum] at hg
  have hc : rollF 0 (tagB t :: p) = rollF 0 (tagB t :: p') ↔ p' = p := by
    rw [← hne, rollF, rollF, if_neg (by omega), if_neg (by omega)]
    have e : (4294967295 - (0 : Int)).toNat = 4294967295 := by decide
    rw [e]
    constructor
    · intro h; omega
    · intro h; rw [h]
  have hd : (around t p p').drop (Int.toNat 0) = tagB t :: (putG 7 p.length ++ (p' ++ fixG (rollF 0 (tagB t :: p)).toNat)) := by simp [around]
  have hd2 := getS_in (s := around t p p') (i := 0) (c := tagB t) (t := putG 7 p.length ++ (p' ++ fixG (rollF 0 (tagB t :: p)).toNat)) (by simpa using hd)
  have e0 : ((0 : Nat) : Int) = 0 := rfl
  rw [e0] at hd2
  rw [hd2, hg]
  by_cases hp' : p' = p
  · have hk : ¬ rollF 0 (tagB t :: p) ≠ rollF 0 (tagB t :: p') := fun e => e (hc.2 hp')
    rw [if_pos hp', if_neg hk]
    subst hp'
    rw [around_len _ _ _ rfl, tagB_val h0 h1]
    simp only
    rw [if_neg (by simp)]
    refine Prod.ext rfl (Prod.ext rfl (Prod.ext ?_ rfl))
    simp only
    omega
  · have hk : rollF 0 (tagB t :: p) ≠ rollF 0 (tagB t :: p') := fun e => hp' (hc.1 e)
    rw [if_neg hp', if_pos hk]
    simp

theorem ret_true {b : Bool} (h : b = true) : Ending.returned (.bool b) = .returned (.bool true) := by rw [h]
theorem list_ne {a b : List UInt8} (h : ¬ a = b) : (a == b) = false := by simpa using h

/-- What the loop has turned so far. -/
structure BurstR (w : World) (g h : Nat) (tag : Int) (t : ByteArray) (bit f : Nat) (i : Value) (W : World) : Prop where
  ex : ∃ (k : Nat) (p' : List UInt8), k ≤ 32 ∧ i = .int .i64 k ∧ BytesAt W h (around tag t.data.toList p') ∧ p'.length = t.size ∧ leN p' = leN t.data.toList ^^^ 2 ^ bit * Cbit.seen f (8 * t.size - bit) k ∧ Held W g 32 #[.int .i64 tag, .string t] ∧ Below w.heap.size w W

set_option maxHeartbeats 1000000 in
set_option maxRecDepth 100000 in
theorem good (tag : Int) (t : ByteArray) (p f : Nat) (w : World) (h0 : 0 ≤ tag) (h1 : tag ≤ 255) (h2 : t.size ≤ 300) (h3 : p < 8 * t.size) (h4 : 1 ≤ f) (h5 : f < 4294967296) :
    Calls Try.prog 5 #[.agg #[.int .i64 tag, .string t], .int .i64 p, .int .i64 f] w fun e w' => e = .returned (.bool true) ∧ Below w.heap.size w w' := by
  have hb : Below w.heap.size w w := Below.refl _ _
  have htl : t.data.toList.length = t.size := rfl
  have htm : t.size ≤ maxLen := by unfold maxLen; omega
  have CS := fun W => Lib.hid (small_one (tag, t) W htm)
  rw [show decide ((tag, t).2.size ≤ 300) = true by simpa using h2] at CS
  have CP := fun W => Lib.hid (sput_any tag t W htm)
  have hput := around_put (p := t.data.toList) h0 h1 (by omega)
  have hlen := around_len tag t.data.toList t.data.toList rfl
  rw [hput] at CP
  have hpg := putG_len 7 t.data.toList.length
  have hpg1 : 1 ≤ (putG 7 t.data.toList.length).length := by
    rw [putG]; split <;> simp
  have HA := Lib.hid (around_at tag t.data.toList)
  have HSET := Lib.hid (around_set tag t.data.toList)
  have HL := Lib.hid (fun p' h => around_len tag t.data.toList p' h)
  obtain ⟨F, hF⟩ : ∃ F, F = 1 + (putG 7 t.data.toList.length).length := ⟨_, rfl⟩
  rw [← hF] at HA HSET HL hlen
  rw [htl] at hlen HL
  have n1 : decide (tag < 0) = false := by simp; omega
  have n2 : decide (255 < tag) = false := by simp; omega
  have n3 : decide ((p : Int) < 0) = false := by simp
  obtain ⟨N, hN⟩ : ∃ N : Nat, 8 * (t.size : Int) = N := ⟨8 * t.size, by omega⟩
  have hN1 : (N : Int) ≤ 2400 := by omega
  have n4 : decide (N ≤ p) = false := by simp; omega
  have n5 : decide ((f : Int) < 1) = false := by simp; omega
  have n6 : decide (4294967296 ≤ (f : Int)) = false := by simp; omega
  have H3 := Lib.hid h3
  have H4 : Cbit.Shut (f < 4294967296) := ⟨h5⟩
  have hF8 : F ≤ 8 := by omega
  have hF2 : 2 ≤ F := by omega
  clear h3 h4 h5 hpg hpg1
  have HP := Lib.hid hput; clear hput
  have HFF := Lib.hid hF; clear hF
  generalize hq : around tag t.data.toList t.data.toList = q at *
  have HQ := Lib.hid hq
  have hqs : (⟨q.toArray⟩ : ByteArray).size = q.length := by show q.toArray.size = _; simp
  have m1 : ¬ (q.length : Int) < t.size + 6 := by omega
  have m2 : (q.length : Int) - 4 - t.size = F := by omega
  clear hq
  go_enter Try.func5, Try.ntmps5
  go_wp2_with (first
    | (go_at_call 10; (with_reducible refine (fixed_true (w.alloc (.cells #[.int .i64 tag, .string t] 32))).mono ?_); rintro e v1 ⟨rfl, hb1⟩; have hh := (Held.new w 32 #[.int .i64 tag, .string t]).below hb1; have c0 := hh.cell 0; have c1 := hh.cell 1; have hlt := hh.lt; simp at c0 c1; replace hb := below_laid hb1; clear hb1)
    | (go_at_call 9; (with_reducible refine (CS _).out.mono ?_); rintro e v2 ⟨rfl, rfl⟩)
    | (go_at_call 15; (with_reducible refine (CP _).out.mono ?_); rintro e v3 ⟨rfl, hb3⟩; have hh3 := hh.below (below_laid hb3); replace hb := Below.step hb (below_laid hb3); clear c0 c1 hlt hb3 hh; have c0 := hh3.cell 0; have c1 := hh3.cell 1; have hlt := hh3.lt; simp at c0 c1)
    | (refine wpList_bytes_of rfl 9 38 5 _ rfl Try.underlying9 Try.underlying38 Try.underlying5 ⟨q.toArray⟩ rfl ?_; intro cap v4 hat hb4 hz4; have hgl := hh3.lt; have hh4 := hh3.below hb4; have hvb := hb.size; replace hb := Below.step hb hb4; clear c0 c1 hlt hb4 hh3; have c0 := hh4.cell 0; have c1 := hh4.cell 1; have hlt := hh4.lt; simp at c0 c1))
  have hbb := hb.size
  have hgn : w.heap.size ≠ v3.heap.size := by omega
  clear c0 c1 hlt
  generalize v3.heap.size = g at *
  go_loopw [10] (fun i W => BurstR w w.heap.size g tag t p f i W) (fun i _ => 32 - (intOf i).toNat)
  case atStart => exact ⟨0, t.data.toList, by omega, rfl, by rw [HQ.out]; exact hat, htl, by rw [seen_zero]; simp, hh4, hb⟩
  case round =>
    obtain ⟨k, p', hk, rfl, hat, hl, hn, hh, hb⟩ := hrel.ex
    clear hh4 hrel
    have c0 := hh.cell 0
    have c1 := hh.cell 1
    have hlt1 := hh.lt
    simp at c0 c1
    by_cases hlt : k < 32
    · have HN := Lib.hid hn; clear hn
      obtain ⟨r0, hr0⟩ : ∃ r0 : Nat, ((p : Int) + k) = (r0 : Int) := ⟨p + k, by omega⟩
      have hp : (p : Int) < 8 * t.size := by have := H3.out; omega
      have hq1 : (r0 : Int) < 5000 := by omega
      clear hp
      by_cases hbit : f / 2 ^ k % 2 = 1
      · have hbt := bit_one f k H4.out hbit
        by_cases hroom : r0 < N
        · obtain ⟨j, hj⟩ : ∃ j : Nat, (r0 : Int) / 8 = (j : Int) := ⟨r0 / 8, by omega⟩
          obtain ⟨r, hr⟩ : ∃ r : Nat, (r0 : Int) % 8 = (r : Int) := ⟨r0 % 8, by omega⟩
          have hr8 : (r : Int) < 8 := by omega
          have hjl : j < p'.length := by omega
          obtain ⟨hjj, hjv⟩ := HA.out p' j hjl
          have d0 := hat.cell (F + j) hjj
          rw [hjv] at d0
          have f0 := hat.fz (F + j) hjj
          have hjq : F + j < q.length := by omega
          have hjq2 : (F : Int) + j < q.length := by omega
          have HR : Cbit.Shut (r0 = 8 * j + r ∧ p + k = r0) := ⟨by omega, by omega⟩
          have HB : Cbit.Shut (f / 2 ^ k % 2 = 1) := ⟨hbit⟩
          clear hbit hjv hjj
          obtain ⟨M, hM⟩ : ∃ M : Nat, (F : Int) + j = (M : Int) := ⟨F + j, by omega⟩
          have hM2 : F + j = M := by omega
          rw [hM2] at d0 f0 hjq
          have hjq3 : (M : Int) < q.length := by omega
          go_wp2_with fail
          go_region
          go_wp2_with fail
          obtain ⟨c, hc, hc2⟩ := turned p'[j] r (by omega)
          go_roundw
          case rel =>
            refine ⟨k + 1, p'.set j c, by omega, by go_num, ?_, by rw [List.length_set, hl], ?_, ?_, (hb.setCell (p := ⟨g, M, none⟩) hvb _).drew⟩
            · rw [hc2]
              have := (hat.set (F + j) c).drew
              rw [HSET.out p' j hjl c, hM2] at this
              exact this
            · exact turn_bit HN.out (by have := HR.out; omega) HB.out j r hjl (by have := HR.out; omega) c hc
            · exact (Below.heap_setCell wr ⟨g, M, none⟩ _ w.heap.size hgn).trans hh
          case measure => simp [intOf]; omega
        · have HB : Cbit.Shut (f / 2 ^ k % 2 = 1) := ⟨hbit⟩
          have HR : Cbit.Shut (N ≤ r0 ∧ p + k = r0) := ⟨by omega, by omega⟩
          clear hbit
          go_wp2_with fail
          go_roundw
          case rel =>
            refine ⟨k + 1, p', by omega, by go_num, hat, hl, ?_, hh, hb⟩
            rw [HN.out, seen_out]
            have := HR.out
            omega
          case measure => simp [intOf]; omega
      · have hbt := bit_zero f k H4.out (by omega)
        have HB : Cbit.Shut (f / 2 ^ k % 2 = 0) := ⟨by omega⟩
        have HR : Cbit.Shut (p + k = r0) := ⟨by omega⟩
        clear hbit
        go_wp2_with fail
        go_roundw
        case rel =>
          refine ⟨k + 1, p', by omega, by go_num, hat, hl, ?_, hh, hb⟩
          rw [HN.out]
          by_cases hr : k < 8 * t.size - p
          · rw [seen_not _ _ _ hr HB.out]
          · rw [seen_out _ _ _ (by omega)]
        case measure => simp [intOf]; omega
    · obtain rfl : k = 32 := by omega
      have hp : p < 8 * t.size := H3.out
      have hbu := burst (s := t.data.toList) (b := p') (bit := p) (f := f) hl (by show p ≤ 8 * t.size; omega) H4.out (seen_all f (8 * t.size - p) H4.out) hn (crcL 4294967295 [tagB tag])
      have hcr : ∀ r : List UInt8, crcL 4294967295 (tagB tag :: r) = crcL (crcL 4294967295 [tagB tag]) r := fun r => crcL_append [tagB tag] r 4294967295
      have hget := getS_around (p := t.data.toList) (p' := p') h0 h1 (by omega) (by rw [htl]; exact hl) (by rw [hcr, hcr]; exact hbu)
      have hinj := around_inj (t := tag) (p := t.data.toList) (p' := p') (by rw [htl]; exact hl)
      have hlen' := HL.out p' hl
      rw [HQ.out] at hget hinj
      generalize around tag t.data.toList p' = l at *
      have hlq : l.length = q.length := by omega
      have hcv := hat.conv (P := Try.prog) 38 9 5 (F + t.size + 4) cap hlen' Try.underlying38 Try.underlying5 Try.underlying9
      have hlm : (⟨l.toArray⟩ : ByteArray).size ≤ maxLen := by show l.toArray.size ≤ _; rw [List.size_toArray]; unfold maxLen; omega
      clear hp hbu hcr hn HA HSET HL
      by_cases hP : p' = t.data.toList
      · rw [if_pos hP] at hget
        have hql : l = q := hinj.2 hP
        have CG := fun W => Lib.hid (sget_lit ⟨l.toArray⟩ 0 _ _ _ _ W hlm hget)
        have hbeq : (l == q) = true := by simpa using hql
        have Hql := Lib.hid hql
        clear hget hinj hP hql
        go_wp2_with (first
          | (go_at_call 11; (with_reducible refine (CG _).out.mono ?_); rintro e v5 ⟨rfl, hb5⟩; have hat5 := hat.below hb5 hat.lt; have hcv5 := hat5.conv (P := Try.prog) 38 9 5 (F + t.size + 4) cap hlen' Try.underlying38 Try.underlying5 Try.underlying9; replace hb := Below.step hb hb5; clear hb5))
        go_ret
        exact ⟨rfl, hb⟩
      · rw [if_neg hP] at hget
        have hql : ¬ l = q := fun e => hP (hinj.1 e)
        have CG := fun W => Lib.hid (sget_lit ⟨l.toArray⟩ 0 _ _ _ _ W hlm hget)
        have hbeq := list_ne hql
        clear hget hinj hP
        go_wp2_with (first
          | (go_at_call 11; (with_reducible refine (CG _).out.mono ?_); rintro e v5 ⟨rfl, hb5⟩; have hat5 := hat.below hb5 hat.lt; have hcv5 := hat5.conv (P := Try.prog) 38 9 5 (F + t.size + 4) cap hlen' Try.underlying38 Try.underlying5 Try.underlying9; replace hb := Below.step hb hb5; clear hb5))
        go_ret
        exact ⟨rfl, hb⟩

set_option maxHeartbeats 1000000 in
set_option maxRecDepth 100000 in
/-- Outside the bounds the fixed calls alone are asked. -/
theorem other (tag : Int) (t : ByteArray) (p f : Int) (w : World) (hz : t.size ≤ maxLen) (h : ¬ (t.size ≤ 300 ∧ 0 ≤ tag ∧ tag ≤ 255 ∧ 0 ≤ p ∧ p < 8 * t.size ∧ 1 ≤ f ∧ f < 4294967296)) :
    Calls Try.prog 5 #[.agg #[.int .i64 tag, .string t], .int .i64 p, .int .i64 f] w fun e w' => e = .returned (.bool true) ∧ Below w.heap.size w w' := by
  have hb : Below w.heap.size w w := Below.refl _ _
  have CS := fun W => Lib.hid (small_one (tag, t) W hz)
  by_cases hs : t.size ≤ 300
  · rw [show decide ((tag, t).2.size ≤ 300) = true by simpa using hs] at CS
    have hc : tag < 0 ∨ (0 ≤ tag ∧ 255 < tag) ∨ (0 ≤ tag ∧ tag ≤ 255 ∧ p < 0) ∨ (0 ≤ tag ∧ tag ≤ 255 ∧ 0 ≤ p ∧ 8 * (t.size : Int) ≤ p) ∨ (0 ≤ tag ∧ tag ≤ 255 ∧ 0 ≤ p ∧ p < 8 * (t.size : Int) ∧ f < 1) ∨ (0 ≤ tag ∧ tag ≤ 255 ∧ 0 ≤ p ∧ p < 8 * (t.size : Int) ∧ 1 ≤ f ∧ 4294967296 ≤ f) := by omega
    have hs' : (t.size : Int) ≤ 300 := by omega
    clear h
    rcases hc with h | ⟨h, h1⟩ | ⟨h, h1, h2⟩ | ⟨h, h1, h2, h3⟩ | ⟨h, h1, h2, h3, h4⟩ | ⟨h, h1, h2, h3, h4, h5⟩
    all_goals
      go_enter Try.func5, Try.ntmps5
      go_wp2_with (first
        | (go_at_call 10; (with_reducible refine (fixed_true (w.alloc (.cells #[.int .i64 tag, .string t] 32))).mono ?_); rintro e v1 ⟨rfl, hb1⟩; have hx := (Held.new w 32 #[.int .i64 tag, .string t]).below hb1; have c0 := hx.cell 0; have c1 := hx.cell 1; have hlt := hx.lt; simp at c0 c1; replace hb := below_laid hb1; clear hb1)
        | (go_at_call 9; (with_reducible refine (CS _).out.mono ?_); rintro e v2 ⟨rfl, rfl⟩)
        | (go_at_call 10; refine (fixed_true _).mono ?_; rintro e v3 ⟨rfl, hb3⟩; replace hb := Below.step hb (below_laid hb3); clear hb3))
      go_ret
      exact ⟨rfl, hb⟩
  · rw [show decide ((tag, t).2.size ≤ 300) = false by simpa using hs] at CS
    clear h
    unfold maxLen at hz
    go_enter Try.func5, Try.ntmps5
    go_wp2_with (first
      | (go_at_call 10; (with_reducible refine (fixed_true (w.alloc (.cells #[.int .i64 tag, .string t] 32))).mono ?_); rintro e v1 ⟨rfl, hb1⟩; have hx := (Held.new w 32 #[.int .i64 tag, .string t]).below hb1; have c0 := hx.cell 0; have c1 := hx.cell 1; have hlt := hx.lt; simp at c0 c1; replace hb := below_laid hb1; clear hb1)
      | (go_at_call 9; (with_reducible refine (CS _).out.mono ?_); rintro e v2 ⟨rfl, rfl⟩)
      | (go_at_call 10; refine (fixed_true _).mono ?_; rintro e v3 ⟨rfl, hb3⟩; replace hb := Below.step hb (below_laid hb3); clear hb3))
    go_ret
    exact ⟨rfl, hb⟩

theorem entry {H : Type} {enc : TypeId × Value → H} (W : World) (base : Nat) (v0 v1 v2 : Value) (d0 d1 d2 : DataW H) (p0 p1 p2 : List MemPlace)
    (k0 : Value.okWide Try.prog W .any base 32 v0) (k1 : Value.okWide Try.prog W .any base 3 v1) (k2 : Value.okWide Try.prog W .any base 3 v2)
    (h0 : DataW.Trod enc Try.prog W 0 (fun _ => true) true 32 v0 d0 p0) (h1 : DataW.Trod enc Try.prog W 0 (fun _ => true) true 3 v1 d1 p1) (h2 : DataW.Trod enc Try.prog W 0 (fun _ => true) true 3 v2 d2 p2) :
    Calls Try.prog 5 #[v0, v1, v2] W fun e w' => e = .returned (.bool true) ∧ Below W.heap.size W w' := by
  obtain ⟨tag, t, rfl, _, ht⟩ := open_sec k0 h0
  obtain ⟨p, rfl, _, _, _⟩ := open_int Try.underlying3 k1 h1
  obtain ⟨f, rfl, _, _, _⟩ := open_int Try.underlying3 k2 h2
  by_cases h : t.size ≤ 300 ∧ 0 ≤ tag ∧ tag ≤ 255 ∧ 0 ≤ p ∧ p < 8 * t.size ∧ 1 ≤ f ∧ f < 4294967296
  · obtain ⟨j1, j2, j3, j4, j5, j6, j7⟩ := h
    obtain ⟨m, rfl⟩ := Int.eq_ofNat_of_zero_le j4
    obtain ⟨n, rfl⟩ := Int.eq_ofNat_of_zero_le (by omega : 0 ≤ f)
    exact good tag t m n W j2 j3 j1 (by omega) (by omega) (by omega)
  · exact other tag t p f W ht h
end Go.Proofs.Yteikmkbaokfgeaa.sectBurst
