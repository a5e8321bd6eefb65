/- Layer 7, plain: texts cut at a byte, and joined; numbers in digits. -/
import Derived.Test.YtjibkgildfjjoaaGreatDoorzOpl
import Derived.Lib.ItoaNum
import Derived.Test.YtjibkgildfjjoaaGreatDoorzHd
import Derived.OwnWalk
import Derived.Below
import Derived.Deep.WholeRow
import Derived.Laws.IdiomStrings
import Derived.Test.YtjibkgildfjjoaaGreatDoorRows
import Derived.Lib.Strings
import Derived.OpenShut
import Derived.Lib.Hide
import Derived.WalkMore
import Derived.Handy
namespace Go.Proofs.YtjibkgildfjjoaaGreatDoor
set_option linter.unusedVariables false
set_option linter.unusedSimpArgs false
open Go

/-- A text cut at each byte c. -/
def splitL (c : UInt8) : List UInt8 → List (List UInt8)
  | [] => [[]]
  | x :: r => if x = c then [] :: splitL c r else match splitL c r with
    | w :: ws => (x :: w) :: ws
    | [] => [[x]]
def joinC (c : UInt8) : List (List UInt8) → List UInt8
  | [] => []
  | [w] => w
  | w :: v :: ws => w ++ c :: joinC c (v :: ws)
theorem splitL_ne (c : UInt8) (l : List UInt8) : splitL c l ≠ [] := by
  induction l with
  | nil => simp [splitL]
  | cons x r ih =>
    unfold splitL
    split
    · simp
    · cases h : splitL c r with
      | nil => exact absurd h ih
      | cons w ws => simp
theorem joinC_cons (c x : UInt8) (w : List UInt8) (ws : List (List UInt8)) : joinC c ((x :: w) :: ws) = x :: joinC c (w :: ws) := by
  cases ws <;> simp [joinC]
theorem joinC_nil_cons (c : UInt8) (ws : List (List UInt8)) (h : ws ≠ []) : joinC c ([] :: ws) = c :: joinC c ws := by
  cases ws with
  | nil => exact absurd rfl h
  | cons w ws => simp [joinC]
theorem join_split (c : UInt8) (l : List UInt8) : joinC c (splitL c l) = l := by
  induction l with
  | nil => simp [splitL, joinC]
  | cons x r ih =>
    unfold splitL
    split
    · rename_i h
      rw [joinC_nil_cons c _ (splitL_ne c r), ih, h]
    · cases h : splitL c r with
      | nil => exact absurd h (splitL_ne c r)
      | cons w ws =>
        simp only
        rw [joinC_cons, ← h, ih]
theorem split_word (c : UInt8) (w : List UInt8) (h : c ∉ w) : splitL c w = [w] := by
  induction w with
  | nil => rfl
  | cons x r ih =>
    simp only [List.mem_cons, not_or] at h
    unfold splitL
    rw [if_neg (Ne.symm h.1), ih h.2]
theorem split_app (c : UInt8) (w r : List UInt8) (h : c ∉ w) : splitL c (w ++ c :: r) = w :: splitL c r := by
  induction w with
  | nil => simp [splitL]
  | cons x w ih =>
    simp only [List.mem_cons, not_or] at h
    rw [List.cons_append]
    conv => lhs; unfold splitL
    rw [if_neg (Ne.symm h.1), ih h.2]
/-- Lines, each with a byte c behind it. -/
def flatC (c : UInt8) (ws : List (List UInt8)) : List UInt8 := (ws.map fun w => w ++ [c]).flatten
theorem flatC_cons (c : UInt8) (w : List UInt8) (ws : List (List UInt8)) : flatC c (w :: ws) = w ++ c :: flatC c ws := by simp [flatC]
theorem join_flat (c : UInt8) (t : List UInt8) : ∀ (ws : List (List UInt8)), joinC c (ws ++ [t]) = flatC c ws ++ t
  | [] => by simp [flatC, joinC]
  | w :: ws => by
    rw [flatC_cons, List.cons_append]
    cases h : ws ++ [t] with
    | nil => simp at h
    | cons v vs =>
      rw [joinC, ← h, join_flat c t ws]
      simp

/-- The number that digits are. -/
def valD (w : List UInt8) : Int := w.foldl (fun n c => 10 * n + c.toNat - 48) 0
theorem decd_lt {n : Nat} (h : n < 10) : Lib.decDigits n = [UInt8.ofNat (48 + n % 10)] := by rw [Lib.decDigits, dif_pos h, Nat.mod_eq_of_lt h]
theorem decd_ge {n : Nat} (h : ¬ n < 10) : Lib.decDigits n = Lib.decDigits (n / 10) ++ [UInt8.ofNat (48 + n % 10)] := by rw [Lib.decDigits, dif_neg h]
/-- A number as its digits. -/
def dgI (n : Int) : List UInt8 := Lib.decDigits n.toNat
/-- The number that a word is; -1: none. -/
def numV (w : List UInt8) : Int := if w.length ≤ 3 ∧ 0 ≤ valD w ∧ dgI (valD w) = w then valD w else -1
theorem numV_of {w : List UInt8} (h : 0 ≤ numV w) : dgI (numV w) = w ∧ numV w = valD w ∧ w.length ≤ 3 := by
  unfold numV at *
  split at h
  · rename_i hc
    rw [if_pos hc]
    exact ⟨hc.2.2, rfl, hc.1⟩
  · omega
theorem strb_size (q : List UInt8) : (⟨q.toArray⟩ : ByteArray).size = q.length := by show q.toArray.size = _; simp
end Go.Proofs.YtjibkgildfjjoaaGreatDoor

/- A call's own list of elements of one cell each. -/
namespace Go.Proofs.YtjibkgildfjjoaaGreatDoor
set_option linter.unusedVariables false
set_option linter.unusedSimpArgs false
open Go.RowKit Go.ChangeShapes Go.WideShapes Go.ChangeAt

/-- The call's own slice v holds the values xs, in a block from B on. -/
def OwnV (w : World) (B : Nat) (e : TypeId) (v : Value) (xs : List Value) : Prop := w.ownsRow B e 1 v xs.length xs
theorem OwnV.nil (w : World) (B : Nat) (e : TypeId) : OwnV w B e (.slice none 0 0) [] := ⟨by simp, .inl ⟨rfl, rfl⟩⟩
theorem OwnV.made (w : World) (e : TypeId) : OwnV (w.alloc (.cells #[] e)) w.heap.size e (.slice (some ⟨w.heap.size, 0, none⟩) 0 0) [] :=
  World.ownsRow_made w #[] 0 (Nat.le_refl _) (by decide) rfl
theorem OwnV.below {w w' : World} {B : Nat} {e : TypeId} {v : Value} {xs : List Value} (h : OwnV w B e v xs) (hb : Below w.heap.size w w') : OwnV w' B e v xs := by
  unfold OwnV at h ⊢
  refine h.kept (row := none) ⟨hb.os, hb.tape, hb.output, hb.size, fun k hk _ => hb.block k hk⟩ ?_
  cases hv : v.ownBlock with
  | none => exact .inl rfl
  | some k => exact .inr (by simp)
theorem OwnV.form {w : World} {B : Nat} {e : TypeId} {v : Value} {xs : List Value} (h : OwnV w B e v xs) :
    ∃ A c, v = .slice A xs.length c ∧ (0 < xs.length → ∃ g, A = some ⟨g, 0, none⟩ ∧ B ≤ g ∧ g < w.heap.size ∧ ∀ j (hj : j < xs.length), w.cell? ⟨g, j, none⟩ = some xs[j]) := by
  unfold OwnV at h
  have hc := fun g hg => h.cells (g := g) hg
  have hlt := h.lt
  rcases h.2 with ⟨rfl, h0⟩ | ⟨g, cap, cur, rfl, _⟩
  · exact ⟨none, 0, by rw [h0], fun h1 => by omega⟩
  · refine ⟨_, _, rfl, fun _ => ⟨g, rfl, (hlt g rfl).1, (hlt g rfl).2, fun j hj => ?_⟩⟩
    have k1 := hc g rfl j _ (List.getElem?_eq_getElem hj)
    have a1 : (⟨g, 0, none⟩ : Addr).add j = ⟨g, j, none⟩ := by unfold Addr.add; split <;> simp [*]
    rwa [a1] at k1

/-- Some elements more, out of a block that was just laid. -/
theorem wpList_append_vals {P : Program} {w : World} {ops : Array Oper} {rest : List Oper} {o : Oper} {a : Act} {Q : Exit → Act → World → Prop}
    (hg : o.guard = none) (s x : Operand) (t : TypeId) (hop : o.op = Op.call { callee := Callee.builtin Builtin.append, args := #[s, x], argTypes := #[t, t] })
    (e : TypeId) (z : Value) (bytes : Nat) (ht : P.underlying t = some (.slice e)) (hi : (P.info? e).map (fun i => (i.zero, i.size, i.bytes)) = some (some z, 1, bytes)) (hz : z.cells.size = 1)
    (B : Nat) (w0 : World) (v : Value) (xs : List Value) (news : Array Value) (n : Nat) (hn : news.size = n) (hw : w = w0.alloc (.cells news e)) (hs : a.eval s = v) (own : OwnV w0 B e v xs)
    (hx : a.eval x = .slice (some ⟨w0.heap.size, 0, none⟩) n n) (h1 : ∀ u ∈ news.toList, u.oneCell' = true) (hlen : xs.length + n ≤ maxLen) (hbytes : (xs.length + n) * bytes ≤ 140737488355328) (hB : B ≤ w0.heap.size)
    (h : ∀ v' w', OwnV w' B e v' (xs ++ news.toList) → Below B w0 w' → wpList P ops Q rest (a.put o.dst v') w') : wpList P ops Q (o :: rest) a w := by
  subst hw
  unfold OwnV at own
  obtain ⟨i, hi, hz0, hz1, hz2⟩ := info_parts hi
  have own' : (w0.alloc (.cells news e)).ownsRow B e 1 v xs.length xs := own.alloc _
  refine wpList_append_own _ hg s x t hop B e i z 1 bytes ht hi hz0 hz1 hz2 hz (by decide) v xs.length xs hs own' ⟨w0.heap.size, 0, none⟩ n n news.toList hx (by simp [hn]) ?_ h1 hlen hbytes (by simp; omega) ?_
  · intro j u hu
    have e1 : (⟨w0.heap.size, 0, none⟩ : Addr).add j = ⟨w0.heap.size, j, none⟩ := by unfold Addr.add; split <;> simp [*]
    rw [e1, cell_at (heap_alloc_last w0 _) j]
    simpa using hu
  · intro v' w' h1 h2 _
    refine h v' w' ?_ (((Below.refl B w0).alloc hB _).grown h2 (by simp; omega) ?_)
    · unfold OwnV; simpa [hn] using h1
    · intro k hk
      rcases own.2 with ⟨rfl, _⟩ | ⟨g, cap, cur, rfl, hgb, _⟩
      · simp [Value.ownBlock] at hk
      · simp [Value.ownBlock] at hk; omega
end Go.Proofs.YtjibkgildfjjoaaGreatDoor

/- Layer 7: the document's Split. -/
namespace Go.Proofs.YtjibkgildfjjoaaGreatDoor
set_option linter.unusedVariables false
set_option linter.unusedSimpArgs false
open Go.RowKit Go.ChangeShapes Go.WideShapes Go.ChangeAt Go.Sort

def strV (l : List UInt8) : Value := .string ⟨l.toArray⟩
theorem extract_take (s : ByteArray) (a b : Nat) : s.extract a b = ⟨((s.data.toList.drop a).take (b - a)).toArray⟩ := by
  apply ByteArray.ext
  apply Array.toList_inj.1
  have := Lib.extract_toList s a b
  rw [ByteArray.toList_eq] at this
  rw [this]
theorem infoStr : (Tryz.prog.info? 9).map (fun i => (i.zero, i.size, i.bytes)) = some (some (.string ⟨#[]⟩), 1, 16) := by kernel_rfl
theorem word_end (c : UInt8) (l : List UInt8) (f k : Nat) (hk : k < l.length) (hf : f ≤ k) (hc : l[k] = c) (hn : c ∉ (l.drop f).take (k - f)) : splitL c (l.drop f) = (l.drop f).take (k - f) :: splitL c (l.drop (k + 1)) := by
  have e : l.drop f = (l.drop f).take (k - f) ++ c :: l.drop (k + 1) := by
    conv => lhs; rw [← List.take_append_drop (k - f) (l.drop f)]
    congr 1
    rw [List.drop_drop, show f + (k - f) = k by omega, List.drop_eq_getElem_cons hk, hc]
  conv => lhs; rw [e]
  exact split_app c _ _ hn
theorem word_more (c : UInt8) (l : List UInt8) (f k : Nat) (hk : k < l.length) (hf : f ≤ k) (hc : l[k] ≠ c) (hn : c ∉ (l.drop f).take (k - f)) : c ∉ (l.drop f).take (k + 1 - f) := by
  rw [show k + 1 - f = (k - f) + 1 by omega, List.take_succ_eq_append_getElem (by simp; omega), List.mem_append]
  rintro (h | h)
  · exact hn h
  · simp only [List.getElem_drop, List.mem_singleton] at h
    rw [show l[f + (k - f)] = l[k] from getElem_congr_idx (by omega)] at h
    exact hc h.symm

set_option maxHeartbeats 4000000 in
set_option maxRecDepth 100000 in
theorem psplit_any (s : ByteArray) (c : UInt8) (w : World) (hs : s.size ≤ 1000000) :
    Calls Tryz.prog 82 #[.string s, .int .u8 (c.toNat : Int)] w fun e w' => ∃ v, e = .returned v ∧ OwnV w' w.heap.size 9 v ((splitL c s.data.toList).map strV) ∧ Below w.heap.size w w' := by
  have hl : s.data.toList.length = s.size := rfl
  have hs' : (s.size : Int) ≤ 1000000 := by omega
  have hv := OwnV.made w 9
  have hW : Below w.heap.size w (w.alloc (.cells #[] 9)) := (Below.refl _ _).alloc (Nat.le_refl _) _
  go_enter Tryz.func82, Tryz.ntmps82
  go_wp2_with fail
  go_loopw [5, 6, 7] (fun o f i wr => ∃ (k m : Nat) (ws : List (List UInt8)), i = .int .i64 k ∧ f = .int .i64 m ∧ OwnV wr w.heap.size 9 o (ws.map strV) ∧ Below w.heap.size w wr ∧ ws.length ≤ k ∧ w.heap.size ≤ wr.heap.size ∧
    ((k ≤ s.size ∧ m ≤ k ∧ splitL c s.data.toList = ws ++ splitL c (s.data.toList.drop m) ∧ c ∉ (s.data.toList.drop m).take (k - m)) ∨ (k = s.size + 1 ∧ ws = splitL c s.data.toList))) (fun _ _ i _ => s.size + 1 - (intOf i).toNat)
  case atStart => exact ⟨0, 0, [], rfl, rfl, hv, hW, by simp, hW.size, .inl ⟨by omega, by omega, by simp, by simp⟩⟩
  case round =>
    obtain ⟨k, m, ws, rfl, rfl, hown, hw, hlen, hwz, hor⟩ := hrel
    rcases hor with ⟨hk, hm, hspl, hnot⟩ | ⟨rfl, rfl⟩
    · obtain ⟨A, ca, rfl, _⟩ := hown.form
      have hmi : (m : Int) ≤ k := by omega
      rw [List.length_map] at *
      by_cases hlt : k < s.size
      · have h256 := s[k].toNat_lt
        have c256 := c.toNat_lt
        by_cases hc : s[k] = c
        · have hwe := word_end c s.data.toList m k (by rw [hl]; exact hlt) hm hc hnot
          have het := extract_take s m k
          generalize hword : (s.data.toList.drop m).take (k - m) = word at *
          have HSP := Lib.hid (hspl.trans (by rw [hwe] : ws ++ splitL c (s.data.toList.drop m) = ws ++ (word :: splitL c (s.data.toList.drop (k + 1)))))
          have hq : ((s[k].toNat : Int) == (c.toNat : Int)) = true := by rw [hc]; simp
          have HE := Lib.hid het
          clear hwe hspl hnot hword hc het hv hW
          have HO := Lib.hid hown
          clear hown
          go_wp2_with (at_builtin; refine wpList_append_vals rfl _ _ 126 rfl 9 (.string ⟨#[]⟩) 16 Tryz.underlying126 infoStr rfl w.heap.size wr _ (ws.map strV) #[.string (s.extract m k)] 1 rfl rfl rfl HO.out rfl (by intro u hu; simp at hu; subst hu; rfl) (by rw [List.length_map]; unfold maxLen; omega) (by rw [List.length_map]; omega) hwz ?_; intro v' w2 hv2 hb2)
          have e2 : ws.map strV ++ #[Value.string (s.extract m k)].toList = (ws ++ [word]).map strV := by rw [HE.out]; simp [strV]
          rw [e2] at hv2
          have HO2 := Lib.hid hv2
          have hw2 := hw.trans hb2
          have hz2 := hb2.size
          clear hv2 e2 hb2
          go_wp2_with fail
          go_roundw
          case rel => exact ⟨k + 1, k + 1, ws ++ [word], by go_num, by go_num, HO2.out, hw2, by rw [List.length_append, List.length_singleton]; omega, hw2.size, .inl ⟨by omega, by omega, by rw [HSP.out]; simp, by simp⟩⟩
          case measure => simp [intOf]; omega
        · have hwm := word_more c s.data.toList m k (by rw [hl]; exact hlt) hm hc hnot
          have hq : ((s[k].toNat : Int) == (c.toNat : Int)) = false := by
            have : s[k].toNat ≠ c.toNat := fun h => hc (UInt8.toNat_inj.1 h)
            simp
            omega
          have HO := Lib.hid hown
          have HSP := Lib.hid hspl
          have HWM := Lib.hid hwm
          clear hown hspl hnot hwm hv hW hc
          go_wp2_with fail
          go_roundw
          case rel => exact ⟨k + 1, m, ws, by go_num, rfl, HO.out, hw, by omega, hwz, .inl ⟨by omega, by omega, HSP.out, HWM.out⟩⟩
          case measure => simp [intOf]; omega
      · obtain rfl : k = s.size := by omega
        have hwe : splitL c (s.data.toList.drop m) = [(s.data.toList.drop m).take (s.size - m)] := by
          have e : (s.data.toList.drop m).take (s.size - m) = s.data.toList.drop m := List.take_of_length_le (by rw [List.length_drop, hl]; omega)
          rw [e] at hnot ⊢
          exact split_word c _ hnot
        have het := extract_take s m s.size
        generalize hword : (s.data.toList.drop m).take (s.size - m) = word at *
        have HSP := Lib.hid (hspl.trans (by rw [hwe] : ws ++ splitL c (s.data.toList.drop m) = ws ++ [word]))
        have HE := Lib.hid het
        have HO := Lib.hid hown
        clear hwe hspl hnot hword het hv hW hown
        go_wp2_with (at_builtin; refine wpList_append_vals rfl _ _ 126 rfl 9 (.string ⟨#[]⟩) 16 Tryz.underlying126 infoStr rfl w.heap.size wr _ (ws.map strV) #[.string (s.extract m s.size)] 1 rfl rfl rfl HO.out rfl (by intro u hu; simp at hu; subst hu; rfl) (by rw [List.length_map]; unfold maxLen; omega) (by rw [List.length_map]; omega) hwz ?_; intro v' w2 hv2 hb2)
        have e2 : ws.map strV ++ #[Value.string (s.extract m s.size)].toList = (ws ++ [word]).map strV := by rw [HE.out]; simp [strV]
        rw [e2] at hv2
        have HO2 := Lib.hid hv2
        have hw2 := hw.trans hb2
        clear hv2 e2 hb2
        go_wp2_with fail
        go_roundw
        case rel => exact ⟨s.size + 1, s.size + 1, ws ++ [word], by go_num, by go_num, HO2.out, hw2, by rw [List.length_append, List.length_singleton]; omega, hw2.size, .inr ⟨rfl, HSP.out.symm⟩⟩
        case measure => simp [intOf]; try omega
    · go_wp2_with fail
      go_ret
      exact ⟨_, rfl, hown, hw⟩
end Go.Proofs.YtjibkgildfjjoaaGreatDoor

/- Layer 4: the document's Digits, of numbers below 100000. -/
namespace Go.Proofs.YtjibkgildfjjoaaGreatDoor
set_option linter.unusedVariables false
set_option linter.unusedSimpArgs false
open Go.RowKit Go.ChangeShapes Go.WideShapes Go.ChangeAt Go.Sort

theorem decd_len (n : Nat) : (Lib.decDigits n).length ≤ n + 1 := by
  induction n using Nat.strongRecOn with
  | _ n ih =>
    by_cases h : n < 10
    · rw [decd_lt h]; simp
    · rw [decd_ge h, List.length_append]
      have := ih (n / 10) (by omega)
      simp; omega

set_option maxHeartbeats 1000000 in
set_option maxRecDepth 100000 in
theorem rdg_nat (n : Nat) : ∀ (w : World), n < 100000 → Calls Tryz.prog 115 #[.int .i64 n] w fun e w' => e = .returned (.string ⟨(Lib.decDigits n).toArray⟩) ∧ Below w.heap.size w w' := by
  induction n using Nat.strongRecOn with
  | _ n ih =>
  intro w hn
  obtain ⟨c, hc⟩ : ∃ c, c = UInt8.ofNat (48 + n % 10) := ⟨_, rfl⟩
  have hv : (48 + (n : Int) % 10) % 256 = c.toNat := by rw [hc, UInt8.toNat_ofNat']; omega
  have hv2 : 48 + (n : Int) % 10 = c.toNat := by rw [hc, UInt8.toNat_ofNat']; omega
  have hN0 : 0 ≤ (n : Int) := by omega
  have hN1 : (n : Int) ≤ 99999 := by omega
  have cv : ∀ (W : World) (g : Nat), W.cell? ⟨g, 0, none⟩ = some (.int .u8 (c.toNat : Int)) → (convert 167 9 (.slice (some ⟨g, 0, none⟩) 1 1)).run Tryz.prog W = .ok (.string ⟨#[c]⟩) W := fun W g hg =>
    run_convert_bytes_back W 167 9 5 ⟨g, 0, none⟩ 1 [c] Tryz.underlying167 Tryz.underlying5 Tryz.underlying9 (by
      intro j hj
      have : j = 0 := by simpa using hj
      subst this
      simpa [Addr.add] using hg)
  have cw : (convert 167 9 (.slice (some ⟨w.heap.size, 0, none⟩) 1 1)).run Tryz.prog (w.alloc (.cells #[.int .u8 (c.toNat : Int)] 5)) = .ok (.string ⟨#[c]⟩) (w.alloc (.cells #[.int .u8 (c.toNat : Int)] 5)) :=
    cv _ _ ((Held.new w 5 #[.int .u8 (c.toNat : Int)]).cell 0)
  by_cases h : n < 10
  · have hd := decd_lt h
    rw [← hc] at hd
    have HD := Lib.hid hd
    have hlt : decide (10 ≤ (n : Int)) = false := by simp; omega
    clear hd hc h ih hn
    generalize (n : Int) = N at *
    go_enter Tryz.func115, Tryz.ntmps115
    go_wp2_with fail
    go_ret
    rw [HD.out]
    exact ⟨rfl, (Below.refl _ _).alloc (Nat.le_refl _) _⟩
  · have hd := decd_ge h
    rw [← hc] at hd
    have hl := decd_len (n / 10)
    have CD : ∀ W, Hid (Calls Tryz.prog 115 #[.int .i64 ((n : Int) / 10)] W fun e w' => e = .returned (.string ⟨(Lib.decDigits (n / 10)).toArray⟩) ∧ Below W.heap.size W w') := fun W => by
      have := ih (n / 10) (by omega) W (by omega)
      rw [show (n : Int) / 10 = ((n / 10 : Nat) : Int) by omega]
      exact Lib.hid this
    generalize Lib.decDigits (n / 10) = s at *
    have HD := Lib.hid hd
    have hlt : decide (10 ≤ (n : Int)) = true := by simp; omega
    have hs : s.length + 1 ≤ 9223372036854775807 := by omega
    clear hd hc h ih hn hl
    generalize (n : Int) = N at *
    go_enter Tryz.func115, Tryz.ntmps115
    go_wp2_with (go_at_call 115; (with_reducible refine (CD _).out.mono ?_); rintro e v ⟨rfl, hb⟩; have hw := Below.step ((Below.refl _ _).alloc (Nat.le_refl _) _) hb)
    go_ret
    rw [HD.out]
    refine ⟨ret_str ?_, hw⟩
    apply ByteArray.ext
    simp

theorem rdg_in {n : Int} (h0 : 0 ≤ n) (h1 : n < 100000) : Ct Tryz.prog 115 #[.int .i64 n] (.string ⟨(dgI n).toArray⟩) := fun w => by
  obtain ⟨m, rfl⟩ := Int.eq_ofNat_of_zero_le h0
  unfold dgI
  rw [Int.toNat_natCast]
  exact rdg_nat m w (by omega)
end Go.Proofs.YtjibkgildfjjoaaGreatDoor

/- Layer 7: the document's Number. -/
namespace Go.Proofs.YtjibkgildfjjoaaGreatDoor
set_option linter.unusedVariables false
set_option linter.unusedSimpArgs false
open Go.RowKit Go.ChangeShapes Go.WideShapes Go.ChangeAt Go.Sort

theorem valD_snoc (l : List UInt8) (c : UInt8) : valD (l ++ [c]) = 10 * valD l + c.toNat - 48 := by simp [valD]
theorem valD_bd : ∀ l : List UInt8, (l.length ≤ 2 → -600 ≤ valD l ∧ valD l ≤ 2600) ∧ (l.length ≤ 3 → -6000 ≤ valD l ∧ valD l ≤ 26000)
  | [] => by simp [valD]
  | [a] => by have := a.toNat_lt; simp [valD]; omega
  | [a, b] => by have := a.toNat_lt; have := b.toNat_lt; simp [valD]; omega
  | [a, b, c] => by have := a.toNat_lt; have := b.toNat_lt; have := c.toNat_lt; simp [valD]; omega
  | a :: b :: c :: d :: l => by simp

set_option maxHeartbeats 2000000 in
set_option maxRecDepth 100000 in
theorem pnumber_any (s : ByteArray) : Ct Tryz.prog 103 #[.string s] (.int .i64 (numV s.data.toList)) := fun w => by
  have hl : s.data.toList.length = s.size := rfl
  by_cases h3 : s.size ≤ 3
  case neg =>
    have hv : numV s.data.toList = -1 := by unfold numV; rw [if_neg (by rw [hl]; omega)]
    have HV := Lib.hid hv
    have h4 : (3 : Int) < s.size := by omega
    clear hv hl
    go_enter Tryz.func103, Tryz.ntmps103
    go_wp2
    go_ret
    rw [HV.out]
    exact ⟨rfl, Below.refl _ _⟩
  have h3' : (s.size : Int) ≤ 3 := by omega
  go_enter Tryz.func103, Tryz.ntmps103
  go_wp2
  go_loop [3, 4] (fun n i => ∃ k : Nat, k ≤ s.size ∧ i = .int .i64 k ∧ n = .int .i64 (valD (s.data.toList.take k))) (fun _ i => s.size - (intOf i).toNat)
  case atStart => exact ⟨0, by omega, rfl, by simp [valD]⟩
  case round =>
    obtain ⟨k, hk, rfl, rfl⟩ := hrel
    by_cases hlt : k < s.size
    · have hb := (valD_bd (s.data.toList.take k)).1 (by simp; omega)
      have hb1 := hb.1
      have hb2 := hb.2
      have hst : valD (s.data.toList.take (k + 1)) = 10 * valD (s.data.toList.take k) + s[k].toNat - 48 := by
        rw [List.take_succ_eq_append_getElem (by rw [hl]; exact hlt), valD_snoc]
        rfl
      have HST := Lib.hid hst
      have h256 := s[k].toNat_lt
      clear hb hst
      generalize valD (s.data.toList.take k) = n at *
      go_wp2_with fail
      go_round
      case rel => exact ⟨k + 1, by omega, by go_num, by rw [HST.out]⟩
      case measure => simp [intOf]; omega
    · obtain rfl : k = s.size := by omega
      rw [List.take_of_length_le (by rw [hl]; omega)]
      have hb := (valD_bd s.data.toList).2 (by omega)
      have hn : numV s.data.toList = if 0 ≤ valD s.data.toList ∧ dgI (valD s.data.toList) = s.data.toList then valD s.data.toList else -1 := by
        unfold numV
        by_cases h : 0 ≤ valD s.data.toList ∧ dgI (valD s.data.toList) = s.data.toList
        · rw [if_pos h, if_pos ⟨by omega, h.1, h.2⟩]
        · rw [if_neg h, if_neg (fun h2 => h ⟨h2.2.1, h2.2.2⟩)]
      have hD := fun h0 => rdg_in (n := valD s.data.toList) h0 (by omega)
      have hb2 := hb.2
      clear hb
      generalize valD s.data.toList = n at *
      by_cases h0 : 0 ≤ n
      · have D := hD h0
        have hq := eqS_toList ⟨(dgI n).toArray⟩ s
        rw [ByteArray.toList_mk] at hq
        by_cases he : dgI n = s.data.toList
        · have hes : eqS ⟨(dgI n).toArray⟩ s = true := eqS_iff.2 (by simp [he])
          rw [if_pos ⟨h0, he⟩] at hn
          rw [hes] at hq
          have HN := Lib.hid hn
          clear hn hes he hD hl
          go_wp2_with (go_at_call 115; (with_reducible refine (D.go _).mono ?_); rintro e v ⟨rfl, hb⟩)
          go_ret
          rw [HN.out]
          exact ⟨rfl, hb⟩
        · have hes : eqS ⟨(dgI n).toArray⟩ s = false := by
            rw [← Bool.not_eq_true, eqS_iff]
            intro e
            exact he (by rw [← e])
          rw [if_neg (fun h => he h.2)] at hn
          rw [hes] at hq
          have HN := Lib.hid hn
          clear hn hes he hD hl
          go_wp2_with (go_at_call 115; (with_reducible refine (D.go _).mono ?_); rintro e v ⟨rfl, hb⟩)
          go_ret
          rw [HN.out]
          exact ⟨rfl, hb⟩
      · rw [if_neg (fun h => h0 h.1)] at hn
        have HN := Lib.hid hn
        clear hn hD hl
        go_wp2_with fail
        go_ret
        rw [HN.out]
        exact ⟨rfl, Below.refl _ _⟩
end Go.Proofs.YtjibkgildfjjoaaGreatDoor

