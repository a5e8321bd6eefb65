/- Layer 1: WireTexts: texts that were put, one behind the other, are read, one behind the other, and nothing is left; a number behind them is. For every list of texts and every number. -/
import Derived.Test.YtcnacdjpihbfmaaL1fix
import Derived.Test.YtcnacdjpihbfmaaL1back
import Derived.Test.YtcnacdjpihbfmaaWlaw2
import Derived.Test.YtcnacdjpihbfmaaWrx
import Derived.Deep.RegionWith
import Derived.SliceStrings
namespace Go.Proofs.Ytcnacdjpihbfmaa.wireTexts
set_option linter.unusedVariables false
set_option linter.unusedSimpArgs false
open Go.ChangeShapes Go.WideShapes Go.ChangeAt Go.RowKit

/-- The slice's cells are the texts ss. -/
def Strs (w : World) (A : Option Addr) (ss : List ByteArray) : Prop :=
  0 < ss.length → ∃ b off, A = some ⟨b, off, none⟩ ∧ b < w.heap.size ∧ ∀ i, i < ss.length → w.cell? ⟨b, off + i, none⟩ = some (.string (ss.getD i ByteArray.empty))

theorem Strs.below {w w' : World} {A : Option Addr} {ss : List ByteArray} (h : Strs w A ss) (hb : Below w.heap.size w w') : Strs w' A ss := fun h0 => by
  obtain ⟨b, off, e, hlt, hc⟩ := h h0
  exact ⟨b, off, e, Nat.lt_of_lt_of_le hlt hb.size, fun i hi => (hb.cell (p := ⟨b, off + i, none⟩) hlt).trans (hc i hi)⟩

/-- The first loop: what was put so far. -/
def Rel1 (w : World) (ss : List ByteArray) (s i : Value) (wr : World) : Prop :=
  ∃ k : Nat, k ≤ ss.length ∧ i = .int .i64 k ∧ s = .string ⟨(allT (ss.take k)).toArray⟩ ∧ (∀ x ∈ ss.take k, x.size ≤ 300) ∧ Below w.heap.size w wr

/-- The second loop: what is read so far. -/
def Rel2 (w : World) (ss : List ByteArray) (S : List UInt8) (g : Nat) (i : Value) (wr : World) : Prop :=
  ∃ k : Nat, k ≤ ss.length ∧ i = .int .i64 k ∧ Rd wr g ⟨S.toArray⟩ (allT (ss.take k)).length 0 ∧ Below w.heap.size w wr

set_option maxHeartbeats 1000000 in
set_option maxRecDepth 100000 in
theorem walk (A : Option Addr) (cap : Nat) (ss : List ByteArray) (a1 : Int) (w : World) (hA : Strs w A ss) (hsz : ∀ s ∈ ss, s.size ≤ maxLen) (hn0 : 0 ≤ a1) (hn1 : a1 ≤ 281474976710655) (hl : ss.length ≤ 20) :
    Calls Try.prog 5 #[.slice A ss.length cap, .int .i64 a1] w fun e w' => e = .returned (.bool true) ∧ Below w.heap.size w w' := by
  have HS := Lib.hid hsz; clear hsz
  have HA := Lib.hid hA; clear hA
  go_enter Try.func5, Try.ntmps5
  go_wp2_with (go_at_call 8; refine (fixed_true _).mono ?_; rintro e v1 ⟨rfl, hb⟩)
  go_loopw [5, 6] (fun s i wr => Rel1 w ss s i wr) (fun _ i _ => ss.length - (intOf i).toNat)
  case atStart => exact ⟨0, by omega, rfl, rfl, by simp, hb⟩
  case round =>
    obtain ⟨k, hk, rfl, rfl, h300, hbr⟩ := hrel
    have H3 := Lib.hid h300; clear h300
    clear hb
    by_cases hlt : k < ss.length
    · obtain ⟨b, off, rfl, hbl, hc⟩ := HA.out (by omega)
      have hc1 := (hbr.cell (p := ⟨b, off + k, none⟩) hbl).trans (hc k hlt)
      clear hc
      have hx : ss.getD k ByteArray.empty = ss[k] := by simp [List.getD, List.getElem?_eq_getElem hlt]
      rw [hx] at hc1
      have hxm : ss[k].size ≤ maxLen := HS.out _ (List.getElem_mem hlt)
      generalize hxx : ss[k] = x at *
      clear hx
      by_cases h3 : x.size ≤ 300
      · have hk20 : (allT (ss.take k)).length ≤ 307 * k := by
          have := allT_len _ H3.out
          rw [List.length_take, Nat.min_eq_left hk] at this
          exact this
        have hz7 := putTextF_len x
        obtain ⟨z, hz⟩ : ∃ z, z = putTextF x.data.toList := ⟨_, rfl⟩
        have Cz : Ct Try.prog 22 #[.string x] (.string ⟨z.toArray⟩) := fun W => by rw [hz]; exact putText_all x W hxm
        rw [← hz] at hz7
        have hfin : allT (ss.take (k + 1)) = allT (ss.take k) ++ z := by rw [take_snoc ss k hlt, allT_snoc, hxx, hz]
        have H4 : Hid (∀ y ∈ ss.take (k + 1), y.size ≤ 300) := by
          unfold Hid
          rw [take_snoc ss k hlt, hxx]
          intro y hy
          rcases List.mem_append.1 hy with h | h
          · exact H3.out y h
          · simp at h; subst h; exact h3
        have HF := Lib.hid hfin; clear hfin hz hxx
        generalize allT (ss.take k) = p at *
        have hb9 : p.length + z.length ≤ 9223372036854775807 := by omega
        go_wp2_with (go_at_call 22; (with_reducible refine (Cz.go _).mono ?_); rintro e v2 ⟨rfl, hb2⟩)
        go_roundw
        case rel => exact ⟨k + 1, by omega, by go_num, by rw [HF.out]; exact congrArg Value.string (bytes_append _ _), H4, Below.step hbr hb2⟩
        case measure => simp [intOf]; omega
      · have h3' : (300 : Int) < x.size := by omega
        go_wp2_with fail
        go_ret
        exact ⟨rfl, hbr⟩
    · have hke : k = ss.length := by omega
      subst hke
      rw [List.take_length] at H3
      have hk20 : (allT ss).length ≤ 307 * ss.length := allT_len _ H3.out
      rw [List.take_length]
      obtain ⟨z, hz⟩ : ∃ z, z = putF a1 := ⟨_, rfl⟩
      have Cz : Ct Try.prog 18 #[.int .i64 a1] (.string ⟨z.toArray⟩) := fun W => by rw [hz]; exact put_all a1 W
      have hz7 : z.length ≤ 7 := by rw [hz]; exact putF_len _
      have HZ := Lib.hid hz; clear hz
      obtain ⟨p, hp⟩ : ∃ p, p = allT ss := ⟨_, rfl⟩
      have HP := Lib.hid hp
      rw [← hp] at hk20 ⊢
      clear hp
      have hb9 : p.length + z.length ≤ 9223372036854775807 := by omega
      go_wp2_with fail
      refine (Cz.go _).mono ?_
      rintro e v2 ⟨rfl, hb2⟩
      go_wp2_with fail
      rw [bytes_append]
      refine (new_any _ _).mono ?_
      rintro e v3 ⟨rfl, r0, hb3, hz3⟩
      simp only [] at r0 hb3
      have hbv := Below.step hbr hb2
      have hsz := hbv.size
      have hb4 := Below.step hbv hb3
      clear hz3 hbv hb3 hb2 hbr
      generalize v2.heap.size = g at *
      have hsz3 := hb4.size
      go_wp2_with fail
      go_loopw [8] (fun i wr => Rel2 w ss (p ++ z) g i wr) (fun i _ => ss.length - (intOf i).toNat)
      case atStart => exact ⟨0, by omega, rfl, r0, hb4⟩
      case round =>
        obtain ⟨k, hk, rfl, r1, hb5⟩ := hrel
        clear r0 hb4 hsz3
        have hsz5 := hb5.size
        by_cases hlt : k < ss.length
        · obtain ⟨b, off, rfl, hbl, hc⟩ := HA.out (by omega)
          have hc1 := (hb5.cell (p := ⟨b, off + k, none⟩) hbl).trans (hc k hlt)
          clear hc
          have hx : ss.getD k ByteArray.empty = ss[k] := by simp [List.getD, List.getElem?_eq_getElem hlt]
          rw [hx] at hc1
          clear hx
          have HT : ∀ {W : World}, Rd W g ⟨(p ++ z).toArray⟩ (allT (ss.take k)).length 0 → Hid (Calls Try.prog 15 #[.pointer (some ⟨g, 0, none⟩), .int .i64 300] W fun en w' => en = .returned (.string ss[k]) ∧ Rd w' g ⟨(p ++ z).toArray⟩ (allT (ss.take (k + 1))).length 0 ∧ W.grownBy w' (some g)) := fun hW => Lib.hid (by
            have hle : (allT (ss.take k)).length ≤ p.length := by
              rw [HP.out]
              conv => rhs; rw [← List.take_append_drop k ss, allT_app]
              simp
            have h := text_any hW 300 (by unfold maxLen; simp [ByteArray.size]; omega) (by omega) (by simp [ByteArray.size]; omega)
            have e : (⟨(p ++ z).toArray⟩ : ByteArray).data.toList = allT ss ++ z := by rw [HP.out]
            rw [e, textF_at ss k hlt (H3.out _ (List.getElem_mem hlt)) z] at h
            exact h)
          generalize (allT (ss.take k)).length = pk at *
          generalize hpk : (allT (ss.take (k + 1))).length = pk' at *
          have HPK := Lib.hid hpk; clear hpk
          generalize ss[k] = x at *
          go_wp2_with fail
          go_region_with (go_at_call 15; refine (HT (by exact r1)).out.mono ?_; rintro e v4 ⟨rfl, r2, o2⟩; have hc2 := (World.cell?_of_block (a := ⟨b, off + k, none⟩) (o2.block b (Nat.lt_of_lt_of_le hbl hsz5) (by simp; omega))).trans hc1)
          all_goals
            go_wp2
            go_roundw
            case rel =>
              refine ⟨k + 1, by omega, by go_num, ?_, hb5.drew.grown o2 hsz5 fun i hi => by injection hi with hi; omega⟩
              rw [HPK.out]; exact r2
            case measure => simp [intOf]; omega
        · have hke : k = ss.length := by omega
          subst hke
          rw [List.take_length, ← HP.out] at r1
          have hq : putF a1 = putG 7 a1.toNat := wireOrder.putF_nat hn0 hn1
          have hnum : numF (p ++ z) p.length 0 a1 = (a1, (p.length : Int) + z.length, 0) := by
            have h := numF_put p [] a1.toNat a1 (by omega) (by omega)
            rw [List.append_nil, ← hq, ← HZ.out, Int.toNat_of_nonneg hn0] at h
            exact h
          have HN : ∀ {W : World}, Rd W g ⟨(p ++ z).toArray⟩ p.length 0 → Hid (Calls Try.prog 11 #[.pointer (some ⟨g, 0, none⟩), .int .i64 a1] W fun en w' => en = .returned (.int .i64 a1) ∧ Rd w' g ⟨(p ++ z).toArray⟩ ((p.length : Int) + z.length) 0 ∧ W.grownBy w' (some g)) := fun hW => Lib.hid (by
            have h := number_any hW a1 (by unfold maxLen; simp [ByteArray.size]; omega)
            have e : (⟨(p ++ z).toArray⟩ : ByteArray).data.toList = p ++ z := rfl
            rw [e, hnum] at h
            exact h)
          have HE : ∀ {W : World}, Rd W g ⟨(p ++ z).toArray⟩ ((p.length : Int) + z.length) 0 → Hid (Calls Try.prog 16 #[.pointer (some ⟨g, 0, none⟩)] W fun en w' => en = .returned (.tuple #[.int .i64 0, .int .i64 0]) ∧ ∃ n, w' = W.drewN n) :=
            fun h => Lib.hid (error_any h)
          have HL : ∀ {W : World}, Rd W g ⟨(p ++ z).toArray⟩ ((p.length : Int) + z.length) 0 → Hid (Calls Try.prog 17 #[.pointer (some ⟨g, 0, none⟩)] W fun en w' => en = .returned (.int .i64 0) ∧ ∃ n, w' = W.drewN n) := fun hW => Lib.hid (by
            have hs : ((⟨(p ++ z).toArray⟩ : ByteArray).size : Int) = (p.length : Int) + z.length := by simp [ByteArray.size]
            have h := left_any hW (by unfold maxLen; simp [ByteArray.size]; omega) (by omega) (by omega)
            rw [if_pos rfl, hs, Int.sub_self] at h
            exact h)
          clear hnum hq
          have hbq : (a1 == a1) = true := by simp
          go_wp2_with fail
          refine (HN r1).out.mono ?_; rintro e v5 ⟨rfl, r2, o2⟩
          go_wp2_with fail
          refine (HE r2).out.mono ?_; rintro e v6 ⟨rfl, nq, rfl⟩
          go_wp2_with fail
          refine (HL (r2.drewN _)).out.mono ?_; rintro e v7 ⟨rfl, nr, rfl⟩
          go_wp2
          go_ret
          exact ⟨rfl, wireBack.below_drewN (hb5.grown o2 hsz5 fun i hi => by injection hi with hi; omega) _⟩

theorem cells1 : Try.prog.cellsOf 9 = 1 := by kernel_rfl

set_option maxHeartbeats 1000000 in
set_option maxRecDepth 100000 in
theorem other (A : Option Addr) (len cap : Nat) (a1 : Int) (w : World) (h : ¬ (len ≤ 20 ∧ 0 ≤ a1 ∧ a1 ≤ 281474976710655)) :
    Calls Try.prog 5 #[.slice A len cap, .int .i64 a1] w fun e w' => e = .returned (.bool true) ∧ Below w.heap.size w w' := by
  have hb : Below w.heap.size w w := Below.refl _ _
  by_cases c0 : (20 : Int) < len
  · clear h
    go_enter Try.func5, Try.ntmps5
    go_wp2_with (go_at_call 8; refine (fixed_true _).mono ?_; rintro e w1 ⟨rfl, hb1⟩; replace hb := Below.step hb hb1; clear hb1)
    go_ret
    exact ⟨rfl, hb⟩
  · by_cases c1 : a1 < 0
    · clear h
      go_enter Try.func5, Try.ntmps5
      go_wp2_with (go_at_call 8; refine (fixed_true _).mono ?_; rintro e w1 ⟨rfl, hb1⟩; replace hb := Below.step hb hb1; clear hb1)
      go_ret
      exact ⟨rfl, hb⟩
    · have c2 : 281474976710655 < a1 := by omega
      clear h
      go_enter Try.func5, Try.ntmps5
      go_wp2_with (go_at_call 8; refine (fixed_true _).mono ?_; rintro e w1 ⟨rfl, hb1⟩; replace hb := Below.step hb hb1; clear hb1)
      go_ret
      exact ⟨rfl, hb⟩

theorem whole (A : Option Addr) (cap : Nat) (ss : List ByteArray) (a1 : Int) (w : World) (hA : Strs w A ss) (hsz : ∀ s ∈ ss, s.size ≤ maxLen) :
    Calls Try.prog 5 #[.slice A ss.length cap, .int .i64 a1] w fun e w' => e = .returned (.bool true) ∧ Below w.heap.size w w' := by
  by_cases h : ss.length ≤ 20 ∧ 0 ≤ a1 ∧ a1 ≤ 281474976710655
  · exact walk A cap ss a1 w hA hsz h.2.1 h.2.2 h.1
  · exact other A ss.length cap a1 w h

theorem entry {H : Type} {enc : TypeId × Value → H} (W : World) (base : Nat) (v0 v1 : Value) (d0 d1 : DataW H) (p0 p1 : List MemPlace)
    (k0 : Value.okWide Try.prog W .any base 45 v0) (k1 : Value.okWide Try.prog W .any base 3 v1)
    (h0 : DataW.Trod enc Try.prog W 0 (fun _ => true) true 45 v0 d0 p0) (h1 : DataW.Trod enc Try.prog W 0 (fun _ => true) true 3 v1 d1 p1) :
    Calls Try.prog 5 #[v0, v1] W fun e w' => e = .returned (.bool true) ∧ Below W.heap.size W w' := by
  obtain ⟨a1, rfl, _, _, _⟩ := open_int Try.underlying3 k1 h1
  obtain ⟨A, len, cap, rfl⟩ := okWide_slice Try.underlying45 k0
  obtain ⟨fuel, hf⟩ := h0
  rcases open_strings Try.underlying45 Try.underlying9 cells1 hf with ⟨hcs, _⟩ | ⟨a, len', cap', ss, hcs, _, hl, hm, hz, _, hcell, hws⟩
  · simp [Value.cells] at hcs
    obtain ⟨rfl, rfl, rfl⟩ := hcs
    exact whole none 0 [] a1 W (fun h => by simp at h) (by simp)
  · simp [Value.cells] at hcs
    obtain ⟨rfl, rfl, rfl⟩ := hcs
    simp only [if_true] at hz
    have hsub : (ss.take len).length = len := by rw [List.length_take]; omega
    have := whole (some a) cap (ss.take len) a1 W (fun h => by
      have h0 := hcell 0 (by omega)
      obtain ⟨b, off, spot⟩ := a
      cases spot with
      | some s =>
        have hx : (({ block := b, off := off, spot := some s } : Addr).add 0) = { block := b, off := off, spot := some s } := by simp [Addr.add]
        rw [hx] at h0
        simp [World.cell?] at h0
        split at h0 <;> simp at h0
      | none =>
        refine ⟨b, off, rfl, block_lt_of_cell (a := Addr.add ⟨b, off, none⟩ 0) h0, fun i hi => ?_⟩
        have e := hcell i (by omega)
        have hx : (({ block := b, off := off, spot := none } : Addr).add i) = ⟨b, off + i, none⟩ := by unfold Addr.add; split <;> simp_all
        rw [hx] at e
        rw [e]
        congr 2
        have hil : i < len := by omega
        simp [List.getD, List.getElem?_take, hil]) (fun s hs => hws s (List.mem_of_mem_take hs))
    rw [hsub] at this
    exact this
end Go.Proofs.Ytcnacdjpihbfmaa.wireTexts
