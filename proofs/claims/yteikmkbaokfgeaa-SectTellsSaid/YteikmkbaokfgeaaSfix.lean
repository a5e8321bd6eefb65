/- Layer 3's statements: the fixed calls. -/
import Derived.Test.YteikmkbaokfgeaaSall
import Derived.Test.YteikmkbaokfgeaaSjoin
import Derived.Test.YteikmkbaokfgeaaCbyt
import Derived.Lib.QuietBelow
namespace Go.Proofs.Yteikmkbaokfgeaa
set_option linter.unusedVariables false
set_option linter.unusedSimpArgs false
open Go.RowKit Go.ChangeShapes Go.WideShapes Go.ChangeAt Cm

theorem sput_lit (tag : Int) (t : ByteArray) (l : Array UInt8) (w : World) (ht : t.size ≤ maxLen) (h : (putS tag t.data.toList).toArray = l) :
    Calls Try.prog 15 #[.int .i64 tag, .string t] w fun e w' => e = .returned (.string ⟨l⟩) ∧ Below w.heap.size w w' := by
  have := sput_any tag t w ht; rw [h] at this; exact this
theorem sget_arr (s : ByteArray) (a n : Int) (p : Array UInt8) (k e : Int) (w : World) (hs : s.size ≤ maxLen) (h : getS s.data.toList a = (n, p.toList, k, e)) :
    Calls Try.prog 11 #[.string s, .int .i64 a] w fun en w' => en = .returned (.tuple #[.int .i64 n, .string ⟨p⟩, .int .i64 k, .int .i64 e]) ∧ Below w.heap.size w w' := by
  have := sget_lit s a n p.toList k e w hs h; simpa using this
theorem sall_lit (s : ByteArray) (l : List (Int × List UInt8)) (n : Nat) (m : Int) (k : Nat) (e : Int) (w : World) (hs : s.size ≤ 1000000) (h : allS s.data.toList = (l, k, e)) (hn : l.length = n) (hk : (k : Int) = m) :
    Calls Try.prog 13 #[.string s] w fun en w' => ∃ A c, en = .returned (.tuple #[.slice A n c, .int .i64 m, .int .i64 e]) ∧ Secs w' w'.heap.size A (packS l) ∧ Below w.heap.size w w' := by
  have := sall_any s w hs; rw [h] at this; subst hn hk; exact this
theorem rawS_pack (l : List (Int × List UInt8)) : rawS (packS l) = l := by
  unfold rawS packS
  rw [List.map_map]
  conv => rhs; rw [← List.map_id l]
  rfl
theorem packS_raw (ss : List (Int × ByteArray)) : packS (rawS ss) = ss := by
  unfold rawS packS
  rw [List.map_map]
  conv => rhs; rw [← List.map_id ss]
  rfl
theorem sized_pack {l : List (Int × List UInt8)} (h : ∀ x ∈ l, x.2.length ≤ maxLen) : Sized (packS l) := by
  intro x hx
  obtain ⟨y, hy, rfl⟩ := List.mem_map.1 hx
  have := h y hy
  show y.2.toArray.size ≤ _
  simpa using this
theorem sjoin_lit {A : Option Addr} {l : List (Int × List UInt8)} (n c : Nat) (r : Array UInt8) (w : World) (h : Secs w w.heap.size A (packS l)) (hn : l.length = n) (hz : ∀ x ∈ l, x.2.length ≤ maxLen) (hl : n ≤ 10000) (hr : (joinS l).toArray = r) :
    Calls Try.prog 18 #[.slice A n c] w fun e w' => e = .returned (.string ⟨r⟩) ∧ Below w.heap.size w w' := by
  have := sjoin_any c w h (sized_pack hz) (by rw [packS_len, hn]; exact hl)
  rw [packS_len, rawS_pack, hr, hn] at this
  exact this

set_option maxHeartbeats 1000000 in
set_option maxRecDepth 100000 in
theorem fixed_true (w : World) : Calls Try.prog 10 #[] w fun e w' => e = .returned (.bool true) ∧ Below w.heap.size w w' := by
  have hb : Below w.heap.size w w := Below.refl _ _
  have hss : (⟨#[1, 2, 97, 98, 183, 233, 217, 33]⟩ : ByteArray) ++ ⟨#[1, 2, 97, 98, 183, 233, 217, 33]⟩ = ⟨#[1, 2, 97, 98, 183, 233, 217, 33, 1, 2, 97, 98, 183, 233, 217, 33]⟩ := by decide +kernel
  go_enter Try.func10, Try.ntmps10
  go_wp2_with (first
    | (go_at_call 15; first
        | refine (sput_lit _ _ #[1, 2, 97, 98, 183, 233, 217, 33] _ (by decide +kernel) (by decide +kernel)).mono ?_
       rintro e w1 ⟨rfl, hb1⟩; replace hb := Below.step hb hb1; clear hb1)
    | (go_at_call 11; first
        | refine (sget_arr _ _ 1 #[97, 98] 9 0 _ (by decide +kernel) (by decide +kernel)).mono ?_
        | refine (sget_arr _ _ 0 #[] 0 10 _ (by decide +kernel) (by decide +kernel)).mono ?_
       rintro e w1 ⟨rfl, hb1⟩; replace hb := Below.step hb hb1; clear hb1)
    | (go_at_call 13; first
        | (refine (sall_lit _ [(1, [97, 98]), (1, [97, 98])] 2 16 16 0 _ (by decide +kernel) (by decide +kernel) rfl rfl).mono ?_; rintro e w1 ⟨A, c, rfl, hS, hb1⟩; replace hb := Below.step hb hb1; clear hb1))
    | (refine wpList_bytes_of rfl 9 38 5 _ rfl Try.underlying9 Try.underlying38 Try.underlying5 ⟨#[1, 2, 97, 98, 183, 233, 217, 33]⟩ rfl ?_; intro cap v hat hb2 hz; have hvb := hb.size; have hS2 := hS.below hb2 (Nat.le_refl _); replace hb := Below.step hb hb2; clear hb2; have c2 := hat.cell 2 (by decide); have f2 := hat.fz 2 (by decide); simp at c2))
  have hx : bits .xor .u8 97 1 = ((96 : UInt8).toNat : Int) := by decide +kernel
  rw [hx]
  have hat2 : BytesAt (v.setCell ⟨w1.heap.size, 2, none⟩ (.int .u8 ((96 : UInt8).toNat : Int))) w1.heap.size [1, 2, 96, 98, 183, 233, 217, 33] := hat.set 2 96
  rw [hat2.conv 38 9 5 8 cap rfl Try.underlying38 Try.underlying5 Try.underlying9]
  replace hb := hb.setCell (p := ⟨w1.heap.size, 2, none⟩) hvb (.int .u8 ((96 : UInt8).toNat : Int))
  have hS3 := hS2.below ((Below.refl w1.heap.size v).setCell (p := ⟨w1.heap.size, 2, none⟩) (Nat.le_refl _) (.int .u8 ((96 : UInt8).toNat : Int))) (Nat.le_refl _)
  have hle : w1.heap.size ≤ (v.setCell ⟨w1.heap.size, 2, none⟩ (.int .u8 ((96 : UInt8).toNat : Int))).heap.size := by simpa [World.setCell] using Nat.le_of_lt hz
  replace hS3 := hS3.more hle
  clear hS hS2 hat hat2 c2 f2 hx hle hvb hz
  generalize v.setCell ⟨w1.heap.size, 2, none⟩ (.int .u8 ((96 : UInt8).toNat : Int)) = v at *
  simp only [Result.andThen]
  rw [Oper.upon_value]
  go_wp2_with (first
    | (go_at_call 15; first
        | refine (sput_lit _ _ #[] _ (by decide +kernel) (by decide +kernel)).mono ?_
       rintro e w1 ⟨rfl, hb1⟩; replace hS3 := (hS3.below hb1 (Nat.le_refl _)).more hb1.size; replace hb := Below.step hb hb1; clear hb1)
    | (go_at_call 11; first
        | refine (sget_arr _ _ 0 #[] 0 10 _ (by decide +kernel) (by decide +kernel)).mono ?_
        | refine (sget_arr _ _ 0 #[] 0 30 _ (by decide +kernel) (by decide +kernel)).mono ?_
        | refine (sget_arr _ _ 0 #[] (-1) 1 _ (by decide +kernel) (by decide +kernel)).mono ?_
       rintro e w1 ⟨rfl, hb1⟩; replace hS3 := (hS3.below hb1 (Nat.le_refl _)).more hb1.size; replace hb := Below.step hb hb1; clear hb1)
    | (go_at_call 13; refine (sall_lit _ [] 0 8 8 11 _ (by decide +kernel) (by decide +kernel) rfl rfl).mono ?_; rintro e w1 ⟨A', c', rfl, hS', hb1⟩; replace hS3 := (hS3.below hb1 (Nat.le_refl _)).more hb1.size; replace hb := Below.step hb hb1; clear hb1)
    | (go_at_call 18; first
        | with_reducible refine (sjoin_lit (l := [(1, [97, 98]), (1, [97, 98])]) 2 _ #[1, 2, 97, 98, 183, 233, 217, 33, 1, 2, 97, 98, 183, 233, 217, 33] _ hS3 rfl (by decide +kernel) (by decide) (by decide +kernel)).mono ?_
        | with_reducible refine (sjoin_lit (l := []) 0 _ #[] _ (Secs.nil _ _ _) rfl (by simp) (by decide) (by decide +kernel)).mono ?_
       rintro e w1 ⟨rfl, hb1⟩; replace hS3 := (hS3.below hb1 (Nat.le_refl _)).more hb1.size; replace hb := Below.step hb hb1; clear hb1))
  go_ret
  exact ⟨rfl, hb⟩
end Go.Proofs.Yteikmkbaokfgeaa
