/- Layer 1: texts that were put, one behind the other: the plain mathematics. -/
import Derived.Test.YtcnacdjpihbfmaaWlaw
namespace Go.Proofs.Ytcnacdjpihbfmaa
set_option linter.unusedVariables false
set_option linter.unusedSimpArgs false
open Go

theorem numF_put (pre post : List UInt8) (n : Nat) (most : Int) (hn : n ≤ 281474976710655) (hm : (n : Int) ≤ most) :
    numF (pre ++ putG 7 n ++ post) pre.length 0 most = ((n : Int), (pre.length : Int) + ((putG 7 n).length : Int), 0) := by
  have h := getF_put pre post n hn
  rw [numF, if_neg (by simp), h, if_neg (by simp), if_neg (by simp only []; omega)]

theorem textF_put (pre t post : List UInt8) (most : Int) (ht : t.length ≤ 1048576) (hm : (t.length : Int) ≤ most) :
    textF (pre ++ putTextF t ++ post) pre.length 0 most = (t, (pre.length : Int) + ((putTextF t).length : Int), 0) := by
  have hp : putTextF t = putG 7 t.length ++ t := by rw [putTextF, if_neg (by omega), putF, if_neg (by omega)]; rfl
  have e : pre ++ putTextF t ++ post = pre ++ putG 7 t.length ++ (t ++ post) := by rw [hp]; simp
  have h := numF_put pre (t ++ post) t.length most (by omega) hm
  rw [textF, e, h]
  simp only [List.length_append]
  rw [if_neg (by simp), if_neg (by omega), hp]
  refine Prod.ext ?_ (Prod.ext ?_ rfl)
  · simp only []
    have e1 : ((pre.length : Int) + ((putG 7 t.length).length : Int)).toNat = (pre ++ putG 7 t.length).length := by simp; omega
    rw [e1, List.drop_left, Int.toNat_natCast, List.take_left]
  · simp; omega

/-- All of the first texts, put one behind the other. -/
def allT (ss : List ByteArray) : List UInt8 := (ss.map fun s => putTextF s.data.toList).flatten
theorem allT_snoc (ss : List ByteArray) (t : ByteArray) : allT (ss ++ [t]) = allT ss ++ putTextF t.data.toList := by simp [allT]
theorem allT_app (a b : List ByteArray) : allT (a ++ b) = allT a ++ allT b := by simp [allT]
theorem allT_nil : allT [] = [] := rfl
theorem putTextF_len (t : ByteArray) : (putTextF t.data.toList).length ≤ t.size + 7 := by
  have hl : t.data.toList.length = t.size := rfl
  unfold putTextF
  split
  · simp
  · have := putF_len t.data.toList.length
    simp only [List.length_append]; omega
theorem allT_len : ∀ (ss : List ByteArray), (∀ s ∈ ss, s.size ≤ 300) → (allT ss).length ≤ 307 * ss.length
  | [], _ => by simp [allT]
  | s :: r, h => by
    have h1 := allT_len r fun x hx => h x (by simp [hx])
    have h2 := putTextF_len s
    have h3 := h s (by simp)
    simp only [allT, List.map_cons, List.flatten_cons, List.length_append, List.length_cons] at h1 ⊢
    omega
theorem take_snoc {α : Type} (l : List α) (k : Nat) (h : k < l.length) : l.take (k + 1) = l.take k ++ [l[k]] := by
  rw [List.take_succ_eq_append_getElem h]
theorem take_all_drop {α : Type} (l : List α) (k : Nat) (h : k < l.length) : l = l.take k ++ [l[k]] ++ l.drop (k + 1) := by
  rw [← take_snoc l k h, List.take_append_drop]
/-- Where text number k stands among them all, and what reading it there comes to. -/
theorem textF_at (ss : List ByteArray) (k : Nat) (h : k < ss.length) (hs : ss[k].size ≤ 300) (post : List UInt8) :
    textF (allT ss ++ post) (allT (ss.take k)).length 0 300 = (ss[k].data.toList, ((allT (ss.take (k + 1))).length : Int), 0) := by
  have e : allT ss ++ post = allT (ss.take k) ++ putTextF ss[k].data.toList ++ (allT (ss.drop (k + 1)) ++ post) := by
    conv => lhs; rw [take_all_drop ss k h]
    rw [allT_app, allT_snoc]; simp
  have hl : ss[k].data.toList.length = ss[k].size := rfl
  rw [e, textF_put _ _ _ _ (by omega) (by omega), take_snoc ss k h, allT_snoc]
  simp
end Go.Proofs.Ytcnacdjpihbfmaa
