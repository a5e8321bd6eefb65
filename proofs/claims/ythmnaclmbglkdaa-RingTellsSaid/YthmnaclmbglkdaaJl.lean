/- Layer 11: the calls with what they tell given. -/
import Derived.Test.YthmnaclmbglkdaaJk
namespace Go.Proofs.Ythmnaclmbglkdaa
set_option linter.unusedVariables false
set_option linter.unusedSimpArgs false
open Go.RowKit Go.ChangeShapes Go.WideShapes Go.ChangeAt Go.Sort

theorem push_c {A A2 : Option Addr} {r R : Rng} {l : List P2} {e : Int} {n : Nat} (he : pushR r l = (R, e)) (hn : l.length = n) (h1 : r.buf.length ≤ 100000) (h2 : n ≤ 1000) (c c2 : Nat) (W : World) (hp : PAt W W.heap.size A r.buf) (hp2 : PAt W W.heap.size A2 l) :
    Calls Try.prog 11 #[rgv A r.buf.length c r.head r.many r.most, .slice A2 n c2] W (RingQ W R (.int .i64 e)) := by
  have h := push_r (l := l) c c2 W hp hp2 (Nat.le_refl _) h1 (by omega)
  rw [he, hn] at h
  exact h
theorem pop_c {A : Option Addr} {r R : Rng} {x : RefP} {b : Bool} (he : popR r = (R, x, b)) (h1 : r.buf.length ≤ 100000) (c : Nat) (W : World) (hp : PAt W W.heap.size A r.buf) :
    Calls Try.prog 13 #[rgv A r.buf.length c r.head r.many r.most] W (PopQ W (R, x, b)) := by
  have h := pop_r c W hp (Nat.le_refl _) h1
  rw [he] at h
  exact h
theorem steal_c {A : Option Addr} {r R : Rng} {x : RefP} {b : Bool} (he : stealR r = (R, x, b)) (h1 : r.buf.length ≤ 100000) (c : Nat) (W : World) (hp : PAt W W.heap.size A r.buf) :
    Calls Try.prog 15 #[rgv A r.buf.length c r.head r.many r.most] W (PopQ W (R, x, b)) := by
  have h := steal_r c W hp (Nat.le_refl _) h1
  rw [he] at h
  exact h
theorem half_c {A : Option Addr} {r R : Rng} {l : List RefP} {n : Nat} (he : halfR r = (R, l)) (hn : l.length = n) (h1 : r.buf.length ≤ 100000) (c : Nat) (W : World) (hp : PAt W W.heap.size A r.buf) :
    Calls Try.prog 17 #[rgv A r.buf.length c r.head r.many r.most] W fun e w' => ∃ v A' c', e = .returned (.tuple #[v, .slice A' n c']) ∧ RingO w' W.heap.size v R ∧ OwnR w' W.heap.size (.slice A' n c') l ∧ Below W.heap.size W w' := by
  have h := half_r c W hp (Nat.le_refl _) h1
  rw [he] at h
  subst hn
  exact h
theorem items_c {A : Option Addr} {r : Rng} {l : List RefP} {n : Nat} (he : itemsR r = l) (hn : l.length = n) (c : Nat) (W : World) (hp : PAt W W.heap.size A r.buf) :
    Calls Try.prog 23 #[rgv A r.buf.length c r.head r.many r.most] W fun e w' => ∃ A' c', e = .returned (.slice A' n c') ∧ OwnR w' W.heap.size (.slice A' n c') l ∧ Below W.heap.size W w' := by
  have h := items_r c W hp (Nat.le_refl _)
  rw [he] at h
  subst hn
  exact h
theorem new_c {a b : Int} {R : Rng} {is : Bool} (he : newR a b = (R, is)) (W : World) : Calls Try.prog 19 #[.int .i64 a, .int .i64 b] W (RingQ W R (.bool is)) := by
  have h := new_r a b W
  rw [he] at h
  exact h
theorem refs_c {A A2 : Option Addr} {l k : List P2} {n m : Nat} {R : Bool} (hn : l.length = n) (hm : k.length = m) (hR : decide (l = k) = R) (h1 : n ≤ 100000) (h2 : m ≤ 100000) (c c2 : Nat) (W : World) (hp : PAt W W.heap.size A l) (hp2 : PAt W W.heap.size A2 k) :
    Calls Try.prog 22 #[.slice A n c, .slice A2 m c2] W fun e w' => e = .returned (.bool R) ∧ Below W.heap.size W w' := by
  subst hn hm hR
  exact rrefs_any c c2 W hp hp2 h1 h2
theorem may_c {r : Rng} {R : Bool} (hR : mayR r = R) (A : Option Addr) (c : Nat) (W : World) : Calls Try.prog 25 #[rgv A r.buf.length c r.head r.many r.most] W fun e w' => e = .returned (.bool R) ∧ Below W.heap.size W w' := by
  subst hR
  exact (may_r A r.buf.length c r.head r.many r.most).go W
end Go.Proofs.Ythmnaclmbglkdaa
