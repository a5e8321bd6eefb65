/- Layer 7: CodeBack: a program that may be is read of its text, and of its bytes, as it was; a text, and bytes, that are read are those of the program alone. For all programs, texts and bytes. -/
import Derived.Test.YtcfdbciooimjmaaGreatDoorzGm
import Derived.OpenShut
import Derived.Test.YtcfdbciooimjmaaGreatDoorzPr4
import Derived.Test.YtcfdbciooimjmaaGreatDoorzPr5
namespace Go.Proofs.YtcfdbciooimjmaaGreatDoor.codeBack
set_option linter.unusedVariables false
set_option linter.unusedSimpArgs false
open Go.ChangeShapes Go.WideShapes Go.ChangeAt Go.RowKit Go.Sort

theorem sized_may {p : List Fun} (h : mayP p = true) : SizedP p := by
  obtain ⟨_, h2, h3⟩ := (mayP_iff p).1 h
  refine ⟨by unfold maxLen; omega, fun f hf => ?_⟩
  have := ((mayF_iff f).1 (h3 f hf)).2.2.1
  unfold maxLen
  omega
theorem text_len {p : List Fun} (h : mayP p = true) : (textP p).length ≤ 54672 := by
  have h1 := flatT_len (linesP_ok ((mayP_iff p).1 h).2.2)
  have h2 := linesP_small h
  rw [text_eq h]
  unfold flatT at h1
  omega
theorem eta (s : ByteArray) : (⟨s.data.toList.toArray⟩ : ByteArray) = s := by apply ByteArray.ext; simp
set_option maxHeartbeats 8000000 in
set_option maxRecDepth 100000 in
theorem walk {T : World → Prop} {D : List UInt8 → Int} (K : CodeC T D) {A : Option Addr} {p : List Fun} (c : Nat) (s b : ByteArray) (w : World) (hT : T w) (ha : ProgAt w w.heap.size A p) (hz : SizedP p) :
    Calls Tryz.prog 4 #[.slice A p.length c, .string s, .string b] w fun e w' => e = .returned (.bool true) ∧ Below w.heap.size w w' := by
  have hw : Below w.heap.size w w := Below.refl _ _
  have S1 := fun W (h : ProgAt W W.heap.size A p) => Lib.hid (psmall_any c 300 W h)
  have MP := fun W (h1 : T W) (h : ProgAt W W.heap.size A p) => Lib.hid (K.may c W h1 h hz (Nat.le_refl _))
  have TP := fun W (h1 : T W) (h : ProgAt W W.heap.size A p) => Lib.hid (K.text c W h1 h hz (Nat.le_refl _))
  have EP := fun W (h1 : T W) (h : ProgAt W W.heap.size A p) => Lib.hid (K.enc c W h1 h hz (Nat.le_refl _))
  have HA := Lib.hid ha
  have HZ := Lib.hid hz
  clear ha hz
  generalize smallP p 300 = b1 at *
  cases b1
  · go_enter Tryz.func4, Tryz.ntmps4
    go_wp2_with (first
      | (go_at_call 10; (with_reducible refine (K.fx _ hT).mono ?_); rintro e v ⟨rfl, hb⟩; replace HA := Lib.hid ((HA.out.below hb (Nat.le_refl _)).more hb.size); replace hT := K.keep hT hb; replace hw := Below.step hw hb; clear hb)
      | (go_at_call 9; (with_reducible refine (S1 _ HA.out).out.mono ?_); rintro e v ⟨rfl, rfl⟩)
      )
    go_ret
    exact ⟨rfl, hw⟩
  by_cases hs : 1500 < s.size
  · have hs2 : (1500 : Int) < s.size := by omega
    go_enter Tryz.func4, Tryz.ntmps4
    go_wp2_with (first
      | (go_at_call 10; (with_reducible refine (K.fx _ hT).mono ?_); rintro e v ⟨rfl, hb⟩; replace HA := Lib.hid ((HA.out.below hb (Nat.le_refl _)).more hb.size); replace hT := K.keep hT hb; replace hw := Below.step hw hb; clear hb)
      | (go_at_call 9; (with_reducible refine (S1 _ HA.out).out.mono ?_); rintro e v ⟨rfl, rfl⟩)
      )
    go_ret
    exact ⟨rfl, hw⟩
  have hs2 : (s.size : Int) ≤ 1500 := by omega
  by_cases hb : 300 < b.size
  · have hb2 : (300 : Int) < b.size := by omega
    go_enter Tryz.func4, Tryz.ntmps4
    go_wp2_with (first
      | (go_at_call 10; (with_reducible refine (K.fx _ hT).mono ?_); rintro e v ⟨rfl, hb⟩; replace HA := Lib.hid ((HA.out.below hb (Nat.le_refl _)).more hb.size); replace hT := K.keep hT hb; replace hw := Below.step hw hb; clear hb)
      | (go_at_call 9; (with_reducible refine (S1 _ HA.out).out.mono ?_); rintro e v ⟨rfl, rfl⟩)
      )
    go_ret
    exact ⟨rfl, hw⟩
  have hb2 : (b.size : Int) ≤ 300 := by omega
  have hsl : s.data.toList.length = s.size := rfl
  have hbl : b.data.toList.length = b.size := rfl
  have C1 := fun W (h1 : T W) => Lib.hid (K.parse s.data.toList W h1 (by omega))
  have C2 := fun W (h1 : T W) => Lib.hid (K.dec b.data.toList W h1 (by omega))
  rw [eta] at C1 C2
  have hpt := text_parse (s := s.data.toList)
  have hpe := parse_err s.data.toList
  have hdt := dec_of (s := b.data.toList)
  generalize parseP s.data.toList = P at *
  generalize decP b.data.toList = Q at *
  obtain ⟨pa, na, ea⟩ := P
  obtain ⟨qc, ec⟩ := Q
  simp only at hpt hpe hdt C1 C2
  clear hs hb hsl hbl
  cases hp : mayP p
  · rw [hp] at MP
    have t0 : textP p = [] := by unfold textP; rw [if_neg (by rw [hp]; simp)]
    have t1 : encP p = [] := by unfold encP; rw [if_neg (by rw [hp]; simp)]
    rw [t0] at TP
    rw [t1] at EP
    clear t0 t1 hp
    by_cases he : ea = 0
    · subst he
      obtain ⟨ma, ta⟩ := hpt rfl
      have TA := fun {A1' : Option Addr} (c1' : Nat) W (h1 : T W) (h : ProgAt W W.heap.size A1' pa) => Lib.hid (K.text c1' W h1 h (sized_may ma) (Nat.le_refl _))
      have MA := fun {A1' : Option Addr} (c1' : Nat) W (h1 : T W) (h : ProgAt W W.heap.size A1' pa) => Lib.hid (K.may c1' W h1 h (sized_may ma) (Nat.le_refl _))
      rw [ta, eta] at TA
      rw [ma] at MA
      clear hpt hpe ma ta
      by_cases hd : ec = 0
      · subst hd
        obtain ⟨mc, tc⟩ := hdt rfl
        have EC := fun {A2' : Option Addr} (c2' : Nat) W (h1 : T W) (h : ProgAt W W.heap.size A2' qc) => Lib.hid (K.enc c2' W h1 h (sized_may mc) (Nat.le_refl _))
        have MC := fun {A2' : Option Addr} (c2' : Nat) W (h1 : T W) (h : ProgAt W W.heap.size A2' qc) => Lib.hid (K.may c2' W h1 h (sized_may mc) (Nat.le_refl _))
        rw [tc, eta] at EC
        rw [mc] at MC
        clear hdt mc tc
        go_enter Tryz.func4, Tryz.ntmps4
        go_wp2_with (first
          | (go_at_call 10; (with_reducible refine (K.fx _ hT).mono ?_); rintro e v ⟨rfl, hb⟩; replace HA := Lib.hid ((HA.out.below hb (Nat.le_refl _)).more hb.size); replace hT := K.keep hT hb; replace hw := Below.step hw hb; clear hb)
          | (go_at_call 9; (with_reducible refine (S1 _ HA.out).out.mono ?_); rintro e v ⟨rfl, rfl⟩)
          | (go_at_call 11; (with_reducible refine (C1 _ hT).out.mono ?_); rintro e v ⟨A1, c1, rfl, hp1, hb⟩; replace HA := Lib.hid ((HA.out.below hb (Nat.le_refl _)).more hb.size); replace hT := K.keep hT hb; replace hw := Below.step hw hb; clear hb; have HP := Lib.hid hp1; clear hp1)
          | (go_at_call 13; (with_reducible refine (C2 _ hT).out.mono ?_); rintro e v ⟨A2, c2, rfl, hp2, hb⟩; replace HA := Lib.hid ((HA.out.below hb (Nat.le_refl _)).more hb.size); replace HP := Lib.hid ((HP.out.below hb (Nat.le_refl _)).more hb.size); replace hT := K.keep hT hb; replace hw := Below.step hw hb; clear hb; have HQ := Lib.hid hp2; clear hp2)
          | (go_at_call 17; (with_reducible refine (TA _ _ hT HP.out).out.mono ?_); rintro e v ⟨rfl, hb⟩; replace HA := Lib.hid ((HA.out.below hb (Nat.le_refl _)).more hb.size); replace HP := Lib.hid ((HP.out.below hb (Nat.le_refl _)).more hb.size); replace HQ := Lib.hid ((HQ.out.below hb (Nat.le_refl _)).more hb.size); replace hT := K.keep hT hb; replace hw := Below.step hw hb; clear hb)
          | (go_at_call 15; (with_reducible refine (MA _ _ hT HP.out).out.mono ?_); rintro e v ⟨rfl, hb⟩; replace HA := Lib.hid ((HA.out.below hb (Nat.le_refl _)).more hb.size); replace HP := Lib.hid ((HP.out.below hb (Nat.le_refl _)).more hb.size); replace HQ := Lib.hid ((HQ.out.below hb (Nat.le_refl _)).more hb.size); replace hT := K.keep hT hb; replace hw := Below.step hw hb; clear hb)
          | (go_at_call 19; (with_reducible refine (EC _ _ hT HQ.out).out.mono ?_); rintro e v ⟨rfl, hb⟩; replace HA := Lib.hid ((HA.out.below hb (Nat.le_refl _)).more hb.size); replace HP := Lib.hid ((HP.out.below hb (Nat.le_refl _)).more hb.size); replace HQ := Lib.hid ((HQ.out.below hb (Nat.le_refl _)).more hb.size); replace hT := K.keep hT hb; replace hw := Below.step hw hb; clear hb)
          | (go_at_call 15; (with_reducible refine (MC _ _ hT HQ.out).out.mono ?_); rintro e v ⟨rfl, hb⟩; replace HA := Lib.hid ((HA.out.below hb (Nat.le_refl _)).more hb.size); replace HP := Lib.hid ((HP.out.below hb (Nat.le_refl _)).more hb.size); replace HQ := Lib.hid ((HQ.out.below hb (Nat.le_refl _)).more hb.size); replace hT := K.keep hT hb; replace hw := Below.step hw hb; clear hb)
          | (go_at_call 15; (with_reducible refine (MP _ hT HA.out).out.mono ?_); rintro e v ⟨rfl, hb⟩; replace HA := Lib.hid ((HA.out.below hb (Nat.le_refl _)).more hb.size); replace HP := Lib.hid ((HP.out.below hb (Nat.le_refl _)).more hb.size); replace HQ := Lib.hid ((HQ.out.below hb (Nat.le_refl _)).more hb.size); replace hT := K.keep hT hb; replace hw := Below.step hw hb; clear hb)
          | (go_at_call 17; (with_reducible refine (TP _ hT HA.out).out.mono ?_); rintro e v ⟨rfl, hb⟩; replace HA := Lib.hid ((HA.out.below hb (Nat.le_refl _)).more hb.size); replace HP := Lib.hid ((HP.out.below hb (Nat.le_refl _)).more hb.size); replace HQ := Lib.hid ((HQ.out.below hb (Nat.le_refl _)).more hb.size); replace hT := K.keep hT hb; replace hw := Below.step hw hb; clear hb)
          | (go_at_call 19; (with_reducible refine (EP _ hT HA.out).out.mono ?_); rintro e v ⟨rfl, hb⟩; replace HA := Lib.hid ((HA.out.below hb (Nat.le_refl _)).more hb.size); replace HP := Lib.hid ((HP.out.below hb (Nat.le_refl _)).more hb.size); replace HQ := Lib.hid ((HQ.out.below hb (Nat.le_refl _)).more hb.size); replace hT := K.keep hT hb; replace hw := Below.step hw hb; clear hb)
          )
        go_ret
        exact ⟨rfl, hw⟩
      · have hd2 : (ec == 0) = false := by simpa using hd
        clear hdt hd
        go_enter Tryz.func4, Tryz.ntmps4
        go_wp2_with (first
          | (go_at_call 10; (with_reducible refine (K.fx _ hT).mono ?_); rintro e v ⟨rfl, hb⟩; replace HA := Lib.hid ((HA.out.below hb (Nat.le_refl _)).more hb.size); replace hT := K.keep hT hb; replace hw := Below.step hw hb; clear hb)
          | (go_at_call 9; (with_reducible refine (S1 _ HA.out).out.mono ?_); rintro e v ⟨rfl, rfl⟩)
          | (go_at_call 11; (with_reducible refine (C1 _ hT).out.mono ?_); rintro e v ⟨A1, c1, rfl, hp1, hb⟩; replace HA := Lib.hid ((HA.out.below hb (Nat.le_refl _)).more hb.size); replace hT := K.keep hT hb; replace hw := Below.step hw hb; clear hb; have HP := Lib.hid hp1; clear hp1)
          | (go_at_call 13; (with_reducible refine (C2 _ hT).out.mono ?_); rintro e v ⟨A2, c2, rfl, hp2, hb⟩; replace HA := Lib.hid ((HA.out.below hb (Nat.le_refl _)).more hb.size); replace HP := Lib.hid ((HP.out.below hb (Nat.le_refl _)).more hb.size); replace hT := K.keep hT hb; replace hw := Below.step hw hb; clear hb; clear hp2)
          | (go_at_call 17; (with_reducible refine (TA _ _ hT HP.out).out.mono ?_); rintro e v ⟨rfl, hb⟩; replace HA := Lib.hid ((HA.out.below hb (Nat.le_refl _)).more hb.size); replace HP := Lib.hid ((HP.out.below hb (Nat.le_refl _)).more hb.size); replace hT := K.keep hT hb; replace hw := Below.step hw hb; clear hb)
          | (go_at_call 15; (with_reducible refine (MA _ _ hT HP.out).out.mono ?_); rintro e v ⟨rfl, hb⟩; replace HA := Lib.hid ((HA.out.below hb (Nat.le_refl _)).more hb.size); replace HP := Lib.hid ((HP.out.below hb (Nat.le_refl _)).more hb.size); replace hT := K.keep hT hb; replace hw := Below.step hw hb; clear hb)
          | (go_at_call 15; (with_reducible refine (MP _ hT HA.out).out.mono ?_); rintro e v ⟨rfl, hb⟩; replace HA := Lib.hid ((HA.out.below hb (Nat.le_refl _)).more hb.size); replace HP := Lib.hid ((HP.out.below hb (Nat.le_refl _)).more hb.size); replace hT := K.keep hT hb; replace hw := Below.step hw hb; clear hb)
          | (go_at_call 17; (with_reducible refine (TP _ hT HA.out).out.mono ?_); rintro e v ⟨rfl, hb⟩; replace HA := Lib.hid ((HA.out.below hb (Nat.le_refl _)).more hb.size); replace HP := Lib.hid ((HP.out.below hb (Nat.le_refl _)).more hb.size); replace hT := K.keep hT hb; replace hw := Below.step hw hb; clear hb)
          | (go_at_call 19; (with_reducible refine (EP _ hT HA.out).out.mono ?_); rintro e v ⟨rfl, hb⟩; replace HA := Lib.hid ((HA.out.below hb (Nat.le_refl _)).more hb.size); replace HP := Lib.hid ((HP.out.below hb (Nat.le_refl _)).more hb.size); replace hT := K.keep hT hb; replace hw := Below.step hw hb; clear hb)
          )
        go_ret
        exact ⟨rfl, hw⟩
    · have he2 : (ea == 0) = false := by simpa using he
      clear hpt hpe he
      by_cases hd : ec = 0
      · subst hd
        obtain ⟨mc, tc⟩ := hdt rfl
        have EC := fun {A2' : Option Addr} (c2' : Nat) W (h1 : T W) (h : ProgAt W W.heap.size A2' qc) => Lib.hid (K.enc c2' W h1 h (sized_may mc) (Nat.le_refl _))
        have MC := fun {A2' : Option Addr} (c2' : Nat) W (h1 : T W) (h : ProgAt W W.heap.size A2' qc) => Lib.hid (K.may c2' W h1 h (sized_may mc) (Nat.le_refl _))
        rw [tc, eta] at EC
        rw [mc] at MC
        clear hdt mc tc
        go_enter Tryz.func4, Tryz.ntmps4
        go_wp2_with (first
          | (go_at_call 10; (with_reducible refine (K.fx _ hT).mono ?_); rintro e v ⟨rfl, hb⟩; replace HA := Lib.hid ((HA.out.below hb (Nat.le_refl _)).more hb.size); replace hT := K.keep hT hb; replace hw := Below.step hw hb; clear hb)
          | (go_at_call 9; (with_reducible refine (S1 _ HA.out).out.mono ?_); rintro e v ⟨rfl, rfl⟩)
          | (go_at_call 11; (with_reducible refine (C1 _ hT).out.mono ?_); rintro e v ⟨A1, c1, rfl, hp1, hb⟩; replace HA := Lib.hid ((HA.out.below hb (Nat.le_refl _)).more hb.size); replace hT := K.keep hT hb; replace hw := Below.step hw hb; clear hb; clear hp1)
          | (go_at_call 13; (with_reducible refine (C2 _ hT).out.mono ?_); rintro e v ⟨A2, c2, rfl, hp2, hb⟩; replace HA := Lib.hid ((HA.out.below hb (Nat.le_refl _)).more hb.size); replace hT := K.keep hT hb; replace hw := Below.step hw hb; clear hb; have HQ := Lib.hid hp2; clear hp2)
          | (go_at_call 19; (with_reducible refine (EC _ _ hT HQ.out).out.mono ?_); rintro e v ⟨rfl, hb⟩; replace HA := Lib.hid ((HA.out.below hb (Nat.le_refl _)).more hb.size); replace HQ := Lib.hid ((HQ.out.below hb (Nat.le_refl _)).more hb.size); replace hT := K.keep hT hb; replace hw := Below.step hw hb; clear hb)
          | (go_at_call 15; (with_reducible refine (MC _ _ hT HQ.out).out.mono ?_); rintro e v ⟨rfl, hb⟩; replace HA := Lib.hid ((HA.out.below hb (Nat.le_refl _)).more hb.size); replace HQ := Lib.hid ((HQ.out.below hb (Nat.le_refl _)).more hb.size); replace hT := K.keep hT hb; replace hw := Below.step hw hb; clear hb)
          | (go_at_call 15; (with_reducible refine (MP _ hT HA.out).out.mono ?_); rintro e v ⟨rfl, hb⟩; replace HA := Lib.hid ((HA.out.below hb (Nat.le_refl _)).more hb.size); replace HQ := Lib.hid ((HQ.out.below hb (Nat.le_refl _)).more hb.size); replace hT := K.keep hT hb; replace hw := Below.step hw hb; clear hb)
          | (go_at_call 17; (with_reducible refine (TP _ hT HA.out).out.mono ?_); rintro e v ⟨rfl, hb⟩; replace HA := Lib.hid ((HA.out.below hb (Nat.le_refl _)).more hb.size); replace HQ := Lib.hid ((HQ.out.below hb (Nat.le_refl _)).more hb.size); replace hT := K.keep hT hb; replace hw := Below.step hw hb; clear hb)
          | (go_at_call 19; (with_reducible refine (EP _ hT HA.out).out.mono ?_); rintro e v ⟨rfl, hb⟩; replace HA := Lib.hid ((HA.out.below hb (Nat.le_refl _)).more hb.size); replace HQ := Lib.hid ((HQ.out.below hb (Nat.le_refl _)).more hb.size); replace hT := K.keep hT hb; replace hw := Below.step hw hb; clear hb)
          )
        go_ret
        exact ⟨rfl, hw⟩
      · have hd2 : (ec == 0) = false := by simpa using hd
        clear hdt hd
        go_enter Tryz.func4, Tryz.ntmps4
        go_wp2_with (first
          | (go_at_call 10; (with_reducible refine (K.fx _ hT).mono ?_); rintro e v ⟨rfl, hb⟩; replace HA := Lib.hid ((HA.out.below hb (Nat.le_refl _)).more hb.size); replace hT := K.keep hT hb; replace hw := Below.step hw hb; clear hb)
          | (go_at_call 9; (with_reducible refine (S1 _ HA.out).out.mono ?_); rintro e v ⟨rfl, rfl⟩)
          | (go_at_call 11; (with_reducible refine (C1 _ hT).out.mono ?_); rintro e v ⟨A1, c1, rfl, hp1, hb⟩; replace HA := Lib.hid ((HA.out.below hb (Nat.le_refl _)).more hb.size); replace hT := K.keep hT hb; replace hw := Below.step hw hb; clear hb; clear hp1)
          | (go_at_call 13; (with_reducible refine (C2 _ hT).out.mono ?_); rintro e v ⟨A2, c2, rfl, hp2, hb⟩; replace HA := Lib.hid ((HA.out.below hb (Nat.le_refl _)).more hb.size); replace hT := K.keep hT hb; replace hw := Below.step hw hb; clear hb; clear hp2)
          | (go_at_call 15; (with_reducible refine (MP _ hT HA.out).out.mono ?_); rintro e v ⟨rfl, hb⟩; replace HA := Lib.hid ((HA.out.below hb (Nat.le_refl _)).more hb.size); replace hT := K.keep hT hb; replace hw := Below.step hw hb; clear hb)
          | (go_at_call 17; (with_reducible refine (TP _ hT HA.out).out.mono ?_); rintro e v ⟨rfl, hb⟩; replace HA := Lib.hid ((HA.out.below hb (Nat.le_refl _)).more hb.size); replace hT := K.keep hT hb; replace hw := Below.step hw hb; clear hb)
          | (go_at_call 19; (with_reducible refine (EP _ hT HA.out).out.mono ?_); rintro e v ⟨rfl, hb⟩; replace HA := Lib.hid ((HA.out.below hb (Nat.le_refl _)).more hb.size); replace hT := K.keep hT hb; replace hw := Below.step hw hb; clear hb)
          )
        go_ret
        exact ⟨rfl, hw⟩
  rw [hp] at MP
  have hlt := text_len hp
  have hle : (encP p).length ≤ 48455 := by rw [encP_in hp, ← encUp_all]; exact encUp_len hp _
  have C3 := fun W (h1 : T W) => Lib.hid (K.parse (textP p) W h1 (by omega))
  have C4 := fun W (h1 : T W) => Lib.hid (K.dec (encP p) W h1 (by omega))
  rw [parse_text hp] at C3
  rw [dec_back hp] at C4
  have SG := fun {A3 : Option Addr} (c3 : Nat) W (h1 : T W) (h : ProgAt W W.heap.size A3 p) (h' : ProgAt W W.heap.size A p) => Lib.hid (K.same c3 c W h1 h HZ.out h' HZ.out (Nat.le_refl _))
  rw [(sameP_iff p p).2 rfl] at SG
  generalize textP p = t at *
  generalize encP p = u at *
  generalize (linesP p).length = nl at *
  clear hlt hle hp
  by_cases he : ea = 0
  · subst he
    obtain ⟨ma, ta⟩ := hpt rfl
    have TA := fun {A1' : Option Addr} (c1' : Nat) W (h1 : T W) (h : ProgAt W W.heap.size A1' pa) => Lib.hid (K.text c1' W h1 h (sized_may ma) (Nat.le_refl _))
    have MA := fun {A1' : Option Addr} (c1' : Nat) W (h1 : T W) (h : ProgAt W W.heap.size A1' pa) => Lib.hid (K.may c1' W h1 h (sized_may ma) (Nat.le_refl _))
    rw [ta, eta] at TA
    rw [ma] at MA
    clear hpt hpe ma ta
    by_cases hd : ec = 0
    · subst hd
      obtain ⟨mc, tc⟩ := hdt rfl
      have EC := fun {A2' : Option Addr} (c2' : Nat) W (h1 : T W) (h : ProgAt W W.heap.size A2' qc) => Lib.hid (K.enc c2' W h1 h (sized_may mc) (Nat.le_refl _))
      have MC := fun {A2' : Option Addr} (c2' : Nat) W (h1 : T W) (h : ProgAt W W.heap.size A2' qc) => Lib.hid (K.may c2' W h1 h (sized_may mc) (Nat.le_refl _))
      rw [tc, eta] at EC
      rw [mc] at MC
      clear hdt mc tc
      go_enter Tryz.func4, Tryz.ntmps4
      go_wp2_with (first
        | (go_at_call 10; (with_reducible refine (K.fx _ hT).mono ?_); rintro e v ⟨rfl, hb⟩; replace HA := Lib.hid ((HA.out.below hb (Nat.le_refl _)).more hb.size); replace hT := K.keep hT hb; replace hw := Below.step hw hb; clear hb)
        | (go_at_call 9; (with_reducible refine (S1 _ HA.out).out.mono ?_); rintro e v ⟨rfl, rfl⟩)
        | (go_at_call 11; (with_reducible refine (C1 _ hT).out.mono ?_); rintro e v ⟨A1, c1, rfl, hp1, hb⟩; replace HA := Lib.hid ((HA.out.below hb (Nat.le_refl _)).more hb.size); replace hT := K.keep hT hb; replace hw := Below.step hw hb; clear hb; have HP := Lib.hid hp1; clear hp1)
        | (go_at_call 13; (with_reducible refine (C2 _ hT).out.mono ?_); rintro e v ⟨A2, c2, rfl, hp2, hb⟩; replace HA := Lib.hid ((HA.out.below hb (Nat.le_refl _)).more hb.size); replace HP := Lib.hid ((HP.out.below hb (Nat.le_refl _)).more hb.size); replace hT := K.keep hT hb; replace hw := Below.step hw hb; clear hb; have HQ := Lib.hid hp2; clear hp2)
        | (go_at_call 17; (with_reducible refine (TA _ _ hT HP.out).out.mono ?_); rintro e v ⟨rfl, hb⟩; replace HA := Lib.hid ((HA.out.below hb (Nat.le_refl _)).more hb.size); replace HP := Lib.hid ((HP.out.below hb (Nat.le_refl _)).more hb.size); replace HQ := Lib.hid ((HQ.out.below hb (Nat.le_refl _)).more hb.size); replace hT := K.keep hT hb; replace hw := Below.step hw hb; clear hb)
        | (go_at_call 15; (with_reducible refine (MA _ _ hT HP.out).out.mono ?_); rintro e v ⟨rfl, hb⟩; replace HA := Lib.hid ((HA.out.below hb (Nat.le_refl _)).more hb.size); replace HP := Lib.hid ((HP.out.below hb (Nat.le_refl _)).more hb.size); replace HQ := Lib.hid ((HQ.out.below hb (Nat.le_refl _)).more hb.size); replace hT := K.keep hT hb; replace hw := Below.step hw hb; clear hb)
        | (go_at_call 19; (with_reducible refine (EC _ _ hT HQ.out).out.mono ?_); rintro e v ⟨rfl, hb⟩; replace HA := Lib.hid ((HA.out.below hb (Nat.le_refl _)).more hb.size); replace HP := Lib.hid ((HP.out.below hb (Nat.le_refl _)).more hb.size); replace HQ := Lib.hid ((HQ.out.below hb (Nat.le_refl _)).more hb.size); replace hT := K.keep hT hb; replace hw := Below.step hw hb; clear hb)
        | (go_at_call 15; (with_reducible refine (MC _ _ hT HQ.out).out.mono ?_); rintro e v ⟨rfl, hb⟩; replace HA := Lib.hid ((HA.out.below hb (Nat.le_refl _)).more hb.size); replace HP := Lib.hid ((HP.out.below hb (Nat.le_refl _)).more hb.size); replace HQ := Lib.hid ((HQ.out.below hb (Nat.le_refl _)).more hb.size); replace hT := K.keep hT hb; replace hw := Below.step hw hb; clear hb)
        | (go_at_call 15; (with_reducible refine (MP _ hT HA.out).out.mono ?_); rintro e v ⟨rfl, hb⟩; replace HA := Lib.hid ((HA.out.below hb (Nat.le_refl _)).more hb.size); replace HP := Lib.hid ((HP.out.below hb (Nat.le_refl _)).more hb.size); replace HQ := Lib.hid ((HQ.out.below hb (Nat.le_refl _)).more hb.size); replace hT := K.keep hT hb; replace hw := Below.step hw hb; clear hb)
        | (go_at_call 17; (with_reducible refine (TP _ hT HA.out).out.mono ?_); rintro e v ⟨rfl, hb⟩; replace HA := Lib.hid ((HA.out.below hb (Nat.le_refl _)).more hb.size); replace HP := Lib.hid ((HP.out.below hb (Nat.le_refl _)).more hb.size); replace HQ := Lib.hid ((HQ.out.below hb (Nat.le_refl _)).more hb.size); replace hT := K.keep hT hb; replace hw := Below.step hw hb; clear hb)
        | (go_at_call 11; (with_reducible refine (C3 _ hT).out.mono ?_); rintro e v ⟨A3, c3, rfl, hp3, hb⟩; replace HA := Lib.hid ((HA.out.below hb (Nat.le_refl _)).more hb.size); replace HP := Lib.hid ((HP.out.below hb (Nat.le_refl _)).more hb.size); replace HQ := Lib.hid ((HQ.out.below hb (Nat.le_refl _)).more hb.size); replace hT := K.keep hT hb; replace hw := Below.step hw hb; clear hb; have HG := Lib.hid hp3; clear hp3)
        | (go_at_call 19; (with_reducible refine (EP _ hT HA.out).out.mono ?_); rintro e v ⟨rfl, hb⟩; replace HA := Lib.hid ((HA.out.below hb (Nat.le_refl _)).more hb.size); replace HP := Lib.hid ((HP.out.below hb (Nat.le_refl _)).more hb.size); replace HQ := Lib.hid ((HQ.out.below hb (Nat.le_refl _)).more hb.size); replace HG := Lib.hid ((HG.out.below hb (Nat.le_refl _)).more hb.size); replace hT := K.keep hT hb; replace hw := Below.step hw hb; clear hb)
        | (go_at_call 13; (with_reducible refine (C4 _ hT).out.mono ?_); rintro e v ⟨A4, c4, rfl, hp4, hb⟩; replace HA := Lib.hid ((HA.out.below hb (Nat.le_refl _)).more hb.size); replace HP := Lib.hid ((HP.out.below hb (Nat.le_refl _)).more hb.size); replace HQ := Lib.hid ((HQ.out.below hb (Nat.le_refl _)).more hb.size); replace HG := Lib.hid ((HG.out.below hb (Nat.le_refl _)).more hb.size); replace hT := K.keep hT hb; replace hw := Below.step hw hb; clear hb; have HI := Lib.hid hp4; clear hp4)
        | (go_at_call 24; (with_reducible refine (SG _ _ hT HG.out HA.out).out.mono ?_); rintro e v ⟨rfl, hb⟩; replace HA := Lib.hid ((HA.out.below hb (Nat.le_refl _)).more hb.size); replace HP := Lib.hid ((HP.out.below hb (Nat.le_refl _)).more hb.size); replace HQ := Lib.hid ((HQ.out.below hb (Nat.le_refl _)).more hb.size); replace HG := Lib.hid ((HG.out.below hb (Nat.le_refl _)).more hb.size); replace HI := Lib.hid ((HI.out.below hb (Nat.le_refl _)).more hb.size); replace hT := K.keep hT hb; replace hw := Below.step hw hb; clear hb)
        | (go_at_call 24; (with_reducible refine (SG _ _ hT HI.out HA.out).out.mono ?_); rintro e v ⟨rfl, hb⟩; replace HA := Lib.hid ((HA.out.below hb (Nat.le_refl _)).more hb.size); replace HP := Lib.hid ((HP.out.below hb (Nat.le_refl _)).more hb.size); replace HQ := Lib.hid ((HQ.out.below hb (Nat.le_refl _)).more hb.size); replace HG := Lib.hid ((HG.out.below hb (Nat.le_refl _)).more hb.size); replace HI := Lib.hid ((HI.out.below hb (Nat.le_refl _)).more hb.size); replace hT := K.keep hT hb; replace hw := Below.step hw hb; clear hb)
        )
      go_ret
      exact ⟨rfl, hw⟩
    · have hd2 : (ec == 0) = false := by simpa using hd
      clear hdt hd
      go_enter Tryz.func4, Tryz.ntmps4
      go_wp2_with (first
        | (go_at_call 10; (with_reducible refine (K.fx _ hT).mono ?_); rintro e v ⟨rfl, hb⟩; replace HA := Lib.hid ((HA.out.below hb (Nat.le_refl _)).more hb.size); replace hT := K.keep hT hb; replace hw := Below.step hw hb; clear hb)
        | (go_at_call 9; (with_reducible refine (S1 _ HA.out).out.mono ?_); rintro e v ⟨rfl, rfl⟩)
        | (go_at_call 11; (with_reducible refine (C1 _ hT).out.mono ?_); rintro e v ⟨A1, c1, rfl, hp1, hb⟩; replace HA := Lib.hid ((HA.out.below hb (Nat.le_refl _)).more hb.size); replace hT := K.keep hT hb; replace hw := Below.step hw hb; clear hb; have HP := Lib.hid hp1; clear hp1)
        | (go_at_call 13; (with_reducible refine (C2 _ hT).out.mono ?_); rintro e v ⟨A2, c2, rfl, hp2, hb⟩; replace HA := Lib.hid ((HA.out.below hb (Nat.le_refl _)).more hb.size); replace HP := Lib.hid ((HP.out.below hb (Nat.le_refl _)).more hb.size); replace hT := K.keep hT hb; replace hw := Below.step hw hb; clear hb; clear hp2)
        | (go_at_call 17; (with_reducible refine (TA _ _ hT HP.out).out.mono ?_); rintro e v ⟨rfl, hb⟩; replace HA := Lib.hid ((HA.out.below hb (Nat.le_refl _)).more hb.size); replace HP := Lib.hid ((HP.out.below hb (Nat.le_refl _)).more hb.size); replace hT := K.keep hT hb; replace hw := Below.step hw hb; clear hb)
        | (go_at_call 15; (with_reducible refine (MA _ _ hT HP.out).out.mono ?_); rintro e v ⟨rfl, hb⟩; replace HA := Lib.hid ((HA.out.below hb (Nat.le_refl _)).more hb.size); replace HP := Lib.hid ((HP.out.below hb (Nat.le_refl _)).more hb.size); replace hT := K.keep hT hb; replace hw := Below.step hw hb; clear hb)
        | (go_at_call 15; (with_reducible refine (MP _ hT HA.out).out.mono ?_); rintro e v ⟨rfl, hb⟩; replace HA := Lib.hid ((HA.out.below hb (Nat.le_refl _)).more hb.size); replace HP := Lib.hid ((HP.out.below hb (Nat.le_refl _)).more hb.size); replace hT := K.keep hT hb; replace hw := Below.step hw hb; clear hb)
        | (go_at_call 17; (with_reducible refine (TP _ hT HA.out).out.mono ?_); rintro e v ⟨rfl, hb⟩; replace HA := Lib.hid ((HA.out.below hb (Nat.le_refl _)).more hb.size); replace HP := Lib.hid ((HP.out.below hb (Nat.le_refl _)).more hb.size); replace hT := K.keep hT hb; replace hw := Below.step hw hb; clear hb)
        | (go_at_call 11; (with_reducible refine (C3 _ hT).out.mono ?_); rintro e v ⟨A3, c3, rfl, hp3, hb⟩; replace HA := Lib.hid ((HA.out.below hb (Nat.le_refl _)).more hb.size); replace HP := Lib.hid ((HP.out.below hb (Nat.le_refl _)).more hb.size); replace hT := K.keep hT hb; replace hw := Below.step hw hb; clear hb; have HG := Lib.hid hp3; clear hp3)
        | (go_at_call 19; (with_reducible refine (EP _ hT HA.out).out.mono ?_); rintro e v ⟨rfl, hb⟩; replace HA := Lib.hid ((HA.out.below hb (Nat.le_refl _)).more hb.size); replace HP := Lib.hid ((HP.out.below hb (Nat.le_refl _)).more hb.size); replace HG := Lib.hid ((HG.out.below hb (Nat.le_refl _)).more hb.size); replace hT := K.keep hT hb; replace hw := Below.step hw hb; clear hb)
        | (go_at_call 13; (with_reducible refine (C4 _ hT).out.mono ?_); rintro e v ⟨A4, c4, rfl, hp4, hb⟩; replace HA := Lib.hid ((HA.out.below hb (Nat.le_refl _)).more hb.size); replace HP := Lib.hid ((HP.out.below hb (Nat.le_refl _)).more hb.size); replace HG := Lib.hid ((HG.out.below hb (Nat.le_refl _)).more hb.size); replace hT := K.keep hT hb; replace hw := Below.step hw hb; clear hb; have HI := Lib.hid hp4; clear hp4)
        | (go_at_call 24; (with_reducible refine (SG _ _ hT HG.out HA.out).out.mono ?_); rintro e v ⟨rfl, hb⟩; replace HA := Lib.hid ((HA.out.below hb (Nat.le_refl _)).more hb.size); replace HP := Lib.hid ((HP.out.below hb (Nat.le_refl _)).more hb.size); replace HG := Lib.hid ((HG.out.below hb (Nat.le_refl _)).more hb.size); replace HI := Lib.hid ((HI.out.below hb (Nat.le_refl _)).more hb.size); replace hT := K.keep hT hb; replace hw := Below.step hw hb; clear hb)
        | (go_at_call 24; (with_reducible refine (SG _ _ hT HI.out HA.out).out.mono ?_); rintro e v ⟨rfl, hb⟩; replace HA := Lib.hid ((HA.out.below hb (Nat.le_refl _)).more hb.size); replace HP := Lib.hid ((HP.out.below hb (Nat.le_refl _)).more hb.size); replace HG := Lib.hid ((HG.out.below hb (Nat.le_refl _)).more hb.size); replace HI := Lib.hid ((HI.out.below hb (Nat.le_refl _)).more hb.size); replace hT := K.keep hT hb; replace hw := Below.step hw hb; clear hb)
        )
      go_ret
      exact ⟨rfl, hw⟩
  · have he2 : (ea == 0) = false := by simpa using he
    clear hpt hpe he
    by_cases hd : ec = 0
    · subst hd
      obtain ⟨mc, tc⟩ := hdt rfl
      have EC := fun {A2' : Option Addr} (c2' : Nat) W (h1 : T W) (h : ProgAt W W.heap.size A2' qc) => Lib.hid (K.enc c2' W h1 h (sized_may mc) (Nat.le_refl _))
      have MC := fun {A2' : Option Addr} (c2' : Nat) W (h1 : T W) (h : ProgAt W W.heap.size A2' qc) => Lib.hid (K.may c2' W h1 h (sized_may mc) (Nat.le_refl _))
      rw [tc, eta] at EC
      rw [mc] at MC
      clear hdt mc tc
      go_enter Tryz.func4, Tryz.ntmps4
      go_wp2_with (first
        | (go_at_call 10; (with_reducible refine (K.fx _ hT).mono ?_); rintro e v ⟨rfl, hb⟩; replace HA := Lib.hid ((HA.out.below hb (Nat.le_refl _)).more hb.size); replace hT := K.keep hT hb; replace hw := Below.step hw hb; clear hb)
        | (go_at_call 9; (with_reducible refine (S1 _ HA.out).out.mono ?_); rintro e v ⟨rfl, rfl⟩)
        | (go_at_call 11; (with_reducible refine (C1 _ hT).out.mono ?_); rintro e v ⟨A1, c1, rfl, hp1, hb⟩; replace HA := Lib.hid ((HA.out.below hb (Nat.le_refl _)).more hb.size); replace hT := K.keep hT hb; replace hw := Below.step hw hb; clear hb; clear hp1)
        | (go_at_call 13; (with_reducible refine (C2 _ hT).out.mono ?_); rintro e v ⟨A2, c2, rfl, hp2, hb⟩; replace HA := Lib.hid ((HA.out.below hb (Nat.le_refl _)).more hb.size); replace hT := K.keep hT hb; replace hw := Below.step hw hb; clear hb; have HQ := Lib.hid hp2; clear hp2)
        | (go_at_call 19; (with_reducible refine (EC _ _ hT HQ.out).out.mono ?_); rintro e v ⟨rfl, hb⟩; replace HA := Lib.hid ((HA.out.below hb (Nat.le_refl _)).more hb.size); replace HQ := Lib.hid ((HQ.out.below hb (Nat.le_refl _)).more hb.size); replace hT := K.keep hT hb; replace hw := Below.step hw hb; clear hb)
        | (go_at_call 15; (with_reducible refine (MC _ _ hT HQ.out).out.mono ?_); rintro e v ⟨rfl, hb⟩; replace HA := Lib.hid ((HA.out.below hb (Nat.le_refl _)).more hb.size); replace HQ := Lib.hid ((HQ.out.below hb (Nat.le_refl _)).more hb.size); replace hT := K.keep hT hb; replace hw := Below.step hw hb; clear hb)
        | (go_at_call 15; (with_reducible refine (MP _ hT HA.out).out.mono ?_); rintro e v ⟨rfl, hb⟩; replace HA := Lib.hid ((HA.out.below hb (Nat.le_refl _)).more hb.size); replace HQ := Lib.hid ((HQ.out.below hb (Nat.le_refl _)).more hb.size); replace hT := K.keep hT hb; replace hw := Below.step hw hb; clear hb)
        | (go_at_call 17; (with_reducible refine (TP _ hT HA.out).out.mono ?_); rintro e v ⟨rfl, hb⟩; replace HA := Lib.hid ((HA.out.below hb (Nat.le_refl _)).more hb.size); replace HQ := Lib.hid ((HQ.out.below hb (Nat.le_refl _)).more hb.size); replace hT := K.keep hT hb; replace hw := Below.step hw hb; clear hb)
        | (go_at_call 11; (with_reducible refine (C3 _ hT).out.mono ?_); rintro e v ⟨A3, c3, rfl, hp3, hb⟩; replace HA := Lib.hid ((HA.out.below hb (Nat.le_refl _)).more hb.size); replace HQ := Lib.hid ((HQ.out.below hb (Nat.le_refl _)).more hb.size); replace hT := K.keep hT hb; replace hw := Below.step hw hb; clear hb; have HG := Lib.hid hp3; clear hp3)
        | (go_at_call 19; (with_reducible refine (EP _ hT HA.out).out.mono ?_); rintro e v ⟨rfl, hb⟩; replace HA := Lib.hid ((HA.out.below hb (Nat.le_refl _)).more hb.size); replace HQ := Lib.hid ((HQ.out.below hb (Nat.le_refl _)).more hb.size); replace HG := Lib.hid ((HG.out.below hb (Nat.le_refl _)).more hb.size); replace hT := K.keep hT hb; replace hw := Below.step hw hb; clear hb)
        | (go_at_call 13; (with_reducible refine (C4 _ hT).out.mono ?_); rintro e v ⟨A4, c4, rfl, hp4, hb⟩; replace HA := Lib.hid ((HA.out.below hb (Nat.le_refl _)).more hb.size); replace HQ := Lib.hid ((HQ.out.below hb (Nat.le_refl _)).more hb.size); replace HG := Lib.hid ((HG.out.below hb (Nat.le_refl _)).more hb.size); replace hT := K.keep hT hb; replace hw := Below.step hw hb; clear hb; have HI := Lib.hid hp4; clear hp4)
        | (go_at_call 24; (with_reducible refine (SG _ _ hT HG.out HA.out).out.mono ?_); rintro e v ⟨rfl, hb⟩; replace HA := Lib.hid ((HA.out.below hb (Nat.le_refl _)).more hb.size); replace HQ := Lib.hid ((HQ.out.below hb (Nat.le_refl _)).more hb.size); replace HG := Lib.hid ((HG.out.below hb (Nat.le_refl _)).more hb.size); replace HI := Lib.hid ((HI.out.below hb (Nat.le_refl _)).more hb.size); replace hT := K.keep hT hb; replace hw := Below.step hw hb; clear hb)
        | (go_at_call 24; (with_reducible refine (SG _ _ hT HI.out HA.out).out.mono ?_); rintro e v ⟨rfl, hb⟩; replace HA := Lib.hid ((HA.out.below hb (Nat.le_refl _)).more hb.size); replace HQ := Lib.hid ((HQ.out.below hb (Nat.le_refl _)).more hb.size); replace HG := Lib.hid ((HG.out.below hb (Nat.le_refl _)).more hb.size); replace HI := Lib.hid ((HI.out.below hb (Nat.le_refl _)).more hb.size); replace hT := K.keep hT hb; replace hw := Below.step hw hb; clear hb)
        )
      go_ret
      exact ⟨rfl, hw⟩
    · have hd2 : (ec == 0) = false := by simpa using hd
      clear hdt hd
      go_enter Tryz.func4, Tryz.ntmps4
      go_wp2_with (first
        | (go_at_call 10; (with_reducible refine (K.fx _ hT).mono ?_); rintro e v ⟨rfl, hb⟩; replace HA := Lib.hid ((HA.out.below hb (Nat.le_refl _)).more hb.size); replace hT := K.keep hT hb; replace hw := Below.step hw hb; clear hb)
        | (go_at_call 9; (with_reducible refine (S1 _ HA.out).out.mono ?_); rintro e v ⟨rfl, rfl⟩)
        | (go_at_call 11; (with_reducible refine (C1 _ hT).out.mono ?_); rintro e v ⟨A1, c1, rfl, hp1, hb⟩; replace HA := Lib.hid ((HA.out.below hb (Nat.le_refl _)).more hb.size); replace hT := K.keep hT hb; replace hw := Below.step hw hb; clear hb; clear hp1)
        | (go_at_call 13; (with_reducible refine (C2 _ hT).out.mono ?_); rintro e v ⟨A2, c2, rfl, hp2, hb⟩; replace HA := Lib.hid ((HA.out.below hb (Nat.le_refl _)).more hb.size); replace hT := K.keep hT hb; replace hw := Below.step hw hb; clear hb; clear hp2)
        | (go_at_call 15; (with_reducible refine (MP _ hT HA.out).out.mono ?_); rintro e v ⟨rfl, hb⟩; replace HA := Lib.hid ((HA.out.below hb (Nat.le_refl _)).more hb.size); replace hT := K.keep hT hb; replace hw := Below.step hw hb; clear hb)
        | (go_at_call 17; (with_reducible refine (TP _ hT HA.out).out.mono ?_); rintro e v ⟨rfl, hb⟩; replace HA := Lib.hid ((HA.out.below hb (Nat.le_refl _)).more hb.size); replace hT := K.keep hT hb; replace hw := Below.step hw hb; clear hb)
        | (go_at_call 11; (with_reducible refine (C3 _ hT).out.mono ?_); rintro e v ⟨A3, c3, rfl, hp3, hb⟩; replace HA := Lib.hid ((HA.out.below hb (Nat.le_refl _)).more hb.size); replace hT := K.keep hT hb; replace hw := Below.step hw hb; clear hb; have HG := Lib.hid hp3; clear hp3)
        | (go_at_call 19; (with_reducible refine (EP _ hT HA.out).out.mono ?_); rintro e v ⟨rfl, hb⟩; replace HA := Lib.hid ((HA.out.below hb (Nat.le_refl _)).more hb.size); replace HG := Lib.hid ((HG.out.below hb (Nat.le_refl _)).more hb.size); replace hT := K.keep hT hb; replace hw := Below.step hw hb; clear hb)
        | (go_at_call 13; (with_reducible refine (C4 _ hT).out.mono ?_); rintro e v ⟨A4, c4, rfl, hp4, hb⟩; replace HA := Lib.hid ((HA.out.below hb (Nat.le_refl _)).more hb.size); replace HG := Lib.hid ((HG.out.below hb (Nat.le_refl _)).more hb.size); replace hT := K.keep hT hb; replace hw := Below.step hw hb; clear hb; have HI := Lib.hid hp4; clear hp4)
        | (go_at_call 24; (with_reducible refine (SG _ _ hT HG.out HA.out).out.mono ?_); rintro e v ⟨rfl, hb⟩; replace HA := Lib.hid ((HA.out.below hb (Nat.le_refl _)).more hb.size); replace HG := Lib.hid ((HG.out.below hb (Nat.le_refl _)).more hb.size); replace HI := Lib.hid ((HI.out.below hb (Nat.le_refl _)).more hb.size); replace hT := K.keep hT hb; replace hw := Below.step hw hb; clear hb)
        | (go_at_call 24; (with_reducible refine (SG _ _ hT HI.out HA.out).out.mono ?_); rintro e v ⟨rfl, hb⟩; replace HA := Lib.hid ((HA.out.below hb (Nat.le_refl _)).more hb.size); replace HG := Lib.hid ((HG.out.below hb (Nat.le_refl _)).more hb.size); replace HI := Lib.hid ((HI.out.below hb (Nat.le_refl _)).more hb.size); replace hT := K.keep hT hb; replace hw := Below.step hw hb; clear hb)
        )
      go_ret
      exact ⟨rfl, hw⟩
set_option maxRecDepth 100000 in
/-- The walk, its arguments opened. -/
theorem entryK {T : World → Prop} {D : List UInt8 → Int} (K : CodeC T D) {H : Type} {enc : TypeId × Value → H} (W : World) (base : Nat) (v0 v1 v2 : Value) (d0 d1 d2 : DataW H) (p0 p1 p2 : List MemPlace)
    (k0 : Value.okWide Tryz.prog W .any base 23 v0)
    (k1 : Value.okWide Tryz.prog W .any base 9 v1)
    (k2 : Value.okWide Tryz.prog W .any base 9 v2)
    (h0 : DataW.Trod enc Tryz.prog W 0 (fun _ => true) true 23 v0 d0 p0)
    (h1 : DataW.Trod enc Tryz.prog W 0 (fun _ => true) true 9 v1 d1 p1)
    (h2 : DataW.Trod enc Tryz.prog W 0 (fun _ => true) true 9 v2 d2 p2)
    (hT : T W) : Calls Tryz.prog 4 #[v0, v1, v2] W fun e w' => e = .returned (.bool true) ∧ Below W.heap.size W w' := by
  obtain ⟨A0, c0, ps0, rfl, hp0, hz0⟩ := open_prog k0 h0
  obtain ⟨s1, rfl, _, _, _⟩ := Go.ChangeMaps.open_string Tryz.underlying9 k1 h1
  obtain ⟨s2, rfl, _, _, _⟩ := Go.ChangeMaps.open_string Tryz.underlying9 k2 h2
  exact walk K c0 s1 s2 W hT hp0 hz0
end Go.Proofs.YtcfdbciooimjmaaGreatDoor.codeBack

