/- Layer 10: SeqWraps: for every program, arguments, seed: the law, out of its walk and of what the machine does. -/
import Derived.Test.YtagjddnpaahebaaGreatDoorzL10wrap
import Derived.Test.YtagjddnpaahebaaGreatDoorzGc
import Derived.Test.YtagjddnpaahebaaGreatDoorzHb
import Derived.Test.YtagjddnpaahebaaGreatDoorCards
import Derived.Test.YtagjddnpaahebaaGreatDoorTie
import Derived.ProofKit
import Derived.OpenShut
import Derived.Lay
import Derived.Stop.Joined
import Derived.Stop.LaidErr
import Derived.Lib.LaidTab
import Derived.LaidMore
namespace Go.Proofs.YtagjddnpaahebaaGreatDoor.seqWraps
set_option linter.unusedVariables false
set_option linter.unusedSimpArgs false
open Gm Go.RowKit Go.ChangeShapes Go.WideShapes Go.ChangeAt Go.Sort

set_option maxRecDepth 100000 in
theorem walk {A A2 : Option Addr} {p : List Fun} {args : List V} (c c2 : Nat) (s : Int) (w : World) (hT : TabB w w.heap.size) (h : ProgAt w w.heap.size A p) (hz : SizedP p) (ha : VAt w w.heap.size A2 args) :
    Calls Tryz.prog 7 #[.agg (inpA A p.length c A2 args.length c2 s)] w fun e w' => e = .returned (.bool true) ∧ Below w.heap.size w w' := by
  rcases hR : evalP p args (useZ s 1 0) 2000 with ⟨⟨a0, a1, a2⟩, n, e⟩
  rcases hQ : evalP (mvP (mainW args.length) p) args s 2100 with ⟨⟨b0, b1, b2⟩, m, g⟩
  cases h1 : (smallP p 300 && decide (args.length ≤ 40)) with
  | false => exact good c c2 s w hT h hz ha (X := true) (fun e => by cases e) hR hQ (fun e => by cases e) (.inl ⟨h1, rfl⟩)
  | true =>
  cases h2 : smallP p 250 with
  | false => exact good c c2 s w hT h hz ha (X := true) (fun e => by cases e) hR hQ (fun e => by cases e) (.inr (.inl ⟨h1, h2, rfl⟩))
  | true =>
  cases h3 : decide (15 < (p.length : Int)) with
  | true => exact good c c2 s w hT h hz ha (X := true) (fun e => by cases e) hR hQ (fun e => by cases e) (.inr (.inr (.inl ⟨h1, h2, h3, rfl⟩)))
  | false =>
  cases h4 : ((checkP p).2.2 == 0) with
  | false => exact good c c2 s w hT h hz ha (X := true) (fun e => by cases e) hR hQ (fun e => by cases e) (.inr (.inr (.inr (.inl ⟨h1, h2, h3, h4, rfl⟩))))
  | true =>
  cases h5 : isZ s with
  | false => exact good c c2 s w hT h hz ha (X := true) (fun e => by cases e) hR hQ (fun e => by cases e) (.inr (.inr (.inr (.inr (.inl ⟨h1, h2, h3, h4, h5, rfl⟩)))))
  | true =>
  cases h6 : decide (8 < (args.length : Int)) with
  | true => exact good c c2 s w hT h hz ha (X := true) (fun e => by cases e) hR hQ (fun e => by cases e) (.inr (.inr (.inr (.inr (.inr (.inl ⟨h1, h2, h3, h4, h5, h6, rfl⟩))))))
  | false =>
  have hc : (checkP p).2.2 = 0 := by simpa using h4
  have hm := (check_facts hc).1
  have hlen : 0 < p.length := by have := ((mayP_iff p).1 hm).1; omega
  cases h7 : ((args.length : Int) != p[0].ar) with
  | true => exact good c c2 s w hT h hz ha (X := true) (fun e => by cases e) hR hQ (fun e => by cases e) (.inr (.inr (.inr (.inr (.inr (.inr ⟨h1, h2, h3, h4, h5, h6, hlen, h7⟩))))))
  | false =>
    have f3 := of_decide_eq_false h3
    have f6 := of_decide_eq_false h6
    have har : p[0].ar = args.length := by
      have : (args.length : Int) = p[0].ar := by simpa using h7
      exact this.symm
    have hpl : p.length ≤ 15 := by omega
    refine good c c2 s w hT h hz ha (X := false) (fun _ => ⟨by omega, hpl, fun f hf => ?_⟩) hR hQ (fun _ => ?_) (.inr (.inr (.inr (.inr (.inr (.inr ⟨h1, h2, h3, h4, h5, h6, hlen, h7⟩))))))
    · obtain ⟨_, q2, q3, q4⟩ := (mayF_iff f).1 (((mayP_iff p).1 hm).2.2 f hf)
      refine ⟨q2, q3, fun x hx e => ?_⟩
      have hs := (check_ok hc hf).spawn x hx e
      omega
    · have hw := eval_wrap hc hpl hlen har h5 (by omega)
      have hcs := evalP_cases (mvP (mainW args.length) p) args s 2100
      have hok := fun e0 => fuel_ok (p := p) (args := args) (s := useZ s 1 0) (fuel := 2000) e0
      rw [hR] at hw hok
      rw [hQ] at hw hcs
      simp only at hw hok
      rcases hw with hw | ⟨hw, hw2⟩ | ⟨hw, hw2⟩
      · exact .inl hw
      · refine .inr (.inl ⟨hw, ?_⟩)
        rcases hcs with ⟨q, _⟩ | ⟨_, ⟨q, _⟩ | ⟨o2, m2, q, _, _⟩⟩
        · simp only [zeroO, Prod.mk.injEq] at q
          rcases hw2 with hw2 | hw2
          · exact .inl hw2
          · omega
        · exact .inl (congrArg (fun R => R.2.2) q)
        · rcases hw2 with hw2 | hw2
          · exact .inl hw2
          · exact .inr ⟨hw2, congrArg (fun R => R.2.2) q⟩
      · obtain ⟨k1, k2, _⟩ := hok hw
        simp only [Prod.mk.injEq] at hw2
        exact .inr (.inr ⟨hw, hw2.2.2, hw2.1.1, hw2.1.2.1, hw2.1.2.2, by omega, k2, hw2.2.1⟩)
set_option maxRecDepth 100000 in
theorem entry {H : Type} {enc : TypeId × Value → H} (W : World) (base : Nat) (v0 : Value) (d0 : DataW H) (p0 : List MemPlace)
    (k0 : Value.okWide Tryz.prog W .any base 26 v0)
    (h0 : DataW.Trod enc Tryz.prog W 0 (fun _ => true) true 26 v0 d0 p0)
    (hT : TabB W W.heap.size) : Calls Tryz.prog 7 #[v0] W fun e w' => e = .returned (.bool true) ∧ Below W.heap.size W w' := by
  obtain ⟨A, c, P, A2, c2, args, s, rfl, hP, hz, hV⟩ := open_input k0 h0
  exact walk c c2 s W hT hP hz hV
end Go.Proofs.YtagjddnpaahebaaGreatDoor.seqWraps

/- SeqWraps: for every input that can be read the law returns true, and each argument reads afterwards as it read before, where the listed tables hold what their initialisers lay; the card ties them to the program's text. No condition. (Out of its walk, in YtagjddnpaahebaaGreatDoorL10wr2.) -/
namespace Go.Proofs.YtagjddnpaahebaaGreatDoor.seqWraps
open Go.ChangeShapes Go.WideShapes Go.ChangeAt Go.RowKit
set_option linter.unusedVariables false
set_option linter.unusedSimpArgs false

theorem own : ownKnob Tryz.prog.godebug = none := by kernel_rfl
theorem laidOut : laidOutB Tryz.prog = true := by kernel_rfl

set_option maxRecDepth 100000 in
theorem lifted (os : Os) (started : os.Started) (H : Type) (enc : TypeId × Value → H) :
    ReturnsInHanded {} Tryz.checked os 7 .any (fun w args => (Rows.seqWrapsSpec.pre enc Tryz.prog Tryz.f7 [] false w args ∧ laidMetH Tryz.prog Rows.seqWrapsRow.laid w) ∧ sizedMet enc Tryz.prog Tryz.f7 (OpenSpec.ofChange Rows.seqWrapsSpec) false w args) (Rows.seqWrapsSpec.post enc Tryz.prog Tryz.f7 false true false false) := by
  refine returnsInHanded_of_change_and (C := Tryz.checked) (X := fun w _ => laidMetH Tryz.prog Rows.seqWrapsRow.laid w) (fun _ _ _ hh h => h.of_heap hh) own started (by kernel_rfl) Tryz.func7
    (ChangeSpec.witness_shaped (enc := enc) (C := Tryz.checked) (os := os) (X := fun w _ => laidMetH Tryz.prog Rows.seqWrapsRow.laid w) false (World.laidAll Tryz.prog os Rows.seqWrapsRow.laid) #[.agg #[.slice none 0 0, .slice none 0 0, .int .i64 0]] 8 (World.laidAll_os _ _ _)
      (World.shaped_of_ZipB (by kernel_rfl) (by kernel_rfl)) (by kernel_rfl) (by kernel_rfl) (by kernel_rfl)
      (by rw [MakeChecks.laidMetH_plain _ _ _ (by kernel_rfl)]; exact laidMet_laidAll _ (by kernel_rfl) (by kernel_rfl))) ?_
  intro W base args ds gs before hval0 hW _ _ hL _
  have hval : ∀ (j : Nat) t v, Tryz.f7.params[j]? = some t → args[j]? = some v → Value.okWide Tryz.prog W .any base t v := hval0
  have hW' := hW
  have hlt : ∀ x ∈ before, x.block < W.heap.size := fun x hx => hW.lt x hx
  obtain ⟨p, q, hA0, hV, rfl, hfz, hnd⟩ := hW
  have hA : DataW.TrodAll enc Tryz.prog W 0 (fun _ => true) true Tryz.f7.params.toList args.toList ds p := hA0
  have hA1 := hA
  rw [Tryz.params7] at hA hval
  obtain ⟨v0, vs0, d0, ds0, p0, q0, hargs, rfl, rfl, h0, r0⟩ := trodAll_cons hA
  obtain ⟨rfl, rfl, rfl⟩ := trodAll_nil r0
  obtain rfl : args = #[v0] := by cases args; simp_all
  obtain ⟨rfl, rfl⟩ := trodVars_none hV
  clear hA0 hval0
  simp only [List.append_nil] at hW' hlt hA1
  rw [MakeChecks.laidMetH_plain _ _ _ (by kernel_rfl)] at hL
  have hO : Otab W := otab_of_laid (show laidMet Tryz.prog (("transhumance/op.operations", Rows.laid_transhumance_op_operations) :: _) W from hL)
  have hN : Nob W := nob_of_laid (show laidMet Tryz.prog (("transhumance/frame.nobody", Rows.laid_transhumance_frame_nobody) :: _) W from hL.tail)
  have hT := tabB_of hO hN
  refine (entry W base v0 d0 p0 (hval 0 26 v0 rfl rfl) h0 hT).mono fun e W' ⟨he, hg⟩ => ?_
  subst he
  exact ⟨_, rfl, post_kept (pv := []) hW' hg (fun _ _ _ => (trodAll_cons_mk (shut_bool Tryz.underlying4 _) trodAll_mk0)) (fun sp hsp => trodAll_kept laidOut hg (by rw [Tryz.params7]; exact (List.forall_mem_cons.2 ⟨⟨by kernel_rfl, of_decide_eq_true (by kernel_rfl)⟩, (List.forall_mem_nil _)⟩)) hA1 hlt sp hsp) (fun _ _ => rfl) (by simp) (ok_one (by kernel_rfl) rfl (okWide_bool_mk Tryz.underlying4 _))⟩

theorem over : Rows.seqWrapsRow.holds Tryz.pinned (OpenSpec.ofChange Rows.seqWrapsSpec) :=
  OpenClaim.holds_of_wide 7 Tryz.f7 rfl rfl rfl rfl rfl rfl rfl ⟨rfl, rfl, rfl, rfl, rfl⟩ rfl rfl rfl rfl rfl (by kernel_rfl) Tryz.func7 (by kernel_rfl)
    (of_decide_eq_true (by kernel_rfl)) (by unfold Func.isWrapper; first | (rw [if_pos (by decide +kernel)]; kernel_rfl) | (rw [if_neg (by decide +kernel)]; exact ⟨rfl, rfl⟩))
    (fun os started H enc _ => lifted os started H enc)

theorem proved : Rows.SeqWrapsCardSaid :=
  Claim7.holds_tied_plain_at .later [] [.data, .data] true (true, "e4409b263f599389986b033081a2183f9adaeedb8d588c3343f325c2b68c4346") true over (fun _ h => by cases h) (by kernel_rfl) (fun _ h => by cases h) seqWraps_row_tie rfl ⟨rfl, rfl⟩ (by kernel_rfl) rfl
    (fun f fn hf hfn => by
      obtain rfl : f = 7 := Option.some.inj ((show Tryz.prog.funcNamed "transhumance/transhumancelaw10.SeqWraps" = some 7 by kernel_rfl).symm.trans hf) |>.symm
      obtain rfl : fn = Tryz.f7 := (Option.some.inj (Tryz.func7.symm.trans hfn)).symm
      exact ⟨by kernel_rfl, fun j t ht => by
        rw [Tryz.params7] at ht
        have hm : t ∈ [26] := by simpa using Array.mem_of_getElem? ht
        have hall : ([26].all fun u => !Tryz.prog.wantsStandIn u) = true := by kernel_rfl
        exact (show Tryz.prog.wantsStandIn t = false by simpa using List.all_eq_true.1 hall t hm)⟩)
    (by kernel_rfl)
end Go.Proofs.YtagjddnpaahebaaGreatDoor.seqWraps

