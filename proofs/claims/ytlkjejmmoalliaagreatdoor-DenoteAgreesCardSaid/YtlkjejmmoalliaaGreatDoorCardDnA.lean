/- A text is in an expression's language just if layer 9 matches it. The listed errors and the table are tied to the program's text. No condition. -/
import Derived.Test.YtlkjejmmoalliaaGreatDoorLawDnA
import Derived.Test.YtlkjejmmoalliaaGreatDoorLaidPk
import Derived.Test.YtlkjejmmoalliaaGreatDoorTie
import Derived.Test.YtlkjejmmoalliaaGreatDoorCards
import Derived.ProofKit
import Derived.SevenTiedAt
import Derived.ShutString
import Derived.OpenShut
namespace Go.Proofs.YtlkjejmmoalliaaGreatDoor.denoteAgrees
open Go.ChangeShapes Go.WideShapes Go.ChangeAt Go.RowKit Go.Maps Go.Deep
open Go.ChangeMaps (open_string shut_string)

def lst : List (String × DataW Unit) := Rows.denoteAgreesRow.laid
theorem lst_plain (W : World) : laidMetH Tryz.prog lst W = laidMet Tryz.prog lst W := MakeChecks.laidMetH_plain _ _ _ (by kernel_rfl)
theorem lst_err : lst.filter (fun x => four9.any fun q => q.name == x.1) = four9.map Sn.laid := by kernel_rfl
theorem lst_rep : lst.filter isRepV = [("millwright/rex.repeats", repD)] := by kernel_rfl
set_option maxRecDepth 100000 in
theorem lst_met (os : Os) (args : Array Value) : laidMet Tryz.prog lst ((laidWorldX lst os).forCall (fun _ _ => 0) ⟨#[], args, []⟩).memory :=
  laidMet_of_run3 8 (by kernel_rfl) (by kernel_rfl) (by kernel_rfl)
theorem own : ownKnob Tryz.prog.godebug = none := by kernel_rfl
theorem laidOut : laidOutB Tryz.prog = true := by kernel_rfl
theorem laid_is : Rows.denoteAgreesRow.laid = lst := rfl
theorem lp_in : ∀ x ∈ LP, ∃ q ∈ four9, (q.num, q.g) = x := by decide

set_option maxRecDepth 100000 in
theorem lifted (os : Os) (started : os.Started) (H : Type) (enc : TypeId × Value → H) :
    ReturnsInHanded {} Tryz.checked os 3 .any (fun w args => (Rows.denoteAgreesSpec.pre enc Tryz.prog Tryz.f3 [] false w args ∧ laidMetH Tryz.prog Rows.denoteAgreesRow.laid w) ∧ sizedMet enc Tryz.prog Tryz.f3 (OpenSpec.ofChange Rows.denoteAgreesSpec) false w args)
      (Rows.denoteAgreesSpec.post enc Tryz.prog Tryz.f3 false true false false) := by
  refine returnsInHanded_of_change_and (C := Tryz.checked) (X := fun w _ => laidMetH Tryz.prog Rows.denoteAgreesRow.laid w) (fun _ _ _ hh h => h.of_heap hh) own started (by kernel_rfl) Tryz.func3
    (ChangeSpec.witness_at (enc := enc) (C := Tryz.checked) (os := os) (X := fun w _ => laidMetH Tryz.prog Rows.denoteAgreesRow.laid w) false (laidWorldX lst os) #[.string ByteArray.empty, .string ByteArray.empty] 8 rfl (by kernel_rfl) (by kernel_rfl) (by kernel_rfl) (by kernel_rfl) (by kernel_rfl) (by rw [laid_is, lst_plain]; exact lst_met os _)) ?_
  intro W base args ds gs before hval0 hW _ _ hL _
  rw [laid_is, lst_plain] at hL
  have hval : ∀ (j : Nat) t v, Tryz.f3.params[j]? = some t → args[j]? = some v → Value.okWide Tryz.prog W .any base t v := hval0
  have hW' := hW
  obtain ⟨p, q, hA0, hV0, rfl, hfz, hnd⟩ := hW
  have hA : DataW.TrodAll enc Tryz.prog W 0 (fun _ => true) true Tryz.f3.params.toList args.toList ds p := hA0
  rw [Tryz.params3] at hA hval
  obtain ⟨v0, vs0, d0, ds0, p0, q0, hargs, rfl, rfl, h0, r0⟩ := trodAll_cons hA
  obtain ⟨v1, vs1, d1, ds1, p1, q1, rfl, rfl, rfl, h1, r1⟩ := trodAll_cons r0
  obtain ⟨rfl, rfl, rfl⟩ := trodAll_nil r1
  obtain rfl : args = #[v0, v1] := by cases args; simp_all
  obtain ⟨rfl, rfl⟩ := trodVars_none hV0
  obtain ⟨s0, rfl, rfl, rfl, w0⟩ := open_string Tryz.underlying9 (hval 0 9 v0 rfl rfl) h0
  obtain ⟨s1, rfl, rfl, rfl, w1⟩ := open_string Tryz.underlying9 (hval 1 9 v1 rfl rfl) h1
  obtain ⟨A, hE, hN1, hN2⟩ := penv_of_laid four9 (by decide) four9_ok four9_L3 lst_err lst_rep hL
  have hQ : QEnv A W := ⟨hE, fun x hx => by
    obtain ⟨q, hq, rfl⟩ := lp_in x hx
    exact (hN1 q hq).1⟩
  clear hA0 hval0
  refine (lDenoteAgrees A s0 s1 W hQ).mono fun e W' ⟨he, g⟩ => ?_
  have bel := below_of_grown g
  subst he
  exact ⟨_, rfl, _, _, _, [], _, [], hW', trodAll_mk1 (shut_bool Tryz.underlying4 _), (trodAll_cons_mk (shut_string Tryz.underlying9 w0) (trodAll_cons_mk (shut_string Tryz.underlying9 w1) trodAll_mk0)), rfl, bel.frame _, fun h => by cases h⟩

theorem over : Rows.DenoteAgreesSaid :=
  OpenClaim.holds_of_wide 3 Tryz.f3 rfl rfl rfl rfl rfl rfl rfl ⟨rfl, rfl, rfl, rfl, rfl⟩ rfl rfl rfl rfl rfl (by kernel_rfl) Tryz.func3 (by kernel_rfl)
    (of_decide_eq_true (by kernel_rfl)) (by unfold Func.isWrapper; first | (rw [if_pos (by decide +kernel)]; kernel_rfl) | (rw [if_neg (by decide +kernel)]; exact ⟨rfl, rfl⟩))
    (fun os started H enc _ => lifted os started H enc)

theorem proved : Rows.DenoteAgreesCardSaid :=
  Claim7.holds_tied_plain_at .later [] _ true Rows.denoteAgreesCard.stood.harness true
    over (fun _ h => by cases h) (by kernel_rfl) (fun _ h => by cases h) denoteAgrees_row_tie rfl ⟨rfl, rfl⟩ (by kernel_rfl) rfl
    (fun f fn hf hfn => by
      obtain rfl : f = 3 := Option.some.inj ((show Tryz.prog.funcNamed "millwright/millwrightlaw10.DenoteAgrees" = some 3 by kernel_rfl).symm.trans hf) |>.symm
      obtain rfl : fn = Tryz.f3 := (Option.some.inj (Tryz.func3.symm.trans hfn)).symm
      exact ⟨by kernel_rfl, fun j t ht => by
        rw [Tryz.params3] at ht
        have h3 : t = 9 := by
          rcases j with _ | j
          · simp at ht; simp [ht]
          rcases j with _ | j
          · simp at ht; simp [ht]
          · simp at ht
        subst h3
        · exact (show Tryz.prog.wantsStandIn 9 = false by kernel_rfl)⟩)
    (by kernel_rfl)
end Go.Proofs.YtlkjejmmoalliaaGreatDoor.denoteAgrees
