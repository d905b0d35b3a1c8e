/- A text's attributes. The listed errors and the table are tied to the program's text. No condition. -/
import Derived.Test.YtongclfpidnibaaDoorLawAtA
import Derived.Test.YtongclfpidnibaaDoorLaidAt
import Derived.Test.YtongclfpidnibaaDoorTie
import Derived.Test.YtongclfpidnibaaDoorCards
import Derived.ProofKit
import Derived.SevenTiedAt
import Derived.ShutString
import Derived.OpenShut
namespace Go.Proofs.YtongclfpidnibaaDoor.attrParses
open Go.ChangeShapes Go.WideShapes Go.ChangeAt Go.RowKit Go.Maps Go.Deep
open Go.ChangeMaps (open_string shut_string)

def lst : List (String × DataW Unit) := Rows.attrParsesRow.laid
theorem lst_plain (W : World) : laidMetH Tryd.prog lst W = laidMet Tryd.prog lst W := MakeChecks.laidMetH_plain _ _ _ (by kernel_rfl)
theorem lst_err : lst.filter (fun x => allSn.any fun q => q.name == x.1) = allSn.map Sn.laid := by kernel_rfl
theorem lst_let : lst.filter isLetV = [("millwright/attr.letters", letD)] := by kernel_rfl
set_option maxRecDepth 100000 in
theorem lst_met (os : Os) (args : Array Value) : laidMet Tryd.prog lst ((laidWorldX lst os).forCall (fun _ _ => 0) ⟨#[], args, []⟩).memory :=
  laidMet_of_run3 8 (by kernel_rfl) (by kernel_rfl) (by kernel_rfl)
theorem own : ownKnob Tryd.prog.godebug = none := by kernel_rfl
theorem laidOut : laidOutB Tryd.prog = true := by kernel_rfl
theorem laid_is : Rows.attrParsesRow.laid = lst := rfl

set_option maxRecDepth 100000 in
theorem lifted (os : Os) (started : os.Started) (H : Type) (enc : TypeId × Value → H) :
    ReturnsInHanded {} Tryd.checked os 3 .any (fun w args => (Rows.attrParsesSpec.pre enc Tryd.prog Tryd.f3 [] false w args ∧ laidMetH Tryd.prog Rows.attrParsesRow.laid w) ∧ sizedMet enc Tryd.prog Tryd.f3 (OpenSpec.ofChange Rows.attrParsesSpec) false w args)
      (Rows.attrParsesSpec.post enc Tryd.prog Tryd.f3 false true false false) := by
  refine handed_shaped (C := Tryd.checked) (X := fun w _ => laidMetH Tryd.prog Rows.attrParsesRow.laid w) (fun _ _ _ hh h => h.of_heap hh) own started (by kernel_rfl) Tryd.func3
    (ChangeSpec.witness_at (enc := enc) (C := Tryd.checked) (os := os) (X := fun w _ => laidMetH Tryd.prog Rows.attrParsesRow.laid w) false (laidWorldX lst os) #[.string ByteArray.empty] 8 rfl (by kernel_rfl) (by kernel_rfl) (by kernel_rfl) (by kernel_rfl) (by kernel_rfl) (by rw [laid_is, lst_plain]; exact lst_met os _)) ?_
  intro W base args ds gs before hval0 hW hL hsh
  have hM := max_of hsh
  rw [laid_is, lst_plain] at hL
  have hval : ∀ (j : Nat) t v, Tryd.f3.params[j]? = some t → args[j]? = some v → Value.okWide Tryd.prog W .any base t v := hval0
  have hW' := hW
  obtain ⟨p, q, hA0, hV0, rfl, hfz, hnd⟩ := hW
  have hA : DataW.TrodAll enc Tryd.prog W 0 (fun _ => true) true Tryd.f3.params.toList args.toList ds p := hA0
  rw [Tryd.params3] at hA hval
  obtain ⟨v0, vs0, d0, ds0, p0, q0, hargs, rfl, rfl, h0, r0⟩ := trodAll_cons hA
  obtain ⟨rfl, rfl, rfl⟩ := trodAll_nil r0
  obtain rfl : args = #[v0] := by cases args; simp_all
  obtain ⟨rfl, rfl⟩ := trodVars_none hV0
  obtain ⟨s0, rfl, rfl, rfl, w0⟩ := open_string Tryd.underlying9 (hval 0 9 v0 rfl rfl) h0
  obtain ⟨A, hE, hN⟩ := sents_of_laid (L := allSn) (by decide) allSn_ok (by rw [← lst_err]; exact hL.filter _)
  have hL8 := let_of_laid (by rw [← lst_let]; exact hL.filter isLetV)
  clear hA0 hval0
  refine (lAttrParses A s0 W ⟨at_env hE two_in hL8 hM, hE, hN⟩).mono fun e W' ⟨he, g⟩ => ?_
  have bel := below_of_grown g
  subst he
  exact ⟨_, rfl, _, _, _, [], _, [], hW', trodAll_mk1 (shut_bool Tryd.underlying4 _), (trodAll_cons_mk (shut_string Tryd.underlying9 w0) trodAll_mk0), rfl, bel.frame _, fun h => by cases h⟩

theorem over : Rows.AttrParsesSaid :=
  OpenClaim.holds_of_wide 3 Tryd.f3 rfl rfl rfl rfl rfl rfl rfl ⟨rfl, rfl, rfl, rfl, rfl⟩ rfl rfl rfl rfl rfl (by kernel_rfl) Tryd.func3 (by kernel_rfl)
    (of_decide_eq_true (by kernel_rfl)) (by unfold Func.isWrapper; first | (rw [if_pos (by decide +kernel)]; kernel_rfl) | (rw [if_neg (by decide +kernel)]; exact ⟨rfl, rfl⟩))
    (fun os started H enc _ => lifted os started H enc)

theorem proved : Rows.AttrParsesCardSaid :=
  Claim7.holds_tied_plain_at .later [] _ true Rows.attrParsesCard.stood.harness true
    over (fun _ h => by cases h) (by kernel_rfl) (fun _ h => by cases h) attrParses_row_tie rfl ⟨rfl, rfl⟩ (by kernel_rfl) rfl
    (fun f fn hf hfn => by
      obtain rfl : f = 3 := Option.some.inj ((show Tryd.prog.funcNamed "millwright/millwrightlaw18.AttrParses" = some 3 by kernel_rfl).symm.trans hf) |>.symm
      obtain rfl : fn = Tryd.f3 := (Option.some.inj (Tryd.func3.symm.trans hfn)).symm
      exact ⟨by kernel_rfl, fun j t ht => by
        rw [Tryd.params3] at ht
        have h3 : t = 9 := by
          rcases j with _ | j
          · simp at ht; simp [ht]
          · simp at ht
        subst h3
        · exact (show Tryd.prog.wantsStandIn 9 = false by kernel_rfl)⟩)
    (by kernel_rfl)
end Go.Proofs.YtongclfpidnibaaDoor.attrParses
