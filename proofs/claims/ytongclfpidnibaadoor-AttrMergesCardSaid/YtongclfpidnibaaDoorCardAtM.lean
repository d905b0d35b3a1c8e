/- Any two attributes together. The listed errors and the table are tied to the program's text. No condition. -/
import Derived.Test.YtongclfpidnibaaDoorLawAtM
import Derived.Test.YtongclfpidnibaaDoorLaidAt
import Derived.Test.YtongclfpidnibaaDoorTie
import Derived.Test.YtongclfpidnibaaDoorCards
import Derived.ProofKit
import Derived.SevenTiedAt
import Derived.ShutString
import Derived.OpenShut
namespace Go.Proofs.YtongclfpidnibaaDoor.attrMerges
open Go.ChangeShapes Go.WideShapes Go.ChangeAt Go.RowKit Go.Maps Go.Deep

def lst : List (String × DataW Unit) := Rows.attrMergesRow.laid
theorem lst_plain (W : World) : laidMetH Tryd.prog lst W = laidMet Tryd.prog lst W := MakeChecks.laidMetH_plain _ _ _ (by kernel_rfl)
theorem lst_err : lst.filter (fun x => twoSn.any fun q => q.name == x.1) = twoSn.map Sn.laid := by kernel_rfl
theorem lst_let : lst.filter isLetV = [("millwright/attr.letters", letD)] := by kernel_rfl
set_option maxRecDepth 100000 in
theorem lst_met (os : Os) (args : Array Value) : laidMet Tryd.prog lst ((laidWorldX lst os).forCall (fun _ _ => 0) ⟨#[], args, []⟩).memory :=
  laidMet_of_run3 8 (by kernel_rfl) (by kernel_rfl) (by kernel_rfl)
theorem own : ownKnob Tryd.prog.godebug = none := by kernel_rfl
theorem laidOut : laidOutB Tryd.prog = true := by kernel_rfl
theorem laid_is : Rows.attrMergesRow.laid = lst := rfl

set_option maxRecDepth 100000 in
theorem lifted (os : Os) (started : os.Started) (H : Type) (enc : TypeId × Value → H) :
    ReturnsInHanded {} Tryd.checked os 5 .any (fun w args => (Rows.attrMergesSpec.pre enc Tryd.prog Tryd.f5 [] false w args ∧ laidMetH Tryd.prog Rows.attrMergesRow.laid w) ∧ sizedMet enc Tryd.prog Tryd.f5 (OpenSpec.ofChange Rows.attrMergesSpec) false w args)
      (Rows.attrMergesSpec.post enc Tryd.prog Tryd.f5 false true false false) := by
  refine handed_shaped (C := Tryd.checked) (X := fun w _ => laidMetH Tryd.prog Rows.attrMergesRow.laid w) (fun _ _ _ hh h => h.of_heap hh) own started (by kernel_rfl) Tryd.func5
    (ChangeSpec.witness_at (enc := enc) (C := Tryd.checked) (os := os) (X := fun w _ => laidMetH Tryd.prog Rows.attrMergesRow.laid w) false (laidWorldX lst os) #[.agg #[.int .i64 0, .string ByteArray.empty], .agg #[.int .i64 0, .string ByteArray.empty]] 8 rfl (by kernel_rfl) (by kernel_rfl) (by kernel_rfl) (by kernel_rfl) (by kernel_rfl) (by rw [laid_is, lst_plain]; exact lst_met os _)) ?_
  intro W base args ds gs before hval0 hW hL hsh
  have hM := max_of hsh
  rw [laid_is, lst_plain] at hL
  have hval : ∀ (j : Nat) t v, Tryd.f5.params[j]? = some t → args[j]? = some v → Value.okWide Tryd.prog W .any base t v := hval0
  have hW' := hW
  obtain ⟨p, q, hA0, hV0, rfl, hfz, hnd⟩ := hW
  have hA : DataW.TrodAll enc Tryd.prog W 0 (fun _ => true) true Tryd.f5.params.toList args.toList ds p := hA0
  rw [Tryd.params5] at hA hval
  obtain ⟨v0, vs0, d0, ds0, p0, q0, hargs, rfl, rfl, h0, r0⟩ := trodAll_cons hA
  obtain ⟨v1, vs1, d1, ds1, p1, q1, rfl, rfl, rfl, h1, r1⟩ := trodAll_cons r0
  obtain ⟨rfl, rfl, rfl⟩ := trodAll_nil r1
  obtain rfl : args = #[v0, v1] := by cases args; simp_all
  obtain ⟨rfl, rfl⟩ := trodVars_none hV0
  obtain ⟨cs0, rfl⟩ : ∃ cs, v0 = .agg cs := by
    have := hval 0 24 v0 rfl rfl
    cases v0 <;> simp [Value.okWide, Tryd.underlying24] at this
    exact ⟨_, rfl⟩
  obtain ⟨f0, t0, hcs0, hb0⟩ : ∃ (f : Int) (t : ByteArray), cs0.toList = [.int .i64 f, .string t] ∧ -9223372036854775808 ≤ f ∧ f ≤ 9223372036854775807 := by
    obtain ⟨fuel, hf⟩ := h0
    exact at_of_trod hf
  obtain ⟨l0⟩ := cs0
  have hcs0 : l0 = [.int .i64 f0, .string t0] := hcs0
  subst hcs0
  have lt0 : ∀ x ∈ p0, x.block < W.heap.size := by obtain ⟨m, hm⟩ := h0; exact DataW.trod_lt m _ _ _ hm
  obtain ⟨cs1, rfl⟩ : ∃ cs, v1 = .agg cs := by
    have := hval 1 24 v1 rfl rfl
    cases v1 <;> simp [Value.okWide, Tryd.underlying24] at this
    exact ⟨_, rfl⟩
  obtain ⟨f1, t1, hcs1, hb1⟩ : ∃ (f : Int) (t : ByteArray), cs1.toList = [.int .i64 f, .string t] ∧ -9223372036854775808 ≤ f ∧ f ≤ 9223372036854775807 := by
    obtain ⟨fuel, hf⟩ := h1
    exact at_of_trod hf
  obtain ⟨l1⟩ := cs1
  have hcs1 : l1 = [.int .i64 f1, .string t1] := hcs1
  subst hcs1
  have lt1 : ∀ x ∈ p1, x.block < W.heap.size := by obtain ⟨m, hm⟩ := h1; exact DataW.trod_lt m _ _ _ hm
  obtain ⟨A, hE, hN⟩ := sents_of_laid (L := twoSn) (by decide) twoSn_ok (by rw [← lst_err]; exact hL.filter _)
  have hL8 := let_of_laid (by rw [← lst_let]; exact hL.filter isLetV)
  clear hA0 hval0
  refine (lAttrMerges A f0 f1 t0 t1 W (at_env hE (fun _ h => h) hL8 hM) hb0 hb1).mono fun e W' ⟨he, g⟩ => ?_
  have bel := below_of_grown g
  subst he
  exact ⟨_, rfl, _, _, _, [], _, [], hW', trodAll_mk1 (shut_bool Tryd.underlying4 _), (trodAll_cons_mk (Below.trod laidOut (by kernel_rfl) (of_decide_eq_true (by kernel_rfl)) h0 bel lt0) (trodAll_cons_mk (Below.trod laidOut (by kernel_rfl) (of_decide_eq_true (by kernel_rfl)) h1 bel lt1) trodAll_mk0)), rfl, bel.frame _, fun h => by cases h⟩

theorem over : Rows.AttrMergesSaid :=
  OpenClaim.holds_of_wide 5 Tryd.f5 rfl rfl rfl rfl rfl rfl rfl ⟨rfl, rfl, rfl, rfl, rfl⟩ rfl rfl rfl rfl rfl (by kernel_rfl) Tryd.func5 (by kernel_rfl)
    (of_decide_eq_true (by kernel_rfl)) (by unfold Func.isWrapper; first | (rw [if_pos (by decide +kernel)]; kernel_rfl) | (rw [if_neg (by decide +kernel)]; exact ⟨rfl, rfl⟩))
    (fun os started H enc _ => lifted os started H enc)

theorem proved : Rows.AttrMergesCardSaid :=
  Claim7.holds_tied_plain_at .later [] _ true Rows.attrMergesCard.stood.harness true
    over (fun _ h => by cases h) (by kernel_rfl) (fun _ h => by cases h) attrMerges_row_tie rfl ⟨rfl, rfl⟩ (by kernel_rfl) rfl
    (fun f fn hf hfn => by
      obtain rfl : f = 5 := Option.some.inj ((show Tryd.prog.funcNamed "millwright/millwrightlaw18.AttrMerges" = some 5 by kernel_rfl).symm.trans hf) |>.symm
      obtain rfl : fn = Tryd.f5 := (Option.some.inj (Tryd.func5.symm.trans hfn)).symm
      exact ⟨by kernel_rfl, fun j t ht => by
        rw [Tryd.params5] at ht
        have h3 : t = 24 := by
          rcases j with _ | j
          · simp at ht; simp [ht]
          rcases j with _ | j
          · simp at ht; simp [ht]
          · simp at ht
        subst h3
        · exact (show Tryd.prog.wantsStandIn 24 = false by kernel_rfl)⟩)
    (by kernel_rfl)
end Go.Proofs.YtongclfpidnibaaDoor.attrMerges
