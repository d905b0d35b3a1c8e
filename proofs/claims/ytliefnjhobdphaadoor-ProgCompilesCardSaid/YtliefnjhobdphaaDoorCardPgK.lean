/- Which nodes are right, how long their codes are, and their programs, just as the document's own. The listed errors and the table are tied to the program's text. No condition on the node. -/
import Derived.Test.YtliefnjhobdphaaDoorLawPgK
import Derived.Test.YtliefnjhobdphaaDoorLaidPg
import Derived.Test.YtliefnjhobdphaaDoorTie
import Derived.Test.YtliefnjhobdphaaDoorCards
import Derived.ProofKit
import Derived.SevenTiedAt
import Derived.ShutString
import Derived.OpenShut
namespace Go.Proofs.YtliefnjhobdphaaDoor.progCompiles
open Go.ChangeShapes Go.WideShapes Go.ChangeAt Go.RowKit Go.Maps Go.Deep
open Go.ChangeMaps (open_string shut_string)

def lst : List (String × DataW Unit) := Rows.progCompilesRow.laid
theorem lst_plain (W : World) : laidMetH Tryd.prog lst W = laidMet Tryd.prog lst W := MakeChecks.laidMetH_plain _ _ _ (by kernel_rfl)
theorem lst_err : lst.filter (fun x => allSn.any fun q => q.name == x.1) = allSn.map Sn.laid := by kernel_rfl
theorem lst_rep : lst.filter isRepV = [("millwright/rex.repeats", repD)] := by kernel_rfl
set_option maxRecDepth 100000 in
theorem lst_met (os : Os) (args : Array Value) : laidMet Tryd.prog lst ((laidWorldX lst os).forCall (fun _ _ => 0) ⟨#[], args, []⟩).memory :=
  laidMet_of_run3 8 (by kernel_rfl) (by kernel_rfl) (by kernel_rfl)
theorem own : ownKnob Tryd.prog.godebug = none := by kernel_rfl
theorem laidOut : laidOutB Tryd.prog = true := by kernel_rfl
theorem laid_is : Rows.progCompilesRow.laid = lst := rfl
theorem lp_in : ∀ x ∈ LP, ∃ q ∈ allSn, (q.num, q.g) = x := by decide

set_option maxRecDepth 100000 in
theorem lifted (os : Os) (started : os.Started) (H : Type) (enc : TypeId × Value → H) :
    ReturnsInHanded {} Tryd.checked os 4 .any (fun w args => (Rows.progCompilesSpec.pre enc Tryd.prog Tryd.f4 [] false w args ∧ laidMetH Tryd.prog Rows.progCompilesRow.laid w) ∧ sizedMet enc Tryd.prog Tryd.f4 (OpenSpec.ofChange Rows.progCompilesSpec) false w args)
      (Rows.progCompilesSpec.post enc Tryd.prog Tryd.f4 false true false false) := by
  refine returnsInHanded_of_change_and (C := Tryd.checked) (X := fun w _ => laidMetH Tryd.prog Rows.progCompilesRow.laid w) (fun _ _ _ hh h => h.of_heap hh) own started (by kernel_rfl) Tryd.func4
    (ChangeSpec.witness_at (enc := enc) (C := Tryd.checked) (os := os) (X := fun w _ => laidMetH Tryd.prog Rows.progCompilesRow.laid w) false (laidWorldX lst os) #[.agg #[.int .i64 0, .int .i64 0, .int .u64 0, .int .u64 0, .int .u64 0, .int .u64 0, .slice none 0 0]] 8 rfl (by kernel_rfl) (by kernel_rfl) (by kernel_rfl) (by kernel_rfl) (by kernel_rfl) (by rw [laid_is, lst_plain]; exact lst_met os _)) ?_
  intro W base args ds gs before hval0 hW _ _ hL _
  rw [laid_is, lst_plain] at hL
  have hval : ∀ (j : Nat) t v, Tryd.f4.params[j]? = some t → args[j]? = some v → Value.okWide Tryd.prog W .any base t v := hval0
  have hW' := hW
  obtain ⟨p, q, hA0, hV0, rfl, hfz, hnd⟩ := hW
  have hA : DataW.TrodAll enc Tryd.prog W 0 (fun _ => true) true Tryd.f4.params.toList args.toList ds p := hA0
  rw [Tryd.params4] at hA hval
  obtain ⟨v0, vs0, d0, ds0, p0, q0, hargs, rfl, rfl, h0, r0⟩ := trodAll_cons hA
  obtain ⟨rfl, rfl, rfl⟩ := trodAll_nil r0
  obtain rfl : args = #[v0] := by cases args; simp_all
  obtain ⟨rfl, rfl⟩ := trodVars_none hV0
  obtain ⟨cs0, rfl⟩ : ∃ cs, v0 = .agg cs := by
    have := hval 0 44 v0 rfl rfl
    cases v0 <;> simp [Value.okWide, Tryd.underlying44] at this
    exact ⟨_, rfl⟩
  obtain ⟨n, a0, m0, c0, hcs, hk⟩ : ∃ (n : Ni) (a : Option Addr) (m c : Nat), cs0.toList = cellsN n (.slice a m c) ∧ KidsE W (.slice a m c) n.kids := by
    obtain ⟨fuel, hf⟩ := h0
    exact node_of_trod fuel fuel _ _ (Nat.le_refl _) hf
  obtain ⟨l0⟩ := cs0
  have hcs : l0 = cellsN n (.slice a0 m0 c0) := hcs
  subst hcs
  have lt0 : ∀ x ∈ p0, x.block < W.heap.size := by obtain ⟨m, hm⟩ := h0; exact DataW.trod_lt m _ _ _ hm
  obtain ⟨A, hE, hN1, hN2⟩ := penv_of_laid allSn (by decide) allSn_ok all_L3 lst_err lst_rep hL
  have hQ : QEnv A W := ⟨hE, fun x hx => by
    obtain ⟨q, hq, rfl⟩ := lp_in x hx
    exact (hN1 q hq).1⟩
  clear hA0 hval0
  refine (lProgCompiles A n a0 m0 c0 W hQ ⟨hN1, hN2⟩ hk).mono fun e W' ⟨he, g⟩ => ?_
  have bel := below_of_grown g
  subst he
  exact ⟨_, rfl, _, _, _, [], _, [], hW', trodAll_mk1 (shut_bool Tryd.underlying4 _), (trodAll_cons_mk (Below.trod laidOut (by kernel_rfl) (of_decide_eq_true (by kernel_rfl)) h0 bel lt0) trodAll_mk0), rfl, bel.frame _, fun h => by cases h⟩

theorem over : Rows.ProgCompilesSaid :=
  OpenClaim.holds_of_wide 4 Tryd.f4 rfl rfl rfl rfl rfl rfl rfl ⟨rfl, rfl, rfl, rfl, rfl⟩ rfl rfl rfl rfl rfl (by kernel_rfl) Tryd.func4 (by kernel_rfl)
    (of_decide_eq_true (by kernel_rfl)) (by unfold Func.isWrapper; first | (rw [if_pos (by decide +kernel)]; kernel_rfl) | (rw [if_neg (by decide +kernel)]; exact ⟨rfl, rfl⟩))
    (fun os started H enc _ => lifted os started H enc)

theorem proved : Rows.ProgCompilesCardSaid :=
  Claim7.holds_tied_plain_at .later [] _ true Rows.progCompilesCard.stood.harness true
    over (fun _ h => by cases h) (by kernel_rfl) (fun _ h => by cases h) progCompiles_row_tie rfl ⟨rfl, rfl⟩ (by kernel_rfl) rfl
    (fun f fn hf hfn => by
      obtain rfl : f = 4 := Option.some.inj ((show Tryd.prog.funcNamed "millwright/millwrightlaw08.ProgCompiles" = some 4 by kernel_rfl).symm.trans hf) |>.symm
      obtain rfl : fn = Tryd.f4 := (Option.some.inj (Tryd.func4.symm.trans hfn)).symm
      exact ⟨by kernel_rfl, fun j t ht => by
        rw [Tryd.params4] at ht
        have h3 : t = 44 := by
          rcases j with _ | j
          · simpa using ht.symm
          · simp at ht
        rw [h3]
        exact (show Tryd.prog.wantsStandIn 44 = false by kernel_rfl)⟩)
    (by kernel_rfl)
end Go.Proofs.YtliefnjhobdphaaDoor.progCompiles
