/- What layer 11's laws list; a list of texts and a byte that came in. -/
import Derived.Test.YtaihpgjimhifcaaDoorLaidErr
import Derived.Test.YtaihpgjimhifcaaDoorQtOut
import Derived.ProofKit
import Derived.OpenShut
import Derived.ShutString
import Derived.ChangeOld
import Derived.Handed
import Derived.Shelf.Vars
namespace Go.Proofs.YtaihpgjimhifcaaDoor
open Go.RowKit Go.Maps Go.ChangeShapes Go.WideShapes Go.Deep

/-- the one error of a quote that has no end -/
def oneQ : List Sn := allSn.filter fun q => q.num == 5
theorem oneQ_ok : ∀ q ∈ oneQ, q.ok := fun q hq => allSn_ok q (List.mem_filter.1 hq).1
theorem byte_of {i : Int} (h : (Lit.int .u8 i).wf = true) : ∃ b : UInt8, i = b.toNat := by
  have h : 0 ≤ i ∧ i ≤ 255 := by
    unfold Lit.wf at h
    rw [Bool.and_eq_true, decide_eq_true_eq, decide_eq_true_eq] at h
    exact ⟨h.1, h.2⟩
  exact ⟨UInt8.ofNat i.toNat, by rw [UInt8.toNat_ofNat']; omega⟩
/-- from a walk to a row that lists variables, the world's shape handed on -/
theorem handed_shaped {H : Type} {enc : TypeId × Value → H} {C : Checked} {os : Os} {f : FuncId} {fn : Func} {s : ChangeSpec} {X : World → Array Value → Prop}
    (hX : ∀ (u v : World) (args : Array Value), u.heap = v.heap → X u args → X v args) (own : ownKnob C.prog.godebug = none) (started : os.Started) (noInit : C.prog.inits.idxOf? f = none) (hfn : C.prog.funcs[f]? = some fn)
    (wit : ∃ (w : World) (tape : Tape) (i : Input), w.os = os ∧ (w.forCall tape i).Shaped C.prog ∧ i.vars = [] ∧ Input.okWide C.prog (w.forCall tape i) .any w.heap.size f i ∧
      ((s.pre enc C.prog fn [] false (w.forCall tape i).memory i.args ∧ X (w.forCall tape i).memory i.args) ∧ sizedMet enc C.prog fn (OpenSpec.ofChange s) false (w.forCall tape i).memory i.args) ∧ Assume.holds {} C.prog (lone (Frame.enter C.prog f i.args .normal) [] (w.forCall tape i)))
    (walk : ∀ (W : World) (base : Nat) (args : Array Value) (ds gs : List (DataW H)) (before : List MemPlace),
      (∀ (j : Nat) t v, fn.params[j]? = some t → args[j]? = some v → Value.okWide C.prog W .any base t v) → DataW.Whole enc C.prog fn.params.toList s.vars false W args.toList ds gs before →
      X W args → W.ShapedOpen C.prog → Calls C.prog f args W fun e W' => ∃ v, e = .returned v ∧ s.post enc C.prog fn false true false false W args v W') :
    ReturnsInHanded {} C os f .any (fun w args => (s.pre enc C.prog fn [] false w args ∧ X w args) ∧ sizedMet enc C.prog fn (OpenSpec.ofChange s) false w args) (s.post enc C.prog fn false true false false) := by
  refine returnsInHanded_of_calls own started noInit wit fun w tape i _ sh _ ok pre _ => ?_
  obtain ⟨_, _, _, fn', hf, _, _, _, _, hv⟩ := ok
  obtain rfl : fn' = fn := Option.some.inj (hf.symm.trans hfn)
  obtain ⟨⟨⟨ds, gs, before, hw, _⟩, hx⟩, _⟩ := pre
  refine (walk _ _ _ ds gs before hv (DataW.Whole.of_heap (w' := w.forCall tape i) (by rfl) hw) (hX _ _ _ (by rfl) hx) sh).mono ?_
  rintro e W' ⟨v, rfl, hp⟩
  exact ChangeSpec.post_blind hp
/-- a slice of texts that came in, as the walk is told of it -/
theorem tx_open {H : Type} {enc : TypeId × Value → H} {W : World} {a : Option Addr} {len cap : Nat} {d : DataW H} {p : List MemPlace}
    (hj : DataW.Trod enc Tryd.prog W 0 (fun _ => true) true 31 (.slice a len cap) d p) : ∃ l, TxRow W (.slice a len cap) l := by
  obtain ⟨fuel, hf⟩ := hj
  rcases open_strings Tryd.underlying31 Tryd.underlying9 (by kernel_rfl) hf with ⟨hcs, _⟩ | ⟨x, l, c, ss, hcs, _, hl, hm, hz, hx, hcell, hws⟩
  · simp [Value.cells] at hcs
    obtain ⟨rfl, rfl, rfl⟩ := hcs
    exact ⟨[], none, 0, rfl, ⟨by decide, fun _ => rfl⟩, fun h => absurd rfl h⟩
  · simp [Value.cells] at hcs
    obtain ⟨rfl, rfl, rfl⟩ := hcs
    have hlen : (ss.take len).length = len := by rw [List.length_take]; simp at hz; omega
    unfold maxLen at hm
    refine ⟨ss.take len, some x, cap, by rw [hlen], ⟨by omega, fun e => by cases e⟩, fun hne => ?_⟩
    have h0 : 0 < ss.length := by
      cases ss with
      | nil => simp at hne
      | cons y r => simp
    obtain ⟨b, off, spot⟩ := x
    have hc0 := hcell 0 h0
    have hspot : spot = none := by simpa [Addr.add] using World.cell?_spot hc0
    subst hspot
    refine ⟨b, off, rfl, ?_, fun j y hy => ?_⟩
    · have h1 := hc0
      rw [Addr.add_lit, Nat.add_zero] at h1
      exact cell_block h1
    · have hj : j < len := by have := (List.getElem?_eq_some_iff.1 hy).1; omega
      have hjs : j < ss.length := by rw [List.length_take] at hlen; omega
      have h1 := hcell j hjs
      rw [Addr.add_lit] at h1
      rw [List.getElem?_take_of_lt hj] at hy
      rw [h1, List.getD_eq_getElem?_getD, hy]; rfl
end Go.Proofs.YtaihpgjimhifcaaDoor
