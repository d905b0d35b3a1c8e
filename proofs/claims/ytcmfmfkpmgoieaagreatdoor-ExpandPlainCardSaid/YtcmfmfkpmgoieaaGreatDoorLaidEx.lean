/- What layer 17's laws list; slices of variables and of outputs that came in; how long they may be. -/
import Derived.Test.YtcmfmfkpmgoieaaGreatDoorLaidEv
import Derived.Test.YtcmfmfkpmgoieaaGreatDoorLaidLx
import Derived.Test.YtcmfmfkpmgoieaaGreatDoorLaidQt
import Derived.Test.YtcmfmfkpmgoieaaGreatDoorExBy
import Derived.SizedLaws
import Derived.ProofKit
import Derived.OpenShut
import Derived.ShutString
import Derived.ChangeOld
import Derived.Handed
import Derived.Shelf.Vars
namespace Go.Proofs.YtcmfmfkpmgoieaaGreatDoor
open Go.RowKit Go.Maps Go.ChangeShapes Go.WideShapes Go.Deep

/-- from a walk to a row that lists variables, the world's shape and the arguments' sizes handed on -/
theorem handed_sized {H : Type} {enc : TypeId × Value → H} {C : Checked} {os : Os} {f : FuncId} {fn : Func} {s : ChangeSpec} {X : World → Array Value → Prop}
    (hX : ∀ (u v : World) (args : Array Value), u.heap = v.heap → X u args → X v args) (own : ownKnob C.prog.godebug = none) (started : os.Started) (noInit : C.prog.inits.idxOf? f = none) (hfn : C.prog.funcs[f]? = some fn)
    (wit : ∃ (w : World) (tape : Tape) (i : Input), w.os = os ∧ (w.forCall tape i).Shaped C.prog ∧ i.vars = [] ∧ Input.okWide C.prog (w.forCall tape i) .any w.heap.size f i ∧
      ((s.pre enc C.prog fn [] false (w.forCall tape i).memory i.args ∧ X (w.forCall tape i).memory i.args) ∧ sizedMet enc C.prog fn (OpenSpec.ofChange s) false (w.forCall tape i).memory i.args) ∧ Assume.holds {} C.prog (lone (Frame.enter C.prog f i.args .normal) [] (w.forCall tape i)))
    (walk : ∀ (W : World) (base : Nat) (args : Array Value) (ds gs : List (DataW H)) (before : List MemPlace),
      (∀ (j : Nat) t v, fn.params[j]? = some t → args[j]? = some v → Value.okWide C.prog W .any base t v) → DataW.Whole enc C.prog fn.params.toList s.vars false W args.toList ds gs before →
      X W args → W.ShapedOpen C.prog → (DataW.weightsEach C.prog (fn.params.toList ++ (OpenSpec.ofChange s).bare.plain.varTypes C.prog) (ds ++ gs)).all (· ≤ reachBytes) = true →
      Calls C.prog f args W fun e W' => ∃ v, e = .returned v ∧ s.post enc C.prog fn false true false false W args v W') :
    ReturnsInHanded {} C os f .any (fun w args => (s.pre enc C.prog fn [] false w args ∧ X w args) ∧ sizedMet enc C.prog fn (OpenSpec.ofChange s) false w args) (s.post enc C.prog fn false true false false) := by
  refine returnsInHanded_of_calls own started noInit wit fun w tape i _ sh _ ok pre _ => ?_
  obtain ⟨_, _, _, fn', hf, _, _, _, _, hv⟩ := ok
  obtain rfl : fn' = fn := Option.some.inj (hf.symm.trans hfn)
  obtain ⟨⟨_, hx⟩, ⟨_, ds, gs, before, hw, hsz⟩⟩ := pre
  refine (walk _ _ _ ds gs before hv (DataW.Whole.of_heap (w' := w.forCall tape i) (by rfl) hw) (hX _ _ _ (by rfl) hx) sh hsz).mono ?_
  rintro e W' ⟨v, rfl, hp⟩
  exact ChangeSpec.post_blind hp
section
variable {H : Type} {enc : TypeId × Value → H} {w : World}
theorem cellsOt : Tryz.prog.cellsOf 69 = 2 := by kernel_rfl
theorem bytesVz : Tryz.prog.bytesOf 67 = 56 := by kernel_rfl
/-- how many variables may come in -/
theorem vars_len {ts : List TypeId} {ds : List (DataW H)} {d : DataW H} {len j : Nat} (h : (DataW.weightsEach Tryz.prog ts ds).all (· ≤ reachBytes) = true) (ht : ts[j]? = some 22) (hd : ds[j]? = some d) (hl : len = 0 ∨ ∃ elems spare, d = .slice elems spare ∧ elems.length = len) : len ≤ 2513169435000 := by
  rcases hl with rfl | ⟨elems, spare, rfl, rfl⟩
  · omega
  · have h1 := sized_slice h ht hd Tryz.underlying22
    rw [bytesVz, show reachBytes = 140737488351232 from rfl] at h1
    rw [Nat.add_mul] at h1
    omega
set_option maxRecDepth 100000 in
/-- variables that came in -/
theorem vars_open {a : Option Addr} {len cap : Nat} {d : DataW H} {p : List MemPlace} (hj : DataW.Trod enc Tryz.prog w 0 (fun _ => true) true 22 (.slice a len cap) d p) :
    ∃ L, VRow w (fun b => b < w.heap.size) (.slice a len cap) L ∧ L.length = len ∧ (len = 0 ∨ ∃ elems spare, d = .slice elems spare ∧ elems.length = len) := by
  obtain ⟨fuel, hf⟩ := hj
  rcases DataW.trod_slice Tryz.underlying22 hf with ⟨hcs, _⟩ | ⟨ad, len', cap', elems, rest, n, -, hcs, hx, -, hl, hm, hlen, hel, -, -⟩
  · simp [Value.cells] at hcs
    obtain ⟨rfl, rfl, rfl⟩ := hcs
    exact ⟨[], ⟨none, 0, rfl, ⟨by simp, by simp, by simp⟩, fun x hx => by simp at hx, fun h => absurd rfl h⟩, rfl, .inl rfl⟩
  · simp [Value.cells] at hcs
    obtain ⟨rfl, rfl, rfl⟩ := hcs
    rw [cellsVz] at hel
    obtain ⟨L, hl1, hl2⟩ := list_ofV (fun i (c : Vz) => (∀ j u, (vzC c)[j]? = some u → w.cell? (ad.add (i * 4 + j)) = some u) ∧ TxRow w c.u c.ws) len (fun i hi => by
      have h1 := hel i hi
      rw [List.getElem?_eq_getElem (by omega)] at h1
      obtain ⟨cs', h2, h3⟩ := Option.bind_eq_some_iff.1 h1
      obtain ⟨c, rfl, ht⟩ := vz_of_trod h3
      obtain ⟨_, _, hat⟩ := World.cells?_some h2
      refine ⟨c, fun j u hu => ?_, ht⟩
      rw [← Go.Deep.add_add, hat j (List.getElem?_eq_some_iff.1 hu).1]
      exact hu)
    unfold maxLen at hm
    refine ⟨L, ⟨some ad, cap, by rw [hl1], ⟨by omega, by omega, by omega⟩, fun x hx => ?_, fun hne => ?_⟩, hl1, .inr ⟨elems.map (·.1), rest.map (·.1), ?_, by rw [List.length_map]; exact hlen⟩⟩
    · obtain ⟨j, hj⟩ := List.getElem?_of_mem hx
      have ht := (hl2 j x hj).2
      exact ⟨ht, fun hw b hb => ⟨tx_lt ht hw b hb, tx_lt ht hw b hb⟩⟩
    · obtain ⟨b, off, spot⟩ := ad
      obtain ⟨q, r, rfl⟩ : ∃ q r, L = q :: r := by
        cases L with
        | nil => exact (hne rfl).elim
        | cons q r => exact ⟨q, r, rfl⟩
      have hf0 := (hl2 0 q rfl).1 0 _ rfl
      obtain rfl : spot = none := no_spotV hf0
      rw [Addr.add_lit] at hf0
      refine ⟨b, off, rfl, cell_block hf0, cell_block hf0, fun j x hx => ?_⟩
      have k0 := (hl2 j x hx).1 0 _ rfl
      have k1 := (hl2 j x hx).1 1 _ rfl
      have k2 := (hl2 j x hx).1 2 _ rfl
      have k3 := (hl2 j x hx).1 3 _ rfl
      rw [Addr.add_lit] at k0 k1 k2 k3
      exact ⟨k0, k1, k2, k3⟩
    · exact congrArg (·.1) hx
set_option maxRecDepth 100000 in
theorem ot_of_trod {fuel : Nat} {cs : List Value} {x : DataW H × List MemPlace} (h : DataW.trod enc Tryz.prog w 0 (fun _ => true) true fuel 69 cs = some x) : ∃ f : Ot, cs = otC f := by
  obtain ⟨xs, n, _, _, hlen, hxs, hf⟩ := DataW.trod_struct Tryz.underlying69 h
  rw [cellsOt] at hlen
  match cs, hlen with
  | [c0, c1], _ =>
    match xs, hxs with
    | [x0, x1], _ =>
      have h0 : DataW.trod enc Tryz.prog w 0 (fun _ => true) true n 9 (([c0, c1].drop 0).take (Tryz.prog.cellsOf 9)) = some x0 := hf 0 _ rfl
      have h1 : DataW.trod enc Tryz.prog w 0 (fun _ => true) true n 9 (([c0, c1].drop 1).take (Tryz.prog.cellsOf 9)) = some x1 := hf 1 _ rfl
      rw [cellsStr] at h0 h1
      obtain ⟨s0, e0, _, _⟩ := DataW.trod_string Tryz.underlying9 h0
      obtain ⟨s1, e1, _, _⟩ := DataW.trod_string Tryz.underlying9 h1
      have e0' : [c0] = [Value.string s0] := e0
      have e1' : [c1] = [Value.string s1] := e1
      rw [List.cons.injEq] at e0' e1'
      exact ⟨⟨s0, s1⟩, by rw [e0'.1, e1'.1]⟩
set_option maxRecDepth 100000 in
/-- outputs that came in -/
theorem outs_open {a : Option Addr} {len cap : Nat} {d : DataW H} {p : List MemPlace} (hj : DataW.Trod enc Tryz.prog w 0 (fun _ => true) true 23 (.slice a len cap) d p) : ∃ L, ORow w (.slice a len cap) L := by
  obtain ⟨fuel, hf⟩ := hj
  rcases DataW.trod_slice Tryz.underlying23 hf with ⟨hcs, _⟩ | ⟨ad, len', cap', elems, rest, n, -, hcs, -, -, hl, hm, hlen, hel, -, -⟩
  · simp [Value.cells] at hcs
    obtain ⟨rfl, rfl, rfl⟩ := hcs
    exact ⟨[], none, 0, rfl, by decide, fun h => absurd rfl h⟩
  · simp [Value.cells] at hcs
    obtain ⟨rfl, rfl, rfl⟩ := hcs
    rw [cellsOt] at hel
    obtain ⟨L, hl1, hl2⟩ := list_ofV (fun i (c : Ot) => ∀ j u, (otC c)[j]? = some u → w.cell? (ad.add (i * 2 + j)) = some u) len (fun i hi => by
      have h1 := hel i hi
      rw [List.getElem?_eq_getElem (by omega)] at h1
      obtain ⟨cs', h2, h3⟩ := Option.bind_eq_some_iff.1 h1
      obtain ⟨c, rfl⟩ := ot_of_trod h3
      obtain ⟨_, _, hat⟩ := World.cells?_some h2
      refine ⟨c, fun j u hu => ?_⟩
      rw [← Go.Deep.add_add, hat j (List.getElem?_eq_some_iff.1 hu).1]
      exact hu)
    unfold maxLen at hm
    refine ⟨L, some ad, cap, by rw [hl1], by omega, fun hne => ?_⟩
    obtain ⟨b, off, spot⟩ := ad
    obtain ⟨q, r, rfl⟩ : ∃ q r, L = q :: r := by
      cases L with
      | nil => exact (hne rfl).elim
      | cons q r => exact ⟨q, r, rfl⟩
    have hf0 := hl2 0 q rfl 0 _ rfl
    obtain rfl : spot = none := no_spotV hf0
    rw [Addr.add_lit] at hf0
    refine ⟨b, off, rfl, cell_block hf0, fun j x hx => ?_⟩
    have k0 := hl2 j x hx 0 _ rfl
    have k1 := hl2 j x hx 1 _ rfl
    rw [Addr.add_lit] at k0 k1
    exact ⟨k0, k1⟩
end
end Go.Proofs.YtcmfmfkpmgoieaaGreatDoor
