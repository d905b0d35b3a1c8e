/- What layer 14's laws list; a variable and rows of acts that came in. -/
import Derived.Test.YtcmfmfkpmgoieaaGreatDoorLaidErr
import Derived.Test.YtcmfmfkpmgoieaaGreatDoorLaidQt
import Derived.Test.YtcmfmfkpmgoieaaGreatDoorEvOut
import Derived.ProofKit
import Derived.OpenShut
import Derived.ShutString
import Derived.ChangeOld
import Derived.Handed
import Derived.Shelf.Vars
namespace Go.Proofs.YtcmfmfkpmgoieaaGreatDoor
open Go.RowKit Go.Maps Go.ChangeShapes Go.WideShapes Go.Deep

/-- the four errors of Check and Set -/
def fourV : List Sn := allSn.filter fun q => q.num == 1 || q.num == 2 || q.num == 4 || q.num == 10
theorem fourV_ok : ∀ q ∈ fourV, q.ok := fun q hq => allSn_ok q (List.mem_filter.1 hq).1
def FourE (A : Nat → Addr) (w : World) : Prop := ∀ q ∈ fourV, SentAt A w q
theorem FourE.grown {A : Nat → Addr} {w w' : World} (h : FourE A w) (hg : w.grownBy w' none) : FourE A w' := fun q hq => (h q hq).later (below_of_grown hg)
theorem FourE.of_all {A : Nat → Addr} {w : World} (h : ∀ q ∈ allSn, SentAt A w q) : FourE A w := fun q hq => h q (List.mem_filter.1 hq).1
section
variable {H : Type} {enc : TypeId × Value → H} {w : World}
theorem cellsVz : Tryz.prog.cellsOf 67 = 4 := by kernel_rfl
theorem cellsAc : Tryz.prog.cellsOf 75 = 5 := by kernel_rfl
theorem cellsTx : Tryz.prog.cellsOf 30 = 1 := by kernel_rfl
theorem cellsBo : Tryz.prog.cellsOf 4 = 1 := by kernel_rfl
theorem list_ofV {α : Type} (p : Nat → α → Prop) (m : Nat) (h : ∀ i, i < m → ∃ x, p i x) : ∃ l : List α, l.length = m ∧ ∀ i x, l[i]? = some x → p i x := by
  induction m with
  | zero => exact ⟨[], rfl, by simp⟩
  | succ m ih =>
    obtain ⟨l, h1, h2⟩ := ih fun i hi => h i (by omega)
    obtain ⟨x, hx⟩ := h m (by omega)
    refine ⟨l ++ [x], by simp [h1], fun i y hy => ?_⟩
    rcases Nat.lt_or_ge i l.length with hi | hi
    · rw [List.getElem?_append_left hi] at hy; exact h2 i y hy
    · rw [List.getElem?_append_right hi] at hy
      have h0 : i - l.length = 0 := by
        rcases Nat.eq_zero_or_pos (i - l.length) with h | h
        · exact h
        · rw [List.getElem?_eq_none (by simp; omega)] at hy; cases hy
      rw [h0] at hy
      obtain rfl : x = y := by simpa using hy
      obtain rfl : i = m := by omega
      exact hx
/-- a slice of texts, wherever it stands -/
theorem tx_of_trod {fuel : Nat} {c : Value} {x : DataW H × List MemPlace} (h : DataW.trod enc Tryz.prog w 0 (fun _ => true) true fuel 30 [c] = some x) : ∃ l, TxRow w c l := by
  rcases DataW.trod_slice Tryz.underlying30 h with ⟨hcs, -⟩ | ⟨ad, len, cap, elems, rest, n, -, hcs, -⟩
  · obtain rfl : c = .slice none 0 0 := by simpa using hcs
    exact ⟨[], none, 0, rfl, ⟨by decide, fun _ => rfl⟩, fun h => absurd rfl h⟩
  · obtain rfl : c = .slice (some ad) len cap := by simpa using hcs
    exact tx_open (H := H) (enc := enc) (d := x.1) (p := x.2) ⟨fuel, h⟩
abbrev acC (x : Ac) : List Value := .int .i64 x.k :: vzC x.v
set_option maxRecDepth 100000 in
theorem vz_of_trod {fuel : Nat} {cs : List Value} {x : DataW H × List MemPlace} (h : DataW.trod enc Tryz.prog w 0 (fun _ => true) true fuel 67 cs = some x) : ∃ f : Vz, cs = vzC f ∧ TxRow w f.u f.ws := by
  obtain ⟨xs, n, _, _, hlen, hxs, hf⟩ := DataW.trod_struct Tryz.underlying67 h
  rw [cellsVz] at hlen
  match cs, hlen with
  | [c0, c1, c2, c3], _ =>
    match xs, hxs with
    | [x0, x1, x2, x3], _ =>
      have h0 : DataW.trod enc Tryz.prog w 0 (fun _ => true) true n 9 (([c0, c1, c2, c3].drop 0).take (Tryz.prog.cellsOf 9)) = some x0 := hf 0 _ rfl
      have h1 : DataW.trod enc Tryz.prog w 0 (fun _ => true) true n 30 (([c0, c1, c2, c3].drop 1).take (Tryz.prog.cellsOf 30)) = some x1 := hf 1 _ rfl
      have h2 : DataW.trod enc Tryz.prog w 0 (fun _ => true) true n 3 (([c0, c1, c2, c3].drop 2).take (Tryz.prog.cellsOf 3)) = some x2 := hf 2 _ rfl
      have h3 : DataW.trod enc Tryz.prog w 0 (fun _ => true) true n 4 (([c0, c1, c2, c3].drop 3).take (Tryz.prog.cellsOf 4)) = some x3 := hf 3 _ rfl
      rw [cellsStr] at h0
      rw [cellsTx] at h1
      rw [cellsInt] at h2
      rw [cellsBo] at h3
      obtain ⟨s0, e0, _, _⟩ := DataW.trod_string Tryz.underlying9 h0
      have h1' : DataW.trod enc Tryz.prog w 0 (fun _ => true) true n 30 [c1] = some x1 := h1
      obtain ⟨l, hl⟩ := tx_of_trod h1'
      obtain ⟨n2, e2, _, _⟩ := DataW.trod_int Tryz.underlying3 h2
      obtain ⟨b3, e3, _⟩ := DataW.trod_bool Tryz.underlying4 h3
      have e0' : [c0] = [Value.string s0] := e0
      have e2' : [c2] = [Value.int .i64 n2] := e2
      have e3' : [c3] = [Value.bool b3] := e3
      rw [List.cons.injEq] at e0' e2' e3'
      exact ⟨⟨s0, l, n2, b3, c1⟩, by rw [e0'.1, e2'.1, e3'.1], hl⟩
set_option maxRecDepth 100000 in
theorem ac_of_trod {fuel : Nat} {cs : List Value} {x : DataW H × List MemPlace} (h : DataW.trod enc Tryz.prog w 0 (fun _ => true) true fuel 75 cs = some x) : ∃ f : Ac, cs = acC f ∧ TxRow w f.v.u f.v.ws := by
  obtain ⟨xs, n, _, _, hlen, hxs, hf⟩ := DataW.trod_struct Tryz.underlying75 h
  rw [cellsAc] at hlen
  match cs, hlen with
  | [c0, c1, c2, c3, c4], _ =>
    match xs, hxs with
    | [x0, x1], _ =>
      have h0 : DataW.trod enc Tryz.prog w 0 (fun _ => true) true n 3 (([c0, c1, c2, c3, c4].drop 0).take (Tryz.prog.cellsOf 3)) = some x0 := hf 0 _ rfl
      have h1 : DataW.trod enc Tryz.prog w 0 (fun _ => true) true n 67 (([c0, c1, c2, c3, c4].drop 1).take (Tryz.prog.cellsOf 67)) = some x1 := hf 1 _ rfl
      rw [cellsInt] at h0
      rw [cellsVz] at h1
      obtain ⟨n0, e0, _, _⟩ := DataW.trod_int Tryz.underlying3 h0
      have h1' : DataW.trod enc Tryz.prog w 0 (fun _ => true) true n 67 [c1, c2, c3, c4] = some x1 := h1
      obtain ⟨v, ev, hv⟩ := vz_of_trod h1'
      have e0' : [c0] = [Value.int .i64 n0] := e0
      rw [List.cons.injEq] at e0'
      exact ⟨⟨n0, v⟩, by rw [e0'.1, ev], hv⟩
theorem no_spotV {b off : Nat} {spot : Option Nat} {v : Value} (h : w.cell? ((⟨b, off, spot⟩ : Addr).add 0) = some v) : spot = none := by
  simpa [Addr.add] using World.cell?_spot h
set_option maxRecDepth 100000 in
/-- acts that came in, as the walk is told of them -/
theorem ac_open {a : Option Addr} {len cap : Nat} {d : DataW H} {p : List MemPlace} (hj : DataW.Trod enc Tryz.prog w 0 (fun _ => true) true 73 (.slice a len cap) d p) : ∃ L, ARow w (.slice a len cap) L := by
  obtain ⟨fuel, hf⟩ := hj
  rcases DataW.trod_slice Tryz.underlying73 hf with ⟨hcs, _⟩ | ⟨ad, len', cap', elems, rest, n, -, hcs, -, -, hl, hm, hlen, hel, -, -⟩
  · simp [Value.cells] at hcs
    obtain ⟨rfl, rfl, rfl⟩ := hcs
    exact ⟨[], none, 0, rfl, by decide, fun x hx => by simp at hx, fun h => absurd rfl h⟩
  · simp [Value.cells] at hcs
    obtain ⟨rfl, rfl, rfl⟩ := hcs
    rw [cellsAc] at hel
    obtain ⟨L, hl1, hl2⟩ := list_ofV (fun i (c : Ac) => (∀ j u, (acC c)[j]? = some u → w.cell? (ad.add (i * 5 + j)) = some u) ∧ TxRow w c.v.u c.v.ws) len (fun i hi => by
      have h1 := hel i hi
      rw [List.getElem?_eq_getElem (by omega)] at h1
      obtain ⟨cs', h2, h3⟩ := Option.bind_eq_some_iff.1 h1
      obtain ⟨c, rfl, ht⟩ := ac_of_trod h3
      obtain ⟨_, _, hat⟩ := World.cells?_some h2
      refine ⟨c, fun j u hu => ?_, ht⟩
      rw [← Go.Deep.add_add, hat j (List.getElem?_eq_some_iff.1 hu).1]
      exact hu)
    unfold maxLen at hm
    refine ⟨L, some ad, cap, by rw [hl1], by omega, fun x hx => ?_, fun hne => ?_⟩
    · obtain ⟨j, hj⟩ := List.getElem?_of_mem hx
      have ht := (hl2 j x hj).2
      exact ⟨ht, fun hw => tx_lt ht hw⟩
    obtain ⟨b, off, spot⟩ := ad
    obtain ⟨q, r, rfl⟩ : ∃ q r, L = q :: r := by
      cases L with
      | nil => exact (hne rfl).elim
      | cons q r => exact ⟨q, r, rfl⟩
    have hf := (hl2 0 q rfl).1 0 _ rfl
    obtain rfl : spot = none := no_spotV hf
    refine ⟨b, off, rfl, ?_, fun j x hx => ?_⟩
    · rw [Addr.add_lit] at hf; exact cell_block hf
    · have k0 := (hl2 j x hx).1 0 _ rfl
      have k1 := (hl2 j x hx).1 1 _ rfl
      have k2 := (hl2 j x hx).1 2 _ rfl
      have k3 := (hl2 j x hx).1 3 _ rfl
      have k4 := (hl2 j x hx).1 4 _ rfl
      rw [Addr.add_lit] at k0 k1 k2 k3 k4
      exact ⟨k0, k1, k2, k3, k4⟩
end
end Go.Proofs.YtcmfmfkpmgoieaaGreatDoor
