/- Rows of words that came in. -/
import Derived.Test.YtdganemgldocoaaGreatDoorLaidErr
import Derived.Test.YtdganemgldocoaaGreatDoorLxOf
import Derived.ProofKit
import Derived.OpenShut
import Derived.ShutString
import Derived.ChangeOld
import Derived.Handed
import Derived.Shelf.Vars
namespace Go.Proofs.YtdganemgldocoaaGreatDoor
open Go.RowKit Go.Maps Go.ChangeShapes Go.WideShapes Go.Deep

section
variable {H : Type} {enc : TypeId × Value → H} {w : World}
theorem cellsPc : Tryz.prog.cellsOf 105 = 4 := by kernel_rfl
theorem cellsPcs : Tryz.prog.cellsOf 102 = 1 := by kernel_rfl
theorem list_ofX {α : Type} (p : Nat → α → Prop) (m : Nat) (h : ∀ i, i < m → ∃ x, p i x) : ∃ l : List α, l.length = m ∧ ∀ i x, l[i]? = some x → p i x := by
  induction m with
  | zero => exact ⟨[], rfl, by simp⟩
  | succ m ih =>
    obtain ⟨l, h1, h2⟩ := ih fun i hi => h i (by omega)
    obtain ⟨x, hx⟩ := h m (by omega)
    refine ⟨l ++ [x], by simp [h1], fun i y hy => ?_⟩
    rcases Nat.lt_or_ge i l.length with hi | hi
    · rw [List.getElem?_append_left hi] at hy; exact h2 i y hy
    · rw [List.getElem?_append_right hi] at hy
      have h0 : i - l.length = 0 := by
        rcases Nat.eq_zero_or_pos (i - l.length) with h | h
        · exact h
        · rw [List.getElem?_eq_none (by simp; omega)] at hy; cases hy
      rw [h0] at hy
      obtain rfl : x = y := by simpa using hy
      obtain rfl : i = m := by omega
      exact hx
set_option maxRecDepth 100000 in
theorem pc_of_trod {fuel : Nat} {cs : List Value} {x : DataW H × List MemPlace} (h : DataW.trod enc Tryz.prog w 0 (fun _ => true) true fuel 105 cs = some x) : ∃ f : Pb, cs = pcC f := by
  obtain ⟨xs, n, _, _, hlen, hxs, hf⟩ := DataW.trod_struct Tryz.underlying105 h
  rw [cellsPc] at hlen
  match cs, hlen with
  | [c0, c1, c2, c3], _ =>
    match xs, hxs with
    | [x0, x1, x2, x3], _ =>
      have h0 : DataW.trod enc Tryz.prog w 0 (fun _ => true) true n 3 (([c0, c1, c2, c3].drop 0).take (Tryz.prog.cellsOf 3)) = some x0 := hf 0 _ rfl
      have h1 : DataW.trod enc Tryz.prog w 0 (fun _ => true) true n 9 (([c0, c1, c2, c3].drop 1).take (Tryz.prog.cellsOf 9)) = some x1 := hf 1 _ rfl
      have h2 : DataW.trod enc Tryz.prog w 0 (fun _ => true) true n 9 (([c0, c1, c2, c3].drop 2).take (Tryz.prog.cellsOf 9)) = some x2 := hf 2 _ rfl
      have h3 : DataW.trod enc Tryz.prog w 0 (fun _ => true) true n 9 (([c0, c1, c2, c3].drop 3).take (Tryz.prog.cellsOf 9)) = some x3 := hf 3 _ rfl
      rw [cellsInt] at h0
      rw [cellsStr] at h1 h2 h3
      obtain ⟨n0, e0, _, _⟩ := DataW.trod_int Tryz.underlying3 h0
      obtain ⟨s1, e1, _, z1⟩ := DataW.trod_string Tryz.underlying9 h1
      obtain ⟨s2, e2, _, z2⟩ := DataW.trod_string Tryz.underlying9 h2
      obtain ⟨s3, e3, _, z3⟩ := DataW.trod_string Tryz.underlying9 h3
      have e0' : [c0] = [Value.int .i64 n0] := e0
      have e1' : [c1] = [Value.string s1] := e1
      have e2' : [c2] = [Value.string s2] := e2
      have e3' : [c3] = [Value.string s3] := e3
      rw [List.cons.injEq] at e0' e1' e2' e3'
      exact ⟨⟨n0, s1, s2, s3⟩, by rw [e0'.1, e1'.1, e2'.1, e3'.1]⟩
/-- an address off which a cell reads stands in no spot -/
theorem no_spot {b off : Nat} {spot : Option Nat} {v : Value} (h : w.cell? ((⟨b, off, spot⟩ : Addr).add 0) = some v) : spot = none := by
  simpa [Addr.add] using World.cell?_spot h
set_option maxRecDepth 100000 in
theorem prow_of_trod {fuel : Nat} {c : Value} {x : DataW H × List MemPlace} (h : DataW.trod enc Tryz.prog w 0 (fun _ => true) true fuel 102 [c] = some x) : ∃ l, PRow w c l := by
  rcases DataW.trod_slice Tryz.underlying102 h with ⟨hcs, _⟩ | ⟨ad, len, cap, elems, rest, n, -, hcs, -, -, hl, hm, hlen, hel, -, -⟩
  · obtain rfl : c = .slice none 0 0 := by simpa using hcs
    exact ⟨[], none, 0, rfl, by decide, fun h => absurd rfl h⟩
  · obtain rfl : c = .slice (some ad) len cap := by simpa using hcs
    rw [cellsPc] at hel
    obtain ⟨l, hl1, hl2⟩ := list_ofX (fun i (c : Pb) => ∀ j u, (pcC c)[j]? = some u → w.cell? (ad.add (i * 4 + j)) = some u) len (fun i hi => by
      have h1 := hel i hi
      rw [List.getElem?_eq_getElem (by omega)] at h1
      obtain ⟨cs', h2, h3⟩ := Option.bind_eq_some_iff.1 h1
      obtain ⟨c, rfl⟩ := pc_of_trod h3
      obtain ⟨_, _, hat⟩ := World.cells?_some h2
      refine ⟨c, fun j u hu => ?_⟩
      rw [← Go.Deep.add_add, hat j (List.getElem?_eq_some_iff.1 hu).1]
      exact hu)
    unfold maxLen at hm
    refine ⟨l, some ad, cap, by rw [hl1], by omega, fun hne => ?_⟩
    obtain ⟨b, off, spot⟩ := ad
    obtain ⟨q, r, rfl⟩ : ∃ q r, l = q :: r := by
      cases l with
      | nil => exact (hne rfl).elim
      | cons q r => exact ⟨q, r, rfl⟩
    have hf := hl2 0 q rfl 0 _ rfl
    obtain rfl : spot = none := no_spot hf
    refine ⟨b, off, rfl, ?_, fun j x hx => ?_⟩
    · rw [Addr.add_lit] at hf; exact cell_block hf
    · have k0 := hl2 j x hx 0 _ rfl
      have k1 := hl2 j x hx 1 _ rfl
      have k2 := hl2 j x hx 2 _ rfl
      have k3 := hl2 j x hx 3 _ rfl
      rw [Addr.add_lit] at k0 k1 k2 k3
      exact ⟨k0, k1, k2, k3⟩
set_option maxRecDepth 100000 in
/-- rows of words that came in, as the walk is told of them -/
theorem rr_open {a : Option Addr} {len cap : Nat} {d : DataW H} {p : List MemPlace} (hj : DataW.Trod enc Tryz.prog w 0 (fun _ => true) true 42 (.slice a len cap) d p) : ∃ L, RRow w (.slice a len cap) L := by
  obtain ⟨fuel, hf⟩ := hj
  rcases DataW.trod_slice Tryz.underlying42 hf with ⟨hcs, _⟩ | ⟨ad, len', cap', elems, rest, n, -, hcs, -, -, hl, hm, hlen, hel, -, -⟩
  · simp [Value.cells] at hcs
    obtain ⟨rfl, rfl, rfl⟩ := hcs
    exact ⟨[], none, 0, rfl, by decide, fun h => absurd rfl h⟩
  · simp [Value.cells] at hcs
    obtain ⟨rfl, rfl, rfl⟩ := hcs
    rw [cellsPcs] at hel
    obtain ⟨L, hl1, hl2⟩ := list_ofX (fun i (l : List Pb) => ∃ u, w.cell? (ad.add i) = some u ∧ PRow w u l) len (fun i hi => by
      have h1 := hel i hi
      rw [List.getElem?_eq_getElem (by omega)] at h1
      obtain ⟨cs', h2, h3⟩ := Option.bind_eq_some_iff.1 h1
      obtain ⟨hb, hl, hat⟩ := World.cells?_some h2
      obtain ⟨c, rfl⟩ : ∃ c, cs' = [c] := by
        match cs', hl with
        | [c], _ => exact ⟨c, rfl⟩
      obtain ⟨l, hp⟩ := prow_of_trod h3
      refine ⟨l, c, ?_, hp⟩
      have := hat 0 (by simp)
      rw [Go.Deep.add_add, Nat.add_zero, Nat.mul_one] at this
      simpa using this)
    unfold maxLen at hm
    refine ⟨L, some ad, cap, by rw [hl1], by omega, fun hne => ?_⟩
    obtain ⟨b, off, spot⟩ := ad
    obtain ⟨q, r, rfl⟩ : ∃ q r, L = q :: r := by
      cases L with
      | nil => exact (hne rfl).elim
      | cons q r => exact ⟨q, r, rfl⟩
    obtain ⟨u0, hf, -⟩ := hl2 0 q rfl
    obtain rfl : spot = none := no_spot hf
    refine ⟨b, off, rfl, ?_, fun j l hj => ?_⟩
    · rw [Addr.add_lit] at hf; exact cell_block hf
    · obtain ⟨u, h1, h2⟩ := hl2 j l hj
      rw [Addr.add_lit] at h1
      exact ⟨u, h1, h2⟩
end
/-- the three errors of Words -/
def thrL : List Sn := [⟨3, "millwright/api.ErrForm", 1, [105, 116, 32, 105, 115, 32, 110, 111, 116, 32, 111, 102, 32, 105, 116, 115, 32, 102, 111, 114, 109]⟩, ⟨4, "millwright/api.ErrName", 4, [105, 116, 32, 105, 115, 32, 110, 111, 32, 114, 105, 103, 104, 116, 32, 110, 97, 109, 101]⟩, ⟨5, "millwright/api.ErrQuote", 5, [97, 32, 113, 117, 111, 116, 101, 32, 104, 97, 115, 32, 110, 111, 32, 101, 110, 100]⟩]
theorem thr_ok : thrL.all Sn.okB = true := by kernel_rfl
theorem thrL_ok : ∀ q ∈ thrL, q.ok := fun q hq => by
  have := List.all_eq_true.1 thr_ok q hq
  unfold Sn.okB at this
  rw [Bool.and_eq_true, beq_iff_eq, beq_iff_eq] at this
  exact this
def ThrE (A : Nat → Addr) (w : World) : Prop := ∀ q ∈ thrL, SentAt A w q
theorem ThrE.grown {A : Nat → Addr} {w w' : World} (h : ThrE A w) (hg : w.grownBy w' none) : ThrE A w' := fun q hq => (h q hq).later (below_of_grown hg)
theorem ThrE.form {A : Nat → Addr} {w : World} (h : ThrE A w) : w.cell? ⟨1, 0, none⟩ = some (.iface 202 (.pointer (some (A 3)))) :=
  (h ⟨3, "millwright/api.ErrForm", 1, [105, 116, 32, 105, 115, 32, 110, 111, 116, 32, 111, 102, 32, 105, 116, 115, 32, 102, 111, 114, 109]⟩ (by simp [thrL])).1
theorem ThrE.name {A : Nat → Addr} {w : World} (h : ThrE A w) : w.cell? ⟨4, 0, none⟩ = some (.iface 202 (.pointer (some (A 4)))) :=
  (h ⟨4, "millwright/api.ErrName", 4, [105, 116, 32, 105, 115, 32, 110, 111, 32, 114, 105, 103, 104, 116, 32, 110, 97, 109, 101]⟩ (by simp [thrL])).1
theorem ThrE.quote {A : Nat → Addr} {w : World} (h : ThrE A w) : w.cell? ⟨5, 0, none⟩ = some (.iface 202 (.pointer (some (A 5)))) :=
  (h ⟨5, "millwright/api.ErrQuote", 5, [97, 32, 113, 117, 111, 116, 101, 32, 104, 97, 115, 32, 110, 111, 32, 101, 110, 100]⟩ (by simp [thrL])).1
end Go.Proofs.YtdganemgldocoaaGreatDoor
