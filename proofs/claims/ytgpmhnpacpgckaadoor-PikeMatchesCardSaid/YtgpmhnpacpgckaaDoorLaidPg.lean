/- How nodes and instructions come in; what the laws of layer 8 list. -/
import Derived.Test.YtgpmhnpacpgckaaDoorLaidRex
import Derived.Test.YtgpmhnpacpgckaaDoorPgOf
import Derived.Test.YtgpmhnpacpgckaaDoorErrNum
import Derived.OpenShut
import Derived.Laws.IdiomArrays
import Derived.Deep.Slices
namespace Go.Proofs.YtgpmhnpacpgckaaDoor
open Go.RowKit Go.Maps Go.ChangeShapes Go.WideShapes Go.Deep

section
variable {H : Type} {enc : TypeId × Value → H} {w : World} {spare : Nat → Bool} {held : Bool}
theorem cellsU64p : Tryd.prog.cellsOf 54 = 1 := by kernel_rfl
theorem cellsSetp : Tryd.prog.cellsOf 56 = 4 := by kernel_rfl
theorem cellsNode : Tryd.prog.cellsOf 84 = 7 := by kernel_rfl
theorem cellsIns : Tryd.prog.cellsOf 58 = 7 := by kernel_rfl
theorem cellsRow : Tryd.prog.cellsOf 82 = 1 := by kernel_rfl
theorem set_of_trod {base fuel : Nat} {c0 c1 c2 c3 : Value} {x : DataW H × List MemPlace} (h : DataW.trod enc Tryd.prog w base spare held fuel 56 [c0, c1, c2, c3] = some x) :
    ∃ s : BitVec 256, c0 = .int .u64 (wd s 0) ∧ c1 = .int .u64 (wd s 1) ∧ c2 = .int .u64 (wd s 2) ∧ c3 = .int .u64 (wd s 3) := by
  obtain ⟨y0, y1, y2, y3, m, hx, hy0, hy1, hy2, hy3⟩ := trod_array4 Tryd.underlying56 cellsU64p h
  obtain ⟨x0, e0, rfl, w0⟩ := DataW.trod_int Tryd.underlying54 hy0
  obtain ⟨x1, e1, rfl, w1⟩ := DataW.trod_int Tryd.underlying54 hy1
  obtain ⟨x2, e2, rfl, w2⟩ := DataW.trod_int Tryd.underlying54 hy2
  obtain ⟨x3, e3, rfl, w3⟩ := DataW.trod_int Tryd.underlying54 hy3
  simp at e0 e1 e2 e3
  subst e0 e1 e2 e3
  have q0 := bounds_u64 w0; have q1 := bounds_u64 w1; have q2 := bounds_u64 w2; have q3 := bounds_u64 w3
  obtain ⟨s, h0, h1, h2, h3⟩ := wd_any x0 x1 x2 x3 (by omega) (by omega) (by omega) (by omega) (by omega) (by omega) (by omega) (by omega)
  exact ⟨s, by rw [h0], by rw [h1], by rw [h2], by rw [h3]⟩
set_option maxRecDepth 100000 in
theorem ins_of_trod {base fuel : Nat} {cs : List Value} {x : DataW H × List MemPlace} (h : DataW.trod enc Tryd.prog w base spare held fuel 58 cs = some x) : ∃ c : Ins, cs = cellsC c := by
  obtain ⟨xs, n, _, _, hlen, hxs, hf⟩ := DataW.trod_struct Tryd.underlying58 h
  rw [cellsIns] at hlen
  match cs, hlen with
  | [c0, c1, c2, c3, c4, c5, c6], _ =>
    match xs, hxs with
    | [x0, x1, x2, x3], _ =>
      have h0 : DataW.trod enc Tryd.prog w base spare held n 3 (([c0, c1, c2, c3, c4, c5, c6].drop 0).take (Tryd.prog.cellsOf 3)) = some x0 := hf 0 _ rfl
      have h1 : DataW.trod enc Tryd.prog w base spare held n 3 (([c0, c1, c2, c3, c4, c5, c6].drop 1).take (Tryd.prog.cellsOf 3)) = some x1 := hf 1 _ rfl
      have h2 : DataW.trod enc Tryd.prog w base spare held n 3 (([c0, c1, c2, c3, c4, c5, c6].drop 2).take (Tryd.prog.cellsOf 3)) = some x2 := hf 2 _ rfl
      have h3 : DataW.trod enc Tryd.prog w base spare held n 56 (([c0, c1, c2, c3, c4, c5, c6].drop 3).take (Tryd.prog.cellsOf 56)) = some x3 := hf 3 _ rfl
      rw [cellsInt] at h0 h1 h2
      rw [cellsSetp] at h3
      obtain ⟨n0, e0, _, _⟩ := DataW.trod_int Tryd.underlying3 h0
      obtain ⟨n1, e1, _, _⟩ := DataW.trod_int Tryd.underlying3 h1
      obtain ⟨n2, e2, _, _⟩ := DataW.trod_int Tryd.underlying3 h2
      obtain ⟨s, s0, s1, s2, s3⟩ := set_of_trod h3
      have e0' : [c0] = [Value.int .i64 n0] := e0
      have e1' : [c1] = [Value.int .i64 n1] := e1
      have e2' : [c2] = [Value.int .i64 n2] := e2
      rw [List.cons.injEq] at e0' e1' e2'
      exact ⟨⟨n0, n1, n2, s⟩, by rw [e0'.1, e1'.1, e2'.1, s0, s1, s2, s3]; rfl⟩
/-- elements that are as p says, as a list -/
theorem list_of {α : Type} (p : Nat → α → Prop) (m : Nat) (h : ∀ i, i < m → ∃ x, p i x) : ∃ l : List α, l.length = m ∧ ∀ i x, l[i]? = some x → p i x := by
  induction m with
  | zero => exact ⟨[], rfl, by simp⟩
  | succ m ih =>
    obtain ⟨l, h1, h2⟩ := ih fun i hi => h i (by omega)
    obtain ⟨x, hx⟩ := h m (by omega)
    refine ⟨l ++ [x], by simp [h1], fun i y hy => ?_⟩
    rcases Nat.lt_or_ge i l.length with hi | hi
    · rw [List.getElem?_append_left hi] at hy; exact h2 i y hy
    · rw [List.getElem?_append_right hi] at hy
      have h0 : i - l.length = 0 := by
        rcases Nat.eq_zero_or_pos (i - l.length) with h | h
        · exact h
        · rw [List.getElem?_eq_none (by simp; omega)] at hy; cases hy
      rw [h0] at hy
      obtain rfl : x = y := by simpa using hy
      obtain rfl : i = m := by omega
      exact hx
set_option maxRecDepth 100000 in
/-- a slice of instructions that came in -/
theorem crow_open {a : Option Addr} {len cap : Nat} {d : DataW H} {p : List MemPlace} (hj : DataW.Trod enc Tryd.prog w 0 (fun _ => true) true 22 (.slice a len cap) d p) :
    ∃ l, CRow w (.slice a len cap) l ∧ l.length ≤ maxLen := by
  obtain ⟨fuel, hf⟩ := hj
  rcases DataW.trod_slice Tryd.underlying22 hf with ⟨hcs, _⟩ | ⟨ad, len', cap', elems, rest, n, -, hcs, -, -, hl, hm, hlen, hel, -, -⟩
  · simp [Value.cells] at hcs
    obtain ⟨rfl, rfl, rfl⟩ := hcs
    exact ⟨[], row_nil _, by simp [maxLen]⟩
  · simp [Value.cells] at hcs
    obtain ⟨rfl, rfl, rfl⟩ := hcs
    rw [cellsIns] at hel
    obtain ⟨l, hl1, hl2⟩ := list_of (fun i (c : Ins) => ∀ j u, (cellsC c)[j]? = some u → w.cell? (ad.add (i * 7 + j)) = some u) len (fun i hi => by
      have h1 := hel i hi
      rw [List.getElem?_eq_getElem (by omega)] at h1
      obtain ⟨cs', h2, h3⟩ := Option.bind_eq_some_iff.1 h1
      obtain ⟨c, rfl⟩ := ins_of_trod h3
      obtain ⟨_, _, hat⟩ := World.cells?_some h2
      refine ⟨c, fun j u hu => ?_⟩
      rw [← Go.Deep.add_add, hat j (List.getElem?_eq_some_iff.1 hu).1]
      exact hu)
    refine ⟨l, ⟨some ad, cap, by rw [hl1], fun k x hx => ?_⟩, by omega⟩
    obtain ⟨b, off, spot⟩ := ad
    have h0 := hl2 k x hx
    have hspot : spot = none := by
      obtain ⟨q, r, e⟩ : ∃ q r, l = q :: r := by
        cases l with
        | nil => simp at hx
        | cons q r => exact ⟨q, r, rfl⟩
      have := hl2 0 q (by rw [e]; rfl) 0 _ rfl
      simpa [Addr.add] using World.cell?_spot this
    subst hspot
    refine ⟨b, off, rfl, fun j u hu => ?_⟩
    have := h0 j u hu
    rw [Addr.add_lit] at this
    rw [Nat.add_assoc]; exact this
set_option maxRecDepth 100000 in
/-- a node that came in: all that hangs on it -/
theorem node_of_trod : ∀ (N fuel : Nat) (cs : List Value) (x : DataW H × List MemPlace), fuel ≤ N → DataW.trod enc Tryd.prog w 0 (fun _ => true) true fuel 84 cs = some x →
    ∃ (n : Ni) (a : Option Addr) (m c : Nat), cs = cellsN n (.slice a m c) ∧ KidsE w (.slice a m c) n.kids := by
  intro N
  induction N with
  | zero =>
    intro fuel cs x hN h
    obtain ⟨xs, n, e, _⟩ := DataW.trod_struct Tryd.underlying84 h
    omega
  | succ N ih =>
    intro fuel cs x hN h
    obtain ⟨xs, f1, ef, _, hlen, hxs, hf⟩ := DataW.trod_struct Tryd.underlying84 h
    rw [cellsNode] at hlen
    match cs, hlen with
    | [c0, c1, c2, c3, c4, c5, c6], _ =>
      match xs, hxs with
      | [x0, x1, x2, x3], _ =>
        have h0 : DataW.trod enc Tryd.prog w 0 (fun _ => true) true f1 3 (([c0, c1, c2, c3, c4, c5, c6].drop 0).take (Tryd.prog.cellsOf 3)) = some x0 := hf 0 _ rfl
        have h1 : DataW.trod enc Tryd.prog w 0 (fun _ => true) true f1 3 (([c0, c1, c2, c3, c4, c5, c6].drop 1).take (Tryd.prog.cellsOf 3)) = some x1 := hf 1 _ rfl
        have h2 : DataW.trod enc Tryd.prog w 0 (fun _ => true) true f1 56 (([c0, c1, c2, c3, c4, c5, c6].drop 2).take (Tryd.prog.cellsOf 56)) = some x2 := hf 2 _ rfl
        have h3 : DataW.trod enc Tryd.prog w 0 (fun _ => true) true f1 82 (([c0, c1, c2, c3, c4, c5, c6].drop 6).take (Tryd.prog.cellsOf 82)) = some x3 := hf 3 _ rfl
        rw [cellsInt] at h0 h1
        rw [cellsSetp] at h2
        rw [cellsRow] at h3
        obtain ⟨n0, e0, _, _⟩ := DataW.trod_int Tryd.underlying3 h0
        obtain ⟨n1, e1, _, _⟩ := DataW.trod_int Tryd.underlying3 h1
        obtain ⟨s, s0, s1, s2, s3⟩ := set_of_trod h2
        have e0' : [c0] = [Value.int .i64 n0] := e0
        have e1' : [c1] = [Value.int .i64 n1] := e1
        rw [List.cons.injEq] at e0' e1'
        have h3 : DataW.trod enc Tryd.prog w 0 (fun _ => true) true f1 82 [c6] = some x3 := h3
        rw [e0'.1, e1'.1, s0, s1, s2, s3]
        rcases DataW.trod_slice Tryd.underlying82 h3 with ⟨hcs, _⟩ | ⟨ad, len, cap, elems, rest, f2, ef2, hcs, -, -, hl, hm, hlen, hel, -, -⟩
        · have e6 : c6 = .slice none 0 0 := by simpa using hcs
          subst e6
          exact ⟨.mk n0 n1 s [], none, 0, 0, rfl, .empty none 0⟩
        · have e6 : c6 = .slice (some ad) len cap := by simpa using hcs
          subst e6
          rw [cellsNode] at hel
          obtain ⟨l, hl1, hl2⟩ := list_of (fun i (q : Ni × Value) => (∀ j u, (cellsN q.1 q.2)[j]? = some u → w.cell? (ad.add (i * 7 + j)) = some u) ∧ KidsE w q.2 q.1.kids) len (fun i hi => by
            have h1 := hel i hi
            rw [List.getElem?_eq_getElem (by omega)] at h1
            obtain ⟨cs', h2, h3⟩ := Option.bind_eq_some_iff.1 h1
            obtain ⟨n, a, m, c, rfl, hk⟩ := ih f2 cs' _ (by omega) h3
            obtain ⟨_, _, hat⟩ := World.cells?_some h2
            refine ⟨(n, .slice a m c), fun j u hu => ?_, hk⟩
            rw [← Go.Deep.add_add, hat j (List.getElem?_eq_some_iff.1 hu).1]
            exact hu)
          by_cases hl0 : l = []
          · subst hl0
            obtain rfl : 0 = len := hl1
            exact ⟨.mk n0 n1 s [], some ad, 0, cap, rfl, .empty _ _⟩
          · have hg : ∀ k n, (l.map Prod.fst)[k]? = some n → ∃ kv, l[k]? = some (n, kv) := fun k n hn => by
              rw [List.getElem?_map] at hn
              cases hx : l[k]? with
              | none => rw [hx] at hn; cases hn
              | some q => rw [hx] at hn; obtain ⟨n', kv⟩ := q; simp at hn; subst hn; exact ⟨kv, hx⟩
            obtain ⟨b, off, spot⟩ := ad
            have hspot : spot = none := by
              obtain ⟨q, r, rfl⟩ : ∃ q r, l = q :: r := by
                cases l with
                | nil => exact absurd rfl hl0
                | cons q r => exact ⟨q, r, rfl⟩
              have := (hl2 0 q rfl).1 0 _ rfl
              simpa [Addr.add] using World.cell?_spot this
            subst hspot
            refine ⟨.mk n0 n1 s (l.map Prod.fst), some ⟨b, off, none⟩, len, cap, rfl, ?_⟩
            have := KidsI.items (w := w) (p := fun _ => True) b off cap (l.map Prod.fst) (fun k => match l[k]? with | some x => x.2 | none => .nilIface) (by simpa using hl0) trivial (by rw [List.length_map, hl1]; exact hl) ?_ ?_
            · rw [List.length_map, hl1] at this; exact this
            · intro k n hn j u hu
              obtain ⟨kv, hx⟩ := hg k n hn
              rw [hx] at hu
              have h9 := (hl2 k _ hx).1 j u hu
              rw [Addr.add_lit] at h9
              rw [Nat.add_assoc]; exact h9
            · intro k n hn
              obtain ⟨kv, hx⟩ := hg k n hn
              rw [hx]
              exact (hl2 k _ hx).2
end
end Go.Proofs.YtgpmhnpacpgckaaDoor
