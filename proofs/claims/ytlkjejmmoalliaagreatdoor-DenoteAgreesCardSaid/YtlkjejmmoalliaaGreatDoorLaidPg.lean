/- What the listed variables hold when a law of layer 7 begins: errors, the table of the signs behind an atom, the kinds' words. How nodes and instructions come in; what the laws of layer 8 list. What the laws of layer 10 list: the errors of Parse. -/
import Derived.Test.YtlkjejmmoalliaaGreatDoorLaidErr
import Derived.Test.YtlkjejmmoalliaaGreatDoorRexV
import Derived.OpenShut
import Derived.Test.YtlkjejmmoalliaaGreatDoorPgOf
import Derived.Laws.IdiomArrays
import Derived.Deep.Slices
namespace Go.Proofs.YtlkjejmmoalliaaGreatDoor
open Go.RowKit Go.Maps Go.ChangeShapes Go.WideShapes Go.Deep

theorem cellsRep : Tryz.prog.cellsOf 137 = 6 := by kernel_rfl
theorem cellsRep1 : Tryz.prog.cellsOf 136 = 2 := by kernel_rfl
theorem cellsU8' : Tryz.prog.cellsOf 5 = 1 := by kernel_rfl
def repD {H : Type} : DataW H := .agg [.agg [.lit (.int .u8 42), .lit (.int .i64 4)], .agg [.lit (.int .u8 43), .lit (.int .i64 5)], .agg [.lit (.int .u8 63), .lit (.int .i64 6)]]
theorem one_rep {H : Type} {enc : TypeId × Value → H} {w : World} {base : Nat} {spare : Nat → Bool} {held : Bool} {fuel : Nat} {c0 c1 : Value} {x : DataW H × List MemPlace} {a b : Int}
    (h : DataW.trod enc Tryz.prog w base spare held fuel 136 [c0, c1] = some x) (hx : x.1 = .agg [.lit (.int .u8 a), .lit (.int .i64 b)]) : c0 = .int .u8 a ∧ c1 = .int .i64 b := by
  obtain ⟨xs, n, -, rfl, -, hl, hf⟩ := DataW.trod_struct Tryz.underlying136 h
  match xs, hl with
  | [x0, x1], _ =>
    have h0 : DataW.trod enc Tryz.prog w base spare held n 5 (([c0, c1].drop 0).take (Tryz.prog.cellsOf 5)) = some x0 := hf 0 _ rfl
    have h1 : DataW.trod enc Tryz.prog w base spare held n 3 (([c0, c1].drop 1).take (Tryz.prog.cellsOf 3)) = some x1 := hf 1 _ rfl
    rw [cellsU8'] at h0
    rw [cellsInt] at h1
    obtain ⟨n0, e0, rfl, -⟩ := DataW.trod_int Tryz.underlying5 h0
    obtain ⟨n1, e1, rfl, -⟩ := DataW.trod_int Tryz.underlying3 h1
    simp at hx e0 e1
    exact ⟨by rw [e0, hx.1], by rw [e1, hx.2]⟩
set_option maxRecDepth 100000 in
theorem rep_cells {H : Type} {enc : TypeId × Value → H} {w : World} {base : Nat} {spare : Nat → Bool} {held : Bool} {fuel : Nat} {cs : List Value} {p : List MemPlace}
    (h : DataW.trod enc Tryz.prog w base spare held fuel 137 cs = some (repD, p)) : cs = [.int .u8 42, .int .i64 4, .int .u8 43, .int .i64 5, .int .u8 63, .int .i64 6] := by
  obtain ⟨xs, m, -, hx, hl, hxl, hf⟩ := DataW.trod_array Tryz.underlying137 h
  rw [cellsRep] at hl
  rw [cellsRep1] at hf
  match cs, hl, xs, hxl with
  | [c0, c1, c2, c3, c4, c5], _, [x0, x1, x2], _ =>
    have h0 : DataW.trod enc Tryz.prog w base spare held m _ [c0, c1] = some x0 := hf 0 (by decide)
    have h1 : DataW.trod enc Tryz.prog w base spare held m _ [c2, c3] = some x1 := hf 1 (by decide)
    have h2 : DataW.trod enc Tryz.prog w base spare held m _ [c4, c5] = some x2 := hf 2 (by decide)
    have hd := congrArg Prod.fst hx
    simp only [repD, List.map_cons, List.map_nil, DataW.agg.injEq, List.cons.injEq, and_true] at hd
    obtain ⟨d0, d1, d2⟩ := hd
    obtain ⟨rfl, rfl⟩ := one_rep h0 d0.symm
    obtain ⟨rfl, rfl⟩ := one_rep h1 d1.symm
    obtain ⟨rfl, rfl⟩ := one_rep h2 d2.symm
    rfl
def isRepV (x : String × DataW Unit) : Bool := x.1 == "millwright/rex.repeats"
set_option maxRecDepth 100000 in
theorem rep_of_laid {W : World} (h : laidMet Tryz.prog [("millwright/rex.repeats", repD)] W) : RepEnv W := by
  obtain ⟨ps, ⟨g, t, cs, fuel, p, q, hg, ht, hv, hd, _, _⟩, _⟩ := h
  obtain rfl := Option.some.inj ((show Tryz.prog.globalNamed "millwright/rex.repeats" = some 18 by kernel_rfl).symm.trans hg)
  obtain rfl := Option.some.inj ((show (Tryz.prog.globals[18]?).map (·.type) = some 137 by kernel_rfl).symm.trans ht)
  obtain ⟨l0⟩ := cs
  obtain rfl := rep_cells hd
  have c := World.var?_cell hg hv
  exact ⟨by simpa using c 0, by simpa using c 1, by simpa using c 2, by simpa using c 3, by simpa using c 4, by simpa using c 5⟩
/-- what Parse reads, of what a law lists -/
theorem penv_of_laid {W : World} {L : List (String × DataW Unit)} (E : List Sn) (hnum : (E.map Sn.num).Nodup) (hok : ∀ q ∈ E, q.ok) (h3 : ∀ x ∈ L3, ∃ q ∈ E, (q.num, q.g) = x)
    (h1 : L.filter (fun x => E.any fun q => q.name == x.1) = E.map Sn.laid) (h2 : L.filter isRepV = [("millwright/rex.repeats", repD)]) (h : laidMet Tryz.prog L W) :
    ∃ A, PEnv A W ∧ (∀ q ∈ E, SentAt A W q) ∧ ∀ q ∈ E, ∀ r ∈ E, q.num ≠ r.num → A q.num ≠ A r.num := by
  have he := h.filter (fun x => E.any fun q => q.name == x.1)
  have hp := h.filter isRepV
  rw [h1] at he
  rw [h2] at hp
  obtain ⟨A, hA, hne⟩ := sents_of_laid (L := E) hnum hok he
  refine ⟨A, ⟨fun x hx => ?_, rep_of_laid hp⟩, hA, hne⟩
  obtain ⟨q, hq, rfl⟩ := h3 x hx
  exact (hA q hq).1
/-- the three errors of Parse -/
def threeSn : List Sn := allSn.filter fun q => q.num == 2 || q.num == 6 || q.num == 10
theorem three_ok : ∀ q ∈ threeSn, q.ok := fun q hq => allSn_ok q (List.mem_filter.1 hq).1
theorem three_L3 : ∀ x ∈ L3, ∃ q ∈ threeSn, (q.num, q.g) = x := by decide
theorem all_L3 : ∀ x ∈ L3, ∃ q ∈ allSn, (q.num, q.g) = x := by decide
end Go.Proofs.YtlkjejmmoalliaaGreatDoor

namespace Go.Proofs.YtlkjejmmoalliaaGreatDoor
open Go.RowKit Go.Maps Go.ChangeShapes Go.WideShapes Go.Deep

section
variable {H : Type} {enc : TypeId × Value → H} {w : World} {spare : Nat → Bool} {held : Bool}
theorem cellsU64p : Tryz.prog.cellsOf 23 = 1 := by kernel_rfl
theorem cellsSetp : Tryz.prog.cellsOf 25 = 4 := by kernel_rfl
theorem cellsNode : Tryz.prog.cellsOf 28 = 7 := by kernel_rfl
theorem cellsIns : Tryz.prog.cellsOf 74 = 7 := by kernel_rfl
theorem cellsRow : Tryz.prog.cellsOf 26 = 1 := by kernel_rfl
theorem set_of_trod {base fuel : Nat} {c0 c1 c2 c3 : Value} {x : DataW H × List MemPlace} (h : DataW.trod enc Tryz.prog w base spare held fuel 25 [c0, c1, c2, c3] = some x) :
    ∃ s : BitVec 256, c0 = .int .u64 (wd s 0) ∧ c1 = .int .u64 (wd s 1) ∧ c2 = .int .u64 (wd s 2) ∧ c3 = .int .u64 (wd s 3) := by
  obtain ⟨y0, y1, y2, y3, m, hx, hy0, hy1, hy2, hy3⟩ := trod_array4 Tryz.underlying25 cellsU64p h
  obtain ⟨x0, e0, rfl, w0⟩ := DataW.trod_int Tryz.underlying23 hy0
  obtain ⟨x1, e1, rfl, w1⟩ := DataW.trod_int Tryz.underlying23 hy1
  obtain ⟨x2, e2, rfl, w2⟩ := DataW.trod_int Tryz.underlying23 hy2
  obtain ⟨x3, e3, rfl, w3⟩ := DataW.trod_int Tryz.underlying23 hy3
  simp at e0 e1 e2 e3
  subst e0 e1 e2 e3
  have q0 := bounds_u64 w0; have q1 := bounds_u64 w1; have q2 := bounds_u64 w2; have q3 := bounds_u64 w3
  obtain ⟨s, h0, h1, h2, h3⟩ := wd_any x0 x1 x2 x3 (by omega) (by omega) (by omega) (by omega) (by omega) (by omega) (by omega) (by omega)
  exact ⟨s, by rw [h0], by rw [h1], by rw [h2], by rw [h3]⟩
set_option maxRecDepth 100000 in
theorem ins_of_trod {base fuel : Nat} {cs : List Value} {x : DataW H × List MemPlace} (h : DataW.trod enc Tryz.prog w base spare held fuel 74 cs = some x) : ∃ c : Ins, cs = cellsC c := by
  obtain ⟨xs, n, _, _, hlen, hxs, hf⟩ := DataW.trod_struct Tryz.underlying74 h
  rw [cellsIns] at hlen
  match cs, hlen with
  | [c0, c1, c2, c3, c4, c5, c6], _ =>
    match xs, hxs with
    | [x0, x1, x2, x3], _ =>
      have h0 : DataW.trod enc Tryz.prog w base spare held n 3 (([c0, c1, c2, c3, c4, c5, c6].drop 0).take (Tryz.prog.cellsOf 3)) = some x0 := hf 0 _ rfl
      have h1 : DataW.trod enc Tryz.prog w base spare held n 3 (([c0, c1, c2, c3, c4, c5, c6].drop 1).take (Tryz.prog.cellsOf 3)) = some x1 := hf 1 _ rfl
      have h2 : DataW.trod enc Tryz.prog w base spare held n 3 (([c0, c1, c2, c3, c4, c5, c6].drop 2).take (Tryz.prog.cellsOf 3)) = some x2 := hf 2 _ rfl
      have h3 : DataW.trod enc Tryz.prog w base spare held n 25 (([c0, c1, c2, c3, c4, c5, c6].drop 3).take (Tryz.prog.cellsOf 25)) = some x3 := hf 3 _ rfl
      rw [cellsInt] at h0 h1 h2
      rw [cellsSetp] at h3
      obtain ⟨n0, e0, _, _⟩ := DataW.trod_int Tryz.underlying3 h0
      obtain ⟨n1, e1, _, _⟩ := DataW.trod_int Tryz.underlying3 h1
      obtain ⟨n2, e2, _, _⟩ := DataW.trod_int Tryz.underlying3 h2
      obtain ⟨s, s0, s1, s2, s3⟩ := set_of_trod h3
      have e0' : [c0] = [Value.int .i64 n0] := e0
      have e1' : [c1] = [Value.int .i64 n1] := e1
      have e2' : [c2] = [Value.int .i64 n2] := e2
      rw [List.cons.injEq] at e0' e1' e2'
      exact ⟨⟨n0, n1, n2, s⟩, by rw [e0'.1, e1'.1, e2'.1, s0, s1, s2, s3]; rfl⟩
/-- elements that are as p says, as a list -/
theorem list_of {α : Type} (p : Nat → α → Prop) (m : Nat) (h : ∀ i, i < m → ∃ x, p i x) : ∃ l : List α, l.length = m ∧ ∀ i x, l[i]? = some x → p i x := by
  induction m with
  | zero => exact ⟨[], rfl, by simp⟩
  | succ m ih =>
    obtain ⟨l, h1, h2⟩ := ih fun i hi => h i (by omega)
    obtain ⟨x, hx⟩ := h m (by omega)
    refine ⟨l ++ [x], by simp [h1], fun i y hy => ?_⟩
    rcases Nat.lt_or_ge i l.length with hi | hi
    · rw [List.getElem?_append_left hi] at hy; exact h2 i y hy
    · rw [List.getElem?_append_right hi] at hy
      have h0 : i - l.length = 0 := by
        rcases Nat.eq_zero_or_pos (i - l.length) with h | h
        · exact h
        · rw [List.getElem?_eq_none (by simp; omega)] at hy; cases hy
      rw [h0] at hy
      obtain rfl : x = y := by simpa using hy
      obtain rfl : i = m := by omega
      exact hx
set_option maxRecDepth 100000 in
/-- a slice of instructions that came in -/
theorem crow_open {a : Option Addr} {len cap : Nat} {d : DataW H} {p : List MemPlace} (hj : DataW.Trod enc Tryz.prog w 0 (fun _ => true) true 33 (.slice a len cap) d p) :
    ∃ l, CRow w (.slice a len cap) l ∧ l.length ≤ maxLen := by
  obtain ⟨fuel, hf⟩ := hj
  rcases DataW.trod_slice Tryz.underlying33 hf with ⟨hcs, _⟩ | ⟨ad, len', cap', elems, rest, n, -, hcs, -, -, hl, hm, hlen, hel, -, -⟩
  · simp [Value.cells] at hcs
    obtain ⟨rfl, rfl, rfl⟩ := hcs
    exact ⟨[], row_nil _, by simp [maxLen]⟩
  · simp [Value.cells] at hcs
    obtain ⟨rfl, rfl, rfl⟩ := hcs
    rw [cellsIns] at hel
    obtain ⟨l, hl1, hl2⟩ := list_of (fun i (c : Ins) => ∀ j u, (cellsC c)[j]? = some u → w.cell? (ad.add (i * 7 + j)) = some u) len (fun i hi => by
      have h1 := hel i hi
      rw [List.getElem?_eq_getElem (by omega)] at h1
      obtain ⟨cs', h2, h3⟩ := Option.bind_eq_some_iff.1 h1
      obtain ⟨c, rfl⟩ := ins_of_trod h3
      obtain ⟨_, _, hat⟩ := World.cells?_some h2
      refine ⟨c, fun j u hu => ?_⟩
      rw [← Go.Deep.add_add, hat j (List.getElem?_eq_some_iff.1 hu).1]
      exact hu)
    refine ⟨l, ⟨some ad, cap, by rw [hl1], fun k x hx => ?_⟩, by omega⟩
    obtain ⟨b, off, spot⟩ := ad
    have h0 := hl2 k x hx
    have hspot : spot = none := by
      obtain ⟨q, r, e⟩ : ∃ q r, l = q :: r := by
        cases l with
        | nil => simp at hx
        | cons q r => exact ⟨q, r, rfl⟩
      have := hl2 0 q (by rw [e]; rfl) 0 _ rfl
      simpa [Addr.add] using World.cell?_spot this
    subst hspot
    refine ⟨b, off, rfl, fun j u hu => ?_⟩
    have := h0 j u hu
    rw [Addr.add_lit] at this
    rw [Nat.add_assoc]; exact this
set_option maxRecDepth 100000 in
/-- a node that came in: all that hangs on it -/
theorem node_of_trod : ∀ (N fuel : Nat) (cs : List Value) (x : DataW H × List MemPlace), fuel ≤ N → DataW.trod enc Tryz.prog w 0 (fun _ => true) true fuel 28 cs = some x →
    ∃ (n : Ni) (a : Option Addr) (m c : Nat), cs = cellsN n (.slice a m c) ∧ KidsE w (.slice a m c) n.kids := by
  intro N
  induction N with
  | zero =>
    intro fuel cs x hN h
    obtain ⟨xs, n, e, _⟩ := DataW.trod_struct Tryz.underlying28 h
    omega
  | succ N ih =>
    intro fuel cs x hN h
    obtain ⟨xs, f1, ef, _, hlen, hxs, hf⟩ := DataW.trod_struct Tryz.underlying28 h
    rw [cellsNode] at hlen
    match cs, hlen with
    | [c0, c1, c2, c3, c4, c5, c6], _ =>
      match xs, hxs with
      | [x0, x1, x2, x3], _ =>
        have h0 : DataW.trod enc Tryz.prog w 0 (fun _ => true) true f1 3 (([c0, c1, c2, c3, c4, c5, c6].drop 0).take (Tryz.prog.cellsOf 3)) = some x0 := hf 0 _ rfl
        have h1 : DataW.trod enc Tryz.prog w 0 (fun _ => true) true f1 3 (([c0, c1, c2, c3, c4, c5, c6].drop 1).take (Tryz.prog.cellsOf 3)) = some x1 := hf 1 _ rfl
        have h2 : DataW.trod enc Tryz.prog w 0 (fun _ => true) true f1 25 (([c0, c1, c2, c3, c4, c5, c6].drop 2).take (Tryz.prog.cellsOf 25)) = some x2 := hf 2 _ rfl
        have h3 : DataW.trod enc Tryz.prog w 0 (fun _ => true) true f1 26 (([c0, c1, c2, c3, c4, c5, c6].drop 6).take (Tryz.prog.cellsOf 26)) = some x3 := hf 3 _ rfl
        rw [cellsInt] at h0 h1
        rw [cellsSetp] at h2
        rw [cellsRow] at h3
        obtain ⟨n0, e0, _, _⟩ := DataW.trod_int Tryz.underlying3 h0
        obtain ⟨n1, e1, _, _⟩ := DataW.trod_int Tryz.underlying3 h1
        obtain ⟨s, s0, s1, s2, s3⟩ := set_of_trod h2
        have e0' : [c0] = [Value.int .i64 n0] := e0
        have e1' : [c1] = [Value.int .i64 n1] := e1
        rw [List.cons.injEq] at e0' e1'
        have h3 : DataW.trod enc Tryz.prog w 0 (fun _ => true) true f1 26 [c6] = some x3 := h3
        rw [e0'.1, e1'.1, s0, s1, s2, s3]
        rcases DataW.trod_slice Tryz.underlying26 h3 with ⟨hcs, _⟩ | ⟨ad, len, cap, elems, rest, f2, ef2, hcs, -, -, hl, hm, hlen, hel, -, -⟩
        · have e6 : c6 = .slice none 0 0 := by simpa using hcs
          subst e6
          exact ⟨.mk n0 n1 s [], none, 0, 0, rfl, .empty none 0⟩
        · have e6 : c6 = .slice (some ad) len cap := by simpa using hcs
          subst e6
          rw [cellsNode] at hel
          obtain ⟨l, hl1, hl2⟩ := list_of (fun i (q : Ni × Value) => (∀ j u, (cellsN q.1 q.2)[j]? = some u → w.cell? (ad.add (i * 7 + j)) = some u) ∧ KidsE w q.2 q.1.kids) len (fun i hi => by
            have h1 := hel i hi
            rw [List.getElem?_eq_getElem (by omega)] at h1
            obtain ⟨cs', h2, h3⟩ := Option.bind_eq_some_iff.1 h1
            obtain ⟨n, a, m, c, rfl, hk⟩ := ih f2 cs' _ (by omega) h3
            obtain ⟨_, _, hat⟩ := World.cells?_some h2
            refine ⟨(n, .slice a m c), fun j u hu => ?_, hk⟩
            rw [← Go.Deep.add_add, hat j (List.getElem?_eq_some_iff.1 hu).1]
            exact hu)
          by_cases hl0 : l = []
          · subst hl0
            obtain rfl : 0 = len := hl1
            exact ⟨.mk n0 n1 s [], some ad, 0, cap, rfl, .empty _ _⟩
          · have hg : ∀ k n, (l.map Prod.fst)[k]? = some n → ∃ kv, l[k]? = some (n, kv) := fun k n hn => by
              rw [List.getElem?_map] at hn
              cases hx : l[k]? with
              | none => rw [hx] at hn; cases hn
              | some q => rw [hx] at hn; obtain ⟨n', kv⟩ := q; simp at hn; subst hn; exact ⟨kv, hx⟩
            obtain ⟨b, off, spot⟩ := ad
            have hspot : spot = none := by
              obtain ⟨q, r, rfl⟩ : ∃ q r, l = q :: r := by
                cases l with
                | nil => exact absurd rfl hl0
                | cons q r => exact ⟨q, r, rfl⟩
              have := (hl2 0 q rfl).1 0 _ rfl
              simpa [Addr.add] using World.cell?_spot this
            subst hspot
            refine ⟨.mk n0 n1 s (l.map Prod.fst), some ⟨b, off, none⟩, len, cap, rfl, ?_⟩
            have := KidsI.items (w := w) (p := fun _ => True) b off cap (l.map Prod.fst) (fun k => match l[k]? with | some x => x.2 | none => .nilIface) (by simpa using hl0) trivial (by rw [List.length_map, hl1]; exact hl) ?_ ?_
            · rw [List.length_map, hl1] at this; exact this
            · intro k n hn j u hu
              obtain ⟨kv, hx⟩ := hg k n hn
              rw [hx] at hu
              have h9 := (hl2 k _ hx).1 j u hu
              rw [Addr.add_lit] at h9
              rw [Nat.add_assoc]; exact h9
            · intro k n hn
              obtain ⟨kv, hx⟩ := hg k n hn
              rw [hx]
              exact (hl2 k _ hx).2
end
/-- the errors of Parse and of Compile -/
def fourSn : List Sn := allSn.filter fun q => q.num == 2 || q.num == 6 || q.num == 10 || q.num == 17
theorem four_ok : ∀ q ∈ fourSn, q.ok := fun q hq => allSn_ok q (List.mem_filter.1 hq).1
theorem four_L3 : ∀ x ∈ L3, ∃ q ∈ fourSn, (q.num, q.g) = x := by decide
end Go.Proofs.YtlkjejmmoalliaaGreatDoor

namespace Go.Proofs.YtlkjejmmoalliaaGreatDoor
open Go.RowKit Go.Maps Go.ChangeShapes Go.WideShapes Go.Deep

def three10 : List Sn := [⟨2, "millwright/api.ErrLong", 0, [116, 104, 101, 114, 101, 32, 105, 115, 32, 109, 111, 114, 101, 32, 116, 104, 97, 110, 32, 109, 97, 121, 32, 98, 101]⟩,
  ⟨6, "millwright/api.ErrRegex", 1, [105, 116, 32, 105, 115, 32, 110, 111, 32, 114, 101, 103, 117, 108, 97, 114, 32, 101, 120, 112, 114, 101, 115, 115, 105, 111, 110]⟩,
  ⟨10, "millwright/api.ErrFull", 2, [116, 104, 101, 114, 101, 32, 105, 115, 32, 110, 111, 32, 109, 111, 114, 101, 32, 114, 111, 111, 109]⟩]
theorem all_ok10 : three10.all Sn.okB = true := by kernel_rfl
theorem three10_ok : ∀ q ∈ three10, q.ok := fun q hq => by
  have := List.all_eq_true.1 all_ok10 q hq
  unfold Sn.okB at this
  rw [Bool.and_eq_true, beq_iff_eq, beq_iff_eq] at this
  exact this
theorem three10_L3 : ∀ x ∈ L3, ∃ q ∈ three10, (q.num, q.g) = x := by decide
end Go.Proofs.YtlkjejmmoalliaaGreatDoor
