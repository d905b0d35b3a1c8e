/- What layer 19's laws list: the errors, the flags' letters. Lines that came in. -/
import Derived.Test.YtdganemgldocoaaGreatDoorSpSame
import Derived.Test.YtdganemgldocoaaGreatDoorLaidAt
import Derived.Test.YtdganemgldocoaaGreatDoorSmOut
namespace Go.Proofs.YtdganemgldocoaaGreatDoor
open Go.RowKit Go.Maps Go.ChangeShapes Go.WideShapes Go.Deep

/-- the five errors that package stmt answers with -/
def fiveSn : List Sn := [⟨2, "millwright/api.ErrLong", 0, [116, 104, 101, 114, 101, 32, 105, 115, 32, 109, 111, 114, 101, 32, 116, 104, 97, 110, 32, 109, 97, 121, 32, 98, 101]⟩,
  ⟨3, "millwright/api.ErrForm", 1, [105, 116, 32, 105, 115, 32, 110, 111, 116, 32, 111, 102, 32, 105, 116, 115, 32, 102, 111, 114, 109]⟩,
  ⟨4, "millwright/api.ErrName", 4, [105, 116, 32, 105, 115, 32, 110, 111, 32, 114, 105, 103, 104, 116, 32, 110, 97, 109, 101]⟩,
  ⟨5, "millwright/api.ErrQuote", 5, [97, 32, 113, 117, 111, 116, 101, 32, 104, 97, 115, 32, 110, 111, 32, 101, 110, 100]⟩,
  ⟨7, "millwright/api.ErrAttr", 7, [105, 116, 32, 105, 115, 32, 110, 111, 32, 97, 116, 116, 114, 105, 98, 117, 116, 101]⟩]
theorem five_ok : fiveSn.all Sn.okB = true := by kernel_rfl
theorem fiveSn_ok : ∀ q ∈ fiveSn, q.ok := fun q hq => by
  have := List.all_eq_true.1 five_ok q hq
  unfold Sn.okB at this
  rw [Bool.and_eq_true, beq_iff_eq, beq_iff_eq] at this
  exact this
/-- what package stmt reads, of what is listed -/
theorem sp_env {A : Nat → Addr} {W : World} {E : List Sn} (hE : ∀ q ∈ E, SentAt A W q) (h5 : ∀ q ∈ fiveSn, q ∈ E) (hL : LetE W) (hM : MaxI W) : SpL A W := by
  have h : ∀ q ∈ fiveSn, SentAt A W q := fun q hq => hE q (h5 q hq)
  refine ⟨⟨fun q hq => h q ?_, hL, hM, (h ⟨7, "millwright/api.ErrAttr", 7, [105, 116, 32, 105, 115, 32, 110, 111, 32, 97, 116, 116, 114, 105, 98, 117, 116, 101]⟩ (by simp [fiveSn])).1, (h ⟨2, "millwright/api.ErrLong", 0, [116, 104, 101, 114, 101, 32, 105, 115, 32, 109, 111, 114, 101, 32, 116, 104, 97, 110, 32, 109, 97, 121, 32, 98, 101]⟩ (by simp [fiveSn])).1⟩, fun q hq => h q ?_⟩
  · simp only [thrL, List.mem_cons, List.not_mem_nil, or_false] at hq
    rcases hq with rfl | rfl | rfl <;> simp [fiveSn]
  · simp only [twoL, List.mem_cons, List.not_mem_nil, or_false] at hq
    rcases hq with rfl | rfl <;> simp [fiveSn]
theorem five_in : ∀ q ∈ fiveSn, q ∈ allSn := fun q hq => by
  simp only [fiveSn, List.mem_cons, List.not_mem_nil, or_false] at hq
  rcases hq with rfl | rfl | rfl | rfl | rfl <;> simp [allSn]
/-- package stmt, as the laws are told of it -/
theorem spS (A : Nat → Addr) : SmC A (SpL A) := smProg (fun _ _ h g => h.grown g) (fun _ h => h)
/-- what a law's walk stands on, that asks where an error stands -/
def SpW (A : Nat → Addr) (w : World) : Prop := SpL A w ∧ LEnv A w
theorem spW (A : Nat → Addr) : SmC A (SpW A) := smProg (fun _ _ h g => ⟨h.1.grown g, h.2.grown g⟩) (fun _ h => h.1)
theorem spP (A : Nat → Addr) (v : Value) (O : List Li) (w : World) (h : SpW A w) (hR : LiRow w v O) (hS : LiS O) : Calls Tryz.prog 9 #[v] w (PSmO (parS [] O) A w) := sParse A v O w h.1.s hR hS
section
variable {H : Type} {enc : TypeId × Value → H} {w : World}
theorem cellsLi : Tryz.prog.cellsOf 36 = 3 := by kernel_rfl
theorem cellsBoolS : Tryz.prog.cellsOf 4 = 1 := by kernel_rfl
theorem list_ofS {α : Type} (p : Nat → α → Prop) (m : Nat) (h : ∀ i, i < m → ∃ x, p i x) : ∃ l : List α, l.length = m ∧ ∀ i x, l[i]? = some x → p i x := by
  induction m with
  | zero => exact ⟨[], rfl, fun i x hx => by simp at hx⟩
  | succ n ih =>
    obtain ⟨l, h1, h2⟩ := ih fun i hi => h i (by omega)
    obtain ⟨x, hx⟩ := h n (Nat.lt_succ_self n)
    refine ⟨l ++ [x], by rw [List.length_append, h1]; rfl, fun i y hy => ?_⟩
    rcases Nat.lt_or_ge i l.length with hi | hi
    · rw [List.getElem?_append_left hi] at hy
      exact h2 i y hy
    · rw [List.getElem?_append_right hi] at hy
      have h0 : i - l.length = 0 := by have := (List.getElem?_eq_some_iff.1 hy).1; simp at this; omega
      rw [h0] at hy
      cases hy
      rw [show i = n by omega]
      exact hx
theorem no_spotS {b off : Nat} {spot : Option Nat} {v : Value} (h : w.cell? ((⟨b, off, spot⟩ : Addr).add 0) = some v) : spot = none := by
  simpa [Addr.add] using World.cell?_spot h
set_option maxRecDepth 100000 in
theorem li_of_trod {fuel : Nat} {cs : List Value} {x : DataW H × List MemPlace} (h : DataW.trod enc Tryz.prog w 0 (fun _ => true) true fuel 36 cs = some x) : ∃ f : Li, cs = liC f := by
  obtain ⟨xs, n, _, _, hlen, hxs, hf⟩ := DataW.trod_struct Tryz.underlying36 h
  rw [cellsLi] at hlen
  match cs, hlen with
  | [c0, c1, c2], _ =>
    match xs, hxs with
    | [x0, x1, x2], _ =>
      have h0 : DataW.trod enc Tryz.prog w 0 (fun _ => true) true n 9 (([c0, c1, c2].drop 0).take (Tryz.prog.cellsOf 9)) = some x0 := hf 0 _ rfl
      have h1 : DataW.trod enc Tryz.prog w 0 (fun _ => true) true n 3 (([c0, c1, c2].drop 1).take (Tryz.prog.cellsOf 3)) = some x1 := hf 1 _ rfl
      have h2 : DataW.trod enc Tryz.prog w 0 (fun _ => true) true n 4 (([c0, c1, c2].drop 2).take (Tryz.prog.cellsOf 4)) = some x2 := hf 2 _ rfl
      rw [cellsStr] at h0
      rw [cellsInt] at h1
      rw [cellsBoolS] at h2
      obtain ⟨s0, e0, _, _⟩ := DataW.trod_string Tryz.underlying9 h0
      obtain ⟨n1, e1, _, _⟩ := DataW.trod_int Tryz.underlying3 h1
      obtain ⟨b2, e2, _⟩ := DataW.trod_bool Tryz.underlying4 h2
      have e0' : [c0] = [Value.string s0] := e0
      have e1' : [c1] = [Value.int .i64 n1] := e1
      have e2' : [c2] = [Value.bool b2] := e2
      rw [List.cons.injEq] at e0' e1' e2'
      exact ⟨⟨s0, n1, b2⟩, by rw [e0'.1, e1'.1, e2'.1]⟩
set_option maxRecDepth 100000 in
/-- lines that came in -/
theorem lines_open {a : Option Addr} {len cap : Nat} {d : DataW H} {p : List MemPlace} (hj : DataW.Trod enc Tryz.prog w 0 (fun _ => true) true 33 (.slice a len cap) d p) : ∃ L, LiRow w (.slice a len cap) L := by
  obtain ⟨fuel, hf⟩ := hj
  rcases DataW.trod_slice Tryz.underlying33 hf with ⟨hcs, _⟩ | ⟨ad, len', cap', elems, rest, n, -, hcs, -, -, hl, hm, hlen, hel, -, -⟩
  · simp [Value.cells] at hcs
    obtain ⟨rfl, rfl, rfl⟩ := hcs
    exact ⟨[], none, 0, rfl, by decide, fun h => absurd rfl h⟩
  · simp [Value.cells] at hcs
    obtain ⟨rfl, rfl, rfl⟩ := hcs
    rw [cellsLi] at hel
    obtain ⟨L, hl1, hl2⟩ := list_ofS (fun i (c : Li) => ∀ j u, (liC c)[j]? = some u → w.cell? (ad.add (i * 3 + j)) = some u) len (fun i hi => by
      have h1 := hel i hi
      rw [List.getElem?_eq_getElem (by omega)] at h1
      obtain ⟨cs', h2, h3⟩ := Option.bind_eq_some_iff.1 h1
      obtain ⟨c, rfl⟩ := li_of_trod h3
      obtain ⟨_, _, hat⟩ := World.cells?_some h2
      refine ⟨c, fun j u hu => ?_⟩
      rw [← Go.Deep.add_add, hat j (List.getElem?_eq_some_iff.1 hu).1]
      exact hu)
    unfold maxLen at hm
    refine ⟨L, some ad, cap, by rw [hl1], by omega, fun hne => ?_⟩
    obtain ⟨b, off, spot⟩ := ad
    obtain ⟨q, r, rfl⟩ : ∃ q r, L = q :: r := by
      cases L with
      | nil => exact (hne rfl).elim
      | cons q r => exact ⟨q, r, rfl⟩
    have hf0 := hl2 0 q rfl 0 _ rfl
    obtain rfl : spot = none := no_spotS hf0
    rw [Addr.add_lit] at hf0
    refine ⟨b, off, rfl, cell_block hf0, fun j x hx => ?_⟩
    have k0 := hl2 j x hx 0 _ rfl
    have k1 := hl2 j x hx 1 _ rfl
    have k2 := hl2 j x hx 2 _ rfl
    rw [Addr.add_lit] at k0 k1 k2
    exact ⟨k0, k1, k2⟩
end
end Go.Proofs.YtdganemgldocoaaGreatDoor
