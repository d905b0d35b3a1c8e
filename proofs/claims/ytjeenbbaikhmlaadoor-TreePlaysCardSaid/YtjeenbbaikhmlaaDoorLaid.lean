/- What the listed variables hold when the law begins; a world that meets it; files that came in. -/
import Derived.Test.YtjeenbbaikhmlaaDoorTreeF
import Derived.ChangeSame
import Derived.ChangeVars
import Derived.JoinedOf
import Derived.RowKit
import Derived.RowKitTokens
import Derived.LaidLaws
import Derived.Stop.Joined
import Derived.Stop.LaidErr
import Derived.MakeChecks
import Derived.Deep.DeepLaidRun
import Derived.Deep.Slices
namespace Go.Proofs.YtjeenbbaikhmlaaDoor
open Go.RowKit Go.Maps Go.ChangeShapes Go.WideShapes Go.Deep

theorem ifaceErr : ∃ ms, Tryd.prog.underlying 36 = some (.interface ms) := ⟨_, Tryd.underlying36⟩
theorem cellsErr : Tryd.prog.cellsOf 141 = 1 := by kernel_rfl
theorem cellsStr : Tryd.prog.cellsOf 9 = 1 := by kernel_rfl
theorem cellsInt : Tryd.prog.cellsOf 3 = 1 := by kernel_rfl
theorem starErr : "*" ++ "errors.errorString" = "*errors.errorString" := by decide
theorem rowErr (u : TypeId) (h : Tryd.prog.typeName? 3 u = some "*errors.errorString") : u = 117 :=
  typeName_ptr_named (nm := "errors.errorString") (by rw [starErr]; kernel_rfl) (by kernel_rfl) (by decide) u (by rw [starErr]; exact h)

/-- a listed error: its number, its variable's name and number, its text -/
structure Sn where
  num : Nat
  name : String
  g : Nat
  text : List UInt8
def Sn.laid (q : Sn) : String × DataW Unit := (q.name, .iface "*errors.errorString" (.ptr (.agg [.lit (.string q.text)])))
/-- the variable is of that name, and of type error -/
def Sn.ok (q : Sn) : Prop := Tryd.prog.globalNamed q.name = some q.g ∧ (Tryd.prog.globals[q.g]?).map (·.type) = some 36
/-- the variable holds the error of its number, whose cells can't be written -/
def SentAt (A : Nat → Addr) (W : World) (q : Sn) : Prop :=
  W.cell? ⟨q.g, 0, none⟩ = some (.iface 117 (.pointer (some (A q.num)))) ∧ ∃ c t, W.heap[(A q.num).block]? = some (.cells c t (0, 0))

set_option maxRecDepth 100000 in
theorem laid_go {W : World} : ∀ (L : List Sn) (ps : List MemPlace), DataW.LaidVars Tryd.prog W (L.map Sn.laid) ps →
    (∀ b off, MemPlace.cell b off ∈ ps → (∃ c t, W.heap[b]? = some (.cells c t (0, 0))) ∧ ∀ u v, W.cell? ⟨b, off, none⟩ = some (.iface u v) → Value.okWide Tryd.prog W .any 0 u v) →
    ps.Nodup → (L.map Sn.num).Nodup → (∀ q ∈ L, q.ok) →
    ∃ A : Nat → Addr, (∀ q ∈ L, SentAt A W q) ∧ (∀ q ∈ L, MemPlace.cell (A q.num).block (A q.num).off ∈ ps) ∧ ∀ q ∈ L, ∀ r ∈ L, q.num ≠ r.num → A q.num ≠ A r.num
  | [], ps, _, _, _, _, _ => ⟨fun _ => ⟨0, 0, none⟩, by simp, by simp, by simp⟩
  | q :: L, ps, h, hrows, hnd, hnum, hok => by
    obtain ⟨g, t, cs, fuel, p, ps', hg, ht, hv, hd, hr, rfl⟩ := h
    obtain ⟨hg', ht'⟩ := hok q (by simp)
    obtain rfl := Option.some.inj (hg'.symm.trans hg)
    obtain rfl := Option.some.inj (ht'.symm.trans ht)
    obtain ⟨l0⟩ := cs
    have ok0 : ∀ u v, l0 = [.iface u v] → Value.okWide Tryd.prog W .any 0 u v := fun u v e => by
      subst e
      exact (hrows q.g 0 (by simp [MemPlace.row])).2 u v (by simpa using World.var?_cell hg' hv 0)
    obtain ⟨a, s, rfl, hc, hs, hz, rfl⟩ := errorString_of_trod Tryd.underlying36 rowErr Tryd.underlying117 Tryd.underlying141 rfl rfl Tryd.underlying9 cellsErr cellsStr hd ok0
    have hcell : W.cell? ⟨q.g, 0, none⟩ = some (.iface 117 (.pointer (some a))) := by simpa using World.var?_cell hg' hv 0
    have hin : MemPlace.cell a.block a.off ∈ MemPlace.row a 1 := by simp [MemPlace.row]
    have hrow := (hrows a.block a.off (List.mem_append_left _ (List.mem_append_right _ hin))).1
    obtain ⟨hnq, hnl⟩ := List.nodup_cons.1 hnum
    obtain ⟨_, hnd2, hdis⟩ := List.nodup_append.1 hnd
    obtain ⟨A, h1, h2, h3⟩ := laid_go L ps' hr (fun b off hm => hrows b off (List.mem_append_right _ hm)) hnd2 hnl (fun r hr => hok r (by simp [hr]))
    have hne : ∀ r ∈ L, r.num ≠ q.num := fun r hr e => hnq (e ▸ List.mem_map_of_mem hr)
    have hapart : ∀ r ∈ L, a ≠ A r.num := fun r hr e => by
      have m1 : MemPlace.cell a.block a.off ∈ ps' := by rw [e]; exact h2 r hr
      exact hdis _ (List.mem_append_right _ hin) _ m1 rfl
    obtain ⟨A', e1, e2⟩ : ∃ A' : Nat → Addr, A' q.num = a ∧ ∀ r ∈ L, A' r.num = A r.num :=
      ⟨fun n => if n = q.num then a else A n, if_pos rfl, fun r hr => if_neg (hne r hr)⟩
    refine ⟨A', fun r hr => ?_, fun r hr => ?_, fun r hr r' hr' hn => ?_⟩
    · rcases List.mem_cons.1 hr with h | h
      · rw [h]; unfold SentAt; rw [e1]; exact ⟨hcell, hrow⟩
      · unfold SentAt; rw [e2 r h]; exact h1 r h
    · rcases List.mem_cons.1 hr with h | h
      · rw [h, e1]; exact List.mem_append_left _ (List.mem_append_right _ hin)
      · rw [e2 r h]; exact List.mem_append_right _ (h2 r h)
    · rcases List.mem_cons.1 hr with h | h <;> rcases List.mem_cons.1 hr' with h' | h'
      · exact absurd (by rw [h, h']) hn
      · rw [h, e1, e2 r' h']; exact hapart r' h'
      · rw [h', e1, e2 r h]; exact (hapart r h).symm
      · rw [e2 r h, e2 r' h']; exact h3 r h r' h' hn

def allSn : List Sn := [⟨1, "millwright/api.ErrRange", 4, [97, 32, 110, 117, 109, 98, 101, 114, 32, 105, 115, 32, 111, 117, 116, 32, 111, 102, 32, 105, 116, 115, 32, 114, 97, 110, 103, 101]⟩,
  ⟨2, "millwright/api.ErrLong", 1, [116, 104, 101, 114, 101, 32, 105, 115, 32, 109, 111, 114, 101, 32, 116, 104, 97, 110, 32, 109, 97, 121, 32, 98, 101]⟩,
  ⟨3, "millwright/api.ErrForm", 5, [105, 116, 32, 105, 115, 32, 110, 111, 116, 32, 111, 102, 32, 105, 116, 115, 32, 102, 111, 114, 109]⟩,
  ⟨4, "millwright/api.ErrName", 0, [105, 116, 32, 105, 115, 32, 110, 111, 32, 114, 105, 103, 104, 116, 32, 110, 97, 109, 101]⟩,
  ⟨5, "millwright/api.ErrQuote", 6, [97, 32, 113, 117, 111, 116, 101, 32, 104, 97, 115, 32, 110, 111, 32, 101, 110, 100]⟩,
  ⟨6, "millwright/api.ErrRegex", 7, [105, 116, 32, 105, 115, 32, 110, 111, 32, 114, 101, 103, 117, 108, 97, 114, 32, 101, 120, 112, 114, 101, 115, 115, 105, 111, 110]⟩,
  ⟨7, "millwright/api.ErrAttr", 8, [105, 116, 32, 105, 115, 32, 110, 111, 32, 97, 116, 116, 114, 105, 98, 117, 116, 101]⟩,
  ⟨8, "millwright/api.ErrNone", 2, [116, 104, 101, 114, 101, 32, 105, 115, 32, 110, 111, 110, 101]⟩,
  ⟨9, "millwright/api.ErrDup", 3, [105, 116, 32, 105, 115, 32, 116, 104, 101, 114, 101, 32, 97, 108, 114, 101, 97, 100, 121]⟩,
  ⟨10, "millwright/api.ErrFull", 9, [116, 104, 101, 114, 101, 32, 105, 115, 32, 110, 111, 32, 109, 111, 114, 101, 32, 114, 111, 111, 109]⟩,
  ⟨11, "millwright/api.ErrDepth", 10, [105, 116, 32, 103, 111, 101, 115, 32, 116, 111, 111, 32, 100, 101, 101, 112]⟩,
  ⟨12, "millwright/api.ErrCycle", 11, [105, 116, 32, 108, 101, 97, 100, 115, 32, 98, 97, 99, 107, 32, 116, 111, 32, 105, 116, 115, 101, 108, 102]⟩,
  ⟨13, "millwright/api.ErrAmbig", 12, [116, 104, 101, 114, 101, 32, 97, 114, 101, 32, 115, 101, 118, 101, 114, 97, 108, 32, 119, 97, 121, 115, 32, 116, 111, 32, 109, 97, 107, 101, 32, 105, 116]⟩,
  ⟨14, "millwright/api.ErrState", 13, [105, 116, 32, 99, 97, 110, 32, 110, 111, 116, 32, 98, 101, 32, 100, 111, 110, 101, 32, 105, 110, 32, 116, 104, 105, 115, 32, 115, 116, 97, 116, 101]⟩,
  ⟨15, "millwright/api.ErrFail", 14, [97, 32, 114, 101, 99, 105, 112, 101, 32, 102, 97, 105, 108, 101, 100]⟩,
  ⟨16, "millwright/api.ErrFlag", 15, [105, 116, 32, 105, 115, 32, 110, 111, 32, 102, 108, 97, 103]⟩,
  ⟨17, "millwright/api.ErrKind", 16, [105, 116, 32, 105, 115, 32, 111, 102, 32, 97, 110, 111, 116, 104, 101, 114, 32, 107, 105, 110, 100]⟩,
  ⟨18, "millwright/api.ErrLost", 17, [110, 111, 98, 111, 100, 121, 32, 107, 110, 111, 119, 115, 32, 104, 111, 119, 32, 116, 111, 32, 109, 97, 107, 101, 32, 105, 116]⟩]
def sixSn : List Sn := allSn.filter fun q => q.num == 1 || q.num == 2 || q.num == 4 || q.num == 8 || q.num == 9 || q.num == 10
noncomputable def Sn.okB (q : Sn) : Bool := Tryd.prog.globalNamed q.name == some q.g && (Tryd.prog.globals[q.g]?).map (·.type) == some 36
theorem all_ok : allSn.all Sn.okB = true := by kernel_rfl
theorem allSn_ok : ∀ q ∈ allSn, q.ok := fun q hq => by
  have := List.all_eq_true.1 all_ok q hq
  unfold Sn.okB at this
  rw [Bool.and_eq_true, beq_iff_eq, beq_iff_eq] at this
  exact this
theorem sixSn_ok : ∀ q ∈ sixSn, q.ok := fun q hq => allSn_ok q (List.mem_filter.1 hq).1

theorem sents_of_laid {W : World} {L : List Sn} (hnum : (L.map Sn.num).Nodup) (hok : ∀ q ∈ L, q.ok) (h : laidMet Tryd.prog (L.map Sn.laid) W) :
    ∃ A : Nat → Addr, (∀ q ∈ L, SentAt A W q) ∧ ∀ q ∈ L, ∀ r ∈ L, q.num ≠ r.num → A q.num ≠ A r.num := by
  obtain ⟨ps, hv, hnd, hrows⟩ := h
  obtain ⟨A, h1, _, h3⟩ := laid_go L ps hv hrows hnd hnum hok
  exact ⟨A, h1, h3⟩
set_option maxRecDepth 100000 in
theorem sents6 {A : Nat → Addr} {W : World} {L : List Sn} (h : ∀ q ∈ L, SentAt A W q) (hL : L6 = (L.map fun q => (q.num, q.g)).filter fun x => L6.contains x) : Sents L6 A W := by
  intro x hx
  rw [hL] at hx
  obtain ⟨q, hq, rfl⟩ := List.mem_map.1 (List.mem_filter.1 hx).1
  exact (h q hq).1

noncomputable def low : Nat := (World.holding Tryd.prog default ⟨#[], #[], []⟩).heap.size
/-- a world in which the listed variables hold their errors -/
noncomputable def laidWorld (L : List Sn) (os : Os) : World :=
  let w0 := World.holding Tryd.prog os ⟨(L.map fun q => Obj.cells #[.string ⟨q.text.toArray⟩] 141).toArray, #[], []⟩
  { w0 with heap := (L.zipIdx.foldl (fun (h : Array Obj) (x : Sn × Nat) => h.modify x.1.g fun
      | .cells _ t frozen => .cells #[.iface 117 (.pointer (some ⟨low + x.2, 0, none⟩))] t frozen
      | o => o) w0.heap) }
set_option maxRecDepth 100000 in
theorem laidWorld6_met (os : Os) (args : Array Value) : laidMet Tryd.prog (sixSn.map Sn.laid) ((laidWorld sixSn os).forCall (fun _ _ => 0) ⟨#[], args, []⟩).memory :=
  laidMet_of_run3 8 (by kernel_rfl) (by kernel_rfl) (by kernel_rfl)
set_option maxRecDepth 100000 in
theorem laidWorld18_met (os : Os) (args : Array Value) : laidMet Tryd.prog (allSn.map Sn.laid) ((laidWorld allSn os).forCall (fun _ _ => 0) ⟨#[], args, []⟩).memory :=
  laidMet_of_run3 8 (by kernel_rfl) (by kernel_rfl) (by kernel_rfl)

/-! files that came in -/
section
variable {H : Type} {enc : TypeId × Value → H} {w : World} {base : Nat} {spare : Nat → Bool} {held : Bool}
theorem cellsFile : Tryd.prog.cellsOf 31 = 3 := by kernel_rfl
theorem cellsAct : Tryd.prog.cellsOf 33 = 4 := by kernel_rfl
set_option maxRecDepth 100000 in
theorem file_of_trod {fuel : Nat} {cs : List Value} {x : DataW H × List MemPlace} (h : DataW.trod enc Tryd.prog w base spare held fuel 31 cs = some x) :
    ∃ f : Fl, cs = [.string f.n, .string f.c, .int .i64 f.t] ∧ f.n.size ≤ maxLen ∧ f.c.size ≤ maxLen := by
  obtain ⟨xs, n, _, _, hlen, hxs, hf⟩ := DataW.trod_struct Tryd.underlying31 h
  rw [cellsFile] at hlen
  match cs, hlen with
  | [c0, c1, c2], _ =>
    match xs, hxs with
    | [x0, x1, x2], _ =>
      have h0 : DataW.trod enc Tryd.prog w base spare held n 9 (([c0, c1, c2].drop 0).take (Tryd.prog.cellsOf 9)) = some x0 := hf 0 _ rfl
      have h1 : DataW.trod enc Tryd.prog w base spare held n 9 (([c0, c1, c2].drop 1).take (Tryd.prog.cellsOf 9)) = some x1 := hf 1 _ rfl
      have h2 : DataW.trod enc Tryd.prog w base spare held n 3 (([c0, c1, c2].drop 2).take (Tryd.prog.cellsOf 3)) = some x2 := hf 2 _ rfl
      rw [cellsStr] at h0 h1
      rw [cellsInt] at h2
      obtain ⟨s0, e0, _, z0⟩ := DataW.trod_string Tryd.underlying9 h0
      obtain ⟨s1, e1, _, z1⟩ := DataW.trod_string Tryd.underlying9 h1
      obtain ⟨n2, e2, _, _⟩ := DataW.trod_int Tryd.underlying3 h2
      have e0' : [c0] = [Value.string s0] := e0
      have e1' : [c1] = [Value.string s1] := e1
      have e2' : [c2] = [Value.int .i64 n2] := e2
      rw [List.cons.injEq] at e0' e1' e2'
      exact ⟨⟨s0, s1, n2⟩, by rw [e0'.1, e1'.1, e2'.1], z0, z1⟩
set_option maxRecDepth 100000 in
theorem act_of_trod {fuel : Nat} {cs : List Value} {x : DataW H × List MemPlace} (h : DataW.trod enc Tryd.prog w base spare held fuel 33 cs = some x) :
    ∃ (q : Int) (f : Fl), cs = [.int .i64 q, .string f.n, .string f.c, .int .i64 f.t] ∧ f.n.size ≤ maxLen ∧ f.c.size ≤ maxLen := by
  obtain ⟨xs, n, _, _, hlen, hxs, hf⟩ := DataW.trod_struct Tryd.underlying33 h
  rw [cellsAct] at hlen
  match cs, hlen with
  | [c0, c1, c2, c3], _ =>
    match xs, hxs with
    | [x0, x1], _ =>
      have h0 : DataW.trod enc Tryd.prog w base spare held n 3 (([c0, c1, c2, c3].drop 0).take (Tryd.prog.cellsOf 3)) = some x0 := hf 0 _ rfl
      have h1 : DataW.trod enc Tryd.prog w base spare held n 31 (([c0, c1, c2, c3].drop 1).take (Tryd.prog.cellsOf 31)) = some x1 := hf 1 _ rfl
      rw [cellsInt] at h0
      rw [cellsFile] at h1
      obtain ⟨n0, e0, _, _⟩ := DataW.trod_int Tryd.underlying3 h0
      obtain ⟨f, e1, z0, z1⟩ := file_of_trod h1
      have e0' : [c0] = [Value.int .i64 n0] := e0
      have e1' : [c1, c2, c3] = [Value.string f.n, Value.string f.c, Value.int .i64 f.t] := e1
      rw [List.cons.injEq] at e0'
      exact ⟨n0, f, by rw [e0'.1, e1'], z0, z1⟩

set_option maxRecDepth 100000 in
/-- a slice of files that came in, as the walk is told of it -/
theorem frow_open {a : Option Addr} {len cap : Nat} {d : DataW H} {p : List MemPlace}
    (hj : DataW.Trod enc Tryd.prog w 0 (fun _ => true) true 48 (.slice a len cap) d p) : ∃ l, FRow w (.slice a len cap) l := by
  obtain ⟨fuel, hf⟩ := hj
  rcases open_slice Tryd.underlying48 hf with ⟨hcs, _⟩ | ⟨ad, len', cap', m, n, D, Pl, hcs, _, hl, hm, hmm, _, hi⟩
  · simp [Value.cells] at hcs
    obtain ⟨rfl, rfl, rfl⟩ := hcs
    exact ⟨[], none, 0, rfl, by simp, by simp, fun h => absurd rfl h⟩
  · simp [Value.cells] at hcs
    obtain ⟨rfl, rfl, rfl⟩ := hcs
    rw [if_pos rfl] at hmm
    subst hmm
    rw [cellsFile] at hi
    unfold maxLen at hm
    have key : ∀ i, i < len → ∃ f : Fl, f.n.size ≤ maxLen ∧ f.c.size ≤ maxLen ∧ w.cell? (ad.add (i * 3 + 0)) = some (.string f.n) ∧ w.cell? (ad.add (i * 3 + 1)) = some (.string f.c) ∧ w.cell? (ad.add (i * 3 + 2)) = some (.int .i64 f.t) := by
      intro i him
      obtain ⟨cs', hc, ht⟩ := hi i (by omega)
      obtain ⟨f, rfl, z0, z1⟩ := file_of_trod ht
      obtain ⟨_, _, hat⟩ := World.cells?_some hc
      refine ⟨f, z0, z1, ?_, ?_, ?_⟩
      · rw [← Go.Deep.add_add, hat 0 (by omega)]; rfl
      · rw [← Go.Deep.add_add, hat 1 (by omega)]; rfl
      · rw [← Go.Deep.add_add, hat 2 (by omega)]; rfl
    have : ∀ k, k ≤ len → ∃ l : List Fl, l.length = k ∧ ∀ j f, l[j]? = some f → f.n.size ≤ maxLen ∧ f.c.size ≤ maxLen ∧ w.cell? (ad.add (j * 3 + 0)) = some (.string f.n) ∧ w.cell? (ad.add (j * 3 + 1)) = some (.string f.c) ∧ w.cell? (ad.add (j * 3 + 2)) = some (.int .i64 f.t) := by
      intro k
      induction k with
      | zero => exact fun _ => ⟨[], rfl, by simp⟩
      | succ k ih =>
        intro hk
        obtain ⟨l, hl1, hl2⟩ := ih (by omega)
        obtain ⟨f, hf⟩ := key k (by omega)
        refine ⟨l ++ [f], by simp [hl1], fun j g hj => ?_⟩
        rcases Nat.lt_or_ge j l.length with hjl | hjl
        · rw [List.getElem?_append_left hjl] at hj
          exact hl2 j g hj
        · rw [List.getElem?_append_right hjl] at hj
          have hj0 : j - l.length = 0 := by
            rcases Nat.eq_zero_or_pos (j - l.length) with h | h
            · exact h
            · rw [List.getElem?_eq_none (by simp; omega)] at hj; cases hj
          rw [hj0] at hj
          obtain rfl : f = g := by simpa using hj
          obtain rfl : j = k := by omega
          exact hf
    obtain ⟨l, hl1, hl2⟩ := this len (Nat.le_refl _)
    refine ⟨l, some ad, _, by rw [hl1], by omega, fun f hf => ?_, fun hne => ?_⟩
    · obtain ⟨j, hj⟩ := List.mem_iff_getElem?.1 hf
      obtain ⟨z0, z1, _⟩ := hl2 j f hj
      exact ⟨z0, z1⟩
    · obtain ⟨f0, hf0⟩ : ∃ f, l[0]? = some f := by
        cases l with
        | nil => exact absurd rfl hne
        | cons f r => exact ⟨f, rfl⟩
      obtain ⟨b, off, spot⟩ := ad
      obtain ⟨_, _, hc0, _⟩ := hl2 0 f0 hf0
      have hspot : spot = none := by simpa [Addr.add] using World.cell?_spot hc0
      subst hspot
      refine ⟨b, off, rfl, ?_, fun j f hj => ?_⟩
      · rw [Addr.add_lit] at hc0
        exact cell_block hc0
      · obtain ⟨_, _, h0, h1, h2⟩ := hl2 j f hj
        rw [Addr.add_lit] at h0 h1 h2
        exact ⟨h0, h1, h2⟩
set_option maxRecDepth 100000 in
/-- what is done to a tree, by value -/
theorem act_open {r : Reach} {b0 : Nat} {v : Value} {d : DataW H} {p : List MemPlace} (hv : Value.okWide Tryd.prog w r b0 33 v) (h : DataW.Trod enc Tryd.prog w base spare held 33 v d p) :
    ∃ (q : Int) (f : Fl), v = .agg #[.int .i64 q, .string f.n, .string f.c, .int .i64 f.t] ∧ f.n.size ≤ maxLen ∧ f.c.size ≤ maxLen := by
  obtain ⟨cs, rfl, hsz⟩ := okWide_struct Tryd.underlying33 hv
  obtain ⟨fuel, hf⟩ := h
  obtain ⟨q, f, e, z0, z1⟩ := act_of_trod hf
  refine ⟨q, f, ?_, z0, z1⟩
  cases cs
  have e' : _ = _ := e
  simp [Value.cells] at e'
  rw [e']
end
end Go.Proofs.YtjeenbbaikhmlaaDoor
