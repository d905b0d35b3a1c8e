/- Walks of package tree: a tree in memory; New, the files of a tree, Get, Time. -/
import Derived.Test.YtbcemenfklgnkaaGreatDoorRows
import Derived.Test.YtbcemenfklgnkaaGreatDoorPlain
import Derived.Test.YtbcemenfklgnkaaGreatDoorBase
import Derived.WalkKit
import Derived.WalkSpells
import Derived.OwnWalk
import Derived.Maps.OwnSet
import Derived.Maps.RangeWalk
import Derived.Lib.Hide
import Derived.StillTactics
import Derived.Laws.Pointers
import Derived.Deep.RegionHeld3
import Derived.KernelRfl
namespace Go.Proofs.YtbcemenfklgnkaaGreatDoor
open Go.RowKit Go.Maps

theorem lawS : Keyed Tryz.prog 9 := string_keyed Tryz.underlying9
theorem keyIs {s : ByteArray} (h : s.size ≤ maxLen) : keyOf Tryz.prog 9 (.string s) = some (keyS s) := Go.WideMaps.keyOf_string_mk Tryz.underlying9 h
theorem zeroFile (w : World) : (zeroValue 61).run Tryz.prog w = .ok (.agg #[.string ByteArray.empty, .string ByteArray.empty, .int .i64 0]) w := by kernel_rfl

theorem fldC (n c : ByteArray) (t : Int) (w : World) : (Instr.field 61 (.agg #[.string n, .string c, .int .i64 t]) 1).run Tryz.prog w = .ok (.string c) w := by kernel_rfl
theorem fldT (n c : ByteArray) (t : Int) (w : World) : (Instr.field 61 (.agg #[.string n, .string c, .int .i64 t]) 2).run Tryz.prog w = .ok (.int .i64 t) w := by kernel_rfl

/-- block b is a map that holds the files l -/
def MapIs (w : World) (b : Nat) (l : List Fl) : Prop := w.ownsMap Tryz.prog 9 fileElem b l.length (toD l)
/-- p leads to a tree of the files l, whose map is block b -/
def IsTree (w : World) (p b : Nat) (l : List Fl) : Prop := w.cell? ⟨p, 0, none⟩ = some (.map (some b)) ∧ MapIs w b l ∧ l.length ≤ 40

theorem ownsMap_tight {w : World} {P : Program} {k : TypeId} {R : Value → Option (DataW Unit × List MemPlace)} {b n : Nat} {D : DataW Unit} (h : w.ownsMap P k R b n D) : w.ownsMap P k R b (Maps.size D) D := by
  obtain ⟨es, clock, hb, F, hs, rfl⟩ := h
  exact ⟨es, clock, hb, F, by simp [Maps.size, length_sorted], rfl⟩
theorem mapIs_of {w : World} {b n : Nat} {l : List Fl} (h : w.ownsMap Tryz.prog 9 fileElem b n (toD l)) : MapIs w b l := by
  have := ownsMap_tight h
  rwa [toD_size] at this

theorem map_not_cell {w : World} {p b o : Nat} {v : Value} {l : List Fl} (h : w.cell? ⟨p, o, none⟩ = some v) (hm : MapIs w b l) : p ≠ b := by
  rintro rfl
  obtain ⟨es, clock, hb, -⟩ := hm
  unfold World.cell? at h
  rw [hb] at h
  cases h
theorem MapIs.kept {w w' : World} {b : Nat} {l : List Fl} {row : Option Nat} (h : MapIs w b l) (hg : w.grownBy w' row) (hb : some b ≠ row) : MapIs w' b l := World.ownsMap.kept h hg hb
theorem IsTree.kept {w w' : World} {p b : Nat} {l : List Fl} {row : Option Nat} (h : IsTree w p b l) (hg : w.grownBy w' row) (hp : some p ≠ row) (hb : some b ≠ row) : IsTree w' p b l :=
  ⟨hg.cell h.1 hp, h.2.1.kept hg hb, h.2.2⟩
theorem IsTree.ne {w : World} {p b : Nat} {l : List Fl} (h : IsTree w p b l) : p ≠ b := map_not_cell h.1 h.2.1
theorem IsTree.lt {w : World} {p b : Nat} {l : List Fl} (h : IsTree w p b l) : p < w.heap.size ∧ b < w.heap.size := ⟨cell_block h.1, h.2.1.lt⟩
theorem mapNil (w : World) (r : Option Nat) : (binOp .eql 70 (.map r) (.map none)).run Tryz.prog w = .ok (.bool r.isNone) w := Go.run_eql_map_nil w _ _ _ r Tryz.underlying70
theorem MapIs.drew {w : World} {b : Nat} {l : List Fl} (h : MapIs w b l) : MapIs w.drew b l := World.ownsMap.drew h
theorem MapIs.alloc {w : World} {b : Nat} {l : List Fl} (h : MapIs w b l) (o : Obj) : MapIs (w.alloc o) b l := World.ownsMap.alloc h o

theorem MapIs.look {w : World} {b : Nat} {l : List Fl} (h : MapIs w b l) {s : ByteArray} (hs : s.size ≤ maxLen) :
    (Instr.lookup 70 (.map (some b)) (.string s) false).run Tryz.prog w = .ok (.agg #[.string (getL l s).n, .string (getL l s).c, .int .i64 (getL l s).t]) w := by
  obtain ⟨v, ps, hrun, hv⟩ := World.ownsMap.lookup h lawS Tryz.underlying70 (zeroFile w) (fileElem_mk nilF) (keyIs hs)
  rw [toD_at] at hv
  rw [hrun, fileElem_is hv]; rfl
theorem MapIs.look_ok {w : World} {b : Nat} {l : List Fl} (h : MapIs w b l) {s : ByteArray} (hs : s.size ≤ maxLen) :
    (Instr.lookup 70 (.map (some b)) (.string s) true).run Tryz.prog w = .ok (.tuple #[.agg #[.string (getL l s).n, .string (getL l s).c, .int .i64 (getL l s).t], .bool (hasL l s)]) w := by
  obtain ⟨v, ps, hrun, hv⟩ := World.ownsMap.look_ok h lawS Tryz.underlying70 (zeroFile w) (fileElem_mk nilF) (keyIs hs)
  rw [toD_at] at hv
  rw [hrun, fileElem_is hv, toD_has]; rfl

set_option maxHeartbeats 400000 in
theorem tNew (w : World) :
    Calls Tryz.prog 28 #[] w fun e w' => e = .returned (.pointer (some ⟨w.heap.size + 1, 0, none⟩)) ∧ IsTree w' (w.heap.size + 1) w.heap.size [] ∧ w.grownBy w' none := by
  have hmm := @run_makeMap Tryz.prog
  go_enter Tryz.func28, Tryz.ntmps28
  go_wp2
  go_ret
  refine ⟨rfl, ⟨?_, ?_, by simp⟩, (World.grownBy_alloc _ _ _).trans (World.grownBy_alloc _ _ _)⟩
  · simp [go_sem]
  · exact World.ownsMap.alloc (World.ownsMap_made _ _ _ _) _

set_option maxHeartbeats 400000 in
theorem tAll (p b : Nat) (w : World) (h : w.cell? ⟨p, 0, none⟩ = some (.map (some b))) :
    Calls Tryz.prog 50 #[.pointer (some ⟨p, 0, none⟩)] w fun e w' => e = .returned (.map (some b)) ∧ w = w' := by
  go_enter Tryz.func50, Tryz.ntmps50
  go_wp2
  go_ret
  exact ⟨rfl, rfl⟩

set_option maxRecDepth 100000 in
set_option maxHeartbeats 400000 in
theorem tTime (p b : Nat) (l : List Fl) (s : ByteArray) (w : World) (h : IsTree w p b l) (hs : s.size ≤ maxLen) :
    Calls Tryz.prog 29 #[.pointer (some ⟨p, 0, none⟩), .string s] w fun e w' => e = .returned (.int .i64 (getL l s).t) ∧ w = w' := by
  have hl := h.2.1.look hs
  obtain ⟨g, hg⟩ : ∃ g, g = getL l s := ⟨_, rfl⟩
  rw [← hg] at hl ⊢
  clear hg
  have hc := Lib.hid h.1
  have hf := fldT
  clear h
  go_enter Tryz.func29, Tryz.ntmps29
  go_wp2_with (go_at_call 50; refine (tAll p b _ hc.out).mono ?_; rintro e w' ⟨rfl, rfl⟩)
  go_ret
  exact ⟨rfl, rfl⟩

set_option maxRecDepth 100000 in
set_option maxHeartbeats 400000 in
theorem tGet (p b : Nat) (l : List Fl) (s : ByteArray) (w : World) (h : IsTree w p b l) (hs : s.size ≤ maxLen) :
    Calls Tryz.prog 26 #[.pointer (some ⟨p, 0, none⟩), .string s] w fun e w' => e = .returned (.tuple #[valF (getL l s), .bool (hasL l s)]) ∧ w.grownBy w' none := by
  have hc := h.1
  have hl := (h.2.1.alloc (.cells #[.string { data := #[] }, .string { data := #[] }, .int .i64 0] 61)).look_ok hs
  unfold valF
  obtain ⟨g, hg⟩ : ∃ g, g = getL l s := ⟨_, rfl⟩
  obtain ⟨q, hq⟩ : ∃ q, q = hasL l s := ⟨_, rfl⟩
  rw [← hg, ← hq] at hl ⊢
  clear hg hq
  clear h
  go_enter Tryz.func26, Tryz.ntmps26
  go_wp2_with fail
  refine (tAll p b _ ?_).mono ?_
  · rw [World.cell?_alloc_some _ _ _ (by rw [hc]; rfl)]; exact hc
  rintro e w' ⟨rfl, rfl⟩
  go_wp2
  exact bodyPost_ret (v := .tuple #[.agg #[.string g.n, .string g.c, .int .i64 g.t], .bool q]) (by simp [results, Tryz.results26, go_sem]) rfl ⟨rfl, (World.grownBy_alloc _ _ _).trans (World.grownBy_alloc _ _ _)⟩

def L6 : List (Nat × Nat) := [(1, 5), (2, 4), (4, 3), (8, 9), (9, 0), (10, 10)]
/-- those that Put, Touch and Of may answer -/
def L5 : List (Nat × Nat) := [(1, 5), (2, 4), (4, 3), (9, 0), (10, 10)]
theorem Sents.five {A : Nat → Addr} {w : World} (h : Sents L6 A w) : Sents L5 A w := h.sub (by decide)
theorem Sents.kept_map {L : List (Nat × Nat)} {A : Nat → Addr} {w w' : World} {b : Nat} {l : List Fl} (h : Sents L A w) (hg : w.grownBy w' (some b)) (hm : MapIs w b l) : Sents L A w' :=
  h.kept hg fun q hq e => map_not_cell (h q hq) hm (Option.some.inj e)

theorem MapIs.setCell {w : World} {b : Nat} {l : List Fl} (h : MapIs w b l) {a : Addr} (ha : b ≠ a.block) (u : Value) : MapIs (w.setCell a u) b l := World.ownsMap.setCell h ha u
theorem MapIs.len_run {w : World} {b : Nat} {l : List Fl} (h : MapIs w b l) (ty : TypeId) : (Builtin.len_ #[70] ty #[.map (some b)]).run Tryz.prog w = .ok (.int .i64 l.length) w := by
  have := World.ownsMap.len h Tryz.underlying70 ty
  rwa [toD_size] at this
theorem MapIs.put {w' : World} {b n : Nat} {l : List Fl} {f : Fl} (h : w'.ownsMap Tryz.prog 9 fileElem b n ((toD l).put (keyS f.n) (datF f))) : MapIs w' b (putL l f) := by
  rw [toD_put] at h; exact mapIs_of h

/-- the number of set's error -/
def setE (l : List Fl) (f : Fl) : Nat := if f.t < 1 ∨ 549755813888 < f.t then 1 else if hasL l f.n = false ∧ 40 ≤ l.length then 10 else 0
/-- what a tree holds behind an attempt to set a file -/
def setL (k : Nat) (l : List Fl) (f : Fl) : List Fl := if k = 0 then putL l f else l

end Go.Proofs.YtbcemenfklgnkaaGreatDoor
