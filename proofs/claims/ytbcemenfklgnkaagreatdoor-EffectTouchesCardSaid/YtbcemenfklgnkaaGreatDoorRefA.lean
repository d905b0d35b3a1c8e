/- The document's tree: a row of files; At, Time, Latest. -/
import Derived.Test.YtbcemenfklgnkaaGreatDoorTreeC
import Derived.Test.YtbcemenfklgnkaaGreatDoorTreeF
namespace Go.Proofs.YtbcemenfklgnkaaGreatDoor
open Go.RowKit

/-- p leads to the document's tree of the files l -/
def RTree (w : World) (p : Nat) (l : List Fl) : Prop :=
  ∃ a c, w.cell? ⟨p, 0, none⟩ = some (.slice a l.length c) ∧ w.frozen? ⟨p, 0, none⟩ = false ∧ FRow w (.slice a l.length c) l ∧ l.length ≤ c ∧ c ≤ 9223372036854775807 ∧ ((a = none → c = 0) ∧ ∀ x, a = some x → l ≠ [] → x.block ≠ p) ∧ l.length ≤ 40
theorem frozen_kept {w w' : World} {row : Option Nat} (hg : w.grownBy w' row) {b o : Nat} (hb : b < w.heap.size) (hne : some b ≠ row) : w'.frozen? ⟨b, o, none⟩ = w.frozen? ⟨b, o, none⟩ :=
  World.frozen?_of_block (hg.block b hb hne)
theorem RTree.grown {w w' : World} {p : Nat} {l : List Fl} (h : RTree w p l) (hg : w.grownBy w' none) : RTree w' p l := by
  obtain ⟨a, c, h1, h2, h3, r⟩ := h
  exact ⟨a, c, hg.cell h1 (by simp), (frozen_kept hg (cell_block h1) (by simp)).trans h2, h3.later (below_of_grown hg), r⟩
theorem RTree.kept_map {w w' : World} {p b : Nat} {l ts : List Fl} (h : RTree w p l) (hg : w.grownBy w' (some b)) (hm : MapIs w b ts) : RTree w' p l := by
  obtain ⟨a, c, h1, h2, h3, r⟩ := h
  have hne : some p ≠ some b := fun e => map_not_cell h1 hm (Option.some.inj e)
  exact ⟨a, c, hg.cell h1 hne, (frozen_kept hg (cell_block h1) hne).trans h2, h3.kept_map hg hm, r⟩
theorem RTree.lt {w : World} {p : Nat} {l : List Fl} (h : RTree w p l) : p < w.heap.size := by
  obtain ⟨a, c, h1, _⟩ := h; exact cell_block h1

/-- where a file stands, as the document has it -/
def atI (l : List Fl) (s : ByteArray) : Int := match l.findIdx? (isN s) with | some i => i | none => -1
theorem isN_walk (s : ByteArray) (f : Fl) : isN s f = (f.n.toList == s.toList) := by
  unfold isN; rw [ByteArray.toList_eq, ByteArray.toList_eq]
theorem atI_hit {l : List Fl} {s : ByteArray} {k : Nat} {f : Fl} (h : l[k]? = some f) (hf : isN s f = true) (ha : (l.take k).any (isN s) = false) : atI l s = k := by
  unfold atI
  have : l.findIdx? (isN s) = some k := by
    rw [List.findIdx?_eq_some_iff_getElem]
    obtain ⟨hk, e⟩ := List.getElem?_eq_some_iff.1 h
    refine ⟨hk, by rw [e]; exact hf, fun j hj => ?_⟩
    rw [List.any_eq_false] at ha
    have hm : l[j] ∈ l.take k := by
      rw [List.mem_take_iff_getElem]
      exact ⟨j, by omega, rfl⟩
    exact ha _ hm
  rw [this]
theorem atI_none {l : List Fl} {s : ByteArray} {k : Nat} (hk : l.length ≤ k) (ha : (l.take k).any (isN s) = false) : atI l s = -1 := by
  rw [List.take_of_length_le hk] at ha
  unfold atI
  rw [List.findIdx?_eq_none_iff.2 (fun x hx => by
    rw [List.any_eq_false] at ha
    simpa using ha x hx)]
theorem at_cases (l : List Fl) (s : ByteArray) : (hasL l s = false ∧ atI l s = -1) ∨ (∃ k f, k < l.length ∧ l[k]? = some f ∧ f.n = s ∧ atI l s = k ∧ getL l s = f ∧ hasL l s = true) := by
  cases e : l.findIdx? (isN s) with
  | none =>
    left
    refine ⟨?_, by unfold atI; rw [e]⟩
    rw [List.findIdx?_eq_none_iff] at e
    unfold hasL
    rw [List.any_eq_false]
    intro x hx; rw [e x hx]; simp
  | some k =>
    right
    rw [List.findIdx?_eq_some_iff_getElem] at e
    obtain ⟨hk, hf, hj⟩ := e
    have hfind : l.find? (isN s) = some l[k] := by
      rw [List.find?_eq_some_iff_getElem]
      exact ⟨hf, k, hk, rfl, fun j hjk => by rw [Bool.not_eq_true']; simpa using hj j hjk⟩
    refine ⟨k, l[k], hk, List.getElem?_eq_getElem hk, isN_iff.1 hf, ?_, getL_find hfind, hasL_find.2 ⟨_, hfind⟩⟩
    unfold atI
    rw [show l.findIdx? (isN s) = some k from List.findIdx?_eq_some_iff_getElem.2 ⟨hk, hf, hj⟩]

set_option maxRecDepth 100000 in
set_option maxHeartbeats 1000000 in
theorem rAt (p : Nat) (l : List Fl) (s : ByteArray) (w : World) (h : RTree w p l) :
    Calls Tryz.prog 32 #[.pointer (some ⟨p, 0, none⟩), .string s] w fun e w' => e = .returned (.int .i64 (atI l s)) ∧ w.grownBy w' none := by
  obtain ⟨a, c, hc, -, hr, -, -, -, hn⟩ := h
  have HR := Lib.hid hr
  clear hr
  go_enter Tryz.func32, Tryz.ntmps32
  go_wp2
  go_loopw [5, 6, 12] (fun _ _ i wr => ∃ k : Nat, k ≤ l.length ∧ i = .int .i64 k ∧ Hid ((l.take k).any (isN s) = false) ∧ Hid (w.grownBy wr none)) (fun _ _ i _ => l.length - (intOf i).toNat)
  case atStart => exact ⟨0, Nat.zero_le _, rfl, Lib.hid rfl, Lib.hid (World.grownBy.refl _ _)⟩
  case round =>
    obtain ⟨k, hk, rfl, ha, hG⟩ := hrel
    by_cases hlt : k < l.length
    · obtain ⟨b, off, c', f, e, hf, sn, sc, hb, c0, c1, c2⟩ := (HR.out.later (below_of_grown hG.out)).at k hlt
      cases e
      have Hf := Lib.hid hf
      clear hf sn sc
      by_cases hs : (f.n.toList == s.toList) = true
      · have hA := Lib.hid (atI_hit Hf.out (show isN s f = true by rw [isN_walk]; exact hs) ha.out)
        go_wp2
        go_ret
        exact ⟨by rw [hA.out]; rfl, hG.out.trans (World.grownBy_alloc _ _ _)⟩
      have hs' : (f.n.toList == s.toList) = false := by simpa using hs
      have HN := Lib.hid (show isN s f = false by rw [isN_walk]; exact hs')
      clear hs
      go_wp2
      go_roundw
      case rel => exact ⟨k + 1, by omega, by go_num, take_any_snoc Hf.out _ ha.out HN.out, Lib.hid (hG.out.trans (World.grownBy_alloc _ _ _))⟩
      case measure => simp [intOf]; omega
    · have hA := Lib.hid (atI_none (by omega) ha.out)
      go_wp2
      go_ret
      exact ⟨by rw [hA.out]; rfl, hG.out⟩

theorem ret_int' {k : IntKind} {a b : Int} (h : a = b) : Ending.returned (.int k a) = .returned (.int k b) := by rw [h]
/-- the greatest time -/
def latL (l : List Fl) : Int := l.foldl (fun n f => if n < f.t then f.t else n) 0
theorem latL_snoc {l : List Fl} {k : Nat} {f : Fl} (h : l[k]? = some f) : latL (l.take (k + 1)) = if latL (l.take k) < f.t then f.t else latL (l.take k) := by
  unfold latL
  rw [List.take_add_one, h, List.foldl_append]; rfl

set_option maxRecDepth 100000 in
set_option maxHeartbeats 1000000 in
theorem rLatest (p : Nat) (l : List Fl) (w : World) (h : RTree w p l) :
    Calls Tryz.prog 39 #[.pointer (some ⟨p, 0, none⟩)] w fun e w' => e = .returned (.int .i64 (latL l)) ∧ w.grownBy w' none := by
  obtain ⟨a, c, hc, -, hr, -, -, -, hn⟩ := h
  have HR := Lib.hid hr
  clear hr
  go_enter Tryz.func39, Tryz.ntmps39
  go_wp2
  go_loopw [3, 5, 11] (fun n _ i wr => ∃ k : Nat, k ≤ l.length ∧ i = .int .i64 k ∧ n = .int .i64 (latL (l.take k)) ∧ Hid (w.grownBy wr none)) (fun _ _ i _ => l.length - (intOf i).toNat)
  case atStart => exact ⟨0, Nat.zero_le _, rfl, rfl, Lib.hid (World.grownBy.refl _ _)⟩
  case round =>
    obtain ⟨k, hk, rfl, rfl, hG⟩ := hrel
    by_cases hlt : k < l.length
    · obtain ⟨b, off, c', f, e, hf, sn, sc, hb, c0, c1, c2⟩ := (HR.out.later (below_of_grown hG.out)).at k hlt
      cases e
      have HL := Lib.hid (latL_snoc hf)
      clear hf sn sc
      by_cases hs : latL (l.take k) < f.t
      · have HL2 := Lib.hid (HL.out.trans (if_pos hs))
        go_wp2
        go_roundw
        case rel => exact ⟨k + 1, by omega, by go_num, by rw [HL2.out], Lib.hid (hG.out.trans (World.grownBy_alloc _ _ _))⟩
        case measure => simp [intOf]; omega
      · have HL2 := Lib.hid (HL.out.trans (if_neg hs))
        go_wp2
        go_roundw
        case rel => exact ⟨k + 1, by omega, by go_num, by rw [HL2.out], Lib.hid (hG.out.trans (World.grownBy_alloc _ _ _))⟩
        case measure => simp [intOf]; omega
    · have hA := Lib.hid (show latL (l.take k) = latL l by rw [List.take_of_length_le (by omega)])
      go_wp2
      go_ret
      exact ⟨ret_int' hA.out, hG.out⟩

end Go.Proofs.YtbcemenfklgnkaaGreatDoor
