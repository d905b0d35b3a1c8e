/- A slice of files that came in; Long. -/
import Derived.Test.YtbcemenfklgnkaaGreatDoorTreeA
import Derived.Deep.LoopGhost
import Derived.Deep.QuietTactic
import Derived.BigQuiet
namespace Go.Proofs.YtbcemenfklgnkaaGreatDoor
open Go.RowKit Go.Maps

/-- v is a slice that holds the files l -/
def FRow (w : World) (v : Value) (l : List Fl) : Prop :=
  ∃ a c, v = .slice a l.length c ∧ l.length ≤ 9223372036854775807 ∧ (∀ f ∈ l, f.n.size ≤ maxLen ∧ f.c.size ≤ maxLen) ∧
    (l ≠ [] → ∃ b off, a = some ⟨b, off, none⟩ ∧ b < w.heap.size ∧ ∀ j f, l[j]? = some f →
      w.cell? ⟨b, off + j * 3, none⟩ = some (.string f.n) ∧ w.cell? ⟨b, off + j * 3 + 1, none⟩ = some (.string f.c) ∧ w.cell? ⟨b, off + j * 3 + 2, none⟩ = some (.int .i64 f.t))
theorem FRow.later {w w' : World} {v : Value} {l : List Fl} (h : FRow w v l) (hb : Below w.heap.size w w') : FRow w' v l := by
  obtain ⟨a, c, e, hn, hs, hc⟩ := h
  refine ⟨a, c, e, hn, hs, fun hne => ?_⟩
  obtain ⟨b, off, ea, hlt, hcc⟩ := hc hne
  refine ⟨b, off, ea, Nat.lt_of_lt_of_le hlt hb.size, fun j f hj => ?_⟩
  obtain ⟨h1, h2, h3⟩ := hcc j f hj
  exact ⟨(hb.cell hlt).trans h1, (hb.cell hlt).trans h2, (hb.cell hlt).trans h3⟩
theorem FRow.kept_map {w w' : World} {v : Value} {l : List Fl} {b : Nat} {ts : List Fl} (h : FRow w v l) (hg : w.grownBy w' (some b)) (hm : MapIs w b ts) : FRow w' v l := by
  obtain ⟨a, c, e, hn, hs, hc⟩ := h
  refine ⟨a, c, e, hn, hs, fun hne => ?_⟩
  obtain ⟨b0, off, ea, hlt, hcc⟩ := hc hne
  obtain ⟨f, hf⟩ : ∃ f, l[0]? = some f := by
    cases l with
    | nil => exact absurd rfl hne
    | cons f r => exact ⟨f, rfl⟩
  have hb : some b0 ≠ some b := fun e => map_not_cell (hcc 0 f hf).1 hm (Option.some.inj e)
  refine ⟨b0, off, ea, Nat.lt_of_lt_of_le hlt hg.size, fun j f hj => ?_⟩
  obtain ⟨h1, h2, h3⟩ := hcc j f hj
  exact ⟨hg.cell h1 hb, hg.cell h2 hb, hg.cell h3 hb⟩
theorem FRow.len {w : World} {a : Option Addr} {n c : Nat} {l : List Fl} (h : FRow w (.slice a n c) l) : n = l.length := by
  obtain ⟨a', c', e, _⟩ := h
  cases e; rfl

/-- the j-th file of a slice, as the walk reads it -/
theorem FRow.at {w : World} {v : Value} {l : List Fl} (h : FRow w v l) (k : Nat) (hk : k < l.length) :
    ∃ b off c f, v = .slice (some ⟨b, off, none⟩) l.length c ∧ l[k]? = some f ∧ f.n.size ≤ maxLen ∧ f.c.size ≤ maxLen ∧ b < w.heap.size ∧
      w.cell? ⟨b, off + k * 3, none⟩ = some (.string f.n) ∧ w.cell? ⟨b, off + k * 3 + 1, none⟩ = some (.string f.c) ∧ w.cell? ⟨b, off + k * 3 + 2, none⟩ = some (.int .i64 f.t) := by
  obtain ⟨a, c, e, hn, hs, hc⟩ := h
  have hne : l ≠ [] := by intro e; rw [e] at hk; simp at hk
  obtain ⟨b, off, rfl, hlt, hcc⟩ := hc hne
  have hf : l[k]? = some l[k] := List.getElem?_eq_getElem hk
  have hm := hs l[k] (List.getElem_mem hk)
  exact ⟨b, off, c, l[k], e, hf, hm.1, hm.2, hlt, hcc k _ hf⟩

def bigF (f : Fl) : Bool := decide (100 < f.n.size) || decide (1000 < f.c.size)
theorem ret_bool' {a b : Bool} (h : a = b) : Ending.returned (.bool a) = .returned (.bool b) := by rw [h]
def longF (m : Nat) (l : List Fl) : Bool := decide (m < l.length) || l.any bigF
theorem longF_hit {m : Nat} {l : List Fl} {k : Nat} {f : Fl} (h : l[k]? = some f) (hb : bigF f = true) : longF m l = true := by
  unfold longF
  rw [List.any_eq_true.2 ⟨f, List.mem_of_getElem? h, hb⟩, Bool.or_true]
theorem longF_not {m : Nat} {l : List Fl} (hm : l.length ≤ m) {k : Nat} (hk : l.length ≤ k) (h : (l.take k).any bigF = false) : longF m l = false := by
  rw [List.take_of_length_le hk] at h
  unfold longF
  rw [h, decide_eq_false (by omega)]; rfl
theorem longF_len {m : Nat} {l : List Fl} (h : longF m l = false) : l.length ≤ m := by
  unfold longF at h
  rw [Bool.or_eq_false_iff] at h
  have := of_decide_eq_false h.1
  omega
theorem take_any_snoc {l : List Fl} {k : Nat} {f : Fl} (h : l[k]? = some f) (p : Fl → Bool) (ha : (l.take k).any p = false) (hb : p f = false) : (l.take (k + 1)).any p = false := by
  rw [List.take_add_one, h, List.any_append, ha]; simp [hb]

set_option maxRecDepth 100000 in
set_option maxHeartbeats 1000000 in
theorem lLongF (v : Value) (l : List Fl) (m : Nat) (w : World) (h : FRow w v l) :
    Calls Tryz.prog 7 #[v, .int .i64 m] w fun e w' => e = .returned (.bool (longF m l)) ∧ Below w.heap.size w w' := by
  have HR := Lib.hid h
  obtain ⟨a, c, rfl, hn, -, -⟩ := h
  by_cases hm : m < l.length
  · have hL := Lib.hid (show longF m l = true by unfold longF; rw [decide_eq_true hm]; rfl)
    go_enter Tryz.func7, Tryz.ntmps7
    go_wp2
    go_ret
    exact ⟨ret_bool' hL.out.symm, Below.refl _ _⟩
  have HM : l.length ≤ m := by omega
  have hdm : decide (m < l.length) = false := decide_eq_false hm
  clear hm
  go_enter Tryz.func7, Tryz.ntmps7
  go_wp2
  go_loopw [6, 13] (fun _ i wr => ∃ k : Nat, k ≤ l.length ∧ i = .int .i64 k ∧ Hid ((l.take k).any bigF = false) ∧ Hid (Below w.heap.size w wr)) (fun _ i _ => l.length - (intOf i).toNat)
  case atStart => exact ⟨0, Nat.zero_le _, rfl, Lib.hid rfl, Lib.hid (Below.refl _ _)⟩
  case round =>
    obtain ⟨k, hk, rfl, ha, hB⟩ := hrel
    by_cases hlt : k < l.length
    · obtain ⟨b, off, c', f, e, hf, sn, sc, hb, c0, c1, c2⟩ := (HR.out.later hB.out).at k hlt
      cases e
      have Hf := Lib.hid hf
      unfold maxLen at sn sc
      clear hf
      by_cases h1 : (100 : Int) < f.n.size
      · have hL := Lib.hid (longF_hit (m := m) Hf.out (show bigF f = true by unfold bigF; rw [decide_eq_true (show 100 < f.n.size by omega)]; rfl))
        go_wp2
        go_ret
        exact ⟨ret_bool' hL.out.symm, hB.out.alloc hB.out.size _⟩
      by_cases h2 : (1000 : Int) < f.c.size
      · have hL := Lib.hid (longF_hit (m := m) Hf.out (show bigF f = true by unfold bigF; rw [decide_eq_true (show 1000 < f.c.size by omega)]; simp))
        go_wp2
        go_ret
        exact ⟨ret_bool' hL.out.symm, hB.out.alloc hB.out.size _⟩
      have HN := Lib.hid (show bigF f = false by unfold bigF; rw [decide_eq_false (show ¬ 1000 < f.c.size by omega), decide_eq_false (show ¬ 100 < f.n.size by omega)]; rfl)
      go_wp2
      go_roundw
      case rel => exact ⟨k + 1, by omega, by go_num, take_any_snoc Hf.out bigF ha.out HN.out, Lib.hid (hB.out.alloc hB.out.size _)⟩
      case measure => simp [intOf]; omega
    · have hL := Lib.hid (longF_not HM (by omega) ha.out)
      go_wp2
      go_ret
      exact ⟨ret_bool' hL.out.symm, hB.out⟩
end Go.Proofs.YtbcemenfklgnkaaGreatDoor
