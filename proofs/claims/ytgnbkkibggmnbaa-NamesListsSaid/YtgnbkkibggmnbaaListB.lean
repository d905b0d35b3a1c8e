/- Two lists that are the same; a copy with marked room behind, and that it stands as it stood. -/
import Derived.Test.YtgnbkkibggmnbaaListA
import Derived.WalkSmall
import Derived.OwnWalk
import Derived.Laws.AppendOwn
namespace Go.Proofs.Ytgnbkkibggmnbaa
open Go.RowKit

set_option maxHeartbeats 400000 in
theorem lSame (v1 v2 : Value) (l : List ByteArray) (w : World) (h1 : Row w v1 l) (h2 : Row w v2 l) :
    Calls Try.prog 21 #[v1, v2] w fun e w' => e = .returned (.bool true) ∧ ∃ n, w' = w.drewN n := by
  obtain ⟨a1, c1, rfl, ⟨hn, -⟩, hr1⟩ := h1
  obtain ⟨a2, c2, rfl, -, hr2⟩ := h2
  have HR1 := Lib.hid hr1
  have HR2 := Lib.hid hr2
  clear hr1 hr2
  go_enter Try.func21, Try.ntmps21
  go_wp2
  go_loopw [5, 13] (fun _ i wr => ∃ k : Nat, k ≤ l.length ∧ i = .int .i64 k ∧ ∃ n, wr = w.drewN n) (fun _ i _ => l.length - (intOf i).toNat)
  case atStart => exact ⟨0, Nat.zero_le _, rfl, 0, rfl⟩
  case round =>
    obtain ⟨k, hk, rfl, n, rfl⟩ := hrel
    by_cases hlt : k < l.length
    · obtain ⟨x, hx⟩ := get_of l k hlt
      obtain ⟨b1, off1, rfl, hb1, hc1⟩ := HR1.out (by intro e; rw [e] at hlt; simp at hlt)
      obtain ⟨b2, off2, rfl, hb2, hc2⟩ := HR2.out (by intro e; rw [e] at hlt; simp at hlt)
      have hcell1 := hc1 k x hx
      have hcell2 := hc2 k x hx
      clear hc1 hc2 hx
      go_wp2
      go_quiet (fail)
      go_wp2
      go_roundw
      case rel => exact ⟨k + 1, by omega, by go_num, _, rfl⟩
      case measure => simp [intOf]; omega
    · go_wp2
      go_ret
      exact ⟨rfl, _, rfl⟩

theorem infoStr : (Try.prog.info? 9).map (fun i => (i.zero, i.size, i.bytes)) = some (some (.string ByteArray.empty), 1, 16) := by kernel_rfl

/-- the cells of a list's texts -/
def cellsOf (l : List ByteArray) : List Value := l.map Value.string
def marks : List Value := [.string ⟨#[1]⟩, .string ⟨#[2]⟩, .string ⟨#[3]⟩]

/-- a copy of l with the three marks behind it -/
def Marked (w : World) (base : Nat) (v : Value) (l : List ByteArray) : Prop :=
  ∃ g, v = .slice (some ⟨g, 0, none⟩) l.length (l.length + 3) ∧
    w.ownsRow base 9 1 (.slice (some ⟨g, 0, none⟩) (l.length + 3) (l.length + 3)) (l.length + 3) (cellsOf l ++ marks)

theorem cells_one (l : List ByteArray) : ∀ u ∈ cellsOf l, u.oneCell' = true := by
  intro u hu; obtain ⟨x, _, rfl⟩ := List.mem_map.1 hu; rfl
theorem cells_at {l : List ByteArray} {j : Nat} {u : Value} (h : (cellsOf l)[j]? = some u) : ∃ x, l[j]? = some x ∧ u = .string x := by
  unfold cellsOf at h; rw [List.getElem?_map] at h
  cases hx : l[j]? with
  | none => rw [hx] at h; cases h
  | some x => rw [hx] at h; exact ⟨x, rfl, (Option.some.inj h).symm⟩

theorem marks_at (w : World) {j : Nat} {u : Value} (h : marks[j]? = some u) : (w.alloc (.cells #[.string ⟨#[1]⟩, .string ⟨#[2]⟩, .string ⟨#[3]⟩] 9)).cell? ((⟨w.heap.size, 0, none⟩ : Addr).add j) = some u := by
  match j, h with
  | 0, h => simp [marks] at h; subst h; simp [Addr.add]
  | 1, h => simp [marks] at h; subst h; simp [Addr.add]
  | 2, h => simp [marks] at h; subst h; simp [Addr.add]
  | j + 3, h => simp [marks] at h

set_option maxHeartbeats 400000 in
theorem lTexts (v : Value) (l : List ByteArray) (w : World) (h : Row w v l) (h40 : l.length ≤ 40) :
    Calls Try.prog 20 #[v] w fun e w' => ∃ u, e = .returned u ∧ Marked w' w.heap.size u l ∧ Below w.heap.size w w' := by
  obtain ⟨a, c, rfl, ⟨hn, hno⟩, hr⟩ := h
  have hlen : (cellsOf l).length = l.length * 1 := by unfold cellsOf; simp
  have hnone : a = none → l.length = 0 ∧ c = 0 := by
    intro e
    refine ⟨?_, hno e⟩
    cases l with
    | nil => rfl
    | cons x l => obtain ⟨b, off, e', _⟩ := hr (by simp); rw [e] at e'; cases e'
  have hcell : ∀ ad, a = some ad → ∀ j u, (cellsOf l)[j]? = some u → w.cell? (ad.add j) = some u ∧ ad.block < w.heap.size := by
    intro ad e j u hu
    obtain ⟨x, hx, rfl⟩ := cells_at hu
    obtain ⟨b, off, e', hb, hc⟩ := hr (by intro e0; rw [e0] at hx; simp at hx)
    rw [e] at e'; cases e'
    exact ⟨by rw [Addr.add_lit]; exact hc j x hx, hb⟩
  have HL := Lib.hid hlen; have HN := Lib.hid hnone; have HC := Lib.hid hcell
  clear hlen hnone hcell hr hno
  obtain ⟨i0, hi, hz0, hz1, hz2⟩ := info_parts infoStr
  have I := Lib.hid hi; have Z0 := Lib.hid hz0; have Z1 := Lib.hid hz1; have Z2 := Lib.hid hz2
  clear hi hz0 hz1 hz2
  go_enter Try.func20, Try.ntmps20
  go_wp2_with (first
    | (at_make; refine wpList_make_own _ rfl (.const (.int .i64 0)) (.tmp 6) 30 rfl w.heap.size 9 i0 _ 1 Try.underlying30 I.out Z0.out Z1.out .i64 .i64 _ (l.length + 3) rfl rfl (by omega) (by rw [Z2.out]; omega) (by unfold maxLen; omega) (Nat.le_refl _) ?_; intro w1 hown1 hg1)
    | (at_builtin; refine wpList_append_fits_any _ rfl (.tmp 7) (.tmp 8) 30 rfl w.heap.size 9 i0 1 Try.underlying30 I.out Z1.out w.heap.size 0 (l.length + 3) [] rfl hown1 a l.length c (cellsOf l) rfl HL.out HN.out (fun ad e j u hu => hg1.cell (HC.out ad e j u hu).1 (by simp)) (cells_one l) (by omega) ?_; intro w2 hown2 hg2)
    | (at_builtin; refine wpList_append_fits_any _ rfl (.tmp 9) (.tmp 10) 30 rfl w.heap.size 9 i0 1 Try.underlying30 I.out Z1.out w.heap.size l.length (l.length + 3) (cellsOf l) rfl (by simpa only [Nat.zero_add, List.nil_append] using hown2.alloc _) (some ⟨w2.heap.size, 0, none⟩) 3 3 marks rfl rfl (by intro h; cases h) (by rintro ad ⟨⟩ j u hu; exact marks_at _ hu) (by decide) (by omega) ?_; intro w3 hown3 hg3))
  go_ret
  have s1 := hg1.size
  have s2 := hg2.size
  exact ⟨_, rfl, ⟨_, rfl, hown3⟩, ((((Below.refl _ _).grown hg1 (Nat.le_refl _) (fun k e => by cases e)).grown hg2 s1 (fun k e => by cases e; exact Nat.le_refl _)).alloc (by omega) _).grown hg3 (by simp; omega) (fun k e => by cases e; exact Nat.le_refl _)⟩

theorem Marked.cell {w : World} {base : Nat} {v : Value} {l : List ByteArray} (h : Marked w base v l) :
    ∃ g, v = .slice (some ⟨g, 0, none⟩) l.length (l.length + 3) ∧ g < w.heap.size ∧ (∀ j x, l[j]? = some x → w.cell? ⟨g, j, none⟩ = some (.string x)) ∧
      w.cell? ⟨g, l.length, none⟩ = some (.string ⟨#[1]⟩) ∧ w.cell? ⟨g, l.length + 1, none⟩ = some (.string ⟨#[2]⟩) ∧ w.cell? ⟨g, l.length + 2, none⟩ = some (.string ⟨#[3]⟩) := by
  obtain ⟨g, rfl, hown⟩ := h
  have hat := hown.cells (g := g) rfl
  have hl : (cellsOf l).length = l.length := by unfold cellsOf; simp
  refine ⟨g, rfl, (hown.lt g rfl).2, fun j x hx => ?_, ?_, ?_, ?_⟩
  · have hj : j < l.length := (List.getElem?_eq_some_iff.1 hx).1
    have := hat j (.string x) (by rw [List.getElem?_append_left (by omega)]; unfold cellsOf; rw [List.getElem?_map, hx]; rfl)
    rwa [Addr.add_lit, Nat.zero_add] at this
  · have := hat l.length (.string ⟨#[1]⟩) (by rw [List.getElem?_append_right (by omega), hl]; simp [marks])
    rwa [Addr.add_lit, Nat.zero_add] at this
  · have := hat (l.length + 1) (.string ⟨#[2]⟩) (by rw [List.getElem?_append_right (by omega), hl]; simp [marks])
    rwa [Addr.add_lit, Nat.zero_add] at this
  · have := hat (l.length + 2) (.string ⟨#[3]⟩) (by rw [List.getElem?_append_right (by omega), hl]; simp [marks])
    rwa [Addr.add_lit, Nat.zero_add] at this

theorem Marked.row {w : World} {base : Nat} {v : Value} {l : List ByteArray} (h : Marked w base v l) (h40 : l.length ≤ 40) : Row w v l := by
  obtain ⟨g, rfl, hg, hc, -⟩ := h.cell
  exact ⟨_, _, rfl, ⟨by omega, fun e => by cases e⟩, fun _ => ⟨g, 0, rfl, hg, fun j x hx => by rw [Nat.zero_add]; exact hc j x hx⟩⟩

theorem Marked.later {w w' : World} {base : Nat} {v : Value} {l : List ByteArray} (h : Marked w base v l) (hb : Below w.heap.size w w') : Marked w' base v l := by
  obtain ⟨g, rfl, hown⟩ := h
  have hlt := (hown.lt g rfl).2
  exact ⟨g, rfl, hown.kept (row := none) (World.grownBy.mk hb.os hb.tape hb.output hb.size (fun k hk _ => hb.block k hk)) (.inr (by simp [Value.ownBlock]))⟩

set_option maxHeartbeats 400000 in
theorem lKept (v a : Value) (base : Nat) (l : List ByteArray) (w : World) (h : Marked w base v l) (ha : Row w a l) (h40 : l.length ≤ 40) :
    Calls Try.prog 30 #[v, a] w fun e w' => e = .returned (.bool true) ∧ ∃ n, w' = w.drewN n := by
  obtain ⟨g, rfl, hg, hc, c1, c2, c3⟩ := h.cell
  have hpre : Row w (.slice (some ⟨g, 0, none⟩) l.length (l.length + 3)) l := h.row h40
  have HS := Lib.hid (lSame _ a l w hpre ha)
  obtain ⟨aa, ca, rfl, -, -⟩ := ha
  clear h hc hpre
  go_enter Try.func30, Try.ntmps30
  go_wp2_with (go_at_call 21; refine HS.out.mono ?_; rintro e w' ⟨rfl, n, rfl⟩)
  go_ret
  exact ⟨rfl, _, rfl⟩
end Go.Proofs.Ytgnbkkibggmnbaa
