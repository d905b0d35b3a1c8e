/- Rows of texts as the laws read them: two that are the same, long ones, a copy with marked room behind, and that it stands as it stood. -/
import Derived.Test.YtiegbfbidecblaaQtRow
import Derived.WalkSmall
import Derived.Laws.AppendOwn
namespace Go.Proofs.Ytiegbfbidecblaa
open Go.RowKit

/-- the texts of a slice, as they lie in memory -/
def TxRow (w : World) (v : Value) (l : List ByteArray) : Prop :=
  ∃ a c, v = .slice a l.length c ∧ (l.length ≤ 9223372036854775807 ∧ (a = none → c = 0)) ∧
    (l ≠ [] → ∃ b off, a = some ⟨b, off, none⟩ ∧ b < w.heap.size ∧ ∀ j x, l[j]? = some x → w.cell? ⟨b, off + j, none⟩ = some (.string x))
theorem TxRow.later {w w' : World} {v : Value} {l : List ByteArray} (h : TxRow w v l) (hb : Below w.heap.size w w') : TxRow w' v l := by
  obtain ⟨a, c, e, hn, hr⟩ := h
  refine ⟨a, c, e, hn, fun hne => ?_⟩
  obtain ⟨b, off, ea, hlt, hc⟩ := hr hne
  exact ⟨b, off, ea, Nat.lt_of_lt_of_le hlt hb.size, fun j x hx => (hb.cell (p := ⟨b, off + j, none⟩) hlt).trans (hc j x hx)⟩
theorem tx_get (l : List ByteArray) (k : Nat) (h : k < l.length) : ∃ x, l[k]? = some x := ⟨l[k], List.getElem?_eq_getElem h⟩
theorem txL_inj : ∀ {a b : List ByteArray}, txL a = txL b → a = b
  | [], [], _ => rfl
  | [], _ :: _, h => by simp at h
  | _ :: _, [], h => by simp at h
  | x :: a, y :: b, h => by
    simp only [List.map_cons, List.cons.injEq] at h
    rw [txL_inj h.2, show x = y from by cases x; cases y; congr 1; exact Array.toList_inj.1 h.1]
/-- a row that a call made, as a reader sees it -/
theorem tx_row {w : World} {base n : Nat} {v : Value} {O : List ByteArray} (h : w.ownsRow base 9 1 v n (txV O)) (hn : n = O.length) (hm : n ≤ 9223372036854775807) : TxRow w v O := by
  subst hn
  obtain ⟨a, cap, rfl⟩ := tx_shape h
  refine ⟨a, cap, rfl, ⟨hm, ?_⟩, ?_⟩
  · rintro rfl
    rcases h.2 with ⟨e, -⟩ | ⟨g, cap', cur, e, -⟩
    · injection e
    · cases e
  · intro hne
    rcases h.2 with ⟨e, h0⟩ | ⟨g, cap', cur, e, -⟩
    · exact (hne (List.eq_nil_of_length_eq_zero h0)).elim
    · cases e
      refine ⟨g, 0, rfl, (h.lt g rfl).2, fun j x hx => ?_⟩
      have := h.cells (g := g) rfl j (.string x) (by rw [List.getElem?_map, hx]; rfl)
      rwa [Addr.add_lit] at this

theorem txV_one (l : List ByteArray) : ∀ u ∈ txV l, u.oneCell' = true := by
  intro u hu; obtain ⟨x, _, rfl⟩ := List.mem_map.1 hu; rfl
theorem txV_at {l : List ByteArray} {j : Nat} {u : Value} (h : (txV l)[j]? = some u) : ∃ x, l[j]? = some x ∧ u = .string x := by
  rw [List.getElem?_map] at h
  cases hx : l[j]? with
  | none => rw [hx] at h; cases h
  | some x => rw [hx] at h; exact ⟨x, rfl, (Option.some.inj h).symm⟩

def longQ (m n : Nat) (l : List ByteArray) : Bool := decide (m < l.length) || l.any fun x => decide (n < x.size)
theorem longQ_hit {m n : Nat} {l : List ByteArray} {k : Nat} {x : ByteArray} (h : l[k]? = some x) (hx : n < x.size) : longQ m n l = true := by
  unfold longQ
  rw [List.any_eq_true.2 ⟨x, List.mem_of_getElem? h, decide_eq_true hx⟩, Bool.or_true]
theorem longQ_not {m n : Nat} {l : List ByteArray} (h : l.length ≤ m) {k : Nat} (hk : l.length ≤ k) (ha : ∀ x ∈ l.take k, x.size ≤ n) : longQ m n l = false := by
  rw [List.take_of_length_le hk] at ha
  unfold longQ
  rw [decide_eq_false (by omega), Bool.false_or, List.any_eq_false]
  intro x hx
  have := ha x hx
  simp; omega
theorem longQ_short {m n : Nat} {l : List ByteArray} (h : longQ m n l = false) : l.length ≤ m ∧ ∀ x ∈ l, x.size ≤ n := by
  unfold longQ at h
  simp only [Bool.or_eq_false_iff, decide_eq_false_iff_not, List.any_eq_false] at h
  refine ⟨by omega, fun x hx => ?_⟩
  have := h.2 x hx
  simp only [decide_eq_true_eq] at this
  omega
theorem longQ_snoc {n : Nat} {l : List ByteArray} {k : Nat} {x : ByteArray} (h : l[k]? = some x) (hx : x.size ≤ n) (ha : ∀ x ∈ l.take k, x.size ≤ n) : ∀ x ∈ l.take (k + 1), x.size ≤ n := by
  intro y hy
  rw [List.take_add_one, h] at hy
  rcases List.mem_append.1 hy with hy | hy
  · exact ha y hy
  · simp at hy; subst hy; exact hx

def markT : List Value := [.string ⟨#[1]⟩, .string ⟨#[2]⟩, .string ⟨#[3]⟩]

/-- a copy of l with the three markT behind it -/
def MarkT (w : World) (base : Nat) (v : Value) (l : List ByteArray) : Prop :=
  ∃ g, v = .slice (some ⟨g, 0, none⟩) l.length (l.length + 3) ∧
    w.ownsRow base 9 1 (.slice (some ⟨g, 0, none⟩) (l.length + 3) (l.length + 3)) (l.length + 3) (txV l ++ markT)

theorem markT_at (w : World) {j : Nat} {u : Value} (h : markT[j]? = some u) : (w.alloc (.cells #[.string ⟨#[1]⟩, .string ⟨#[2]⟩, .string ⟨#[3]⟩] 9)).cell? ((⟨w.heap.size, 0, none⟩ : Addr).add j) = some u := by
  match j, h with
  | 0, h => simp [markT] at h; subst h; simp [Addr.add]
  | 1, h => simp [markT] at h; subst h; simp [Addr.add]
  | 2, h => simp [markT] at h; subst h; simp [Addr.add]
  | j + 3, h => simp [markT] at h

theorem MarkT.cell {w : World} {base : Nat} {v : Value} {l : List ByteArray} (h : MarkT w base v l) :
    ∃ g, v = .slice (some ⟨g, 0, none⟩) l.length (l.length + 3) ∧ g < w.heap.size ∧ (∀ j x, l[j]? = some x → w.cell? ⟨g, j, none⟩ = some (.string x)) ∧
      w.cell? ⟨g, l.length, none⟩ = some (.string ⟨#[1]⟩) ∧ w.cell? ⟨g, l.length + 1, none⟩ = some (.string ⟨#[2]⟩) ∧ w.cell? ⟨g, l.length + 2, none⟩ = some (.string ⟨#[3]⟩) := by
  obtain ⟨g, rfl, hown⟩ := h
  have hat := hown.cells (g := g) rfl
  have hl : (txV l).length = l.length := by simp
  refine ⟨g, rfl, (hown.lt g rfl).2, fun j x hx => ?_, ?_, ?_, ?_⟩
  · have hj : j < l.length := (List.getElem?_eq_some_iff.1 hx).1
    have := hat j (.string x) (by rw [List.getElem?_append_left (by omega)]; rw [List.getElem?_map, hx]; rfl)
    rwa [Addr.add_lit, Nat.zero_add] at this
  · have := hat l.length (.string ⟨#[1]⟩) (by rw [List.getElem?_append_right (by omega), hl]; simp [markT])
    rwa [Addr.add_lit, Nat.zero_add] at this
  · have := hat (l.length + 1) (.string ⟨#[2]⟩) (by rw [List.getElem?_append_right (by omega), hl]; simp [markT])
    rwa [Addr.add_lit, Nat.zero_add] at this
  · have := hat (l.length + 2) (.string ⟨#[3]⟩) (by rw [List.getElem?_append_right (by omega), hl]; simp [markT])
    rwa [Addr.add_lit, Nat.zero_add] at this

theorem MarkT.row {w : World} {base : Nat} {v : Value} {l : List ByteArray} (h : MarkT w base v l) (h40 : l.length ≤ 100) : TxRow w v l := by
  obtain ⟨g, rfl, hg, hc, -⟩ := h.cell
  exact ⟨_, _, rfl, ⟨by omega, fun e => by cases e⟩, fun _ => ⟨g, 0, rfl, hg, fun j x hx => by rw [Nat.zero_add]; exact hc j x hx⟩⟩

theorem MarkT.later {w w' : World} {base : Nat} {v : Value} {l : List ByteArray} (h : MarkT w base v l) (hb : Below w.heap.size w w') : MarkT w' base v l := by
  obtain ⟨g, rfl, hown⟩ := h
  have hlt := (hown.lt g rfl).2
  exact ⟨g, rfl, hown.kept (row := none) (World.grownBy.mk hb.os hb.tape hb.output hb.size (fun k hk _ => hb.block k hk)) (.inr (by simp [Value.ownBlock]))⟩

set_option maxHeartbeats 400000 in
theorem cLongT (v : Value) (l : List ByteArray) (m n : Nat) (w : World) (h : TxRow w v l) :
    Calls Try.prog 6 #[v, .int .i64 m, .int .i64 n] w fun e w' => e = .returned (.bool (longQ m n l)) ∧ w = w' := by
  obtain ⟨a, c, rfl, ⟨hn, -⟩, hr⟩ := h
  by_cases hm : m < l.length
  · have hL := Lib.hid (show longQ m n l = true by unfold longQ; rw [decide_eq_true hm]; rfl)
    clear hr
    go_enter Try.func6, Try.ntmps6
    go_wp2
    go_ret
    exact ⟨ret_bool hL.out.symm, rfl⟩
  have HM : l.length ≤ m := by omega
  have hdm : decide (m < l.length) = false := decide_eq_false hm
  clear hm
  have HR := Lib.hid hr
  clear hr
  go_enter Try.func6, Try.ntmps6
  go_wp2
  go_loop [8, 15] (fun _ i => ∃ k : Nat, k ≤ l.length ∧ i = .int .i64 k ∧ Hid (∀ x ∈ l.take k, x.size ≤ n)) (fun _ i => l.length - (intOf i).toNat)
  case atStart => exact ⟨0, Nat.zero_le _, rfl, Lib.hid (by intro x hx; simp at hx)⟩
  case round =>
    obtain ⟨k, hk, rfl, ha⟩ := hrel
    by_cases hlt : k < l.length
    · obtain ⟨x, hx⟩ := tx_get l k hlt
      obtain ⟨b, off, rfl, hb, hc⟩ := HR.out (by intro e; rw [e] at hlt; simp at hlt)
      have hcell := hc k x hx
      have Hx := Lib.hid hx
      clear hc hx
      by_cases hbig : n < x.size
      · have hL := Lib.hid (longQ_hit (m := m) Hx.out hbig)
        go_wp2
        go_ret
        exact ⟨ret_bool hL.out.symm, rfl⟩
      · go_wp2
        go_round
        case rel => exact ⟨k + 1, by omega, by go_num, Lib.hid (longQ_snoc Hx.out (by omega) ha.out)⟩
        case measure => simp [intOf]; omega
    · have hL := Lib.hid (longQ_not HM (show l.length ≤ k by omega) ha.out)
      go_wp2
      go_ret
      exact ⟨ret_bool hL.out.symm, rfl⟩
end Go.Proofs.Ytiegbfbidecblaa
