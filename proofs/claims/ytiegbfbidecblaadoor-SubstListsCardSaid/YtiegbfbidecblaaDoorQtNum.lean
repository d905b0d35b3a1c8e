/- Rows of texts as the laws read them: two that are the same, long ones, a copy with marked room behind, and that it stands as it stood. -/
import Derived.Test.YtiegbfbidecblaaDoorQtRow
import Derived.WalkSmall
import Derived.Laws.AppendOwn
namespace Go.Proofs.YtiegbfbidecblaaDoor
open Go.RowKit

/-- the texts of a slice, as they lie in memory -/
def TxRow (w : World) (v : Value) (l : List ByteArray) : Prop :=
  ∃ a c, v = .slice a l.length c ∧ (l.length ≤ 9223372036854775807 ∧ (a = none → c = 0)) ∧
    (l ≠ [] → ∃ b off, a = some ⟨b, off, none⟩ ∧ b < w.heap.size ∧ ∀ j x, l[j]? = some x → w.cell? ⟨b, off + j, none⟩ = some (.string x))
theorem TxRow.later {w w' : World} {v : Value} {l : List ByteArray} (h : TxRow w v l) (hb : Below w.heap.size w w') : TxRow w' v l := by
  obtain ⟨a, c, e, hn, hr⟩ := h
  refine ⟨a, c, e, hn, fun hne => ?_⟩
  obtain ⟨b, off, ea, hlt, hc⟩ := hr hne
  exact ⟨b, off, ea, Nat.lt_of_lt_of_le hlt hb.size, fun j x hx => (hb.cell (p := ⟨b, off + j, none⟩) hlt).trans (hc j x hx)⟩
theorem tx_get (l : List ByteArray) (k : Nat) (h : k < l.length) : ∃ x, l[k]? = some x := ⟨l[k], List.getElem?_eq_getElem h⟩
theorem txL_inj : ∀ {a b : List ByteArray}, txL a = txL b → a = b
  | [], [], _ => rfl
  | [], _ :: _, h => by simp at h
  | _ :: _, [], h => by simp at h
  | x :: a, y :: b, h => by
    simp only [List.map_cons, List.cons.injEq] at h
    rw [txL_inj h.2, show x = y from by cases x; cases y; congr 1; exact Array.toList_inj.1 h.1]
/-- a row that a call made, as a reader sees it -/
theorem tx_row {w : World} {base n : Nat} {v : Value} {O : List ByteArray} (h : w.ownsRow base 9 1 v n (txV O)) (hn : n = O.length) (hm : n ≤ 9223372036854775807) : TxRow w v O := by
  subst hn
  obtain ⟨a, cap, rfl⟩ := tx_shape h
  refine ⟨a, cap, rfl, ⟨hm, ?_⟩, ?_⟩
  · rintro rfl
    rcases h.2 with ⟨e, -⟩ | ⟨g, cap', cur, e, -⟩
    · injection e
    · cases e
  · intro hne
    rcases h.2 with ⟨e, h0⟩ | ⟨g, cap', cur, e, -⟩
    · exact (hne (List.eq_nil_of_length_eq_zero h0)).elim
    · cases e
      refine ⟨g, 0, rfl, (h.lt g rfl).2, fun j x hx => ?_⟩
      have := h.cells (g := g) rfl j (.string x) (by rw [List.getElem?_map, hx]; rfl)
      rwa [Addr.add_lit] at this

set_option maxHeartbeats 400000 in
theorem cSameT (v1 v2 : Value) (l : List ByteArray) (w : World) (h1 : TxRow w v1 l) (h2 : TxRow w v2 l) :
    Calls Tryd.prog 12 #[v1, v2] w fun e w' => e = .returned (.bool true) ∧ ∃ n, w' = w.drewN n := by
  obtain ⟨a1, c1, rfl, ⟨hn, -⟩, hr1⟩ := h1
  obtain ⟨a2, c2, rfl, -, hr2⟩ := h2
  have HR1 := Lib.hid hr1
  have HR2 := Lib.hid hr2
  clear hr1 hr2
  go_enter Tryd.func12, Tryd.ntmps12
  go_wp2
  go_loopw [5, 13] (fun _ i wr => ∃ k : Nat, k ≤ l.length ∧ i = .int .i64 k ∧ ∃ n, wr = w.drewN n) (fun _ i _ => l.length - (intOf i).toNat)
  case atStart => exact ⟨0, Nat.zero_le _, rfl, 0, rfl⟩
  case round =>
    obtain ⟨k, hk, rfl, n, rfl⟩ := hrel
    by_cases hlt : k < l.length
    · obtain ⟨x, hx⟩ := tx_get l k hlt
      obtain ⟨b1, off1, rfl, hb1, hc1⟩ := HR1.out (by intro e; rw [e] at hlt; simp at hlt)
      obtain ⟨b2, off2, rfl, hb2, hc2⟩ := HR2.out (by intro e; rw [e] at hlt; simp at hlt)
      have hcell1 := hc1 k x hx
      have hcell2 := hc2 k x hx
      clear hc1 hc2 hx
      go_wp2
      go_quiet (fail)
      go_wp2
      go_roundw
      case rel => exact ⟨k + 1, by omega, by go_num, _, rfl⟩
      case measure => simp [intOf]; omega
    · go_wp2
      go_ret
      exact ⟨rfl, _, rfl⟩


theorem txV_one (l : List ByteArray) : ∀ u ∈ txV l, u.oneCell' = true := by
  intro u hu; obtain ⟨x, _, rfl⟩ := List.mem_map.1 hu; rfl
theorem txV_at {l : List ByteArray} {j : Nat} {u : Value} (h : (txV l)[j]? = some u) : ∃ x, l[j]? = some x ∧ u = .string x := by
  rw [List.getElem?_map] at h
  cases hx : l[j]? with
  | none => rw [hx] at h; cases h
  | some x => rw [hx] at h; exact ⟨x, rfl, (Option.some.inj h).symm⟩

def longQ (m n : Nat) (l : List ByteArray) : Bool := decide (m < l.length) || l.any fun x => decide (n < x.size)
theorem longQ_hit {m n : Nat} {l : List ByteArray} {k : Nat} {x : ByteArray} (h : l[k]? = some x) (hx : n < x.size) : longQ m n l = true := by
  unfold longQ
  rw [List.any_eq_true.2 ⟨x, List.mem_of_getElem? h, decide_eq_true hx⟩, Bool.or_true]
theorem longQ_not {m n : Nat} {l : List ByteArray} (h : l.length ≤ m) {k : Nat} (hk : l.length ≤ k) (ha : ∀ x ∈ l.take k, x.size ≤ n) : longQ m n l = false := by
  rw [List.take_of_length_le hk] at ha
  unfold longQ
  rw [decide_eq_false (by omega), Bool.false_or, List.any_eq_false]
  intro x hx
  have := ha x hx
  simp; omega
theorem longQ_short {m n : Nat} {l : List ByteArray} (h : longQ m n l = false) : l.length ≤ m ∧ ∀ x ∈ l, x.size ≤ n := by
  unfold longQ at h
  simp only [Bool.or_eq_false_iff, decide_eq_false_iff_not, List.any_eq_false] at h
  refine ⟨by omega, fun x hx => ?_⟩
  have := h.2 x hx
  simp only [decide_eq_true_eq] at this
  omega
theorem longQ_snoc {n : Nat} {l : List ByteArray} {k : Nat} {x : ByteArray} (h : l[k]? = some x) (hx : x.size ≤ n) (ha : ∀ x ∈ l.take k, x.size ≤ n) : ∀ x ∈ l.take (k + 1), x.size ≤ n := by
  intro y hy
  rw [List.take_add_one, h] at hy
  rcases List.mem_append.1 hy with hy | hy
  · exact ha y hy
  · simp at hy; subst hy; exact hx

def markT : List Value := [.string ⟨#[1]⟩, .string ⟨#[2]⟩, .string ⟨#[3]⟩]

/-- a copy of l with the three markT behind it -/
def MarkT (w : World) (base : Nat) (v : Value) (l : List ByteArray) : Prop :=
  ∃ g, v = .slice (some ⟨g, 0, none⟩) l.length (l.length + 3) ∧
    w.ownsRow base 9 1 (.slice (some ⟨g, 0, none⟩) (l.length + 3) (l.length + 3)) (l.length + 3) (txV l ++ markT)

theorem markT_at (w : World) {j : Nat} {u : Value} (h : markT[j]? = some u) : (w.alloc (.cells #[.string ⟨#[1]⟩, .string ⟨#[2]⟩, .string ⟨#[3]⟩] 9)).cell? ((⟨w.heap.size, 0, none⟩ : Addr).add j) = some u := by
  match j, h with
  | 0, h => simp [markT] at h; subst h; simp [Addr.add]
  | 1, h => simp [markT] at h; subst h; simp [Addr.add]
  | 2, h => simp [markT] at h; subst h; simp [Addr.add]
  | j + 3, h => simp [markT] at h

set_option maxHeartbeats 400000 in
theorem cTextsT (v : Value) (l : List ByteArray) (w : World) (h : TxRow w v l) (h40 : l.length ≤ 100) :
    Calls Tryd.prog 6 #[v] w fun e w' => ∃ u, e = .returned u ∧ MarkT w' w.heap.size u l ∧ Below w.heap.size w w' := by
  obtain ⟨a, c, rfl, ⟨hn, hno⟩, hr⟩ := h
  have hlen : (txV l).length = l.length * 1 := by simp
  have hnone : a = none → l.length = 0 ∧ c = 0 := by
    intro e
    refine ⟨?_, hno e⟩
    cases l with
    | nil => rfl
    | cons x l => obtain ⟨b, off, e', _⟩ := hr (by simp); rw [e] at e'; cases e'
  have hcell : ∀ ad, a = some ad → ∀ j u, (txV l)[j]? = some u → w.cell? (ad.add j) = some u ∧ ad.block < w.heap.size := by
    intro ad e j u hu
    obtain ⟨x, hx, rfl⟩ := txV_at hu
    obtain ⟨b, off, e', hb, hc⟩ := hr (by intro e0; rw [e0] at hx; simp at hx)
    rw [e] at e'; cases e'
    exact ⟨by rw [Addr.add_lit]; exact hc j x hx, hb⟩
  have HL := Lib.hid hlen; have HN := Lib.hid hnone; have HC := Lib.hid hcell
  clear hlen hnone hcell hr hno
  obtain ⟨i0, hi, hz0, hz1, hz2⟩ := info_parts infoTx
  have I := Lib.hid hi; have Z0 := Lib.hid hz0; have Z1 := Lib.hid hz1; have Z2 := Lib.hid hz2
  clear hi hz0 hz1 hz2
  go_enter Tryd.func6, Tryd.ntmps6
  go_wp2_with (first
    | (at_make; refine wpList_make_own _ rfl (.const (.int .i64 0)) (.tmp 6) 22 rfl w.heap.size 9 i0 _ 1 Tryd.underlying22 I.out Z0.out Z1.out .i64 .i64 _ (l.length + 3) rfl rfl (by omega) (by rw [Z2.out]; omega) (by unfold maxLen; omega) (Nat.le_refl _) ?_; intro w1 hown1 hg1)
    | (at_builtin; refine wpList_append_fits_any _ rfl (.tmp 7) (.tmp 8) 22 rfl w.heap.size 9 i0 1 Tryd.underlying22 I.out Z1.out w.heap.size 0 (l.length + 3) [] rfl hown1 a l.length c (txV l) rfl HL.out HN.out (fun ad e j u hu => hg1.cell (HC.out ad e j u hu).1 (by simp)) (txV_one l) (by omega) ?_; intro w2 hown2 hg2)
    | (at_builtin; refine wpList_append_fits_any _ rfl (.tmp 9) (.tmp 10) 22 rfl w.heap.size 9 i0 1 Tryd.underlying22 I.out Z1.out w.heap.size l.length (l.length + 3) (txV l) rfl (by simpa only [Nat.zero_add, List.nil_append] using hown2.alloc _) (some ⟨w2.heap.size, 0, none⟩) 3 3 markT rfl rfl (by intro h; cases h) (by rintro ad ⟨⟩ j u hu; exact markT_at _ hu) (by decide) (by omega) ?_; intro w3 hown3 hg3))
  go_ret
  have s1 := hg1.size
  have s2 := hg2.size
  exact ⟨_, rfl, ⟨_, rfl, hown3⟩, ((((Below.refl _ _).grown hg1 (Nat.le_refl _) (fun k e => by cases e)).grown hg2 s1 (fun k e => by cases e; exact Nat.le_refl _)).alloc (by omega) _).grown hg3 (by simp; omega) (fun k e => by cases e; exact Nat.le_refl _)⟩

theorem MarkT.cell {w : World} {base : Nat} {v : Value} {l : List ByteArray} (h : MarkT w base v l) :
    ∃ g, v = .slice (some ⟨g, 0, none⟩) l.length (l.length + 3) ∧ g < w.heap.size ∧ (∀ j x, l[j]? = some x → w.cell? ⟨g, j, none⟩ = some (.string x)) ∧
      w.cell? ⟨g, l.length, none⟩ = some (.string ⟨#[1]⟩) ∧ w.cell? ⟨g, l.length + 1, none⟩ = some (.string ⟨#[2]⟩) ∧ w.cell? ⟨g, l.length + 2, none⟩ = some (.string ⟨#[3]⟩) := by
  obtain ⟨g, rfl, hown⟩ := h
  have hat := hown.cells (g := g) rfl
  have hl : (txV l).length = l.length := by simp
  refine ⟨g, rfl, (hown.lt g rfl).2, fun j x hx => ?_, ?_, ?_, ?_⟩
  · have hj : j < l.length := (List.getElem?_eq_some_iff.1 hx).1
    have := hat j (.string x) (by rw [List.getElem?_append_left (by omega)]; rw [List.getElem?_map, hx]; rfl)
    rwa [Addr.add_lit, Nat.zero_add] at this
  · have := hat l.length (.string ⟨#[1]⟩) (by rw [List.getElem?_append_right (by omega), hl]; simp [markT])
    rwa [Addr.add_lit, Nat.zero_add] at this
  · have := hat (l.length + 1) (.string ⟨#[2]⟩) (by rw [List.getElem?_append_right (by omega), hl]; simp [markT])
    rwa [Addr.add_lit, Nat.zero_add] at this
  · have := hat (l.length + 2) (.string ⟨#[3]⟩) (by rw [List.getElem?_append_right (by omega), hl]; simp [markT])
    rwa [Addr.add_lit, Nat.zero_add] at this

theorem MarkT.row {w : World} {base : Nat} {v : Value} {l : List ByteArray} (h : MarkT w base v l) (h40 : l.length ≤ 100) : TxRow w v l := by
  obtain ⟨g, rfl, hg, hc, -⟩ := h.cell
  exact ⟨_, _, rfl, ⟨by omega, fun e => by cases e⟩, fun _ => ⟨g, 0, rfl, hg, fun j x hx => by rw [Nat.zero_add]; exact hc j x hx⟩⟩

theorem MarkT.later {w w' : World} {base : Nat} {v : Value} {l : List ByteArray} (h : MarkT w base v l) (hb : Below w.heap.size w w') : MarkT w' base v l := by
  obtain ⟨g, rfl, hown⟩ := h
  have hlt := (hown.lt g rfl).2
  exact ⟨g, rfl, hown.kept (row := none) (World.grownBy.mk hb.os hb.tape hb.output hb.size (fun k hk _ => hb.block k hk)) (.inr (by simp [Value.ownBlock]))⟩

set_option maxHeartbeats 400000 in
theorem cKeptT (v a : Value) (base : Nat) (l : List ByteArray) (w : World) (h : MarkT w base v l) (ha : TxRow w a l) (h40 : l.length ≤ 100) :
    Calls Tryd.prog 13 #[v, a] w fun e w' => e = .returned (.bool true) ∧ ∃ n, w' = w.drewN n := by
  obtain ⟨g, rfl, hg, hc, c1, c2, c3⟩ := h.cell
  have hpre : TxRow w (.slice (some ⟨g, 0, none⟩) l.length (l.length + 3)) l := h.row h40
  have HS := Lib.hid (cSameT _ a l w hpre ha)
  obtain ⟨aa, ca, rfl, -, -⟩ := ha
  clear h hc hpre
  go_enter Tryd.func13, Tryd.ntmps13
  go_wp2_with (go_at_call 12; refine HS.out.mono ?_; rintro e w' ⟨rfl, n, rfl⟩)
  go_ret
  exact ⟨rfl, _, rfl⟩
set_option maxHeartbeats 400000 in
theorem cLongT (v : Value) (l : List ByteArray) (m n : Nat) (w : World) (h : TxRow w v l) :
    Calls Tryd.prog 5 #[v, .int .i64 m, .int .i64 n] w fun e w' => e = .returned (.bool (longQ m n l)) ∧ w = w' := by
  obtain ⟨a, c, rfl, ⟨hn, -⟩, hr⟩ := h
  by_cases hm : m < l.length
  · have hL := Lib.hid (show longQ m n l = true by unfold longQ; rw [decide_eq_true hm]; rfl)
    clear hr
    go_enter Tryd.func5, Tryd.ntmps5
    go_wp2
    go_ret
    exact ⟨ret_bool hL.out.symm, rfl⟩
  have HM : l.length ≤ m := by omega
  have hdm : decide (m < l.length) = false := decide_eq_false hm
  clear hm
  have HR := Lib.hid hr
  clear hr
  go_enter Tryd.func5, Tryd.ntmps5
  go_wp2
  go_loop [8, 15] (fun _ i => ∃ k : Nat, k ≤ l.length ∧ i = .int .i64 k ∧ Hid (∀ x ∈ l.take k, x.size ≤ n)) (fun _ i => l.length - (intOf i).toNat)
  case atStart => exact ⟨0, Nat.zero_le _, rfl, Lib.hid (by intro x hx; simp at hx)⟩
  case round =>
    obtain ⟨k, hk, rfl, ha⟩ := hrel
    by_cases hlt : k < l.length
    · obtain ⟨x, hx⟩ := tx_get l k hlt
      obtain ⟨b, off, rfl, hb, hc⟩ := HR.out (by intro e; rw [e] at hlt; simp at hlt)
      have hcell := hc k x hx
      have Hx := Lib.hid hx
      clear hc hx
      by_cases hbig : n < x.size
      · have hL := Lib.hid (longQ_hit (m := m) Hx.out hbig)
        go_wp2
        go_ret
        exact ⟨ret_bool hL.out.symm, rfl⟩
      · go_wp2
        go_round
        case rel => exact ⟨k + 1, by omega, by go_num, Lib.hid (longQ_snoc Hx.out (by omega) ha.out)⟩
        case measure => simp [intOf]; omega
    · have hL := Lib.hid (longQ_not HM (show l.length ≤ k by omega) ha.out)
      go_wp2
      go_ret
      exact ⟨ret_bool hL.out.symm, rfl⟩
end Go.Proofs.YtiegbfbidecblaaDoor
