/- Walks of package ar: a name, a column, a member's bytes and how many. -/
import Derived.Test.YtbcemenfklgnkaaGreatDoorMRow
import Derived.Test.YtbcemenfklgnkaaGreatDoorErrNum
import Derived.Test.YtbcemenfklgnkaaGreatDoorShelf
import Derived.Test.YtbcemenfklgnkaaGreatDoorWalkA
import Derived.Lib.AppendIntMem
import Derived.Outline
namespace Go.Proofs.YtbcemenfklgnkaaGreatDoor
open Go.RowKit

/-- the errors that layers 1 to 4 answer with -/
def LA : List (Nat × Nat) := [(1, 5), (2, 4), (3, 2), (4, 3), (9, 0), (10, 10)]
/-- what the library's variables and the listed errors hold -/
structure Env (A : Nat → Addr) (w : World) : Prop where
  err : Sents LA A w
  tab : Lib.TabIs Tryz.prog w "internal/strconv.uint64pow10" .u64 Lib.pow10Tab
  syn : ∃ te pe, w.cell? ⟨19, 0, none⟩ = some (.iface te pe)
theorem tab_later {w w' : World} {name : String} {k : IntKind} {zs : List Int} (h : Lib.TabIs Tryz.prog w name k zs) (hb : Below w.heap.size w w') : Lib.TabIs Tryz.prog w' name k zs := by
  unfold Lib.TabIs World.var? at *
  cases hg : Tryz.prog.globalNamed name with
  | none => simp [hg] at h
  | some g =>
    simp only [hg, Option.bind_some] at h ⊢
    have hlt : g < w.heap.size := by
      rcases Nat.lt_or_ge g w.heap.size with h' | h'
      · exact h'
      · rw [Array.getElem?_eq_none h'] at h; simp at h
    rw [hb.block g hlt]
    exact h
theorem Env.later {A : Nat → Addr} {w w' : World} (h : Env A w) (hb : Below w.heap.size w w') : Env A w' := by
  obtain ⟨te, pe, hs⟩ := h.syn
  exact ⟨h.err.later hb, tab_later h.tab hb, te, pe, (hb.cell (cell_block hs)).trans hs⟩
theorem Env.grown {A : Nat → Addr} {w w' : World} (h : Env A w) (hg : w.grownBy w' none) : Env A w' := h.later (below_of_grown hg)

/-- a world that has grown -/
structure Gr (w : World) where
  W : World
  g : w.grownBy W none
/-- a region that draws, reads, and calls what only makes memory: one walk -/
theorem wp_region_grows {P : Program} {id : Nat} {Q : Exit → Act → World → Prop} {a : Act} {w : World} {l : List Oper} (hm : P.follows .mixedOrders = true) (hB : Region.lexB .any l.toArray = true)
    (h : wpQuiet P l.toArray (fun w' => ∃ u : Gr w, w' = u.W) (fun a' => ∀ w', (∃ u : Gr w, w' = u.W) → Q .normal a' w') l a) : (Code.region id l.toArray true).wp P Q a w :=
  wp_region_quiet (C := fun w' => ∃ u : Gr w, w' = u.W) hm hB ⟨⟨_, grown_drew (World.grownBy.refl w none)⟩, rfl⟩ (by simpa using h)

set_option maxHeartbeats 400000 in
theorem aRight (s : ByteArray) (w : World) (hs : s.size ≤ maxLen) :
    Calls Tryz.prog 127 #[.string s] w fun e w' => e = .returned (.bool (nameB s)) ∧ w.grownBy w' none := by
  have hs' := hs
  unfold maxLen at hs'
  cases hr : rightB s
  · have HN := Lib.hid (name_no hr)
    go_enter Tryz.func127, Tryz.ntmps127
    go_wp2_with (go_at_call 55; refine (nRight _ _ hs).mono ?_; rintro e w' ⟨rfl, rfl⟩)
    go_ret
    exact ⟨ret_bool HN.out.symm, World.grownBy.refl _ _⟩
  · by_cases h15 : 15 < s.size
    · have HN := Lib.hid (name_long h15)
      go_enter Tryz.func127, Tryz.ntmps127
      go_wp2_with (go_at_call 55; refine (nRight _ _ hs).mono ?_; rintro e w' ⟨rfl, rfl⟩)
      go_ret
      exact ⟨ret_bool HN.out.symm, World.grownBy.refl _ _⟩
    · have HN := Lib.hid (name_any hr (by omega))
      have HA := Lib.hid (right_ascii hr)
      have hc := Tryz.strings_ContainsAny_laid s ⟨#[47, 40, 41]⟩ w (by omega) (by decide) HA.out (by
        intro j b hb
        have : b ∈ ([47, 40, 41] : List UInt8) := List.mem_of_getElem? hb
        simp at this
        rcases this with rfl | rfl | rfl <;> decide)
      rw [show (⟨#[47, 40, 41]⟩ : ByteArray).data.toList = [47, 40, 41] by rfl] at hc
      generalize Lib.containsAny s.data.toList [47, 40, 41] = q at HN hc
      have HC := Lib.hid hc
      clear hc HA
      cases q
      · go_enter Tryz.func127, Tryz.ntmps127
        go_wp2_with (first
          | (go_at_call 55; refine (nRight _ _ hs).mono ?_; rintro e w' ⟨rfl, rfl⟩)
          | (go_at_call 137; refine (HC.out).mono ?_; rintro e w' ⟨rfl, hb⟩; have HB := Lib.hid hb; clear hb))
        go_ret
        exact ⟨ret_bool HN.out.symm, grown_of_below HB.out⟩
      · go_enter Tryz.func127, Tryz.ntmps127
        go_wp2_with (first
          | (go_at_call 55; refine (nRight _ _ hs).mono ?_; rintro e w' ⟨rfl, rfl⟩)
          | (go_at_call 137; refine (HC.out).mono ?_; rintro e w' ⟨rfl, hb⟩; have HB := Lib.hid hb; clear hb))
        go_ret
        exact ⟨ret_bool HN.out.symm, grown_of_below HB.out⟩

set_option maxHeartbeats 400000 in
theorem aOdd (s : ByteArray) (w : World) (hs : s.size ≤ maxLen) :
    Calls Tryz.prog 131 #[.string s] w fun e w' => e = .returned (.bool (((s.size : Int) % 2) == 1)) ∧ w = w' := by
  unfold maxLen at hs
  go_enter Tryz.func131, Tryz.ntmps131
  go_wp2
  go_ret
  exact ⟨rfl, rfl⟩

set_option maxHeartbeats 400000 in
theorem aSize (m : Mb) (w : World) (hs : m.c.size ≤ 140737488350000) :
    Calls Tryz.prog 126 #[valM m] w fun e w' => e = .returned (.int .i64 (sizeM m)) ∧ w.grownBy w' none := by
  unfold valM sizeM
  rcases Nat.mod_two_eq_zero_or_one m.c.size with h | h
  · have h1 : (((m.c.size : Int) % 2) == 1) = false := by rw [beq_eq_false_iff_ne]; omega
    have H := Lib.hid h
    clear h
    go_enter Tryz.func126, Tryz.ntmps126
    go_wp2_with (go_at_call 131; refine (aOdd _ _ (by unfold maxLen; omega)).mono ?_; rintro e w' ⟨rfl, rfl⟩)
    go_ret
    exact ⟨ret_int (by have := H.out; omega), World.grownBy_alloc _ _ _⟩
  · have h1 : (((m.c.size : Int) % 2) == 1) = true := by rw [beq_iff_eq]; omega
    have H := Lib.hid h
    clear h
    go_enter Tryz.func126, Tryz.ntmps126
    go_wp2_with (go_at_call 131; refine (aOdd _ _ (by unfold maxLen; omega)).mono ?_; rintro e w' ⟨rfl, rfl⟩)
    go_ret
    exact ⟨ret_int (by have := H.out; omega), World.grownBy_alloc _ _ _⟩

theorem ba_app (a b : ByteArray) : (a ++ b).data.toList = a.data.toList ++ b.data.toList := by simp
theorem pad_ba {s : ByteArray} {n : Nat} : s ++ (⟨(Lib.repeatL [32] (n - s.size)).toArray⟩ : ByteArray) = ⟨(padL s.data.toList n).toArray⟩ := by
  apply ba_ext
  rw [ba_app, repeat_blank]
  unfold padL
  simp
theorem ret_str {a b : ByteArray} (h : a = b) : Ending.returned (.string a) = .returned (.string b) := by rw [h]

set_option maxHeartbeats 400000 in
theorem aColumn (s : ByteArray) (n : Nat) (w : World) (hs : s.size ≤ n) (hn : n ≤ 100) :
    Calls Tryz.prog 129 #[.string s, .int .i64 n] w fun e w' => ∃ x : ByteArray, e = .returned (.string x) ∧ x.data.toList = padL s.data.toList n ∧ x.size ≤ n ∧ w.grownBy w' none := by
  have hr := Tryz.strings_Repeat ⟨#[32]⟩ (n - s.size) w (by omega) (by
    have : (⟨#[32]⟩ : ByteArray).size = 1 := rfl
    rw [this]; omega)
  rw [show (⟨#[32]⟩ : ByteArray).data.toList = [32] by rfl, show ((n - s.size : Nat) : Int) = (n : Int) - (s.size : Int) by omega] at hr
  have hp := pad_ba (s := s) (n := n)
  have hz : (⟨(Lib.repeatL [32] (n - s.size)).toArray⟩ : ByteArray).size ≤ n := by rw [repeat_blank, Lib.size_mk, List.length_replicate]; omega
  generalize (⟨(Lib.repeatL [32] (n - s.size)).toArray⟩ : ByteArray) = x at hr hp hz
  have HR := Lib.hid hr
  have HP := Lib.hid hp
  clear hr hp
  have b1 : (s.size : Int) ≤ n := by omega
  have b2 : (n : Int) ≤ 100 := by omega
  go_enter Tryz.func129, Tryz.ntmps129
  go_wp2_with (go_at_call 139; refine (HR.out).mono ?_; rintro e w' ⟨rfl, hb⟩; have HB := Lib.hid hb; clear hb)
  go_ret
  refine ⟨_, rfl, by rw [HP.out], ?_, grown_of_below HB.out⟩
  rw [HP.out, Lib.size_mk, pad_len (by rw [bytes_len]; exact hs)]; exact Nat.le_refl _
end Go.Proofs.YtbcemenfklgnkaaGreatDoor
