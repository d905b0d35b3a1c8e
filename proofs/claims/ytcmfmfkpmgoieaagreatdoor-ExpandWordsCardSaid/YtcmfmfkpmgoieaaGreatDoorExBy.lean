/- Rows of outputs: as they lie; whether they are too long; which one names a command; the document's rows of the same outputs. A map by texts in memory, by what it gives: for maps of texts to whatever values. Walks of package expand: the outputs by their commands, a map. -/
import Derived.Test.YtcmfmfkpmgoieaaGreatDoorExPlain
import Derived.Test.YtcmfmfkpmgoieaaGreatDoorEvRef
import Derived.Test.YtcmfmfkpmgoieaaGreatDoorLxOf
import Derived.Test.YtcmfmfkpmgoieaaGreatDoorEvMap
import Derived.Test.YtcmfmfkpmgoieaaGreatDoorRngBox
namespace Go.Proofs.YtcmfmfkpmgoieaaGreatDoor
open Go.RowKit

/-- a slice of outputs, as it lies -/
def ORow (w : World) (v : Value) (O : List Ot) : Prop :=
  ∃ a c, v = .slice a O.length c ∧ O.length ≤ 9223372036854775807 ∧
    (O ≠ [] → ∃ b off, a = some ⟨b, off, none⟩ ∧ b < w.heap.size ∧ ∀ (j : Nat) (x : Ot), O[j]? = some x →
      w.cell? ⟨b, off + j * 2, none⟩ = some (.string x.c) ∧ w.cell? ⟨b, off + j * 2 + 1, none⟩ = some (.string x.t))
theorem ORow.later {w w' : World} {v : Value} {O : List Ot} (h : ORow w v O) (hb : Below w.heap.size w w') : ORow w' v O := by
  obtain ⟨a, c, e, hm, hc⟩ := h
  refine ⟨a, c, e, hm, fun hne => ?_⟩
  obtain ⟨b, off, e1, hl, hx⟩ := hc hne
  exact ⟨b, off, e1, Nat.lt_of_lt_of_le hl hb.size, fun j x hj => ⟨(hb.cell (by exact hl)).trans (hx j x hj).1, (hb.cell (by exact hl)).trans (hx j x hj).2⟩⟩
theorem ORow.grown {w w' : World} {v : Value} {O : List Ot} (h : ORow w v O) (g : w.grownBy w' none) : ORow w' v O := h.later (below_of_grown g)
theorem ORow.shape {w : World} {v : Value} {O : List Ot} (h : ORow w v O) : ∃ a c, v = .slice a O.length c ∧ O.length ≤ 9223372036854775807 := by
  obtain ⟨a, c, e, hm, -⟩ := h; exact ⟨a, c, e, hm⟩
theorem ORow.at {w : World} {v : Value} {O : List Ot} (h : ORow w v O) (k : Nat) (hk : k < O.length) :
    ∃ b off c x, v = .slice (some ⟨b, off, none⟩) O.length c ∧ O[k]? = some x ∧ b < w.heap.size ∧
      w.cell? ⟨b, off + k * 2, none⟩ = some (.string x.c) ∧ w.cell? ⟨b, off + k * 2 + 1, none⟩ = some (.string x.t) := by
  obtain ⟨a, c, e, hm, hc⟩ := h
  obtain ⟨b, off, rfl, hl, hx⟩ := hc (by rintro rfl; simp at hk)
  have hf : O[k]? = some O[k] := List.getElem?_eq_getElem hk
  exact ⟨b, off, c, O[k], e, hf, hl, hx k _ hf⟩
abbrev otC (x : Ot) : List Value := [.string x.c, .string x.t]
def otV (O : List Ot) : List Value := O.flatMap otC
theorem otV_snoc (O : List Ot) (x : Ot) : otV (O ++ [x]) = otV O ++ [.string x.c, .string x.t] := by unfold otV; rw [List.flatMap_append]; rfl
theorem otV_get : ∀ {O : List Ot} {j : Nat} {x : Ot}, O[j]? = some x → (otV O)[j * 2]? = some (.string x.c) ∧ (otV O)[j * 2 + 1]? = some (.string x.t)
  | [], j, x, h => by simp at h
  | y :: O, 0, x, h => by simp at h; subst h; exact ⟨rfl, rfl⟩
  | y :: O, j + 1, x, h => by
    rw [List.getElem?_cons_succ] at h
    obtain ⟨h1, h2⟩ := otV_get h
    have e : ∀ i, (otV (y :: O))[i + 2]? = (otV O)[i]? := fun i => rfl
    rw [show (j + 1) * 2 = j * 2 + 2 by omega, e, show j * 2 + 2 + 1 = (j * 2 + 1) + 2 by omega, e]
    exact ⟨h1, h2⟩
theorem ot_row {w : World} {base n : Nat} {T : TypeId} {v : Value} {O : List Ot} (h : w.ownsRow base T 2 v n (otV O)) (hn : n = O.length) (hm : n ≤ 9223372036854775807) : ORow w v O := by
  subst hn
  obtain ⟨a, c, rfl⟩ := tx_shape h
  refine ⟨a, c, rfl, hm, fun hne => ?_⟩
  rcases h.2 with ⟨-, h2⟩ | ⟨g, cap, cur, h2, -, h4, -⟩
  · exact absurd (List.length_eq_zero_iff.1 h2) hne
  · cases h2
    have hc := h.cells (g := g) rfl
    refine ⟨g, 0, rfl, (Array.getElem?_eq_some_iff.1 h4).1, fun j x hx => ?_⟩
    obtain ⟨h5, h6⟩ := otV_get hx
    have a1 := hc _ _ h5
    have a2 := hc _ _ h6
    rw [Addr.add_lit] at a1 a2
    exact ⟨by simpa using a1, by simpa [Nat.add_assoc] using a2⟩
theorem ot_new (w : World) (x : Ot) (T : TypeId) (m : Nat) (hm : m = w.heap.size) : ∀ j y, ([.string x.c, .string x.t] : List Value)[j]? = some y → (w.alloc (.cells #[.string x.c, .string x.t] T)).cell? ((⟨m, 0, none⟩ : Addr).add j) = some y := by
  subst hm
  intro j y hy
  have hlt := (List.getElem?_eq_some_iff.1 hy).1
  simp at hlt
  rw [Addr.add_lit]
  match j, hlt with
  | 0, _ => simp at hy; subst hy; simp [go_sem]
  | 1, _ => simp at hy; subst hy; simp [go_sem]
theorem two_ot {w : World} {b : Nat} {v0 v1 : Value} {t : TypeId} (h : w.heap[b]? = some (.cells #[v0, v1] t (0, 0))) : w.cell? ⟨b, 0, none⟩ = some v0 ∧ w.cell? ⟨b, 1, none⟩ = some v1 := by
  refine ⟨?_, ?_⟩ <;> (unfold World.cell?; rw [h]; rfl)
theorem fnd_hit {O : List Ot} {s : ByteArray} {j : Nat} {x : Ot} (h : ∀ (m : Nat) (y : Ot), m < j → O[m]? = some y → y.c ≠ s) (hx : O[j]? = some x) (hn : x.c = s) : fndO O s = some x.t := by
  unfold fndO
  have : O.find? (fun y => decide (y.c = s)) = some x := by
    rw [List.find?_eq_some_iff_getElem]
    obtain ⟨hj, hxj⟩ := List.getElem?_eq_some_iff.1 hx
    exact ⟨decide_eq_true hn, j, hj, hxj, fun i hi => by
      have := h i _ hi (List.getElem?_eq_getElem (by omega))
      simpa using this⟩
  rw [this]; rfl
theorem fnd_no {O : List Ot} {s : ByteArray} (h : ∀ (m : Nat) (y : Ot), O[m]? = some y → y.c ≠ s) : fndO O s = none := by
  unfold fndO
  rw [List.find?_eq_none.2 (fun y hy => by
    obtain ⟨m, hm⟩ := List.getElem?_of_mem hy
    simpa using h m y hm)]; rfl
/-- a command's output, and whether there is one -/
def PFo (o : Option ByteArray) (w : World) (e : Ending) (w' : World) : Prop := e = .returned (.tuple #[.string (o.getD ⟨#[]⟩), .bool o.isSome]) ∧ w.grownBy w' none
set_option maxRecDepth 100000 in
set_option maxHeartbeats 4000000 in
theorem eFind (s : ByteArray) (v : Value) (O : List Ot) (w : World) (hR : ORow w v O) : Calls Tryz.prog 12 #[.string s, v] w (PFo (fndO O s) w) := by
  obtain ⟨va, vc, rfl, hm⟩ := hR.shape
  have HR := Lib.hid hR
  obtain ⟨z, hz⟩ : ∃ z, fndO O s = z := ⟨_, rfl⟩
  rw [hz]
  have HZ := Lib.hid hz
  clear hR hz
  go_enter Tryz.func12, Tryz.ntmps12
  go_wp2
  go_loopw [10] (fun i wr => ∃ j : Nat, j ≤ O.length ∧ i = .int .i64 j ∧ Hid (∀ m y, m < j → O[m]? = some y → y.c ≠ s) ∧ Hid (w.grownBy wr none)) (fun i _ => O.length - (intOf i).toNat)
  case atStart => exact ⟨0, Nat.zero_le _, rfl, Lib.hid (fun m y hm => by omega), Lib.hid (World.grownBy.refl _ _)⟩
  case round =>
    obtain ⟨j, hj, rfl, hI, hG⟩ := hrel
    by_cases hlt : j < O.length
    · obtain ⟨b, off, c, x, ev, hx, hb, c0, c1⟩ := (HR.out.grown hG.out).at j hlt
      injection ev with ev1 ev2 ev3
      subst ev1 ev3
      obtain ⟨n, t⟩ := x
      simp only at c0 c1
      have G4 := Lib.hid (hG.out.trans (World.grownBy_alloc wr (.cells #[.string n, .string t] 69) none))
      have HX := Lib.hid hx
      clear hx hb
      by_cases hn : n = s
      · have e1 := strV_eq hn
        have HV := Lib.hid (show z = some t by rw [← HZ.out]; exact fnd_hit hI.out HX.out hn)
        clear hn
        go_wp2
        go_ret2
        unfold PFo
        rw [HV.out]
        exact ⟨rfl, G4.out⟩
      · have e1 := str_ne hn
        have HN := Lib.hid (show ∀ m y, m < j + 1 → O[m]? = some y → y.c ≠ s from fun m y hm hy => by
          rcases Nat.lt_succ_iff_lt_or_eq.1 hm with h1 | rfl
          · exact hI.out m y h1 hy
          · rw [HX.out] at hy; cases hy; exact hn)
        clear hn
        go_wp2
        go_roundw
        case rel => exact ⟨j + 1, hlt, by go_num, HN, G4⟩
        case measure => simp [intOf]; omega
    · have HV := Lib.hid (show z = none by
        rw [← HZ.out]
        exact fnd_no fun m y hy => hI.out m y (by have := (List.getElem?_eq_some_iff.1 hy).1; omega) hy)
      go_wp2
      go_ret2
      unfold PFo
      rw [HV.out]
      exact ⟨rfl, hG.out⟩
set_option maxRecDepth 100000 in
set_option maxHeartbeats 4000000 in
theorem dFindO (s : ByteArray) (v : Value) (O : List Ot) (w : World) (hR : ORow w v O) : Calls Tryz.prog 13 #[.string s, v] w (PFo (fndO O s) w) := by
  obtain ⟨va, vc, rfl, hm⟩ := hR.shape
  have HR := Lib.hid hR
  obtain ⟨z, hz⟩ : ∃ z, fndO O s = z := ⟨_, rfl⟩
  rw [hz]
  have HZ := Lib.hid hz
  clear hR hz
  go_enter Tryz.func13, Tryz.ntmps13
  go_wp2
  go_loopw [10] (fun i wr => ∃ j : Nat, j ≤ O.length ∧ i = .int .i64 j ∧ Hid (∀ m y, m < j → O[m]? = some y → y.c ≠ s) ∧ Hid (w.grownBy wr none)) (fun i _ => O.length - (intOf i).toNat)
  case atStart => exact ⟨0, Nat.zero_le _, rfl, Lib.hid (fun m y hm => by omega), Lib.hid (World.grownBy.refl _ _)⟩
  case round =>
    obtain ⟨j, hj, rfl, hI, hG⟩ := hrel
    by_cases hlt : j < O.length
    · obtain ⟨b, off, c, x, ev, hx, hb, c0, c1⟩ := (HR.out.grown hG.out).at j hlt
      injection ev with ev1 ev2 ev3
      subst ev1 ev3
      obtain ⟨n, t⟩ := x
      simp only at c0 c1
      have G4 := Lib.hid (hG.out.trans (World.grownBy_alloc wr (.cells #[.string n, .string t] 83) none))
      have HX := Lib.hid hx
      clear hx hb
      by_cases hn : n = s
      · have e1 := strV_eq hn
        have HV := Lib.hid (show z = some t by rw [← HZ.out]; exact fnd_hit hI.out HX.out hn)
        clear hn
        go_wp2
        go_ret2
        unfold PFo
        rw [HV.out]
        exact ⟨rfl, G4.out⟩
      · have e1 := str_ne hn
        have HN := Lib.hid (show ∀ m y, m < j + 1 → O[m]? = some y → y.c ≠ s from fun m y hm hy => by
          rcases Nat.lt_succ_iff_lt_or_eq.1 hm with h1 | rfl
          · exact hI.out m y h1 hy
          · rw [HX.out] at hy; cases hy; exact hn)
        clear hn
        go_wp2
        go_roundw
        case rel => exact ⟨j + 1, hlt, by go_num, HN, G4⟩
        case measure => simp [intOf]; omega
    · have HV := Lib.hid (show z = none by
        rw [← HZ.out]
        exact fnd_no fun m y hy => hI.out m y (by have := (List.getElem?_eq_some_iff.1 hy).1; omega) hy)
      go_wp2
      go_ret2
      unfold PFo
      rw [HV.out]
      exact ⟨rfl, hG.out⟩
/-- no more outputs than are asked, and none too long -/
def SmO (m : Nat) (O : List Ot) : Prop := O.length ≤ m ∧ ∀ x ∈ O, x.c.size ≤ 100 ∧ x.t.size ≤ 600
def PLgO (k : Nat) (O : List Ot) (w : World) (e : Ending) (w' : World) : Prop := (∃ z, e = .returned (.bool z) ∧ (z = false → SmO k O)) ∧ w.grownBy w' none
set_option maxRecDepth 100000 in
set_option maxHeartbeats 4000000 in
theorem lLongO (v : Value) (O : List Ot) (k : Nat) (w : World) (hR : ORow w v O) : Calls Tryz.prog 7 #[v, .int .i64 k] w (PLgO k O w) := by
  obtain ⟨va, vc, rfl, hm⟩ := hR.shape
  have HR := Lib.hid hR
  clear hR
  by_cases hk : k < O.length
  · go_enter Tryz.func7, Tryz.ntmps7
    go_wp2
    go_ret
    exact ⟨⟨true, rfl, by simp⟩, World.grownBy.refl _ _⟩
  · go_enter Tryz.func7, Tryz.ntmps7
    go_wp2
    go_loopw [13] (fun i wr => ∃ j : Nat, j ≤ O.length ∧ i = .int .i64 j ∧ Hid (∀ m y, m < j → O[m]? = some y → y.c.size ≤ 100 ∧ y.t.size ≤ 600) ∧ Hid (w.grownBy wr none)) (fun i _ => O.length - (intOf i).toNat)
    case atStart => exact ⟨0, Nat.zero_le _, rfl, Lib.hid (fun m y hm => by omega), Lib.hid (World.grownBy.refl _ _)⟩
    case round =>
      obtain ⟨j, hj, rfl, hI, hG⟩ := hrel
      by_cases hlt : j < O.length
      · obtain ⟨b, off, c, x, ev, hx, hb, c0, c1⟩ := (HR.out.grown hG.out).at j hlt
        injection ev with ev1 ev2 ev3
        subst ev1 ev3
        obtain ⟨n, t⟩ := x
        simp only at c0 c1
        have G4 := Lib.hid (hG.out.trans (World.grownBy_alloc wr (.cells #[.string n, .string t] 69) none))
        have HX := Lib.hid hx
        clear hx hb
        by_cases hn : n.size ≤ 100
        · by_cases ht : t.size ≤ 600
          · have HN := Lib.hid (show ∀ m y, m < j + 1 → O[m]? = some y → y.c.size ≤ 100 ∧ y.t.size ≤ 600 from fun m y hm hy => by
              rcases Nat.lt_succ_iff_lt_or_eq.1 hm with h1 | rfl
              · exact hI.out m y h1 hy
              · rw [HX.out] at hy; cases hy; exact ⟨hn, ht⟩)
            go_wp2
            go_roundw
            case rel => exact ⟨j + 1, hlt, by go_num, HN, G4⟩
            case measure => simp [intOf]; omega
          · go_wp2
            go_ret
            exact ⟨⟨true, rfl, by simp⟩, G4.out⟩
        · go_wp2
          go_ret
          exact ⟨⟨true, rfl, by simp⟩, G4.out⟩
      · go_wp2
        go_ret
        exact ⟨⟨false, rfl, fun _ => ⟨by omega, fun x hx => by
          obtain ⟨m, hm⟩ := List.getElem?_of_mem hx
          exact hI.out m x (by have := (List.getElem?_eq_some_iff.1 hm).1; omega) hm⟩⟩, hG.out⟩
theorem infoOt : (Tryz.prog.info? 83).map (fun i => (i.zero, i.size, i.bytes)) = some (some (.agg #[.string ⟨#[]⟩, .string ⟨#[]⟩]), 2, 32) := by kernel_rfl
set_option maxRecDepth 100000 in
set_option maxHeartbeats 8000000 in
theorem lOutputs (v : Value) (O : List Ot) (w : World) (hR : ORow w v O) (hl : O.length ≤ 1000) : Calls Tryz.prog 11 #[v] w fun e w' => (∃ u, e = .returned u ∧ ORow w' u O) ∧ w.grownBy w' none := by
  obtain ⟨iu, hiu, hu0, hu1, hu2⟩ := info_parts infoOt
  have IU := Lib.hid hiu; have ZU0 := Lib.hid hu0; have ZU1 := Lib.hid hu1; have ZU2 := Lib.hid hu2
  obtain ⟨va, vc, rfl, hm⟩ := hR.shape
  have HR := Lib.hid hR
  have O1 := Lib.hid (own_zero w 83 2 w.heap.size (Nat.le_refl _))
  have G1 := Lib.hid (World.grownBy_alloc w (.cells #[] 83) none)
  clear hiu hu0 hu1 hu2 hR
  go_enter Tryz.func11, Tryz.ntmps11
  go_upto_region 2 with fail
  generalize w.alloc _ = w1 at O1 G1 ⊢
  obtain ⟨base, hbase⟩ : ∃ base, base = w.heap.size := ⟨_, rfl⟩
  rw [← hbase] at O1 ⊢
  have HBL := Lib.hid (show w.heap.size = base from hbase.symm)
  clear hbase
  go_wp2
  go_loopw [3, 9] (fun o i wr => ∃ (j : Nat) (ua : Option Addr) (uc : Nat), j ≤ O.length ∧ i = .int .i64 j ∧ o = .slice ua j uc ∧ Hid (wr.ownsRow base 83 2 (.slice ua j uc) j (otV (O.take j))) ∧ Hid (w.grownBy wr none)) (fun _ i _ => O.length - (intOf i).toNat)
  case atStart => exact ⟨0, _, _, Nat.zero_le _, rfl, rfl, O1, G1⟩
  case round =>
    obtain ⟨j, ua, uc, hj, rfl, rfl, hO, hG⟩ := hrel
    by_cases hlt : j < O.length
    · obtain ⟨b, off, c, x, ev, hx, hb, c0, c1⟩ := (HR.out.grown hG.out).at j hlt
      injection ev with ev1 ev2 ev3
      subst ev1 ev3
      have HT := Lib.hid (show O.take (j + 1) = O.take j ++ [x] by rw [List.take_add_one, hx]; rfl)
      clear hx hb
      go_upto_region 5 with fail
      have g4 := World.grownBy_alloc wr (.cells #[.string x.c, .string x.t] 69) none
      have B4 := Lib.hid (heap_alloc_new wr (.cells #[.string x.c, .string x.t] 69))
      have G4 := Lib.hid (hG.out.trans g4)
      have R4 := Lib.hid (own_kept hO.out g4)
      clear hG hO g4
      generalize wr.alloc _ = w4 at B4 G4 R4 ⊢
      obtain ⟨d0, d1⟩ := two_ot B4.out
      clear c0 c1
      go_wp2_with (at_builtin; refine wpList_append_own _ rfl _ _ 37 rfl base 83 iu _ 2 32 Tryz.underlying37 IU.out ZU0.out ZU1.out ZU2.out rfl (by decide) _ _ _ rfl (R4.out.alloc _) ⟨_, 0, none⟩ 1 1 [.string x.c, .string x.t] rfl rfl (ot_new _ x _ _ (by simp)) (by intro u hu; simp at hu; rcases hu with rfl | rfl <;> rfl) (by unfold maxLen; omega) (by omega) (by have := G4.out.size; have := HBL.out; simp; omega) ?_; intro v9 w9 hown9 hgrow9 _; have G9 := Lib.hid ((G4.out.trans (World.grownBy_alloc _ _ _)).andThen hgrow9 (fun k hk => .inl (by have := (R4.out.lt k hk).1; have := HBL.out; omega))); have O9 := Lib.hid hown9; clear hown9 hgrow9)
      obtain ⟨va9, vc9, rfl⟩ := tx_shape O9.out
      have OA := Lib.hid (show w9.ownsRow base 83 2 (.slice va9 (j + 1) vc9) (j + 1) (otV (O.take (j + 1))) by rw [HT.out, otV_snoc]; exact O9.out)
      go_wp2
      go_roundw
      case rel => exact ⟨j + 1, va9, vc9, hlt, by go_num, rfl, OA, G9⟩
      case measure => simp [intOf]; omega
    · obtain rfl : j = O.length := by omega
      have HF := Lib.hid (show ORow wr (.slice ua O.length uc) O from ot_row (by have := hO.out; rw [List.take_of_length_le (Nat.le_refl _)] at this; exact this) rfl hm)
      go_wp2
      go_ret
      exact ⟨⟨_, rfl, HF.out⟩, hG.out⟩
end Go.Proofs.YtcmfmfkpmgoieaaGreatDoor

namespace Go.Proofs.YtcmfmfkpmgoieaaGreatDoor
open Go.RowKit Go.Maps

theorem keyS_is (s : ByteArray) : WideAt.IsKeyLit (keyS s) := trivial
theorem keyS_ne {a b : ByteArray} (h : a ≠ b) : keyS a ≠ keyS b := fun e => h (by
  unfold keyS at e
  injection e with e
  exact bz_ext e)
/-- block b holds a map of at most n entries that gives f -/
def MpS (w : World) (b n : Nat) (f : ByteArray → Option Value) : Prop :=
  ∃ D, w.ownsMap Tryz.prog 9 hElem b n D ∧ ∀ s : ByteArray, has D (keyS s) = (f s).isSome ∧ ∀ z, D.atKey (keyS s) z = match f s with | some v => .held v | none => z
theorem MpS.kept {w w' : World} {b n : Nat} {f : ByteArray → Option Value} {row : Option Nat} (h : MpS w b n f) (g : w.grownBy w' row) (hb : some b ≠ row) : MpS w' b n f := by
  obtain ⟨D, h1, h2⟩ := h
  exact ⟨D, h1.kept g hb, h2⟩
theorem MpS.grown {w w' : World} {b n : Nat} {f : ByteArray → Option Value} (h : MpS w b n f) (g : w.grownBy w' none) : MpS w' b n f := h.kept g (by simp)
theorem MpS.lt {w : World} {b n : Nat} {f : ByteArray → Option Value} (h : MpS w b n f) : b < w.heap.size := by
  obtain ⟨D, h1, -⟩ := h
  exact h1.lt
theorem MpS.block {w w' : World} {b n : Nat} {f : ByteArray → Option Value} (h : MpS w b n f) (e : w'.heap[b]? = w.heap[b]?) : MpS w' b n f := by
  obtain ⟨D, ⟨es, clock, hb, rest⟩, h2⟩ := h
  exact ⟨D, ⟨es, clock, e.trans hb, rest⟩, h2⟩
theorem mpS_new (w : World) : MpS (w.alloc (.map #[] 0)) w.heap.size 0 (fun _ => none) :=
  ⟨.map [], World.ownsMap_made _ _ _ _, fun _ => ⟨rfl, fun _ => rfl⟩⟩
theorem MpS.mono {w : World} {b n m : Nat} {f : ByteArray → Option Value} (h : MpS w b n f) (hm : n ≤ m) : MpS w b m f := by
  obtain ⟨D, h1, h2⟩ := h
  exact ⟨D, World.ownsMap.mono h1 hm, h2⟩
theorem MpS.same {w : World} {b n : Nat} {f g : ByteArray → Option Value} (h : MpS w b n f) (e : ∀ s, f s = g s) : MpS w b n g := by
  rw [← funext e]; exact h
/-- a look that tells whether there is one -/
theorem MpS.look_ok {w : World} {b n : Nat} {f : ByteArray → Option Value} (h : MpS w b n f) {t e : TypeId} (ht : Tryz.prog.underlying t = some (.map 9 e)) {z : Value} (hz : (zeroValue e).run Tryz.prog w = .ok z w) {s : ByteArray} (hs : s.size ≤ maxLen) :
    (Instr.lookup t (.map (some b)) (.string s) true).run Tryz.prog w = .ok (.tuple #[(f s).getD z, .bool (f s).isSome]) w := by
  obtain ⟨D, h1, h2⟩ := h
  obtain ⟨v, ps, hrun, hv⟩ := World.ownsMap.look_ok h1 lawV ht hz (show hElem z = some (.held z, []) from rfl) (keyV hs)
  obtain ⟨h3, h4⟩ := h2 s
  rw [h4] at hv
  rw [hrun, h3]
  have hvv : v = (f s).getD z := by
    unfold hElem at hv
    rw [Option.some.injEq, Prod.mk.injEq] at hv
    cases hf : f s with
    | none => rw [hf] at hv; simpa using hv.1
    | some u => rw [hf] at hv; simpa using hv.1
  rw [hvv]
theorem MpS.look {w : World} {b n : Nat} {f : ByteArray → Option Value} (h : MpS w b n f) {t e : TypeId} (ht : Tryz.prog.underlying t = some (.map 9 e)) {z : Value} (hz : (zeroValue e).run Tryz.prog w = .ok z w) {s : ByteArray} (hs : s.size ≤ maxLen) :
    (Instr.lookup t (.map (some b)) (.string s) false).run Tryz.prog w = .ok ((f s).getD z) w := by
  obtain ⟨D, h1, h2⟩ := h
  obtain ⟨v, ps, hrun, hv⟩ := World.ownsMap.lookup h1 lawV ht hz (show hElem z = some (.held z, []) from rfl) (keyV hs)
  obtain ⟨h3, h4⟩ := h2 s
  rw [h4] at hv
  rw [hrun]
  have hvv : v = (f s).getD z := by
    unfold hElem at hv
    rw [Option.some.injEq, Prod.mk.injEq] at hv
    cases hf : f s with
    | none => rw [hf] at hv; simpa using hv.1
    | some u => rw [hf] at hv; simpa using hv.1
  rw [hvv]
/-- one more entry -/
def putF (f : ByteArray → Option Value) (s : ByteArray) (v : Value) : ByteArray → Option Value := fun x => if x = s then some v else f x
theorem MpS.store {w : World} {b n : Nat} {f : ByteArray → Option Value} (h : MpS w b n f) {t e : TypeId} (ht : Tryz.prog.underlying t = some (.map 9 e)) (hn : n < maxLen) {s : ByteArray} (hs : s.size ≤ maxLen) (v : Value) :
    ∃ w', (Instr.mapUpdate t (.map (some b)) (.string s) v).run Tryz.prog w = .ok () w' ∧ MpS w' b (n + 1) (putF f s v) ∧ w.grownBy w' (some b) := by
  obtain ⟨D, h1, h2⟩ := h
  obtain ⟨w', hrun, hm, hg⟩ := World.ownsMap.update h1 lawV ht hn (keyV hs) (show hElem v = some (.held v, []) from rfl)
  refine ⟨w', hrun, ⟨_, hm, fun x => ?_⟩, hg⟩
  unfold putF
  by_cases hx : x = s
  · subst hx
    rw [if_pos rfl]
    exact ⟨has_put_same h1.isMap (keyS_is _) _, fun z => atKey_put_same h1.isMap (keyS_is _) _ z⟩
  · rw [if_neg hx]
    obtain ⟨h3, h4⟩ := h2 x
    exact ⟨(has_put_other (keyS_ne hx) _).trans h3, fun z => (atKey_put_other (keyS_ne hx) _ z).trans (h4 z)⟩
theorem MpS.not_cell {w : World} {p b n o : Nat} {v : Value} {f : ByteArray → Option Value} (h : w.cell? ⟨p, o, none⟩ = some v) (hm : MpS w b n f) : p ≠ b := by
  obtain ⟨D, ⟨es, clock, hb, -⟩, -⟩ := hm
  rintro rfl
  unfold World.cell? at h
  rw [hb] at h
  cases h
end Go.Proofs.YtcmfmfkpmgoieaaGreatDoor

namespace Go.Proofs.YtcmfmfkpmgoieaaGreatDoor
open Go.RowKit Go.Shelf
attribute [local go_sem] Oper.semAt_some

/-- a place of a row of outputs -/
abbrev OI (L : List Ot) := {k : Nat // k < L.length}
abbrev otA (x : Ot) : Value := .agg #[.string x.c, .string x.t]
/-- what the loop's variables are given there -/
abbrev encO (L : List Ot) (x : OI L) : Array Value := #[.int .i64 x.1, otA (L[x.1]'x.2)]
/-- the first j rounds' places: the last ones -/
def dnO (L : List Ot) : Nat → List (OI L)
  | 0 => []
  | j + 1 => dnO L j ++ (if h : L.length - 1 - j < L.length then [⟨L.length - 1 - j, h⟩] else [])
theorem dnO_succ (L : List Ot) (j : Nat) (h : L.length - 1 - j < L.length) : dnO L (j + 1) = dnO L j ++ [⟨L.length - 1 - j, h⟩] := by rw [dnO, dif_pos h]
theorem dnO_len (L : List Ot) : ∀ j, j ≤ L.length → (dnO L j).length = j
  | 0, _ => rfl
  | j + 1, h => by rw [dnO_succ L j (by omega), List.length_append, dnO_len L j (by omega)]; rfl
/-- the outputs that came: the last one ahead -/
def ndO (L : List Ot) (pre : List (OI L)) : List Ot := pre.reverse.map fun x => L[x.1]'x.2
theorem ndO_snoc (L : List Ot) (pre : List (OI L)) (x : OI L) : ndO L (pre ++ [x]) = (L[x.1]'x.2) :: ndO L pre := by unfold ndO; simp
theorem ndO_dn (L : List Ot) : ∀ j, j ≤ L.length → ndO L (dnO L j) = L.drop (L.length - j)
  | 0, _ => by simp [dnO, ndO]
  | j + 1, h => by
    have hlt : L.length - 1 - j < L.length := by omega
    rw [dnO_succ L j hlt, ndO_snoc, ndO_dn L j (by omega), show L.length - (j + 1) = L.length - 1 - j by omega, List.drop_eq_getElem_cons hlt]
    simp only []
    congr 2
    omega
theorem ndO_all (L : List Ot) : ndO L (dnO L L.length) = L := by rw [ndO_dn L _ (Nat.le_refl _)]; simp
/-- what a round keeps: all that lay ahead of n0 but one block -/
def KpO (n0 q : Nat) (W W' : World) : Prop := ∀ k, k < n0 → k ≠ q → W'.heap[k]? = W.heap[k]?
theorem KpO.refl (n0 q : Nat) (W : World) : KpO n0 q W W := fun _ _ _ => rfl
theorem KpO.trans {n0 q : Nat} {A B C : World} (h : KpO n0 q A B) (h2 : KpO n0 q B C) : KpO n0 q A C := fun k hk hq => (h2 k hk hq).trans (h k hk hq)
theorem KpO.cell {n0 q b off : Nat} {W W' : World} {v : Value} (h : KpO n0 q W W') (hb : b < n0) (hq : b ≠ q) (hc : W.cell? ⟨b, off, none⟩ = some v) : W'.cell? ⟨b, off, none⟩ = some v :=
  (World.cell?_of_block (w := W) (w' := W') (a := ⟨b, off, none⟩) (h b hb hq)).trans hc
/-- where the outputs lie: apart from the block that changes -/
def LieO (W : World) (n0 q : Nat) (a : Option Addr) (L : List Ot) : Prop :=
  L ≠ [] → ∃ b off, a = some ⟨b, off, none⟩ ∧ b < n0 ∧ b ≠ q ∧ ∀ k x, L[k]? = some x → W.cell? ⟨b, off + k * 2, none⟩ = some (.string x.c) ∧ W.cell? ⟨b, off + k * 2 + 1, none⟩ = some (.string x.t)

set_option maxRecDepth 100000 in
set_option maxHeartbeats 2000000 in
theorem back1O (F : Fence) (n : Nat) (h64 : F.fn 110) (hro : F.round = none) (hn : 1 ≤ n) (l Bs n0 q c : Nat) (a : Option Addr) (L : List Ot) (hL : L.length ≤ 5000)
    (hB : Bs < n0 ∧ Bs ≠ q) (J Jx : List (OI L) → World → Prop)
    (hY : ∀ pre x W, J pre W → pre.length < L.length → YieldAt F (n - 1) Tryz.prog l (encO L x) W fun e W' => (e = .returned (.bool true) ∧ J (pre ++ [x]) W' ∧ KpO n0 q W W') ∨ (e = .returned (.bool false) ∧ Jx (pre ++ [x]) W'))
    (W : World) (hBs : W.cell? ⟨Bs, 0, none⟩ = some (.slice a L.length c)) (hc : LieO W n0 q a L) (h0 : J [] W) :
    CallsIn F n Tryz.prog 110 #[.func (.yield l) #[] #[], .pointer (some ⟨Bs, 0, none⟩)] W fun e W' => (∃ v, e = .returned v) ∧
      ((∃ ys, ys = dnO L L.length ∧ J ys W') ∨ (∃ pre, True ∧ Jx pre W')) := by
  refine callsIn_of_wp Tryz.func110 rfl h64 ?_ hro
  simp only [Tryz.ntmps110, List.size_toArray, List.length_cons, List.length_nil, Nat.reduceAdd, Nat.reduceSub, Array.replicate_succ, Array.replicate_zero, List.push_toArray, List.append_toArray, List.nil_append, List.cons_append]
  gi_wp2
  gi_loopw [3] (fun i wr => ∃ j k : Nat, k + j = L.length ∧ i = .int .i64 ((k : Int) - 1) ∧ J (dnO L j) wr ∧ KpO n0 q W wr) (fun i _ => (intOf i + 1).toNat)
  case atStart => exact ⟨0, L.length, by omega, by go_num, h0, KpO.refl _ _ _⟩
  case round =>
    obtain ⟨j, k, hjk, rfl, hJs, hnx⟩ := hrel
    have hBx := hnx.cell hB.1 hB.2 hBs
    cases k with
    | zero =>
      gi_wp2
      go_end0
      obtain rfl : j = L.length := by omega
      exact ⟨⟨_, rfl⟩, .inl ⟨_, rfl, hJs⟩⟩
    | succ k =>
      have hlt : k < L.length := by omega
      have hlt2 : L.length - 1 - j < L.length := by omega
      have ek : L.length - 1 - j = k := by omega
      have hg : L[k]? = some (L[k]'hlt) := List.getElem?_eq_getElem hlt
      have hD := dnO_succ L j hlt2
      obtain ⟨b, off, rfl, hb1, hb2, hcc⟩ := hc (by rintro rfl; simp at hlt)
      obtain ⟨fn, tmps, assign, body, hy, hR⟩ := hY (dnO L j) ⟨k, hlt⟩ wr hJs (by rw [dnO_len L j (by omega)]; omega)
      rw [show (⟨L.length - 1 - j, hlt2⟩ : OI L) = ⟨k, hlt⟩ from Subtype.ext ek] at hD
      simp only [encO] at hy
      have c0 := hnx.cell hb1 hb2 (hcc k _ hg).1
      have c1 := hnx.cell hb1 hb2 (hcc k _ hg).2
      clear hc hcc
      generalize L[k]'hlt = nk at *
      rw [show (((k + 1 : Nat) : Int) - 1) = (k : Int) by omega]
      gi_wp2
      refine hR.mono ?_
      rintro e W3 (⟨rfl, hJ3, hk3⟩ | ⟨rfl, hJx3⟩)
      · gi_wp2
        go_roundw
        case rel => exact ⟨j + 1, k, by omega, by go_num, by rw [hD]; exact hJ3, hnx.trans hk3⟩
        case measure => simp [intOf]
      · gi_wp2
        refine bodyPost_ret (results_none rfl _ _ _) rfl ?_
        exact ⟨⟨_, rfl⟩, .inr ⟨_, trivial, hJx3⟩⟩
set_option maxHeartbeats 1000000 in
theorem backO (F : Fence) (n : Nat) (h54 : F.fn 95) (hro : F.round = none) (a : Option Addr) (m c : Nat) (w : World) :
    CallsIn F n Tryz.prog 95 #[.slice a m c] w fun e w' => e = .returned (.func (.func 110) #[] #[.pointer (some ⟨w.heap.size, 0, none⟩)]) ∧ w' = w.alloc (.cells #[.slice a m c] 23) := by
  refine callsIn_of_wp Tryz.func95 rfl h54 ?_ hro
  simp only [Tryz.ntmps95, List.size_toArray, List.length_cons, List.length_nil, Nat.reduceAdd, Nat.reduceSub, Array.replicate_succ, Array.replicate_zero, List.push_toArray, List.append_toArray, List.nil_append, List.cons_append]
  gi_wp2
  go_ret
  exact ⟨rfl, rfl⟩
theorem stopsO (F : Fence) (n : Nat) (h64 : F.fn 110) (hro : F.round = none) (hn : 1 ≤ n) (Bs n0 q c : Nat) (a : Option Addr) (L : List Ot) (hL : L.length ≤ 5000)
    (hB : Bs < n0 ∧ Bs ≠ q) (w : World) (hn0 : n0 ≤ w.heap.size) (hBs : w.cell? ⟨Bs, 0, none⟩ = some (.slice a L.length c)) (hc : LieO w n0 q a L) :
    SeqStopsK F n Tryz.prog 110 #[.pointer (some ⟨Bs, 0, none⟩)] (encO L) (KpO n0 q) (fun ys => ys = dnO L L.length) (fun _ => True) L.length w := fun l J Jx W hW _ _ hY h0 =>
  back1O F n h64 hro hn l Bs n0 q c a L hL hB J Jx hY W ((hW.cell (p := ⟨Bs, 0, none⟩) (by have := hB.1; show Bs < _; omega)).trans hBs)
    (fun hne => by
      obtain ⟨b, off, e, h1, h2, h3⟩ := hc hne
      exact ⟨b, off, e, h1, h2, fun k x hk => ⟨(hW.cell (p := ⟨b, off + k * 2, none⟩) (by show b < _; omega)).trans (h3 k x hk).1, (hW.cell (p := ⟨b, off + k * 2 + 1, none⟩) (by show b < _; omega)).trans (h3 k x hk).2⟩⟩) h0
/-- what the map gives -/
def byF (L : List Ot) : ByteArray → Option Value := fun s => (fndO L s).map Value.string
theorem byF_cons (x : Ot) (L : List Ot) (s : ByteArray) : byF (x :: L) s = putF (byF L) x.c (.string x.t) s := by
  unfold byF putF fndO
  by_cases h : s = x.c
  · subst h; simp
  · rw [if_neg h, List.find?_cons_of_neg (by simpa using fun e => h e.symm)]
/-- between two rounds -/
def ByI (w0 w2 : World) (M xq : Nat) (L : List Ot) (pre : List (OI L)) (W : World) : Prop :=
  w0.grownBy W none ∧ w2.heap.size ≤ W.heap.size ∧ KpO w2.heap.size M w2 W ∧ W.heap[xq]? = some (.cells #[.map (some M)] 110 (0, 0)) ∧ MpS W M pre.length (byF (ndO L pre))
theorem ByI.kept {w0 w2 : World} {M xq : Nat} {L : List Ot} {pre : List (OI L)} {W W' : World} {row : Option Nat} (h : ByI w0 w2 M xq L pre W) (g : W.grownBy W' row) (hM : M < w2.heap.size) (hx : xq < w2.heap.size) (h02 : w0.heap.size ≤ w2.heap.size)
    (hr : ∀ r, row = some r → w2.heap.size ≤ r) : ByI w0 w2 M xq L pre W' := by
  obtain ⟨h1, h2, h3, h4, h5⟩ := h
  exact ⟨h1.andThen g (fun j hj => .inl (Nat.le_trans h02 (hr j hj))), Nat.le_trans h2 g.size, fun k hk hq => (g.block k (by omega) (fun e => by have := hr k e.symm; omega)).trans (h3 k hk hq),
    (g.block xq (by omega) (fun e => by have := hr xq e.symm; omega)).trans h4, h5.kept g (fun e => by have := hr M e.symm; omega)⟩
theorem one_cellO {w : World} {b : Nat} {v : Value} {t : TypeId} (h : w.heap[b]? = some (.cells #[v] t (0, 0))) : w.cell? ⟨b, 0, none⟩ = some v := by unfold World.cell?; rw [h]; rfl
/-- no command is too long for a key -/
def SmC (O : List Ot) : Prop := ∀ x ∈ O, x.c.size ≤ 5000
set_option maxRecDepth 100000 in
set_option maxHeartbeats 8000000 in
theorem pBy (v : Value) (O : List Ot) (w : World) (hR : ORow w v O) (hl : O.length ≤ 5000) (hc : SmC O) : Calls Tryz.prog 80 #[v] w fun e w' => w.grownBy w' none ∧ ∃ M, e = .returned (.map (some M)) ∧ w.heap.size ≤ M ∧ MpS w' M O.length (byF O) := by
  obtain ⟨a, c, rfl, -⟩ := hR.shape
  have HR := Lib.hid hR
  have HC := Lib.hid hc
  have M0 := Lib.hid (mpS_new w)
  have g0 := World.grownBy_alloc w (.map #[] 0) none
  have g1 := World.grownBy_alloc (w.alloc (.map #[] 0)) (.cells #[.map (some w.heap.size)] 110) none
  have Q0 := heap_alloc_new (w.alloc (.map #[] 0)) (.cells #[.map (some w.heap.size)] 110)
  rw [World.size_alloc] at Q0
  have M1 := Lib.hid (M0.out.grown g1)
  have S1 := Lib.hid (show ((w.alloc (.map #[] 0)).alloc (.cells #[.map (some w.heap.size)] 110)).heap.size = w.heap.size + 2 by rw [World.size_alloc, World.size_alloc])
  have G1 := Lib.hid (g0.trans g1)
  have Q1 := Lib.hid Q0
  clear hR hc M0 g0 g1 Q0
  have hmm := @run_makeMap Tryz.prog
  refine (callsIn_wide (n := 10)).1 ?_
  refine callsIn_of_wp_marks Tryz.func80 rfl trivial ?_ rfl
  simp only [Tryz.ntmps80, List.size_toArray, List.length_cons, List.length_nil, Nat.reduceAdd, Nat.reduceSub, Array.replicate_succ, Array.replicate_zero, List.push_toArray, List.append_toArray, List.nil_append, List.cons_append]
  gi_upto_region 2 with fail
  generalize World.alloc (World.alloc _ _) _ = w1 at G1 M1 Q1 S1 ⊢
  obtain ⟨M, eM⟩ : ∃ M, M = w.heap.size := ⟨_, rfl⟩
  rw [← eM] at M1 Q1 S1 ⊢
  have HM := Lib.hid (show w.heap.size = M from eM.symm)
  clear eM
  have y0 := one_cellO Q1.out
  gi_wp2_with (refine ⟨trivial, ?_⟩; gi_at_call 95; refine (backO Fence.wide _ trivial rfl _ _ _ _).mono ?_; rintro e w' ⟨rfl, rfl⟩)
  obtain ⟨w2, hw2⟩ : ∃ w2, w2 = w1.alloc (.cells #[.slice a O.length c] 23) := ⟨_, rfl⟩
  rw [← hw2]
  have g2 : w1.grownBy w2 none := by rw [hw2]; exact World.grownBy_alloc w1 _ none
  have hBs : w2.heap[w1.heap.size]? = some (.cells #[.slice a O.length c] 23 (0, 0)) := by rw [hw2]; exact heap_alloc_new w1 _
  have hs2 : w2.heap.size = w1.heap.size + 1 := by rw [hw2, World.size_alloc]
  have G2 := G1.out.trans g2
  have hLie : LieO w2 w2.heap.size M a O := fun hne => by
    obtain ⟨a', c', e, hm, hcc⟩ := HR.out
    injection e with e1 e2 e3
    subst e1
    obtain ⟨b, off, ea, hb, hx⟩ := hcc hne
    have := G2.size
    have := HM.out
    exact ⟨b, off, ea, by omega, by omega, fun k x hk => ⟨G2.cell (hx k x hk).1 (by simp), G2.cell (hx k x hk).2 (by simp)⟩⟩
  have hs1 := S1.out
  have hM0 := HM.out
  have MM := Lib.hid (M1.out.grown g2)
  have QQ := Lib.hid (heap_grown g2 Q1.out)
  clear hw2 y0 M1 Q1 S1
  generalize w1.heap.size = Bs at hBs hs2 hs1
  have hB2 : Bs < w2.heap.size ∧ Bs ≠ M := ⟨by omega, by omega⟩
  have hM2 : M < w2.heap.size := by omega
  have hq2 : M + 1 < w2.heap.size := by omega
  refine wpIn_rangeFunc_box 5 (fun x : OI O => .cells #[.string (O[x.1]'x.2).c, .string (O[x.1]'x.2).t] 69) (fun _ => rfl)
    rfl (by decide) (gf := 110) (lb := #[.pointer (some ⟨Bs, 0, none⟩)]) rfl trivial (enters_of Tryz.func110 (by kernel_rfl) rfl)
    (stopsO Fence.wide 9 trivial rfl (by decide) Bs w2.heap.size M c a O hl hB2 w2 (Nat.le_refl _) (one_cellO hBs) hLie)
    (fun h1 h2 => h1.trans h2) (fun W l o o' hl h _ _ kk hk _ => World.putObj_heap_other (by omega)) (Below.refl _ _) (fun _ => rfl)
    (ByI w w2 M (M + 1) O)
    (fun pre A B row hs hg hr => hs.kept hg hM2 hq2 G2.size (fun r e => (hr r e).1))
    ⟨G2, Nat.le_refl _, KpO.refl _ _ _, QQ.out, MM.out.same (fun s => by unfold byF ndO fndO; simp)⟩
    ?assign ?body ?done
  case assign =>
    rintro l' pre x' W K hI hK
    simp only [encO] at hK ⊢
    generalize O[x'.1]'x'.2 = nk at hK ⊢
    simp only [List.zip_toArray, List.zip_cons_cons, List.zip_nil_right, List.foldl_toArray', List.size_toArray, List.foldl_cons, List.foldl_nil, List.setIfInBounds_toArray, List.set_cons_succ, List.set_cons_zero] at hK ⊢
    have HK2 := Lib.hid hK
    have HI2 := Lib.hid hI
    clear hK hI
    gi_wp2
    exact HK2.out W.heap.size _ ((KeepsOthers.alloc _ _).from _) (fun kk hk _ => Below.heap_alloc W _ kk (by have := HI2.out.2.1; omega)) (HI2.out.kept (World.grownBy_alloc _ _ none) hM2 hq2 G2.size (fun r e => by cases e)) (heap_alloc_new W _)
  case body =>
    rintro l' pre x' Bx W hI hX hlt
    have hnx : O[x'.1]? = some (O[x'.1]'x'.2) := List.getElem?_eq_getElem x'.2
    have hcs := HC.out _ (List.mem_of_getElem? hnx)
    have HI2 := Lib.hid hI
    obtain ⟨W', hrun, hm, hg⟩ := hI.2.2.2.2.store (t := 110) Tryz.underlying110 (by unfold maxLen; omega) (s := (O[x'.1]'x'.2).c) (by unfold maxLen; omega) (.string (O[x'.1]'x'.2).t)
    have y1 := one_cellO hI.2.2.2.1
    obtain ⟨s0, s1⟩ := two_ot hX
    have HM3 := Lib.hid hm
    have HG3 := Lib.hid hg
    clear hI hm hg hX
    simp only [encO]
    simp only [List.zip_toArray, List.zip_cons_cons, List.zip_nil_right, List.foldl_toArray', List.size_toArray, List.foldl_cons, List.foldl_nil, List.setIfInBounds_toArray, List.set_cons_succ, List.set_cons_zero]
    gi_wp2
    refine ⟨⟨HG3.out.size, fun k o hk hko ho => (HG3.out.block k (Array.getElem?_eq_some_iff.1 hko).1 (fun e => by have := Option.some.inj e; omega)).trans hko⟩, fun kk hk hkM => HG3.out.block kk (by have := HI2.out.2.1; omega) (fun e => hkM (Option.some.inj e)), ?_⟩
    obtain ⟨h1, h2, h3, h4, h5⟩ := HI2.out
    refine ⟨h1.andThen HG3.out (fun j hj => .inl (by have := Option.some.inj hj; omega)), Nat.le_trans h2 HG3.out.size, h3.trans (fun kk hk hkM => HG3.out.block kk (by omega) (fun e => hkM (Option.some.inj e))), (HG3.out.block (M + 1) (by omega) (fun e => by have := Option.some.inj e; omega)).trans h4, ?_⟩
    rw [List.length_append, List.length_singleton]
    exact HM3.out.same (fun s => by rw [ndO_snoc, byF_cons])
  case done =>
    rintro D ys W hD rfl hI hKd
    have hI2 := hI.kept (grownBy_putObj' W D (.deferred none)) hM2 hq2 G2.size (fun r e => by cases e; exact hD)
    have HI2 := Lib.hid hI2
    have y3 := one_cellO hI.2.2.2.1
    clear hI2 hI
    gi_wp2
    refine ⟨by simp, .inl ⟨_, _, rfl, run_takeDeferred hKd, ?_⟩⟩
    refine ⟨_, results_tmp rfl _ _ _, ?_⟩
    obtain ⟨h1, h2, h3, h4, h5⟩ := HI2.out
    rw [dnO_len O _ (Nat.le_refl _), ndO_all] at h5
    exact ⟨h1, M, rfl, by omega, h5⟩
end Go.Proofs.YtcmfmfkpmgoieaaGreatDoor
