/- The document's own answers of layer 11: blanks, plain texts, a quoted part's end. -/
import Derived.Test.YtiegbfbidecblaaDoorQtPlain
import Derived.Test.YtiegbfbidecblaaDoorClsBase
namespace Go.Proofs.YtiegbfbidecblaaDoor
open Go.RowKit

theorem blk_nat (b : UInt8) : blkQ b = ((b.toNat == 32 || b.toNat == 9) || b.toNat == 10) := by
  unfold blkQ
  rw [Bool.eq_iff_iff]
  simp [← UInt8.toNat_inj]
abbrev badT : ByteArray := ⟨#[39, 32, 9, 10, 35, 36, 96, 58, 61, 60, 92, 59, 38, 124, 40, 41, 123, 125, 91, 93, 42, 63, 94, 126]⟩
theorem bad_list : badT.data.toList = badQ := rfl
theorem list_at {s : ByteArray} {i : Nat} (h : i < s.size) : s.data.toList[i]? = some s[i] := by
  rw [List.getElem?_eq_getElem (by simpa using h)]; rfl
theorem pln_take {l : List UInt8} {i : Nat} {b : UInt8} (h : l[i]? = some b) : (l.take (i + 1)).all plnQ = ((l.take i).all plnQ && plnQ b) := by
  rw [List.take_add_one, h, List.all_append]; simp
theorem endF_no {l : List UInt8} {i : Nat} {b : UInt8} (h : l[i]? = some b) (hb : b ≠ 39) : endF (l.drop i) i = endF (l.drop (i + 1)) (i + 1) := by
  obtain ⟨hi, e⟩ := List.getElem?_eq_some_iff.1 h
  rw [List.drop_eq_getElem_cons hi, e]
  cases l.drop (i + 1) with
  | nil => simp [endF, hb]
  | cons c r => rw [endF, if_neg hb]
theorem endF_end {l : List UInt8} {i : Nat} (h : l[i]? = some 39) (h2 : l[i + 1]? ≠ some 39) : endF (l.drop i) i = some (i + 1) := by
  obtain ⟨hi, e⟩ := List.getElem?_eq_some_iff.1 h
  rw [List.drop_eq_getElem_cons hi, e]
  cases hd : l.drop (i + 1) with
  | nil => rw [endF, if_pos rfl]
  | cons c r =>
    have : l[i + 1]? = some c := by rw [← List.head?_drop, hd]; rfl
    rw [endF, if_pos rfl, if_neg (fun e => h2 (by rw [this, e]))]
theorem endF_two {l : List UInt8} {i : Nat} (h : l[i]? = some 39) (h2 : l[i + 1]? = some 39) : endF (l.drop i) i = endF (l.drop (i + 2)) (i + 2) := by
  obtain ⟨hi, e⟩ := List.getElem?_eq_some_iff.1 h
  obtain ⟨hi2, e2⟩ := List.getElem?_eq_some_iff.1 h2
  rw [List.drop_eq_getElem_cons hi, e, List.drop_eq_getElem_cons hi2, e2, endF, if_pos rfl, if_pos rfl]
def endV (l : List UInt8) (i : Nat) : Int := match endF (l.drop i) i with | some e => e | none => -1
theorem endAt_no {l : List UInt8} {k : Int} (h : ¬(0 ≤ k ∧ k < l.length ∧ l[k.toNat]? = some 39)) : endAt l k = -1 := by unfold endAt; rw [if_neg h]
theorem endAt_yes {l : List UInt8} {k : Nat} (h : l[k]? = some 39) : endAt l k = endV l (k + 1) := by
  unfold endAt endV
  rw [if_pos ⟨by omega, by have := (List.getElem?_eq_some_iff.1 h).1; omega, by simpa using h⟩, Int.toNat_natCast]
  rfl
theorem endAt_val {l : List UInt8} {j : Nat} (h : l[j]? = some 39) : (endF (l.drop (j + 1)) (j + 1) = none ∧ endAt l j = -1) ∨ (∃ f : Nat, endF (l.drop (j + 1)) (j + 1) = some (f + 1) ∧ endAt l j = (f : Int) + 1 ∧ j + 1 ≤ f ∧ f + 1 ≤ l.length) := by
  rw [endAt_yes h]
  unfold endV
  cases he : endF (l.drop (j + 1)) (j + 1) with
  | none => exact .inl ⟨rfl, rfl⟩
  | some e =>
    have h1 := endF_le _ _ _ he
    rw [List.length_drop] at h1
    have h2 := (List.getElem?_eq_some_iff.1 h).1
    obtain ⟨f, rfl⟩ : ∃ f, e = f + 1 := ⟨e - 1, by omega⟩
    exact .inr ⟨f, rfl, by simp, by omega, by omega⟩
theorem two_take {l : List UInt8} {j : Nat} {b : UInt8} (h : l[j]? = some b) : twoQ (l.take (j + 1)) = twoQ (l.take j) ++ (if b = 39 then [39, 39] else [b]) := by
  unfold twoQ
  rw [List.take_add_one, h, List.flatMap_append]; simp
theorem toList_app (a b : ByteArray) : (a ++ b).data.toList = a.data.toList ++ b.data.toList := by simp
theorem toList_one {s : ByteArray} {j : Nat} (h : j < s.size) : (s.extract j (j + 1)).data.toList = [s[j]] := by
  have e : (s.extract j (j + 1)).data.toList = (s.data.toList.drop j).take 1 := by simp
  rw [e, List.drop_eq_getElem_cons (by simpa using h)]
  simp; rfl
/-- what Quote answers -/
def QuoOut (s : ByteArray) (w : World) (e : Ending) (w' : World) : Prop := (∃ t : ByteArray, e = .returned (.string t) ∧ t.data.toList = quoQ s.data.toList ∧ t.size ≤ 2 * s.size + 2) ∧ w.grownBy w' none
end Go.Proofs.YtiegbfbidecblaaDoor
