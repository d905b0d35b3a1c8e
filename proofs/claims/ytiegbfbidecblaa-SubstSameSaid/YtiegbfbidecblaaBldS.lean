/- strings.Builder's WriteString, laid by hand (its own laying falls), and String; a builder behind what only makes memory; a builder's bytes. -/
import Derived.Test.YtiegbfbidecblaaGrown
import Derived.Test.YtiegbfbidecblaaShelf
import Derived.Lib.Builder
import Derived.StillTailTactics
namespace Go.Proofs.Ytiegbfbidecblaa
open Go.RowKit

def renS : Go.Shelf.Ren := ⟨fun | 166 => 20 | 169 => 21 | 240 => 25 | 276 => 33 | n => n, fun | 0 => 0 | 3 => 3 | 4 => 4 | 5 => 5 | 9 => 9 | 20 => 20 | 37 => 37 | 70 => 36 | 72 => 39 | 75 => 41 | 80 => 44 | 127 => 47 | 164 => 55 | n => n, fun | n => n⟩
theorem laysS : Go.Proofs.Lays.n166 Try.prog renS := {
  mixed := by kernel_rfl
  f166 := Try.func20.trans (congrArg some (by kernel_rfl))
  f240 := Try.func25.trans (congrArg some (by kernel_rfl))
  f276 := Try.func33.trans (congrArg some (by kernel_rfl))
  t0 := Try.underlying0
  a0 := Try.isAgg0
  z0 := Try.sizeOf0
  v0 := Try.zeroValue0
  t3 := Try.underlying3
  a3 := Try.isAgg3
  z3 := Try.sizeOf3
  v3 := Try.zeroValue3
  t4 := Try.underlying4
  a4 := Try.isAgg4
  z4 := Try.sizeOf4
  v4 := Try.zeroValue4
  t9 := Try.underlying9
  a9 := Try.isAgg9
  z9 := Try.sizeOf9
  v9 := Try.zeroValue9
  t20 := Try.underlying20
  a20 := Try.isAgg20
  z20 := Try.sizeOf20
  v20 := Try.zeroValue20
  t37 := Try.underlying37
  a37 := Try.isAgg37
  z37 := Try.sizeOf37
  v37 := Try.zeroValue37
  t70 := Try.underlying36
  a70 := Try.isAgg36
  z70 := Try.sizeOf36
  v70 := Try.zeroValue36
  t72 := Try.underlying39
  a72 := Try.isAgg39
  z72 := Try.sizeOf39
  v72 := Try.zeroValue39
  t75 := Try.underlying41
  a75 := Try.isAgg41
  z75 := Try.sizeOf41
  v75 := Try.zeroValue41
  t164 := Try.underlying55
  a164 := Try.isAgg55
  z164 := Try.sizeOf55
  v164 := Try.zeroValue55 }
theorem extraS : Builder.Extra Try.prog renS := {
  sizeBuilder := by kernel_rfl
  liesBuilder := by kernel_rfl
  t5 := Try.underlying5
  a5 := Try.isAgg5
  z5 := Try.sizeOf5
  v5 := Try.zeroValue5
  infoByte := by kernel_rfl
  cellsByte := by kernel_rfl
  sizeByte := by kernel_rfl
  neB5 := by decide }
/-- a builder of these bytes -/
abbrev BldQ (b : Nat) (W : List UInt8) (w : World) : Prop := Lib.IsBuilder 39 5 b b (Lib.byteCells W) w
theorem bText (b : Nat) (W : List UInt8) (s : ByteArray) (w : World) (h : BldQ b W w) (hlen : W.length + s.size ≤ 100000) (hb : b ≤ w.heap.size) :
    Calls Try.prog 20 #[.pointer (some ⟨b, 0, none⟩), .string s] w fun e w' => e = .returned (.tuple #[.int .i64 s.size, .nilIface]) ∧ BldQ b (W ++ s.data.toList) w' ∧ Below b w w' :=
  (Any.Builder_WriteString laysS extraS b b (Lib.byteCells W) s w h (by rw [Lib.byteCells_length]; omega) hb).mono fun e w' ⟨he, h1, h2⟩ => ⟨he, .inr (by rw [Lib.byteCells_append]; exact h1), h2⟩
theorem bSaid (b : Nat) (W : List UInt8) (w : World) (h : BldQ b W w) (hb : b ≤ w.heap.size) :
    Calls Try.prog 21 #[.pointer (some ⟨b, 0, none⟩)] w fun e w' => e = .returned (.string ⟨W.toArray⟩) ∧ Below b w w' := Try.Builder_String_any b b W w h hb
theorem BldQ.kept {b : Nat} {W : List UInt8} {w w' : World} (h : BldQ b W w) (hg : w.grownBy w' none) : BldQ b W w' := by
  have one : ∀ p, Lib.BuilderAt 39 5 b b p (Lib.byteCells W) w → Lib.BuilderAt 39 5 b b p (Lib.byteCells W) w' := by
    rintro p ⟨hB, v, hb, ho, hn⟩
    exact ⟨hB, v, (hg.block b (Array.getElem?_eq_some_iff.1 hb).1 (by simp)).trans hb, ho.kept hg (by cases hq : v.ownBlock; exact .inl rfl; exact .inr (by simp)), hn⟩
  rcases h with h | h
  · exact .inl (one _ h)
  · exact .inr (one _ h)
end Go.Proofs.Ytiegbfbidecblaa
