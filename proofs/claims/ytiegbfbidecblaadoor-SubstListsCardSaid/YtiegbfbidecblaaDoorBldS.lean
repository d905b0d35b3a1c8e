/- strings.Builder's WriteString, laid by hand (its own laying falls), and String; a builder behind what only makes memory; a builder's bytes. -/
import Derived.Test.YtiegbfbidecblaaDoorGrown
import Derived.Test.YtiegbfbidecblaaDoorShelf
import Derived.Lib.Builder
import Derived.StillTailTactics
namespace Go.Proofs.YtiegbfbidecblaaDoor
open Go.RowKit

def renS : Go.Shelf.Ren := ⟨fun | 166 => 25 | 169 => 26 | 240 => 33 | 276 => 41 | n => n, fun | 0 => 0 | 3 => 3 | 4 => 4 | 5 => 5 | 9 => 9 | 20 => 20 | 37 => 48 | 70 => 47 | 72 => 50 | 75 => 27 | 80 => 53 | 127 => 61 | 164 => 79 | n => n, fun | n => n⟩
theorem laysS : Go.Proofs.Lays.n166 Tryd.prog renS := {
  mixed := by kernel_rfl
  f166 := Tryd.func25.trans (congrArg some (by kernel_rfl))
  f240 := Tryd.func33.trans (congrArg some (by kernel_rfl))
  f276 := Tryd.func41.trans (congrArg some (by kernel_rfl))
  t0 := Tryd.underlying0
  a0 := Tryd.isAgg0
  z0 := Tryd.sizeOf0
  v0 := Tryd.zeroValue0
  t3 := Tryd.underlying3
  a3 := Tryd.isAgg3
  z3 := Tryd.sizeOf3
  v3 := Tryd.zeroValue3
  t4 := Tryd.underlying4
  a4 := Tryd.isAgg4
  z4 := Tryd.sizeOf4
  v4 := Tryd.zeroValue4
  t9 := Tryd.underlying9
  a9 := Tryd.isAgg9
  z9 := Tryd.sizeOf9
  v9 := Tryd.zeroValue9
  t20 := Tryd.underlying20
  a20 := Tryd.isAgg20
  z20 := Tryd.sizeOf20
  v20 := Tryd.zeroValue20
  t37 := Tryd.underlying48
  a37 := Tryd.isAgg48
  z37 := Tryd.sizeOf48
  v37 := Tryd.zeroValue48
  t70 := Tryd.underlying47
  a70 := Tryd.isAgg47
  z70 := Tryd.sizeOf47
  v70 := Tryd.zeroValue47
  t72 := Tryd.underlying50
  a72 := Tryd.isAgg50
  z72 := Tryd.sizeOf50
  v72 := Tryd.zeroValue50
  t75 := Tryd.underlying27
  a75 := Tryd.isAgg27
  z75 := Tryd.sizeOf27
  v75 := Tryd.zeroValue27
  t164 := Tryd.underlying79
  a164 := Tryd.isAgg79
  z164 := Tryd.sizeOf79
  v164 := Tryd.zeroValue79 }
theorem extraS : Builder.Extra Tryd.prog renS := {
  sizeBuilder := by kernel_rfl
  liesBuilder := by kernel_rfl
  t5 := Tryd.underlying5
  a5 := Tryd.isAgg5
  z5 := Tryd.sizeOf5
  v5 := Tryd.zeroValue5
  infoByte := by kernel_rfl
  cellsByte := by kernel_rfl
  sizeByte := by kernel_rfl
  neB5 := by decide }
/-- a builder of these bytes -/
abbrev BldQ (b : Nat) (W : List UInt8) (w : World) : Prop := Lib.IsBuilder 50 5 b b (Lib.byteCells W) w
theorem bText (b : Nat) (W : List UInt8) (s : ByteArray) (w : World) (h : BldQ b W w) (hlen : W.length + s.size ≤ 100000) (hb : b ≤ w.heap.size) :
    Calls Tryd.prog 25 #[.pointer (some ⟨b, 0, none⟩), .string s] w fun e w' => e = .returned (.tuple #[.int .i64 s.size, .nilIface]) ∧ BldQ b (W ++ s.data.toList) w' ∧ Below b w w' :=
  (Any.Builder_WriteString laysS extraS b b (Lib.byteCells W) s w h (by rw [Lib.byteCells_length]; omega) hb).mono fun e w' ⟨he, h1, h2⟩ => ⟨he, .inr (by rw [Lib.byteCells_append]; exact h1), h2⟩
theorem bSaid (b : Nat) (W : List UInt8) (w : World) (h : BldQ b W w) (hb : b ≤ w.heap.size) :
    Calls Tryd.prog 26 #[.pointer (some ⟨b, 0, none⟩)] w fun e w' => e = .returned (.string ⟨W.toArray⟩) ∧ Below b w w' := Tryd.Builder_String_any b b W w h hb
theorem BldQ.kept {b : Nat} {W : List UInt8} {w w' : World} (h : BldQ b W w) (hg : w.grownBy w' none) : BldQ b W w' := by
  have one : ∀ p, Lib.BuilderAt 50 5 b b p (Lib.byteCells W) w → Lib.BuilderAt 50 5 b b p (Lib.byteCells W) w' := by
    rintro p ⟨hB, v, hb, ho, hn⟩
    exact ⟨hB, v, (hg.block b (Array.getElem?_eq_some_iff.1 hb).1 (by simp)).trans hb, ho.kept hg (by cases hq : v.ownBlock; exact .inl rfl; exact .inr (by simp)), hn⟩
  rcases h with h | h
  · exact .inl (one _ h)
  · exact .inr (one _ h)
end Go.Proofs.YtiegbfbidecblaaDoor
