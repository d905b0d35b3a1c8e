/- strings.Builder's WriteString, laid by hand (its own laying falls), and String; a builder behind what only makes memory; a builder's bytes. strings.Builder's WriteByte, laid by hand (its own laying falls at this translation). -/
import Derived.Test.YtdganemgldocoaaDoorGrown
import Derived.Test.YtdganemgldocoaaDoorShelf
import Derived.Lib.Builder
import Derived.StillTailTactics
import Derived.Test.YtdganemgldocoaaDoorQtBeh
namespace Go.Proofs.YtdganemgldocoaaDoor
open Go.RowKit

def renS : Go.Shelf.Ren := ⟨fun | 166 => 23 | 169 => 25 | 240 => 43 | 276 => 64 | n => n, fun | 0 => 0 | 3 => 3 | 4 => 4 | 5 => 5 | 9 => 9 | 20 => 20 | 37 => 67 | 70 => 66 | 72 => 69 | 75 => 25 | 80 => 73 | 127 => 89 | 164 => 106 | n => n, fun | n => n⟩
theorem laysS : Go.Proofs.Lays.n166 Tryd.prog renS := {
  mixed := by kernel_rfl
  f166 := Tryd.func23.trans (congrArg some (by kernel_rfl))
  f240 := Tryd.func43.trans (congrArg some (by kernel_rfl))
  f276 := Tryd.func64.trans (congrArg some (by kernel_rfl))
  t0 := Tryd.underlying0
  a0 := Tryd.isAgg0
  z0 := Tryd.sizeOf0
  v0 := Tryd.zeroValue0
  t3 := Tryd.underlying3
  a3 := Tryd.isAgg3
  z3 := Tryd.sizeOf3
  v3 := Tryd.zeroValue3
  t4 := Tryd.underlying4
  a4 := Tryd.isAgg4
  z4 := Tryd.sizeOf4
  v4 := Tryd.zeroValue4
  t9 := Tryd.underlying9
  a9 := Tryd.isAgg9
  z9 := Tryd.sizeOf9
  v9 := Tryd.zeroValue9
  t20 := Tryd.underlying20
  a20 := Tryd.isAgg20
  z20 := Tryd.sizeOf20
  v20 := Tryd.zeroValue20
  t37 := Tryd.underlying67
  a37 := Tryd.isAgg67
  z37 := Tryd.sizeOf67
  v37 := Tryd.zeroValue67
  t70 := Tryd.underlying66
  a70 := Tryd.isAgg66
  z70 := Tryd.sizeOf66
  v70 := Tryd.zeroValue66
  t72 := Tryd.underlying69
  a72 := Tryd.isAgg69
  z72 := Tryd.sizeOf69
  v72 := Tryd.zeroValue69
  t75 := Tryd.underlying25
  a75 := Tryd.isAgg25
  z75 := Tryd.sizeOf25
  v75 := Tryd.zeroValue25
  t164 := Tryd.underlying106
  a164 := Tryd.isAgg106
  z164 := Tryd.sizeOf106
  v164 := Tryd.zeroValue106 }
theorem extraS : Builder.Extra Tryd.prog renS := {
  sizeBuilder := by kernel_rfl
  liesBuilder := by kernel_rfl
  t5 := Tryd.underlying5
  a5 := Tryd.isAgg5
  z5 := Tryd.sizeOf5
  v5 := Tryd.zeroValue5
  infoByte := by kernel_rfl
  cellsByte := by kernel_rfl
  sizeByte := by kernel_rfl
  neB5 := by decide }
/-- a builder of these bytes -/
abbrev BldQ (b : Nat) (W : List UInt8) (w : World) : Prop := Lib.IsBuilder 69 5 b b (Lib.byteCells W) w
theorem bText (b : Nat) (W : List UInt8) (s : ByteArray) (w : World) (h : BldQ b W w) (hlen : W.length + s.size ≤ 100000000) (hb : b ≤ w.heap.size) :
    Calls Tryd.prog 23 #[.pointer (some ⟨b, 0, none⟩), .string s] w fun e w' => e = .returned (.tuple #[.int .i64 s.size, .nilIface]) ∧ BldQ b (W ++ s.data.toList) w' ∧ Below b w w' :=
  (Any.Builder_WriteString laysS extraS b b (Lib.byteCells W) s w h (by rw [Lib.byteCells_length]; omega) hb).mono fun e w' ⟨he, h1, h2⟩ => ⟨he, .inr (by rw [Lib.byteCells_append]; exact h1), h2⟩
theorem bSaid (b : Nat) (W : List UInt8) (w : World) (h : BldQ b W w) (hb : b ≤ w.heap.size) :
    Calls Tryd.prog 25 #[.pointer (some ⟨b, 0, none⟩)] w fun e w' => e = .returned (.string ⟨W.toArray⟩) ∧ Below b w w' := Tryd.Builder_String_any b b W w h hb
theorem BldQ.kept {b : Nat} {W : List UInt8} {w w' : World} (h : BldQ b W w) (hg : w.grownBy w' none) : BldQ b W w' := by
  have one : ∀ p, Lib.BuilderAt 69 5 b b p (Lib.byteCells W) w → Lib.BuilderAt 69 5 b b p (Lib.byteCells W) w' := by
    rintro p ⟨hB, v, hb, ho, hn⟩
    exact ⟨hB, v, (hg.block b (Array.getElem?_eq_some_iff.1 hb).1 (by simp)).trans hb, ho.kept hg (by cases hq : v.ownBlock; exact .inl rfl; exact .inr (by simp)), hn⟩
  rcases h with h | h
  · exact .inl (one _ h)
  · exact .inr (one _ h)
end Go.Proofs.YtdganemgldocoaaDoor

namespace Go.Proofs.YtdganemgldocoaaDoor
open Go.RowKit

def renW : Go.Shelf.Ren := ⟨fun | 167 => 24 | 166 => 23 | 169 => 25 | 240 => 43 | 276 => 64 | n => n, fun | 0 => 0 | 3 => 3 | 4 => 4 | 5 => 5 | 9 => 9 | 20 => 20 | 37 => 67 | 70 => 66 | 72 => 69 | 75 => 25 | 80 => 73 | 127 => 89 | 164 => 106 | n => n, fun | n => n⟩
theorem laysW : Go.Proofs.Lays.n167 Tryd.prog renW := {
  mixed := by kernel_rfl
  f167 := Tryd.func24.trans (congrArg some (by kernel_rfl))
  f240 := Tryd.func43.trans (congrArg some (by kernel_rfl))
  f276 := Tryd.func64.trans (congrArg some (by kernel_rfl))
  t0 := Tryd.underlying0
  a0 := Tryd.isAgg0
  z0 := Tryd.sizeOf0
  v0 := Tryd.zeroValue0
  t4 := Tryd.underlying4
  a4 := Tryd.isAgg4
  z4 := Tryd.sizeOf4
  v4 := Tryd.zeroValue4
  t5 := Tryd.underlying5
  a5 := Tryd.isAgg5
  z5 := Tryd.sizeOf5
  v5 := Tryd.zeroValue5
  t9 := Tryd.underlying9
  a9 := Tryd.isAgg9
  z9 := Tryd.sizeOf9
  v9 := Tryd.zeroValue9
  t20 := Tryd.underlying20
  a20 := Tryd.isAgg20
  z20 := Tryd.sizeOf20
  v20 := Tryd.zeroValue20
  t37 := Tryd.underlying67
  a37 := Tryd.isAgg67
  z37 := Tryd.sizeOf67
  v37 := Tryd.zeroValue67
  t70 := Tryd.underlying66
  a70 := Tryd.isAgg66
  z70 := Tryd.sizeOf66
  v70 := Tryd.zeroValue66
  t72 := Tryd.underlying69
  a72 := Tryd.isAgg69
  z72 := Tryd.sizeOf69
  v72 := Tryd.zeroValue69
  t75 := Tryd.underlying25
  a75 := Tryd.isAgg25
  z75 := Tryd.sizeOf25
  v75 := Tryd.zeroValue25
  t164 := Tryd.underlying106
  a164 := Tryd.isAgg106
  z164 := Tryd.sizeOf106
  v164 := Tryd.zeroValue106 }
theorem extraW : Builder.Extra Tryd.prog renW := {
  sizeBuilder := by kernel_rfl
  liesBuilder := by kernel_rfl
  t5 := Tryd.underlying5
  a5 := Tryd.isAgg5
  z5 := Tryd.sizeOf5
  v5 := Tryd.zeroValue5
  infoByte := by kernel_rfl
  cellsByte := by kernel_rfl
  sizeByte := by kernel_rfl
  neB5 := by decide }
theorem bByte (b : Nat) (W : List UInt8) (c : UInt8) (w : World) (h : BldQ b W w) (hlen : W.length ≤ 100000000) (hb : b ≤ w.heap.size) :
    Calls Tryd.prog 24 #[.pointer (some ⟨b, 0, none⟩), .int .u8 c.toNat] w fun e w' => e = .returned .nilIface ∧ BldQ b (W ++ [c]) w' ∧ Below b w w' :=
  (Any.Builder_WriteByte laysW extraW b b (Lib.byteCells W) c.toNat w h (by rw [Lib.byteCells_length]; omega) hb).mono fun e w' ⟨he, h1, h2⟩ => ⟨he, .inr (by rw [Lib.byteCells_append]; exact h1), h2⟩
end Go.Proofs.YtdganemgldocoaaDoor
