/- strings.Builder's WriteString, laid by hand (its own laying falls), and String; a builder behind what only makes memory; a builder's bytes. strings.Builder's WriteByte, laid by hand (its own laying falls at this translation). -/
import Derived.Test.YtdganemgldocoaaGreatDoorGrown
import Derived.Test.YtdganemgldocoaaGreatDoorShelf
import Derived.Lib.Builder
import Derived.StillTailTactics
import Derived.Test.YtdganemgldocoaaGreatDoorQtBeh
namespace Go.Proofs.YtdganemgldocoaaGreatDoor
open Go.RowKit

def renS : Go.Shelf.Ren := ⟨fun | 166 => 37 | 169 => 39 | 240 => 71 | 276 => 98 | n => n, fun | 0 => 0 | 3 => 3 | 4 => 4 | 5 => 5 | 9 => 9 | 20 => 20 | 37 => 88 | 70 => 87 | 72 => 90 | 75 => 25 | 80 => 94 | 127 => 138 | 164 => 112 | n => n, fun | n => n⟩
theorem laysS : Go.Proofs.Lays.n166 Tryz.prog renS := {
  mixed := by kernel_rfl
  f166 := Tryz.func37.trans (congrArg some (by kernel_rfl))
  f240 := Tryz.func71.trans (congrArg some (by kernel_rfl))
  f276 := Tryz.func98.trans (congrArg some (by kernel_rfl))
  t0 := Tryz.underlying0
  a0 := Tryz.isAgg0
  z0 := Tryz.sizeOf0
  v0 := Tryz.zeroValue0
  t3 := Tryz.underlying3
  a3 := Tryz.isAgg3
  z3 := Tryz.sizeOf3
  v3 := Tryz.zeroValue3
  t4 := Tryz.underlying4
  a4 := Tryz.isAgg4
  z4 := Tryz.sizeOf4
  v4 := Tryz.zeroValue4
  t9 := Tryz.underlying9
  a9 := Tryz.isAgg9
  z9 := Tryz.sizeOf9
  v9 := Tryz.zeroValue9
  t20 := Tryz.underlying20
  a20 := Tryz.isAgg20
  z20 := Tryz.sizeOf20
  v20 := Tryz.zeroValue20
  t37 := Tryz.underlying88
  a37 := Tryz.isAgg88
  z37 := Tryz.sizeOf88
  v37 := Tryz.zeroValue88
  t70 := Tryz.underlying87
  a70 := Tryz.isAgg87
  z70 := Tryz.sizeOf87
  v70 := Tryz.zeroValue87
  t72 := Tryz.underlying90
  a72 := Tryz.isAgg90
  z72 := Tryz.sizeOf90
  v72 := Tryz.zeroValue90
  t75 := Tryz.underlying25
  a75 := Tryz.isAgg25
  z75 := Tryz.sizeOf25
  v75 := Tryz.zeroValue25
  t164 := Tryz.underlying112
  a164 := Tryz.isAgg112
  z164 := Tryz.sizeOf112
  v164 := Tryz.zeroValue112 }
theorem extraS : Builder.Extra Tryz.prog renS := {
  sizeBuilder := by kernel_rfl
  liesBuilder := by kernel_rfl
  t5 := Tryz.underlying5
  a5 := Tryz.isAgg5
  z5 := Tryz.sizeOf5
  v5 := Tryz.zeroValue5
  infoByte := by kernel_rfl
  cellsByte := by kernel_rfl
  sizeByte := by kernel_rfl
  neB5 := by decide }
/-- a builder of these bytes -/
abbrev BldQ (b : Nat) (W : List UInt8) (w : World) : Prop := Lib.IsBuilder 90 5 b b (Lib.byteCells W) w
theorem bText (b : Nat) (W : List UInt8) (s : ByteArray) (w : World) (h : BldQ b W w) (hlen : W.length + s.size ≤ 100000000) (hb : b ≤ w.heap.size) :
    Calls Tryz.prog 37 #[.pointer (some ⟨b, 0, none⟩), .string s] w fun e w' => e = .returned (.tuple #[.int .i64 s.size, .nilIface]) ∧ BldQ b (W ++ s.data.toList) w' ∧ Below b w w' :=
  (Any.Builder_WriteString laysS extraS b b (Lib.byteCells W) s w h (by rw [Lib.byteCells_length]; omega) hb).mono fun e w' ⟨he, h1, h2⟩ => ⟨he, .inr (by rw [Lib.byteCells_append]; exact h1), h2⟩
theorem bSaid (b : Nat) (W : List UInt8) (w : World) (h : BldQ b W w) (hb : b ≤ w.heap.size) :
    Calls Tryz.prog 39 #[.pointer (some ⟨b, 0, none⟩)] w fun e w' => e = .returned (.string ⟨W.toArray⟩) ∧ Below b w w' := Tryz.Builder_String_any b b W w h hb
theorem BldQ.kept {b : Nat} {W : List UInt8} {w w' : World} (h : BldQ b W w) (hg : w.grownBy w' none) : BldQ b W w' := by
  have one : ∀ p, Lib.BuilderAt 90 5 b b p (Lib.byteCells W) w → Lib.BuilderAt 90 5 b b p (Lib.byteCells W) w' := by
    rintro p ⟨hB, v, hb, ho, hn⟩
    exact ⟨hB, v, (hg.block b (Array.getElem?_eq_some_iff.1 hb).1 (by simp)).trans hb, ho.kept hg (by cases hq : v.ownBlock; exact .inl rfl; exact .inr (by simp)), hn⟩
  rcases h with h | h
  · exact .inl (one _ h)
  · exact .inr (one _ h)
end Go.Proofs.YtdganemgldocoaaGreatDoor

namespace Go.Proofs.YtdganemgldocoaaGreatDoor
open Go.RowKit

def renW : Go.Shelf.Ren := ⟨fun | 167 => 38 | 166 => 37 | 169 => 39 | 240 => 71 | 276 => 98 | n => n, fun | 0 => 0 | 3 => 3 | 4 => 4 | 5 => 5 | 9 => 9 | 20 => 20 | 37 => 88 | 70 => 87 | 72 => 90 | 75 => 25 | 80 => 94 | 127 => 138 | 164 => 112 | n => n, fun | n => n⟩
theorem laysW : Go.Proofs.Lays.n167 Tryz.prog renW := {
  mixed := by kernel_rfl
  f167 := Tryz.func38.trans (congrArg some (by kernel_rfl))
  f240 := Tryz.func71.trans (congrArg some (by kernel_rfl))
  f276 := Tryz.func98.trans (congrArg some (by kernel_rfl))
  t0 := Tryz.underlying0
  a0 := Tryz.isAgg0
  z0 := Tryz.sizeOf0
  v0 := Tryz.zeroValue0
  t4 := Tryz.underlying4
  a4 := Tryz.isAgg4
  z4 := Tryz.sizeOf4
  v4 := Tryz.zeroValue4
  t5 := Tryz.underlying5
  a5 := Tryz.isAgg5
  z5 := Tryz.sizeOf5
  v5 := Tryz.zeroValue5
  t9 := Tryz.underlying9
  a9 := Tryz.isAgg9
  z9 := Tryz.sizeOf9
  v9 := Tryz.zeroValue9
  t20 := Tryz.underlying20
  a20 := Tryz.isAgg20
  z20 := Tryz.sizeOf20
  v20 := Tryz.zeroValue20
  t37 := Tryz.underlying88
  a37 := Tryz.isAgg88
  z37 := Tryz.sizeOf88
  v37 := Tryz.zeroValue88
  t70 := Tryz.underlying87
  a70 := Tryz.isAgg87
  z70 := Tryz.sizeOf87
  v70 := Tryz.zeroValue87
  t72 := Tryz.underlying90
  a72 := Tryz.isAgg90
  z72 := Tryz.sizeOf90
  v72 := Tryz.zeroValue90
  t75 := Tryz.underlying25
  a75 := Tryz.isAgg25
  z75 := Tryz.sizeOf25
  v75 := Tryz.zeroValue25
  t164 := Tryz.underlying112
  a164 := Tryz.isAgg112
  z164 := Tryz.sizeOf112
  v164 := Tryz.zeroValue112 }
theorem extraW : Builder.Extra Tryz.prog renW := {
  sizeBuilder := by kernel_rfl
  liesBuilder := by kernel_rfl
  t5 := Tryz.underlying5
  a5 := Tryz.isAgg5
  z5 := Tryz.sizeOf5
  v5 := Tryz.zeroValue5
  infoByte := by kernel_rfl
  cellsByte := by kernel_rfl
  sizeByte := by kernel_rfl
  neB5 := by decide }
theorem bByte (b : Nat) (W : List UInt8) (c : UInt8) (w : World) (h : BldQ b W w) (hlen : W.length ≤ 100000000) (hb : b ≤ w.heap.size) :
    Calls Tryz.prog 38 #[.pointer (some ⟨b, 0, none⟩), .int .u8 c.toNat] w fun e w' => e = .returned .nilIface ∧ BldQ b (W ++ [c]) w' ∧ Below b w w' :=
  (Any.Builder_WriteByte laysW extraW b b (Lib.byteCells W) c.toNat w h (by rw [Lib.byteCells_length]; omega) hb).mono fun e w' ⟨he, h1, h2⟩ => ⟨he, .inr (by rw [Lib.byteCells_append]; exact h1), h2⟩
end Go.Proofs.YtdganemgldocoaaGreatDoor
