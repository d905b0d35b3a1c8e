/- strings.Builder's WriteString, laid by hand (its own laying falls), and String; a builder behind what only makes memory; a builder's bytes. -/
import Derived.Test.YtcmfmfkpmgoieaaGreatDoorGrown
import Derived.Test.YtcmfmfkpmgoieaaGreatDoorShelf
import Derived.Lib.Builder
import Derived.StillTailTactics
namespace Go.Proofs.YtcmfmfkpmgoieaaGreatDoor
open Go.RowKit

def renS : Go.Shelf.Ren := ⟨fun | 166 => 106 | 169 => 107 | 240 => 117 | 276 => 132 | n => n, fun | 0 => 0 | 3 => 3 | 4 => 4 | 5 => 5 | 9 => 9 | 20 => 20 | 37 => 161 | 70 => 160 | 72 => 163 | 75 => 32 | 80 => 166 | 127 => 173 | 164 => 182 | n => n, fun | n => n⟩
theorem laysS : Go.Proofs.Lays.n166 Tryz.prog renS := {
  mixed := by kernel_rfl
  f166 := Tryz.func106.trans (congrArg some (by kernel_rfl))
  f240 := Tryz.func117.trans (congrArg some (by kernel_rfl))
  f276 := Tryz.func132.trans (congrArg some (by kernel_rfl))
  t0 := Tryz.underlying0
  a0 := Tryz.isAgg0
  z0 := Tryz.sizeOf0
  v0 := Tryz.zeroValue0
  t3 := Tryz.underlying3
  a3 := Tryz.isAgg3
  z3 := Tryz.sizeOf3
  v3 := Tryz.zeroValue3
  t4 := Tryz.underlying4
  a4 := Tryz.isAgg4
  z4 := Tryz.sizeOf4
  v4 := Tryz.zeroValue4
  t9 := Tryz.underlying9
  a9 := Tryz.isAgg9
  z9 := Tryz.sizeOf9
  v9 := Tryz.zeroValue9
  t20 := Tryz.underlying20
  a20 := Tryz.isAgg20
  z20 := Tryz.sizeOf20
  v20 := Tryz.zeroValue20
  t37 := Tryz.underlying161
  a37 := Tryz.isAgg161
  z37 := Tryz.sizeOf161
  v37 := Tryz.zeroValue161
  t70 := Tryz.underlying160
  a70 := Tryz.isAgg160
  z70 := Tryz.sizeOf160
  v70 := Tryz.zeroValue160
  t72 := Tryz.underlying163
  a72 := Tryz.isAgg163
  z72 := Tryz.sizeOf163
  v72 := Tryz.zeroValue163
  t75 := Tryz.underlying32
  a75 := Tryz.isAgg32
  z75 := Tryz.sizeOf32
  v75 := Tryz.zeroValue32
  t164 := Tryz.underlying182
  a164 := Tryz.isAgg182
  z164 := Tryz.sizeOf182
  v164 := Tryz.zeroValue182 }
theorem extraS : Builder.Extra Tryz.prog renS := {
  sizeBuilder := by kernel_rfl
  liesBuilder := by kernel_rfl
  t5 := Tryz.underlying5
  a5 := Tryz.isAgg5
  z5 := Tryz.sizeOf5
  v5 := Tryz.zeroValue5
  infoByte := by kernel_rfl
  cellsByte := by kernel_rfl
  sizeByte := by kernel_rfl
  neB5 := by decide }
/-- a builder of these bytes -/
abbrev BldQ (b : Nat) (W : List UInt8) (w : World) : Prop := Lib.IsBuilder 163 5 b b (Lib.byteCells W) w
theorem bText (b : Nat) (W : List UInt8) (s : ByteArray) (w : World) (h : BldQ b W w) (hlen : W.length + s.size ≤ 100000) (hb : b ≤ w.heap.size) :
    Calls Tryz.prog 106 #[.pointer (some ⟨b, 0, none⟩), .string s] w fun e w' => e = .returned (.tuple #[.int .i64 s.size, .nilIface]) ∧ BldQ b (W ++ s.data.toList) w' ∧ Below b w w' :=
  (Any.Builder_WriteString laysS extraS b b (Lib.byteCells W) s w h (by rw [Lib.byteCells_length]; omega) hb).mono fun e w' ⟨he, h1, h2⟩ => ⟨he, .inr (by rw [Lib.byteCells_append]; exact h1), h2⟩
theorem bSaid (b : Nat) (W : List UInt8) (w : World) (h : BldQ b W w) (hb : b ≤ w.heap.size) :
    Calls Tryz.prog 107 #[.pointer (some ⟨b, 0, none⟩)] w fun e w' => e = .returned (.string ⟨W.toArray⟩) ∧ Below b w w' := Tryz.Builder_String_any b b W w h hb
theorem BldQ.kept {b : Nat} {W : List UInt8} {w w' : World} (h : BldQ b W w) (hg : w.grownBy w' none) : BldQ b W w' := by
  have one : ∀ p, Lib.BuilderAt 163 5 b b p (Lib.byteCells W) w → Lib.BuilderAt 163 5 b b p (Lib.byteCells W) w' := by
    rintro p ⟨hB, v, hb, ho, hn⟩
    exact ⟨hB, v, (hg.block b (Array.getElem?_eq_some_iff.1 hb).1 (by simp)).trans hb, ho.kept hg (by cases hq : v.ownBlock; exact .inl rfl; exact .inr (by simp)), hn⟩
  rcases h with h | h
  · exact .inl (one _ h)
  · exact .inr (one _ h)
end Go.Proofs.YtcmfmfkpmgoieaaGreatDoor
