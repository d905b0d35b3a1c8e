/- Region 29 of EnvPlays: what each of its operations answers, with the variable there and without. -/
import Derived.Test.YtaihpgjimhifcaaDoorEvEnd
import Derived.Test.YtaihpgjimhifcaaDoorRegAny
import Derived.Deep.RegionHeld3
namespace Go.Proofs.YtaihpgjimhifcaaDoor
open Go.RowKit

set_option maxRecDepth 100000 in
theorem x_ldV {o : Oper} {a : Act} {w : World} {x : Operand} {b : Nat} {v0 v1 v2 v3 : Value} (hop : o.op = .load 33 x) (e : a.eval x = .pointer (some ⟨b, 0, none⟩)) (k : w.cell? ⟨b, 0, none⟩ = some v0 ∧ w.cell? ⟨b, 1, none⟩ = some v1 ∧ w.cell? ⟨b, 2, none⟩ = some v2 ∧ w.cell? ⟨b, 3, none⟩ = some v3) : (execOp a.eval o).run Tryd.prog w = .ok (.value (.agg #[v0, v1, v2, v3])) w := by
  obtain ⟨k0, k1, k2, k3⟩ := k
  unfold execOp; simp only [hop, e]; go_simp
set_option maxRecDepth 100000 in
theorem x_ldR {o : Oper} {a : Act} {w : World} {x : Operand} {b off : Nat} {v0 v1 v2 v3 : Value} (hop : o.op = .load 42 x) (e : a.eval x = .pointer (some ⟨b, off, none⟩)) (k : w.cell? ⟨b, off, none⟩ = some v0 ∧ w.cell? ⟨b, off + 1, none⟩ = some v1 ∧ w.cell? ⟨b, off + 2, none⟩ = some v2 ∧ w.cell? ⟨b, off + 3, none⟩ = some v3) : (execOp a.eval o).run Tryd.prog w = .ok (.value (.agg #[v0, v1, v2, v3])) w := by
  obtain ⟨k0, k1, k2, k3⟩ := k
  unfold execOp; simp only [hop, e]; go_simp
set_option maxRecDepth 100000 in
theorem x_ldS {o : Oper} {a : Act} {w : World} {x : Operand} {b off : Nat} {v0 : Value} (hop : o.op = .load 28 x) (e : a.eval x = .pointer (some ⟨b, off, none⟩)) (k0 : w.cell? ⟨b, off, none⟩ = some v0) : (execOp a.eval o).run Tryd.prog w = .ok (.value v0) w := by
  unfold execOp; simp only [hop, e]; go_simp
set_option maxRecDepth 100000 in
theorem x_ldT {o : Oper} {a : Act} {w : World} {x : Operand} {b off : Nat} {v0 : Value} (hop : o.op = .load 9 x) (e : a.eval x = .pointer (some ⟨b, off, none⟩)) (k0 : w.cell? ⟨b, off, none⟩ = some v0) : (execOp a.eval o).run Tryd.prog w = .ok (.value v0) w := by
  unfold execOp; simp only [hop, e]; go_simp
set_option maxRecDepth 100000 in
theorem x_nil {o : Oper} {a : Act} {w : World} {x : Operand} {b : Nat} (hop : o.op = .nilCheck x) (e : a.eval x = .pointer (some ⟨b, 0, none⟩)) : (execOp a.eval o).run Tryd.prog w = .ok (.value (.pointer (some ⟨b, 0, none⟩))) w := by
  unfold execOp; simp only [hop, e]; go_simp
set_option maxRecDepth 100000 in
theorem x_fldV {o : Oper} {a : Act} {w : World} {x : Operand} {b : Nat} (hop : o.op = .fieldAddr 33 x 0) (e : a.eval x = .pointer (some ⟨b, 0, none⟩)) : (execOp a.eval o).run Tryd.prog w = .ok (.value (.pointer (some ⟨b, 0, none⟩))) w := by
  unfold execOp; simp only [hop, e]; go_simp
set_option maxRecDepth 100000 in
theorem x_fldE {o : Oper} {a : Act} {w : World} {x : Operand} {b : Nat} (hop : o.op = .fieldAddr 30 x 0) (e : a.eval x = .pointer (some ⟨b, 0, none⟩)) : (execOp a.eval o).run Tryd.prog w = .ok (.value (.pointer (some ⟨b, 0, none⟩))) w := by
  unfold execOp; simp only [hop, e]; go_simp
set_option maxRecDepth 100000 in
theorem x_idx {o : Oper} {a : Act} {w : World} {x y : Operand} {b off n c kk : Nat} (hk : kk < n) (hop : o.op = .indexAddr 28 x y) (e : a.eval x = .slice (some ⟨b, off, none⟩) n c) (e2 : a.eval y = .int .i64 kk) : (execOp a.eval o).run Tryd.prog w = .ok (.value (.pointer (some ⟨b, off + kk * 4, none⟩))) w := by
  unfold execOp; simp only [hop, e, e2]; go_simp
set_option maxRecDepth 100000 in
theorem x_geq {o : Oper} {a : Act} {w : World} {x : Operand} {k : Int} {z : Bool} (hz : decide (k ≥ 0) = z) (hop : o.op = .binOp .geq 3 x (.const (.int .i64 0)) 3) (e : a.eval x = .int .i64 k) : (execOp a.eval o).run Tryd.prog w = .ok (.value (.bool z)) w := by
  subst hz
  have e3 : a.eval (.const (.int .i64 0)) = .int .i64 0 := rfl
  unfold execOp; simp only [hop, e, e3]; go_simp
set_option maxRecDepth 100000 in
theorem x_neq {o : Oper} {a : Act} {w : World} {x y : Operand} {z : Bool} (hop : o.op = .binOp .neq 4 x y 4) (e : a.eval x = .bool z) (e2 : a.eval y = .bool z) : (execOp a.eval o).run Tryd.prog w = .ok (.value (.bool false)) w := by
  unfold execOp; simp only [hop, e, e2]
  cases z <;> kernel_rfl
theorem sit_w {I : World → Nat → (Nat → Prop) → List Vb → Prop} {s : Sp} {w : World} {y : Ac} {Fc F : Nat → Prop} {Zc Z : List Vz} {uc uv : Value} {l : List Vb} {mk : Bool} {W : World} (h : Sit I s w y Fc Zc uc F l Z uv mk W) : W.cell? ⟨s.bw, 0, none⟩ = some uc ∧ W.cell? ⟨s.q, 0, none⟩ = some uv := by
  unfold World.cell?; rw [h.hw, h.hq]; exact ⟨rfl, rfl⟩
def H29 (tb : Nat → Value) (ws : List ByteArray) (i : Nat) (w : World) (v : Value) : Prop := if i = 23 then TxRow w v ws else v = tb i
theorem hIs {tb : Nat → Value} {ws : List ByteArray} {i : Nat} {w : World} {v : Value} (hi : i ≠ 23) (h : v = tb i) : H29 tb ws i w v := by unfold H29; rw [if_neg hi]; exact h
theorem hAt {tb : Nat → Value} {ws : List ByteArray} {i : Nat} {w : World} {v : Value} (hi : i ≠ 23) (h : H29 tb ws i w v) : v = tb i := by unfold H29 at h; rwa [if_neg hi] at h
theorem hUp (tb : Nat → Value) (ws : List ByteArray) (i : Nat) (w w' : World) (v : Value) (h : H29 tb ws i w v) (g : w.grownBy w' none) : H29 tb ws i w' v := by
  unfold H29 at h ⊢
  split at h
  · rename_i e; rw [if_pos e]; exact h.later (below_of_grown g)
  · rename_i e; rw [if_neg e]; exact h
def tbY (kk : Int) (xv zv gv : Value) (p q bv rb ro n c k4 : Nat) (s : ByteArray) : Nat → Value
  | 0 => .bool true | 1 => .int .i64 kk | 2 => .bool true | 3 => .bool false | 4 => .bool false | 5 => .bool true | 6 => .bool true
  | 7 => xv | 8 => .pointer (some ⟨q, 0, none⟩) | 9 => .pointer (some ⟨q, 0, none⟩) | 10 => .pointer (some ⟨q, 0, none⟩) | 11 => .slice (some ⟨rb, ro, none⟩) n c
  | 12 => .int .i64 kk | 13 => .pointer (some ⟨rb, k4, none⟩) | 14 => zv | 15 => .bool true | 16 => .bool false | 17 => .bool false | 18 => .bool false | 19 => .bool false
  | 20 => .pointer (some ⟨p, 0, none⟩) | 21 => .pointer (some ⟨bv, 0, none⟩) | 22 => .string s | 24 => .pointer (some ⟨q, 0, none⟩) | 25 => .pointer (some ⟨bv, 0, none⟩) | 26 => .string s | 27 => gv
  | 28 => .bool true | 29 => .bool false | _ => .bool false
def tbN (p q bv : Nat) (s : ByteArray) : Nat → Value
  | 0 => .bool false | 1 => .int .i64 (-1) | 2 => .bool false | 3 => .bool false | 4 => .bool false | 5 => .bool false | 6 => .bool false
  | 7 => undef | 8 => undef | 9 => undef | 10 => undef | 11 => undef | 12 => undef | 13 => undef | 14 => undef | 15 => undef | 16 => undef | 17 => .bool false | 18 => .bool false | 19 => .bool false
  | 20 => .pointer (some ⟨p, 0, none⟩) | 21 => .pointer (some ⟨bv, 0, none⟩) | 22 => .string s | 24 => .pointer (some ⟨q, 0, none⟩) | 25 => .pointer (some ⟨bv, 0, none⟩) | 26 => .string s | 27 => .slice none 0 0
  | 28 => .bool true | 29 => .bool false | _ => .bool false
end Go.Proofs.YtaihpgjimhifcaaDoor
