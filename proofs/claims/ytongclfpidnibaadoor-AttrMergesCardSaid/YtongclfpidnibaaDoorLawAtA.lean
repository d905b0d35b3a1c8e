/- The chapter's example of layer 18. The law AttrParses, walked: the attributes of a text. -/
import Derived.Test.YtongclfpidnibaaDoorAtTxt
import Derived.Test.YtongclfpidnibaaDoorLaidErr
import Derived.Laws.StructEq
namespace Go.Proofs.YtongclfpidnibaaDoor
open Go.RowKit

theorem guardA (op : BinOp) (x y : Operand) (xs ys : Array Value) (w : World) : (eqGuard op 24 x y (.agg xs) (.agg ys)).run Tryd.prog w = .ok () w := run_eqGuard_agg w op _ x y xs ys (by kernel_rfl)
theorem guardB (op : BinOp) (x y : Operand) (xs ys : Array Value) (w : World) : (eqGuard op 29 x y (.agg xs) (.agg ys)).run Tryd.prog w = .ok () w := run_eqGuard_agg w op _ x y xs ys (by kernel_rfl)
theorem eqlA (f : Int) (p : ByteArray) (w : World) : (binOp .eql 24 (atV f p) (atV f p)).run Tryd.prog w = .ok (.bool true) w := by
  have hS : Tryd.prog.underlying 24 = some (.struct (Tryd.prog.fieldsOf 24)) := by kernel_rfl
  have hp : Tryd.prog.stoodInHeld 24 = false := by kernel_rfl
  have u3 := Tryd.underlying3
  have a3 := Tryd.isAgg3
  have z3 := Tryd.sizeOf3
  have u9 := Tryd.underlying9
  have a9 := Tryd.isAgg9
  have z9 := Tryd.sizeOf9
  rw [run_eql_struct, show (10000 : Nat) = 9999 + 1 from rfl, run_equalIn_agg w 9999 _ _ _ hS hp]
  simp only [Program.fieldsOf, Tryd.underlying24]
  go_simp
theorem eqlB (f : Int) (p : ByteArray) (w : World) : (binOp .eql 29 (atV f p) (atV f p)).run Tryd.prog w = .ok (.bool true) w := by
  have hS : Tryd.prog.underlying 29 = some (.struct (Tryd.prog.fieldsOf 29)) := by kernel_rfl
  have hp : Tryd.prog.stoodInHeld 29 = false := by kernel_rfl
  have u3 := Tryd.underlying3
  have a3 := Tryd.isAgg3
  have z3 := Tryd.sizeOf3
  have u9 := Tryd.underlying9
  have a9 := Tryd.isAgg9
  have z9 := Tryd.sizeOf9
  rw [run_eql_struct, show (10000 : Nat) = 9999 + 1 from rfl, run_equalIn_agg w 9999 _ _ _ hS hp]
  simp only [Program.fieldsOf, Tryd.underlying29]
  go_simp
theorem doc_alive : ansA (docA 0 [86, 81]) = (144, ⟨#[]⟩, 0) := by decide +kernel
set_option maxRecDepth 100000 in
set_option maxHeartbeats 2000000 in
theorem lAlive18 (A : Nat → Addr) (w : World) (hE : AtE A w) : Calls Tryd.prog 6 #[] w fun e w' => e = .returned (.bool true) ∧ w.grownBy w' none := by
  have CP := Lib.hid (pParse A ⟨#[86, 81]⟩ w hE (by decide))
  rw [show (⟨#[86, 81]⟩ : ByteArray).data.toList = [86, 81] from rfl, doc_alive] at CP
  have CP := Lib.hid (show Calls Tryd.prog 7 #[.string ⟨#[86, 81]⟩] w fun e w' => e = .returned (.tuple #[atV 144 ⟨#[]⟩, .nilIface]) ∧ w.grownBy w' none from CP.out)
  have H1 := has_eq (f := 144) (v := 128) (by decide) (by decide)
  have H2 := has_eq (f := 144) (v := 1) (by decide) (by decide)
  have C1 := Lib.hid (fun w => pHas 144 128 ⟨#[]⟩ w)
  have C2 := Lib.hid (fun w => pHas 144 1 ⟨#[]⟩ w)
  have h1 : (bits .and .i64 144 128 == 128) = true := H1
  have h2 : (bits .and .i64 144 1 == 1) = false := H2
  rw [h1] at C1
  rw [h2] at C2
  clear H1 H2 h1 h2 hE
  go_enter Tryd.func6, Tryd.ntmps6
  go_upto_region 2 with (go_at_call 7; (with_reducible refine CP.out.mono ?_); rintro e w1 ⟨rfl, g1⟩; have G1 := Lib.hid g1; clear g1)
  have B2 := Lib.hid (heap_alloc_new w1 (.cells #[.int .i64 144, .string ⟨#[]⟩] 24))
  have G2 := Lib.hid (G1.out.trans (World.grownBy_alloc w1 (.cells #[.int .i64 144, .string ⟨#[]⟩] 24) none))
  generalize w1.alloc _ = w2 at B2 G2 ⊢
  obtain ⟨g, eg⟩ : ∃ g, w1.heap.size = g := ⟨_, rfl⟩
  rw [eg] at B2 ⊢
  obtain ⟨c0, c1⟩ := two_at B2.out
  have C1a := Lib.hid (C1.out w2)
  have C2a := Lib.hid C2.out
  clear eg C1 C2 CP
  go_wp2_with (first
    | (go_at_call 11; (with_reducible refine (C2a.out _).mono ?_); rintro e w4 ⟨rfl, g4⟩; have G4 := Lib.hid (G3.out.trans g4); clear g4)
    | (go_at_call 11; (with_reducible refine C1a.out.mono ?_); rintro e w3 ⟨rfl, g3⟩; have G3 := Lib.hid (G2.out.trans g3); obtain ⟨d0, d1⟩ := two_at (kept_at g3 B2.out); clear g3))
  go_ret
  exact ⟨rfl, G4.out⟩
theorem ans_le (s : List UInt8) : (ansA (docA 0 s)).2.2 ≤ 18 := by
  cases h : docA 0 s with
  | ok x => exact Nat.zero_le _
  | error k =>
    have h1 := doc_err h
    show k ≤ 18
    omega
theorem ErrEnv.grown18 {A : Nat → Addr} {w w' : World} (h : ErrEnv A w) (g : w.grownBy w' none) : ErrEnv A w' := h.later (below_of_grown g)
set_option maxRecDepth 100000 in
set_option maxHeartbeats 4000000 in
theorem lAttrParses (A : Nat → Addr) (s : ByteArray) (w : World) (hE : AtE A w ∧ ErrEnv A w) : Calls Tryd.prog 3 #[.string s] w fun e w' => e = .returned (.bool true) ∧ w.grownBy w' none := by
  have CA := Lib.hid (lAlive18 A w hE.1)
  by_cases hs : 300 < s.size
  · have e1 : decide ((s.size : Int) > 300) = true := by simp; omega
    clear hs
    go_enter Tryd.func3, Tryd.ntmps3
    go_wp2_with (go_at_call 6; (with_reducible refine CA.out.mono ?_); rintro e w1 ⟨rfl, g1⟩; have G1 := Lib.hid g1; clear g1)
    go_ret
    exact ⟨rfl, G1.out⟩
  have e1 : decide ((s.size : Int) > 300) = false := by simp; omega
  have CP := Lib.hid (fun w' (g : w.grownBy w' none) => pParse A s w' (hE.1.grown g) (by omega))
  have CD := Lib.hid (fun w' => dParse s w' (by omega))
  have HK := ans_le s.data.toList
  obtain ⟨X, hX⟩ : ∃ X, ansA (docA 0 s.data.toList) = X := ⟨_, rfl⟩
  rw [hX] at CP CD HK
  obtain ⟨f, p, k⟩ := X
  have HK : k ≤ 18 := HK
  have CN := Lib.hid (fun w' (g : w.grownBy w' none) => lNumV A k HK w' (hE.2.grown18 g))
  have CP := Lib.hid (show ∀ w', w.grownBy w' none → Calls Tryd.prog 7 #[.string s] w' fun e w'' => e = .returned (.tuple #[atV f p, errV A k]) ∧ w'.grownBy w'' none from CP.out)
  have CD := Lib.hid (show ∀ w', Calls Tryd.prog 8 #[.string s] w' fun e w'' => e = .returned (.tuple #[atV f p, .int .i64 k]) ∧ w'.grownBy w'' none from CD.out)
  clear hX hs hE HK
  generalize errV A k = ev at CP CN
  go_enter Tryd.func3, Tryd.ntmps3
  go_upto_region 6 with (first
    | (go_at_call 6; (with_reducible refine CA.out.mono ?_); rintro e w1 ⟨rfl, g1⟩; have G1 := Lib.hid g1; clear g1)
    | (go_at_call 7; (with_reducible refine (CP.out _ G1.out).mono ?_); rintro e w2 ⟨rfl, g2⟩; have G2 := Lib.hid (G1.out.trans g2); clear g2))
  have B3 := Lib.hid (heap_alloc_new w2 (.cells #[.int .i64 f, .string p] 24))
  have G3 := Lib.hid (G2.out.trans (World.grownBy_alloc w2 (.cells #[.int .i64 f, .string p] 24) none))
  generalize w2.alloc _ = w3 at B3 G3 ⊢
  obtain ⟨g, eg⟩ : ∃ g, w2.heap.size = g := ⟨_, rfl⟩
  rw [eg] at B3 ⊢
  clear eg CA CP
  go_upto_region 7 with (go_at_call 8; (with_reducible refine (CD.out _).mono ?_); rintro e w4 ⟨rfl, g4⟩; have G4 := Lib.hid (G3.out.trans g4); have B4 := Lib.hid (kept_at g4 B3.out); clear g4)
  have BQ := Lib.hid (heap_alloc_new w4 (.cells #[.int .i64 f, .string p] 29))
  have ga := World.grownBy_alloc w4 (.cells #[.int .i64 f, .string p] 29) none
  have B5 := Lib.hid (kept_at ga B4.out)
  have G5 := Lib.hid (G4.out.trans ga)
  clear ga
  generalize w4.alloc _ = w5 at B5 BQ G5 ⊢
  obtain ⟨q, eq⟩ : ∃ q, w4.heap.size = q := ⟨_, rfl⟩
  rw [eq] at BQ ⊢
  clear eq CD
  have QB := eqlB (f : Int) p
  go_wp2_with (go_at_call 9; (with_reducible refine (CN.out _ G5.out).mono ?_); rintro e w6 ⟨rfl, g6⟩; have G6 := Lib.hid (G5.out.trans g6); obtain ⟨d0, d1⟩ := two_at (kept_at g6 BQ.out); obtain ⟨c0, c1⟩ := two_at (kept_at g6 B5.out); clear g6)
  go_ret
  exact ⟨by simp, G6.out⟩
end Go.Proofs.YtongclfpidnibaaDoor
