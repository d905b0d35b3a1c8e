/- The law DenoteKleene, walked. -/
import Derived.Test.YtlkjejmmoalliaaDoorRegSrt
import Derived.Test.YtlkjejmmoalliaaDoorDenAlive
import Derived.Test.YtlkjejmmoalliaaDoorPgLenL
import Derived.Deep.CutBlock
namespace Go.Proofs.YtlkjejmmoalliaaDoor
open Go.RowKit

/-- what the operations of a region answer -/
def srt10 (na nb : Ni) (s : ByteArray) : Nat → Srt
  | 0 => .node na
  | 1 => .node nb
  | 2 => .row [na, nb]
  | 3 => .node (altI [na, nb])
  | 4 => .node (starI (altI [na, nb]))
  | 5 => .node na
  | 6 => .node (starI na)
  | 7 => .node nb
  | 8 => .node (starI nb)
  | 9 => .row [(starI na), (starI nb)]
  | 10 => .node (catI [(starI na), (starI nb)])
  | 11 => .node (starI (catI [(starI na), (starI nb)]))
  | 12 => .text s
  | 13 => .bool true
  | 14 => .bool false
  | 15 => .bool false
  | 16 => .node na
  | 17 => .node (starI na)
  | 18 => .node noneI
  | 19 => .node na
  | 20 => .node na
  | 21 => .node (starI na)
  | 22 => .row [na, (starI na)]
  | 23 => .node (catI [na, (starI na)])
  | 24 => .row [noneI, (catI [na, (starI na)])]
  | 25 => .node (altI [noneI, (catI [na, (starI na)])])
  | 26 => .text s
  | 27 => .bool true
  | 28 => .bool false
  | 29 => .bool false
  | 30 => .bool false
  | 31 => .node (plusI na)
  | 32 => .node na
  | 33 => .node na
  | 34 => .node (starI na)
  | 35 => .row [na, (starI na)]
  | 36 => .node (catI [na, (starI na)])
  | 37 => .text s
  | 38 => .bool true
  | 39 => .bool false
  | 40 => .bool false
  | 41 => .bool false
  | 42 => .node (maybeI na)
  | 43 => .node noneI
  | 44 => .node na
  | 45 => .row [noneI, na]
  | 46 => .node (altI [noneI, na])
  | 47 => .text s
  | 48 => .bool true
  | 49 => .bool false
  | _ => .bool false
/-- what the operations of a region answer -/
def srt12 (na nb : Ni) (s : ByteArray) : Nat → Srt
  | 0 => .node na
  | 1 => .node (starI na)
  | 2 => .node (starI (starI na))
  | 3 => .node na
  | 4 => .node (starI na)
  | 5 => .text s
  | 6 => .bool true
  | 7 => .bool true
  | 8 => .node na
  | 9 => .node nb
  | 10 => .node na
  | 11 => .row [nb, na]
  | 12 => .node (catI [nb, na])
  | 13 => .node (starI (catI [nb, na]))
  | 14 => .row [na, (starI (catI [nb, na]))]
  | 15 => .node (catI [na, (starI (catI [nb, na]))])
  | 16 => .node na
  | 17 => .node nb
  | 18 => .row [na, nb]
  | 19 => .node (catI [na, nb])
  | 20 => .node (starI (catI [na, nb]))
  | 21 => .node na
  | 22 => .row [(starI (catI [na, nb])), na]
  | 23 => .node (catI [(starI (catI [na, nb])), na])
  | 24 => .text s
  | 25 => .bool true
  | 26 => .bool true
  | 27 => .bool true
  | 28 => .node na
  | 29 => .node nb
  | 30 => .row [na, nb]
  | 31 => .node (altI [na, nb])
  | 32 => .node nb
  | 33 => .node na
  | 34 => .row [nb, na]
  | 35 => .node (altI [nb, na])
  | 36 => .text s
  | 37 => .bool true
  | 38 => .bool true
  | 39 => .bool true
  | 40 => .node na
  | 41 => .node (starI na)
  | 42 => .node na
  | 43 => .node (starI na)
  | 44 => .row [(starI na), (starI na)]
  | 45 => .node (catI [(starI na), (starI na)])
  | 46 => .node na
  | 47 => .node (starI na)
  | 48 => .text s
  | 49 => .bool true
  | 50 => .bool true
  | _ => .bool true

theorem sz_star (n : Ni) : szN (starI n) = 1 + szN n := by simp [szN, szL]
theorem sz_plus (n : Ni) : szN (plusI n) = 1 + szN n := by simp [szN, szL]
theorem sz_maybe (n : Ni) : szN (maybeI n) = 1 + szN n := by simp [szN, szL]
theorem sz_none : szN noneI = 1 := by simp [szN, szL]
theorem sz_cat2 (a b : Ni) : szN (catI [a, b]) = 1 + (szN a + szN b) := by simp [szN, szL]
theorem sz_alt2 (a b : Ni) : szN (altI [a, b]) = 1 + (szN a + szN b) := by simp [szN, szL]
theorem rg_star {n : Ni} (h : rgtN n = true) : rgtN (starI n) = true := by simp [rgtN, rgtL, kidsOk, idxOk, setOk, h]
theorem rg_plus {n : Ni} (h : rgtN n = true) : rgtN (plusI n) = true := by simp [rgtN, rgtL, kidsOk, idxOk, setOk, h]
theorem rg_maybe {n : Ni} (h : rgtN n = true) : rgtN (maybeI n) = true := by simp [rgtN, rgtL, kidsOk, idxOk, setOk, h]
theorem rg_none : rgtN noneI = true := by simp [rgtN, rgtL, kidsOk, idxOk, setOk]
theorem rg_cat2 {a b : Ni} (h : rgtN a = true) (h' : rgtN b = true) : rgtN (catI [a, b]) = true := by simp [rgtN, rgtL, kidsOk, idxOk, setOk, h, h']
theorem rg_alt2 {a b : Ni} (h : rgtN a = true) (h' : rgtN b = true) : rgtN (altI [a, b]) = true := by simp [rgtN, rgtL, kidsOk, idxOk, setOk, h, h']
theorem rg_catN {a b : Ni} (h : ¬(rgtN a = true ∧ rgtN b = true)) : rgtN (catI [a, b]) = false := by
  cases ha : rgtN a <;> cases hb : rgtN b <;> simp [rgtN, rgtL, ha, hb] at h ⊢
theorem mk_new (w : World) (k : Int) (l : List Ni) (v : Value) (T : TypeId) : (w.alloc (.cells #[.int .i64 k, .int .i64 0, .int .u64 0, .int .u64 0, .int .u64 0, .int .u64 0, v] T)).heap[w.heap.size]? = some (.cells #[.int .i64 (Ni.mk k 0 emp l).kind, .int .i64 (Ni.mk k 0 emp l).index, .int .u64 (wd (Ni.mk k 0 emp l).set 0), .int .u64 (wd (Ni.mk k 0 emp l).set 1), .int .u64 (wd (Ni.mk k 0 emp l).set 2), .int .u64 (wd (Ni.mk k 0 emp l).set 3), v] T (0, 0)) := by
  show _ = some (Obj.cells #[.int .i64 k, .int .i64 0, .int .u64 (wd emp 0), .int .u64 (wd emp 1), .int .u64 (wd emp 2), .int .u64 (wd emp 3), _] T (0, 0))
  rw [wd_emp, wd_emp, wd_emp, wd_emp]; exact heap_alloc_new w _
theorem mk_new2 (w : World) (X : Obj) (k : Int) (l : List Ni) (v : Value) (T : TypeId) : ((w.alloc X).alloc (.cells #[.int .i64 k, .int .i64 0, .int .u64 0, .int .u64 0, .int .u64 0, .int .u64 0, v] T)).heap[w.heap.size + 1]? = some (.cells #[.int .i64 (Ni.mk k 0 emp l).kind, .int .i64 (Ni.mk k 0 emp l).index, .int .u64 (wd (Ni.mk k 0 emp l).set 0), .int .u64 (wd (Ni.mk k 0 emp l).set 1), .int .u64 (wd (Ni.mk k 0 emp l).set 2), .int .u64 (wd (Ni.mk k 0 emp l).set 3), v] T (0, 0)) := by
  have h := mk_new (w.alloc X) k l v T
  rwa [show (w.alloc X).heap.size = w.heap.size + 1 by show (w.heap.push _).size = _; simp] at h
theorem twins {na nb : Ni} (s : ByteArray) (sa : szN na ≤ 20) (sb : szN nb ≤ 20) (ra : rgtN na = true) (rb : rgtN nb = true) :
    Twin s (starI (altI [na, nb])) (starI (catI [starI na, starI nb])) ∧ Twin s (starI na) (altI [noneI, catI [na, starI na]]) ∧ Twin s (plusI na) (catI [na, starI na]) ∧ Twin s (maybeI na) (altI [noneI, na]) ∧
    Twin s (starI (starI na)) (starI na) ∧ Twin s (catI [na, starI (catI [nb, na])]) (catI [starI (catI [na, nb]), na]) ∧ Twin s (altI [na, nb]) (altI [nb, na]) ∧ Twin s (catI [starI na, starI na]) (starI na) := by
  refine ⟨⟨?_, ?_, ?_, ?_, kle1 s na nb⟩, ⟨?_, ?_, ?_, ?_, kle2 s na⟩, ⟨?_, ?_, ?_, ?_, kle3 s na⟩, ⟨?_, ?_, ?_, ?_, kle4 s na⟩, ⟨?_, ?_, ?_, ?_, kle5 s na⟩, ⟨?_, ?_, ?_, ?_, kle6 s na nb⟩, ⟨?_, ?_, ?_, ?_, kle7 s na nb⟩, ⟨?_, ?_, ?_, ?_, kle8 s na⟩⟩
  all_goals first
    | (simp only [sz_star, sz_plus, sz_maybe, sz_none, sz_cat2, sz_alt2]; omega)
    | (repeat (first | exact ra | exact rb | exact rg_none | apply rg_star | apply rg_plus | apply rg_maybe | apply rg_cat2 | apply rg_alt2))

set_option maxRecDepth 100000 in
set_option maxHeartbeats 8000000 in
theorem lDenoteKleene (A : Nat → Addr) (na nb : Ni) (a : Option Addr) (m c : Nat) (a2 : Option Addr) (m2 c2 : Nat) (s : ByteArray) (w : World) (hE : PEnv A w) (hK : KidsE w (.slice a m c) na.kids) (hK2 : KidsE w (.slice a2 m2 c2) nb.kids) :
    Calls Tryd.prog 4 #[niV na (.slice a m c), niV nb (.slice a2 m2 c2), .string s] w fun e w' => e = .returned (.bool true) ∧ w.grownBy w' none := by
  obtain ⟨b1, b2, g⟩ := heap2 w (.cells #[.int .i64 na.kind, .int .i64 na.index, .int .u64 (wd na.set 0), .int .u64 (wd na.set 1), .int .u64 (wd na.set 2), .int .u64 (wd na.set 3), .slice a m c] 27) (.cells #[.int .i64 nb.kind, .int .i64 nb.index, .int .u64 (wd nb.set 0), .int .u64 (wd nb.set 1), .int .u64 (wd nb.set 2), .int .u64 (wd nb.set 3), .slice a2 m2 c2] 27)
  have B1 := Lib.hid b1
  have C1 := Lib.hid b2
  have K1 := Lib.hid (hK.grown g)
  have J1 := Lib.hid (hK2.grown g)
  have E1 := Lib.hid (hE.grown g)
  have G1 := Lib.hid g
  clear b1 b2 g hE hK hK2
  go_enter Tryd.func4, Tryd.ntmps4
  go_upto_region 1 with fail
  generalize World.alloc _ _ = w1 at B1 C1 K1 J1 E1 G1 ⊢
  generalize w.heap.size = q at B1 C1 ⊢
  obtain ⟨r, er⟩ : ∃ r, r = q + 1 := ⟨_, rfl⟩
  rw [← er] at C1 ⊢
  clear er
  have HA := Lib.hid (lAlive10 A w1 E1.out)
  go_upto_region 3 with (go_at_call 6; refine HA.out.mono ?_; rintro e w2 ⟨rfl, g2⟩)
  have B2 := Lib.hid (heap_grown g2 B1.out)
  have C2 := Lib.hid (heap_grown g2 C1.out)
  have K2 := Lib.hid (K1.out.grown g2)
  have J2 := Lib.hid (J1.out.grown g2)
  have G2 := Lib.hid (G1.out.trans g2)
  clear g2 B1 C1 K1 J1 E1 G1 HA
  by_cases hs16 : (s.size : Int) > 16
  · go_wp2
    go_ret
    exact ⟨rfl, G2.out⟩
  have SK := Lib.hid (show ∀ W, w2.grownBy W none → ((W.cell? ⟨q, 0, none⟩ = some (.int .i64 na.kind) ∧ W.cell? ⟨q, 1, none⟩ = some (.int .i64 na.index) ∧ W.cell? ⟨q, 2, none⟩ = some (.int .u64 (wd na.set 0)) ∧ W.cell? ⟨q, 3, none⟩ = some (.int .u64 (wd na.set 1)) ∧ W.cell? ⟨q, 4, none⟩ = some (.int .u64 (wd na.set 2)) ∧ W.cell? ⟨q, 5, none⟩ = some (.int .u64 (wd na.set 3)) ∧ W.cell? ⟨q, 6, none⟩ = some (.slice a m c)) ∧ (W.cell? ⟨r, 0, none⟩ = some (.int .i64 nb.kind) ∧ W.cell? ⟨r, 1, none⟩ = some (.int .i64 nb.index) ∧ W.cell? ⟨r, 2, none⟩ = some (.int .u64 (wd nb.set 0)) ∧ W.cell? ⟨r, 3, none⟩ = some (.int .u64 (wd nb.set 1)) ∧ W.cell? ⟨r, 4, none⟩ = some (.int .u64 (wd nb.set 2)) ∧ W.cell? ⟨r, 5, none⟩ = some (.int .u64 (wd nb.set 3)) ∧ W.cell? ⟨r, 6, none⟩ = some (.slice a2 m2 c2))) from fun W g => ⟨seven_cells (heap_grown g B2.out), seven_cells (heap_grown g C2.out)⟩)
  have CG := Lib.hid (fun W (g : w2.grownBy W none) => cGreatT na 20 a m c W (by omega) (by omega) (K2.out.grown g))
  have DG := Lib.hid (fun W (g : w2.grownBy W none) => cGreatT nb 20 a2 m2 c2 W (by omega) (by omega) (J2.out.grown g))
  obtain ⟨y1, y2, y3⟩ := lftN_is na 20 (by omega)
  obtain ⟨z1, z2, z3⟩ := lftN_is nb 20 (by omega)
  have HSA := Lib.hid (show ¬lftN na 20 < 0 → szN na ≤ 20 from fun h => by have := y3 (by omega); omega)
  have HSB := Lib.hid (show ¬lftN nb 20 < 0 → szN nb ≤ 20 from fun h => by have := z3 (by omega); omega)
  clear y1 y2 y3 z1 z2 z3
  obtain ⟨⟨c0, c1, c2', c3, c4, c5, c6⟩, d0, d1, d2, d3, d4, d5, d6⟩ := SK.out _ (World.grownBy.refl _ _)
  have HGA := Lib.hid (CG.out w2 (World.grownBy.refl _ _))
  by_cases hta : lftN na 20 < 0
  · have hd : decide (lftN na 20 < 0) = true := by simpa using hta
    rw [hd] at HGA
    clear hta hd
    go_wp2_with (go_at_call 7; (with_reducible refine HGA.out.mono ?_); rintro e w3 ⟨rfl, g3⟩; have G3 := Lib.hid (G2.out.trans g3); clear g3)
    go_ret
    exact ⟨rfl, G3.out⟩
  have hd : decide (lftN na 20 < 0) = false := by simpa using hta
  rw [hd] at HGA
  have SA := Lib.hid (HSA.out hta)
  clear hta hd HSA
  by_cases htb : lftN nb 20 < 0
  · have hd : decide (lftN nb 20 < 0) = true := by simpa using htb
    have HGB := Lib.hid (fun W g => hd ▸ DG.out W g)
    clear htb hd
    go_wp2_with (first
      | (go_at_call 7; (with_reducible refine HGA.out.mono ?_); rintro e w3 ⟨rfl, g3⟩; have Z3 := Lib.hid g3; have HGB3 := Lib.hid (HGB.out _ g3); clear g3 c0 c1 c2' c3 c4 c5 c6 d0 d1 d2 d3 d4 d5 d6; obtain ⟨⟨c0, c1, c2', c3, c4, c5, c6⟩, d0, d1, d2, d3, d4, d5, d6⟩ := SK.out _ Z3.out)
      | (go_at_call 7; (with_reducible refine HGB3.out.mono ?_); rintro e w4 ⟨rfl, g4⟩; have G4 := Lib.hid (G2.out.trans (Z3.out.trans g4)); clear g4))
    go_ret
    exact ⟨rfl, G4.out⟩
  have hd : decide (lftN nb 20 < 0) = false := by simpa using htb
  have HGB := Lib.hid (fun W g => hd ▸ DG.out W g)
  have SB := Lib.hid (HSB.out htb)
  clear htb hd HSB
  go_upto_region 5 with (first
    | (go_at_call 7; (with_reducible refine HGA.out.mono ?_); rintro e w3 ⟨rfl, g3⟩; have Z3 := Lib.hid g3; have HGB3 := Lib.hid (HGB.out _ g3); clear g3 c0 c1 c2' c3 c4 c5 c6 d0 d1 d2 d3 d4 d5 d6; obtain ⟨⟨c0, c1, c2', c3, c4, c5, c6⟩, d0, d1, d2, d3, d4, d5, d6⟩ := SK.out _ Z3.out)
    | (go_at_call 7; (with_reducible refine HGB3.out.mono ?_); rintro e w4 ⟨rfl, g4⟩; have Z4 := Lib.hid (Z3.out.trans g4); clear g4))
  clear c0 c1 c2' c3 c4 c5 c6 d0 d1 d2 d3 d4 d5 d6 HGA HGB HGB3 Z3 CG DG
  obtain ⟨⟨c0, c1, c2', c3, c4, c5, c6⟩, d0, d1, d2, d3, d4, d5, d6⟩ := SK.out _ Z4.out
  have CR := Lib.hid (fun W (g : w2.grownBy W none) => cRight 200 na a m c W (by have := SA.out; omega) (Nat.le_refl _) (K2.out.grown g))
  have DR := Lib.hid (fun W (g : w2.grownBy W none) => cRight 200 nb a2 m2 c2 W (by have := SB.out; omega) (Nat.le_refl _) (J2.out.grown g))
  have hs16' : s.size ≤ 16 := by omega
  clear hs16
  by_cases hr : rgtN na = true ∧ rgtN nb = true
  case neg =>
    have HNR := Lib.hid (rg_catN hr)
    have HSZ := Lib.hid (show szN (catI [na, nb]) ≤ 200 by rw [sz_cat2]; have := SA.out; have := SB.out; omega)
    have HRB := Lib.hid (show rgtN na = true → rgtN nb = false from fun h => by
      cases e : rgtN nb
      · rfl
      · exact (hr ⟨h, e⟩).elim)
    have CR4 := CR.out _ Z4.out
    clear hr
    cases hra : rgtN na
    case' false =>
      rw [hra] at CR4
      have CR5 := Lib.hid CR4
      clear CR4 hra HRB
      go_upto_region 6 with (go_at_call 15; (with_reducible refine CR5.out.mono ?_); rintro e w5 ⟨rfl, g5⟩; have Z5 := Lib.hid (Z4.out.trans g5); clear g5)
    case' true =>
      rw [hra] at CR4
      have CR5 := Lib.hid CR4
      have DR4 := Lib.hid (fun W (g : w2.grownBy W none) => HRB.out hra ▸ DR.out W g)
      clear CR4 hra HRB
      go_upto_region 6 with (first
        | (go_at_call 15; (with_reducible refine CR5.out.mono ?_); rintro e w5' ⟨rfl, g5'⟩; have Z5' := Lib.hid (Z4.out.trans g5'); have DR5 := Lib.hid (DR4.out _ Z5'.out); clear g5' c0 c1 c2' c3 c4 c5 c6 d0 d1 d2 d3 d4 d5 d6; obtain ⟨⟨c0, c1, c2', c3, c4, c5, c6⟩, d0, d1, d2, d3, d4, d5, d6⟩ := SK.out _ Z5'.out)
        | (go_at_call 15; (with_reducible refine DR5.out.mono ?_); rintro e w5 ⟨rfl, g5⟩; have Z5 := Lib.hid (Z5'.out.trans g5); clear g5))
    all_goals
      clear c0 c1 c2' c3 c4 c5 c6 d0 d1 d2 d3 d4 d5 d6
      obtain ⟨⟨c0, c1, c2', c3, c4, c5, c6⟩, d0, d1, d2, d3, d4, d5, d6⟩ := SK.out _ Z5.out
      have KA := Lib.hid (K2.out.grown Z5.out)
      have KB := Lib.hid (J2.out.grown Z5.out)
      have CC := Lib.hid (cCat [na, nb] (.slice (some ⟨w5.heap.size, 0, none⟩) 2 2) (w5.alloc (.cells #[.int .i64 na.kind, .int .i64 na.index, .int .u64 (wd na.set 0), .int .u64 (wd na.set 1), .int .u64 (wd na.set 2), .int .u64 (wd na.set 3), .slice a m c, .int .i64 nb.kind, .int .i64 nb.index, .int .u64 (wd nb.set 0), .int .u64 (wd nb.set 1), .int .u64 (wd nb.set 2), .int .u64 (wd nb.set 3), .slice a2 m2 c2] 27)) ⟨_, _, rfl, row2 (n := na) (n' := nb) (heap_alloc_new w5 _) (KA.out.grown (World.grownBy_alloc _ _ _)) (KB.out.grown (World.grownBy_alloc _ _ _))⟩)
      have ZA := Lib.hid (Z5.out.trans (World.grownBy_alloc w5 (.cells #[.int .i64 na.kind, .int .i64 na.index, .int .u64 (wd na.set 0), .int .u64 (wd na.set 1), .int .u64 (wd na.set 2), .int .u64 (wd na.set 3), .slice a m c, .int .i64 nb.kind, .int .i64 nb.index, .int .u64 (wd nb.set 0), .int .u64 (wd nb.set 1), .int .u64 (wd nb.set 2), .int .u64 (wd nb.set 3), .slice a2 m2 c2] 27) none))
      go_wp2_with (first
        | (go_at_call 16; (with_reducible refine (CC.out).mono ?_); rintro e w6 ⟨⟨v6, rfl, a6, m6, k6, rfl, hk6⟩, g6⟩; have Z6 := Lib.hid (ZA.out.trans g6); have CE := Lib.hid (cEndsF (catI [na, nb]) a6 m6 k6 0 s w6 HSZ.out (by omega) hk6); clear hk6 g6)
        | (go_at_call 11; (with_reducible refine (CE.out).mono ?_); rintro e w7 ⟨g7, v7, l7, rfl, ho, hl⟩; obtain rfl := hl.empty HNR.out; have Z7 := Lib.hid (Z6.out.trans g7); obtain ⟨va, vc, hv⟩ := owns_shape ho; have hv2 : v7 = .slice va 0 vc := hv; clear hv; subst hv2; clear ho hl g7))
      go_ret
      exact ⟨rfl, G2.out.trans Z7.out⟩
  obtain ⟨hra, hrb⟩ := hr
  obtain ⟨T1, T2, T3, T4, T5, T6, T7, T8⟩ := twins s SA.out SB.out hra hrb
  have CR4 := CR.out _ Z4.out
  rw [hra] at CR4
  have CR5 := Lib.hid CR4
  have DR4 := Lib.hid (fun W (g : w2.grownBy W none) => hrb ▸ DR.out W g)
  clear CR4 hra hrb CR DR SA SB
  go_upto_region 7 with (first
    | (go_at_call 15; (with_reducible refine CR5.out.mono ?_); rintro e w5' ⟨rfl, g5'⟩; have Z5' := Lib.hid (Z4.out.trans g5'); have DR5 := Lib.hid (DR4.out _ Z5'.out); clear g5' c0 c1 c2' c3 c4 c5 c6 d0 d1 d2 d3 d4 d5 d6; obtain ⟨⟨c0, c1, c2', c3, c4, c5, c6⟩, d0, d1, d2, d3, d4, d5, d6⟩ := SK.out _ Z5'.out)
    | (go_at_call 15; (with_reducible refine DR5.out.mono ?_); rintro e w5 ⟨rfl, g5⟩; have Z5 := Lib.hid (Z5'.out.trans g5); clear g5))
  clear c0 c1 c2' c3 c4 c5 c6 d0 d1 d2 d3 d4 d5 d6 CR5 DR4 DR5 Z5' Z4
  have N6 := Lib.hid (mk_new w5 0 [] (.slice none 0 0) 27)
  have Z6 := Lib.hid (Z5.out.trans (World.grownBy_alloc w5 (.cells zero7 27) none))
  clear Z5
  go_upto_region 8 with fail
  generalize w5.alloc _ = w6 at N6 Z6 ⊢
  generalize w5.heap.size = qn at N6 ⊢
  obtain ⟨⟨c0, c1, c2', c3, c4, c5, c6⟩, -⟩ := SK.out _ Z6.out
  have g7 := World.grownBy_alloc w6 (.cells #[.int .i64 na.kind, .int .i64 na.index, .int .u64 (wd na.set 0), .int .u64 (wd na.set 1), .int .u64 (wd na.set 2), .int .u64 (wd na.set 3), .slice a m c] 27) none
  have P7 := Lib.hid (row1 (n := na) (a := a) (m := m) (c := c) (T := 27) (heap_alloc_new w6 _) (K2.out.grown (Z6.out.trans g7)))
  have N7 := Lib.hid (heap_grown g7 N6.out)
  have Z7 := Lib.hid (Z6.out.trans g7)
  have g8 := World.grownBy_alloc (w6.alloc (.cells #[.int .i64 na.kind, .int .i64 na.index, .int .u64 (wd na.set 0), .int .u64 (wd na.set 1), .int .u64 (wd na.set 2), .int .u64 (wd na.set 3), .slice a m c] 27)) (.cells #[.int .i64 5, .int .i64 0, .int .u64 0, .int .u64 0, .int .u64 0, .int .u64 0, .slice (some ⟨w6.heap.size, 0, none⟩) 1 1] 27) none
  have M8 := Lib.hid (mk_new2 w6 (.cells #[.int .i64 na.kind, .int .i64 na.index, .int .u64 (wd na.set 0), .int .u64 (wd na.set 1), .int .u64 (wd na.set 2), .int .u64 (wd na.set 3), .slice a m c] 27) 5 [na] (.slice (some ⟨w6.heap.size, 0, none⟩) 1 1) 27)
  have P8 := Lib.hid (P7.out.grown g8)
  have N8 := Lib.hid (heap_grown g8 N7.out)
  have Z8 := Lib.hid (Z7.out.trans g8)
  clear g7 g8 P7 N7 Z7 N6 Z6
  go_upto_region 9 with fail
  clear c0 c1 c2' c3 c4 c5 c6
  generalize World.alloc _ _ = w8 at M8 P8 N8 Z8 ⊢
  generalize w6.heap.size = q7 at M8 P8 ⊢
  obtain ⟨q8, hq8⟩ : ∃ q8, q8 = q7 + 1 := ⟨_, rfl⟩
  rw [← hq8] at M8 ⊢
  clear hq8
  obtain ⟨⟨c0, c1, c2', c3, c4, c5, c6⟩, -⟩ := SK.out _ Z8.out
  have g7 := World.grownBy_alloc w8 (.cells #[.int .i64 na.kind, .int .i64 na.index, .int .u64 (wd na.set 0), .int .u64 (wd na.set 1), .int .u64 (wd na.set 2), .int .u64 (wd na.set 3), .slice a m c] 27) none
  have p9 := row1 (n := na) (a := a) (m := m) (c := c) (T := 27) (heap_alloc_new w8 _) (K2.out.grown (Z8.out.trans g7))
  have g8 := World.grownBy_alloc (w8.alloc (.cells #[.int .i64 na.kind, .int .i64 na.index, .int .u64 (wd na.set 0), .int .u64 (wd na.set 1), .int .u64 (wd na.set 2), .int .u64 (wd na.set 3), .slice a m c] 27)) (.cells #[.int .i64 6, .int .i64 0, .int .u64 0, .int .u64 0, .int .u64 0, .int .u64 0, .slice (some ⟨w8.heap.size, 0, none⟩) 1 1] 27) none
  have M9 := Lib.hid (mk_new2 w8 (.cells #[.int .i64 na.kind, .int .i64 na.index, .int .u64 (wd na.set 0), .int .u64 (wd na.set 1), .int .u64 (wd na.set 2), .int .u64 (wd na.set 3), .slice a m c] 27) 6 [na] (.slice (some ⟨w8.heap.size, 0, none⟩) 1 1) 27)
  have HKm := Lib.hid (p9.grown g8)
  have HBp := Lib.hid (heap_grown (g7.trans g8) M8.out)
  have HKp := Lib.hid (P8.out.grown (g7.trans g8))
  have HBn := Lib.hid (heap_grown (g7.trans g8) N8.out)
  have Z9 := Lib.hid (Z8.out.trans (g7.trans g8))
  clear g7 g8 p9 P8 N8 Z8 M8
  go_upto_region 10 with fail
  clear c0 c1 c2' c3 c4 c5 c6
  generalize World.alloc _ _ = w9 at M9 HKm HBp HKp HBn Z9 ⊢
  generalize w8.heap.size = q9 at M9 HKm ⊢
  obtain ⟨q10, hq10⟩ : ∃ q10, q10 = q9 + 1 := ⟨_, rfl⟩
  rw [← hq10] at M9 ⊢
  clear hq10
  have HBm := M9
  have HBa := Lib.hid (heap_grown Z9.out B2.out)
  have HBb := Lib.hid (heap_grown Z9.out C2.out)
  have HKa := Lib.hid (K2.out.grown Z9.out)
  have HKb := Lib.hid (J2.out.grown Z9.out)
  have HKn : Hid (KidsE w9 (.slice none 0 0) noneI.kids) := Lib.hid (.empty _ _)
  have HS : s.size ≤ 100 := by omega
  clear M9 SK hs16'
  go_cut [96] from 46 to 95 (fun s96 wx => s96 = .bool false ∧ Hid (w9.grownBy wx none))
  case first =>
    refine wp_region_srt (by kernel_rfl) (by kernel_rfl) (fun i => 46 + i) (srt10 na nb s) [46, 47, 48, 49, 50, 51, 52, 53, 54, 55, 56, 57, 58, 59, 60, 61, 62, 63, 64, 65, 66, 67, 68, 69, 70, 71, 72, 73, 74, 75, 76, 77, 78, 79, 80, 81, 82, 83, 84, 85, 86, 87, 88, 89, 90, 91, 92, 93, 94, 95, 96] (by kernel_rfl) (fit_of (fun i j _ _ h => by have h : 46 + j = 46 + i := h; omega) (fun i hi => by have hi : i < 51 := hi; show 46 + i < 148; omega) (by kernel_rfl)) ?_ ?_
    · intro F L a' w' i o ho R hL hd
      have hi : i < 51 := (Array.getElem?_eq_some_iff.1 ho).1
      obtain rfl | rfl | rfl | rfl | rfl | rfl | rfl | rfl | rfl | rfl | rfl | rfl | rfl | rfl | rfl | rfl | rfl | rfl | rfl | rfl | rfl | rfl | rfl | rfl | rfl | rfl | rfl | rfl | rfl | rfl | rfl | rfl | rfl | rfl | rfl | rfl | rfl | rfl | rfl | rfl | rfl | rfl | rfl | rfl | rfl | rfl | rfl | rfl | rfl | rfl | rfl : i = 0 ∨ i = 1 ∨ i = 2 ∨ i = 3 ∨ i = 4 ∨ i = 5 ∨ i = 6 ∨ i = 7 ∨ i = 8 ∨ i = 9 ∨ i = 10 ∨ i = 11 ∨ i = 12 ∨ i = 13 ∨ i = 14 ∨ i = 15 ∨ i = 16 ∨ i = 17 ∨ i = 18 ∨ i = 19 ∨ i = 20 ∨ i = 21 ∨ i = 22 ∨ i = 23 ∨ i = 24 ∨ i = 25 ∨ i = 26 ∨ i = 27 ∨ i = 28 ∨ i = 29 ∨ i = 30 ∨ i = 31 ∨ i = 32 ∨ i = 33 ∨ i = 34 ∨ i = 35 ∨ i = 36 ∨ i = 37 ∨ i = 38 ∨ i = 39 ∨ i = 40 ∨ i = 41 ∨ i = 42 ∨ i = 43 ∨ i = 44 ∨ i = 45 ∨ i = 46 ∨ i = 47 ∨ i = 48 ∨ i = 49 ∨ i = 50 := by omega
      · cases ho; exact R.load F rfl (wanted_none rfl) (p := 3) rfl (fun j hj => by show 46 + j ≠ 3; omega) rfl HBa.out HKa.out rfl
      · cases ho; exact R.load F rfl (wanted_none rfl) (p := 4) rfl (fun j hj => by show 46 + j ≠ 4; omega) rfl HBb.out HKb.out rfl
      · cases ho; exact R.row2 F rfl (wanted_none rfl) (j1 := 0) (j2 := 1) rfl (R.at (by decide +kernel) (hd 0 (by decide +kernel)) rfl) (R.at (by decide +kernel) (hd 1 (by decide +kernel)) rfl) rfl
      · cases ho; exact R.called F rfl (wanted_none rfl) (f := 19) (args := #[a'.eval (.tmp 48)]) (by kernel_rfl) (mk_alt (R.at (by decide +kernel) (hd 2 (by decide +kernel)) rfl))
      · cases ho; exact R.called F rfl (wanted_none rfl) (f := 18) (args := #[a'.eval (.tmp 49)]) (by kernel_rfl) (mk_star (R.at (by decide +kernel) (hd 3 (by decide +kernel)) rfl))
      · cases ho; exact R.load F rfl (wanted_none rfl) (p := 3) rfl (fun j hj => by show 46 + j ≠ 3; omega) rfl HBa.out HKa.out rfl
      · cases ho; exact R.called F rfl (wanted_none rfl) (f := 18) (args := #[a'.eval (.tmp 51)]) (by kernel_rfl) (mk_star (R.at (by decide +kernel) (hd 5 (by decide +kernel)) rfl))
      · cases ho; exact R.load F rfl (wanted_none rfl) (p := 4) rfl (fun j hj => by show 46 + j ≠ 4; omega) rfl HBb.out HKb.out rfl
      · cases ho; exact R.called F rfl (wanted_none rfl) (f := 18) (args := #[a'.eval (.tmp 53)]) (by kernel_rfl) (mk_star (R.at (by decide +kernel) (hd 7 (by decide +kernel)) rfl))
      · cases ho; exact R.row2 F rfl (wanted_none rfl) (j1 := 6) (j2 := 8) rfl (R.at (by decide +kernel) (hd 6 (by decide +kernel)) rfl) (R.at (by decide +kernel) (hd 8 (by decide +kernel)) rfl) rfl
      · cases ho; exact R.called F rfl (wanted_none rfl) (f := 16) (args := #[a'.eval (.tmp 55)]) (by kernel_rfl) (mk_cat (R.at (by decide +kernel) (hd 9 (by decide +kernel)) rfl))
      · cases ho; exact R.called F rfl (wanted_none rfl) (f := 18) (args := #[a'.eval (.tmp 56)]) (by kernel_rfl) (mk_star (R.at (by decide +kernel) (hd 10 (by decide +kernel)) rfl))
      · cases ho; exact R.move F rfl (wanted_none rfl) (x := .tmp 2) (y := .text s) (.inl rfl) (R.slot (fun j hj => by show 46 + j ≠ 2; omega) rfl) rfl
      · cases ho; exact R.called F rfl (wanted_none rfl) (f := 17) (args := #[a'.eval (.tmp 50), a'.eval (.tmp 57), a'.eval (.tmp 58)]) (by kernel_rfl) (mk_same (R.at (by decide +kernel) (hd 4 (by decide +kernel)) rfl) (R.at (by decide +kernel) (hd 11 (by decide +kernel)) rfl) (R.at (by decide +kernel) (hd 12 (by decide +kernel)) rfl) HS T1)
      · cases ho; exact R.not F rfl (wanted_none rfl) (j1 := 13) (b := true) rfl (R.at (by decide +kernel) (hd 13 (by decide +kernel)) rfl) rfl
      · cases ho; exact R.move F rfl (wanted_none rfl) (x := .tmp 60) (.inl rfl) (R.at (by decide +kernel) (hd 14 (by decide +kernel)) rfl) rfl
      · cases ho; exact R.load F rfl (wanted_some (j := 15) (b := false) rfl rfl rfl (R.at (j1 := 15) (by decide +kernel) (hd 15 (by decide +kernel)) rfl)) (p := 3) rfl (fun j hj => by show 46 + j ≠ 3; omega) rfl HBa.out HKa.out rfl
      · cases ho; exact R.called F rfl (wanted_some (j := 15) (b := false) rfl rfl rfl (R.at (j1 := 15) (by decide +kernel) (hd 15 (by decide +kernel)) rfl)) (f := 18) (args := #[a'.eval (.tmp 62)]) (by kernel_rfl) (mk_star (R.at (by decide +kernel) (hd 16 (by decide +kernel)) rfl))
      · cases ho; exact R.load F rfl (wanted_some (j := 15) (b := false) rfl rfl rfl (R.at (j1 := 15) (by decide +kernel) (hd 15 (by decide +kernel)) rfl)) (p := 7) rfl (fun j hj => by show 46 + j ≠ 7; omega) rfl HBn.out HKn.out rfl
      · cases ho; exact R.load F rfl (wanted_some (j := 15) (b := false) rfl rfl rfl (R.at (j1 := 15) (by decide +kernel) (hd 15 (by decide +kernel)) rfl)) (p := 3) rfl (fun j hj => by show 46 + j ≠ 3; omega) rfl HBa.out HKa.out rfl
      · cases ho; exact R.load F rfl (wanted_some (j := 15) (b := false) rfl rfl rfl (R.at (j1 := 15) (by decide +kernel) (hd 15 (by decide +kernel)) rfl)) (p := 3) rfl (fun j hj => by show 46 + j ≠ 3; omega) rfl HBa.out HKa.out rfl
      · cases ho; exact R.called F rfl (wanted_some (j := 15) (b := false) rfl rfl rfl (R.at (j1 := 15) (by decide +kernel) (hd 15 (by decide +kernel)) rfl)) (f := 18) (args := #[a'.eval (.tmp 66)]) (by kernel_rfl) (mk_star (R.at (by decide +kernel) (hd 20 (by decide +kernel)) rfl))
      · cases ho; exact R.row2 F rfl (wanted_some (j := 15) (b := false) rfl rfl rfl (R.at (j1 := 15) (by decide +kernel) (hd 15 (by decide +kernel)) rfl)) (j1 := 19) (j2 := 21) rfl (R.at (by decide +kernel) (hd 19 (by decide +kernel)) rfl) (R.at (by decide +kernel) (hd 21 (by decide +kernel)) rfl) rfl
      · cases ho; exact R.called F rfl (wanted_some (j := 15) (b := false) rfl rfl rfl (R.at (j1 := 15) (by decide +kernel) (hd 15 (by decide +kernel)) rfl)) (f := 16) (args := #[a'.eval (.tmp 68)]) (by kernel_rfl) (mk_cat (R.at (by decide +kernel) (hd 22 (by decide +kernel)) rfl))
      · cases ho; exact R.row2 F rfl (wanted_some (j := 15) (b := false) rfl rfl rfl (R.at (j1 := 15) (by decide +kernel) (hd 15 (by decide +kernel)) rfl)) (j1 := 18) (j2 := 23) rfl (R.at (by decide +kernel) (hd 18 (by decide +kernel)) rfl) (R.at (by decide +kernel) (hd 23 (by decide +kernel)) rfl) rfl
      · cases ho; exact R.called F rfl (wanted_some (j := 15) (b := false) rfl rfl rfl (R.at (j1 := 15) (by decide +kernel) (hd 15 (by decide +kernel)) rfl)) (f := 19) (args := #[a'.eval (.tmp 70)]) (by kernel_rfl) (mk_alt (R.at (by decide +kernel) (hd 24 (by decide +kernel)) rfl))
      · cases ho; exact R.move F rfl (wanted_some (j := 15) (b := false) rfl rfl rfl (R.at (j1 := 15) (by decide +kernel) (hd 15 (by decide +kernel)) rfl)) (x := .tmp 2) (y := .text s) (.inl rfl) (R.slot (fun j hj => by show 46 + j ≠ 2; omega) rfl) rfl
      · cases ho; exact R.called F rfl (wanted_some (j := 15) (b := false) rfl rfl rfl (R.at (j1 := 15) (by decide +kernel) (hd 15 (by decide +kernel)) rfl)) (f := 17) (args := #[a'.eval (.tmp 63), a'.eval (.tmp 71), a'.eval (.tmp 72)]) (by kernel_rfl) (mk_same (R.at (by decide +kernel) (hd 17 (by decide +kernel)) rfl) (R.at (by decide +kernel) (hd 25 (by decide +kernel)) rfl) (R.at (by decide +kernel) (hd 26 (by decide +kernel)) rfl) HS T2)
      · cases ho; exact R.not F rfl (wanted_some (j := 15) (b := false) rfl rfl rfl (R.at (j1 := 15) (by decide +kernel) (hd 15 (by decide +kernel)) rfl)) (j1 := 27) (b := true) rfl (R.at (by decide +kernel) (hd 27 (by decide +kernel)) rfl) rfl
      · cases ho; exact R.pick F rfl (wanted_none rfl) (c := .tmp 61) (b := false) rfl (R.at (by decide +kernel) (hd 15 (by decide +kernel)) rfl) (R.at (by decide +kernel) (hd 28 (by decide +kernel)) rfl) rfl
      · cases ho; exact R.move F rfl (wanted_none rfl) (x := .tmp 75) (.inl rfl) (R.at (by decide +kernel) (hd 29 (by decide +kernel)) rfl) rfl
      · cases ho; exact R.load F rfl (wanted_some (j := 30) (b := false) rfl rfl rfl (R.at (j1 := 30) (by decide +kernel) (hd 30 (by decide +kernel)) rfl)) (p := 8) rfl (fun j hj => by show 46 + j ≠ 8; omega) rfl HBp.out HKp.out rfl
      · cases ho; exact R.load F rfl (wanted_some (j := 30) (b := false) rfl rfl rfl (R.at (j1 := 30) (by decide +kernel) (hd 30 (by decide +kernel)) rfl)) (p := 3) rfl (fun j hj => by show 46 + j ≠ 3; omega) rfl HBa.out HKa.out rfl
      · cases ho; exact R.load F rfl (wanted_some (j := 30) (b := false) rfl rfl rfl (R.at (j1 := 30) (by decide +kernel) (hd 30 (by decide +kernel)) rfl)) (p := 3) rfl (fun j hj => by show 46 + j ≠ 3; omega) rfl HBa.out HKa.out rfl
      · cases ho; exact R.called F rfl (wanted_some (j := 30) (b := false) rfl rfl rfl (R.at (j1 := 30) (by decide +kernel) (hd 30 (by decide +kernel)) rfl)) (f := 18) (args := #[a'.eval (.tmp 79)]) (by kernel_rfl) (mk_star (R.at (by decide +kernel) (hd 33 (by decide +kernel)) rfl))
      · cases ho; exact R.row2 F rfl (wanted_some (j := 30) (b := false) rfl rfl rfl (R.at (j1 := 30) (by decide +kernel) (hd 30 (by decide +kernel)) rfl)) (j1 := 32) (j2 := 34) rfl (R.at (by decide +kernel) (hd 32 (by decide +kernel)) rfl) (R.at (by decide +kernel) (hd 34 (by decide +kernel)) rfl) rfl
      · cases ho; exact R.called F rfl (wanted_some (j := 30) (b := false) rfl rfl rfl (R.at (j1 := 30) (by decide +kernel) (hd 30 (by decide +kernel)) rfl)) (f := 16) (args := #[a'.eval (.tmp 81)]) (by kernel_rfl) (mk_cat (R.at (by decide +kernel) (hd 35 (by decide +kernel)) rfl))
      · cases ho; exact R.move F rfl (wanted_some (j := 30) (b := false) rfl rfl rfl (R.at (j1 := 30) (by decide +kernel) (hd 30 (by decide +kernel)) rfl)) (x := .tmp 2) (y := .text s) (.inl rfl) (R.slot (fun j hj => by show 46 + j ≠ 2; omega) rfl) rfl
      · cases ho; exact R.called F rfl (wanted_some (j := 30) (b := false) rfl rfl rfl (R.at (j1 := 30) (by decide +kernel) (hd 30 (by decide +kernel)) rfl)) (f := 17) (args := #[a'.eval (.tmp 77), a'.eval (.tmp 82), a'.eval (.tmp 83)]) (by kernel_rfl) (mk_same (R.at (by decide +kernel) (hd 31 (by decide +kernel)) rfl) (R.at (by decide +kernel) (hd 36 (by decide +kernel)) rfl) (R.at (by decide +kernel) (hd 37 (by decide +kernel)) rfl) HS T3)
      · cases ho; exact R.not F rfl (wanted_some (j := 30) (b := false) rfl rfl rfl (R.at (j1 := 30) (by decide +kernel) (hd 30 (by decide +kernel)) rfl)) (j1 := 38) (b := true) rfl (R.at (by decide +kernel) (hd 38 (by decide +kernel)) rfl) rfl
      · cases ho; exact R.pick F rfl (wanted_none rfl) (c := .tmp 76) (b := false) rfl (R.at (by decide +kernel) (hd 30 (by decide +kernel)) rfl) (R.at (by decide +kernel) (hd 39 (by decide +kernel)) rfl) rfl
      · cases ho; exact R.move F rfl (wanted_none rfl) (x := .tmp 86) (.inl rfl) (R.at (by decide +kernel) (hd 40 (by decide +kernel)) rfl) rfl
      · cases ho; exact R.load F rfl (wanted_some (j := 41) (b := false) rfl rfl rfl (R.at (j1 := 41) (by decide +kernel) (hd 41 (by decide +kernel)) rfl)) (p := 9) rfl (fun j hj => by show 46 + j ≠ 9; omega) rfl HBm.out HKm.out rfl
      · cases ho; exact R.load F rfl (wanted_some (j := 41) (b := false) rfl rfl rfl (R.at (j1 := 41) (by decide +kernel) (hd 41 (by decide +kernel)) rfl)) (p := 7) rfl (fun j hj => by show 46 + j ≠ 7; omega) rfl HBn.out HKn.out rfl
      · cases ho; exact R.load F rfl (wanted_some (j := 41) (b := false) rfl rfl rfl (R.at (j1 := 41) (by decide +kernel) (hd 41 (by decide +kernel)) rfl)) (p := 3) rfl (fun j hj => by show 46 + j ≠ 3; omega) rfl HBa.out HKa.out rfl
      · cases ho; exact R.row2 F rfl (wanted_some (j := 41) (b := false) rfl rfl rfl (R.at (j1 := 41) (by decide +kernel) (hd 41 (by decide +kernel)) rfl)) (j1 := 43) (j2 := 44) rfl (R.at (by decide +kernel) (hd 43 (by decide +kernel)) rfl) (R.at (by decide +kernel) (hd 44 (by decide +kernel)) rfl) rfl
      · cases ho; exact R.called F rfl (wanted_some (j := 41) (b := false) rfl rfl rfl (R.at (j1 := 41) (by decide +kernel) (hd 41 (by decide +kernel)) rfl)) (f := 19) (args := #[a'.eval (.tmp 91)]) (by kernel_rfl) (mk_alt (R.at (by decide +kernel) (hd 45 (by decide +kernel)) rfl))
      · cases ho; exact R.move F rfl (wanted_some (j := 41) (b := false) rfl rfl rfl (R.at (j1 := 41) (by decide +kernel) (hd 41 (by decide +kernel)) rfl)) (x := .tmp 2) (y := .text s) (.inl rfl) (R.slot (fun j hj => by show 46 + j ≠ 2; omega) rfl) rfl
      · cases ho; exact R.called F rfl (wanted_some (j := 41) (b := false) rfl rfl rfl (R.at (j1 := 41) (by decide +kernel) (hd 41 (by decide +kernel)) rfl)) (f := 17) (args := #[a'.eval (.tmp 88), a'.eval (.tmp 92), a'.eval (.tmp 93)]) (by kernel_rfl) (mk_same (R.at (by decide +kernel) (hd 42 (by decide +kernel)) rfl) (R.at (by decide +kernel) (hd 46 (by decide +kernel)) rfl) (R.at (by decide +kernel) (hd 47 (by decide +kernel)) rfl) HS T4)
      · cases ho; exact R.not F rfl (wanted_some (j := 41) (b := false) rfl rfl rfl (R.at (j1 := 41) (by decide +kernel) (hd 41 (by decide +kernel)) rfl)) (j1 := 48) (b := true) rfl (R.at (by decide +kernel) (hd 48 (by decide +kernel)) rfl) rfl
      · cases ho; exact R.pick F rfl (wanted_none rfl) (c := .tmp 87) (b := false) rfl (R.at (by decide +kernel) (hd 41 (by decide +kernel)) rfl) (R.at (by decide +kernel) (hd 49 (by decide +kernel)) rfl) rfl
    · intro u w' g hO
      have h96 : u 96 = .bool false := hO 50 (by decide +kernel)
      have GG := Lib.hid g
      clear g hO
      simp only [List.map_cons, List.map_nil, putL, List.foldl_cons, List.foldl_nil, h96]
      clear h96
      go_simp
      go_wp2_with fail
      go_meet
      exact ⟨rfl, GG⟩
  case rest =>
    obtain ⟨rfl, hg⟩ := hcut
    have Z10 := Lib.hid (Z9.out.trans hg.out)
    have HBa2 := Lib.hid (heap_grown Z10.out B2.out)
    have HBb2 := Lib.hid (heap_grown Z10.out C2.out)
    have HKa2 := Lib.hid (K2.out.grown Z10.out)
    have HKb2 := Lib.hid (J2.out.grown Z10.out)
    clear HBa HBb HKa HKb HBm HBn HBp HKm HKn HKp hg Z9
    go_upto_region 12 with fail
    refine wp_region_srt (by kernel_rfl) (by kernel_rfl) (fun i => if i = 51 then 6 else 97 + i) (srt12 na nb s) [97, 98, 99, 100, 101, 102, 103, 104, 105, 106, 107, 108, 109, 110, 111, 112, 113, 114, 115, 116, 117, 118, 119, 120, 121, 122, 123, 124, 125, 126, 127, 128, 129, 130, 131, 132, 133, 134, 135, 136, 137, 138, 139, 140, 141, 142, 143, 144, 145, 146, 147, 6] (by kernel_rfl) (fit_of (fun i j hi hj h => by
        have hi : i < 52 := hi
        have hj : j < 52 := hj
        have h : (if j = 51 then 6 else 97 + j) = (if i = 51 then 6 else 97 + i) := h
        split at h <;> split at h <;> omega) (fun i hi => by have hi : i < 52 := hi; show (if i = 51 then 6 else 97 + i) < 148; split <;> omega) (by kernel_rfl)) ?_ ?_
    · intro F L a' w' i o ho R hL hd
      have hi : i < 52 := (Array.getElem?_eq_some_iff.1 ho).1
      obtain rfl | rfl | rfl | rfl | rfl | rfl | rfl | rfl | rfl | rfl | rfl | rfl | rfl | rfl | rfl | rfl | rfl | rfl | rfl | rfl | rfl | rfl | rfl | rfl | rfl | rfl | rfl | rfl | rfl | rfl | rfl | rfl | rfl | rfl | rfl | rfl | rfl | rfl | rfl | rfl | rfl | rfl | rfl | rfl | rfl | rfl | rfl | rfl | rfl | rfl | rfl | rfl : i = 0 ∨ i = 1 ∨ i = 2 ∨ i = 3 ∨ i = 4 ∨ i = 5 ∨ i = 6 ∨ i = 7 ∨ i = 8 ∨ i = 9 ∨ i = 10 ∨ i = 11 ∨ i = 12 ∨ i = 13 ∨ i = 14 ∨ i = 15 ∨ i = 16 ∨ i = 17 ∨ i = 18 ∨ i = 19 ∨ i = 20 ∨ i = 21 ∨ i = 22 ∨ i = 23 ∨ i = 24 ∨ i = 25 ∨ i = 26 ∨ i = 27 ∨ i = 28 ∨ i = 29 ∨ i = 30 ∨ i = 31 ∨ i = 32 ∨ i = 33 ∨ i = 34 ∨ i = 35 ∨ i = 36 ∨ i = 37 ∨ i = 38 ∨ i = 39 ∨ i = 40 ∨ i = 41 ∨ i = 42 ∨ i = 43 ∨ i = 44 ∨ i = 45 ∨ i = 46 ∨ i = 47 ∨ i = 48 ∨ i = 49 ∨ i = 50 ∨ i = 51 := by omega
      · cases ho; exact R.load F rfl (wanted_none rfl) (p := 3) rfl (fun j hj => by show (if j = 51 then 6 else 97 + j) ≠ 3; split <;> omega) rfl HBa2.out HKa2.out rfl
      · cases ho; exact R.called F rfl (wanted_none rfl) (f := 18) (args := #[a'.eval (.tmp 97)]) (by kernel_rfl) (mk_star (R.at (by decide +kernel) (hd 0 (by decide +kernel)) rfl))
      · cases ho; exact R.called F rfl (wanted_none rfl) (f := 18) (args := #[a'.eval (.tmp 98)]) (by kernel_rfl) (mk_star (R.at (by decide +kernel) (hd 1 (by decide +kernel)) rfl))
      · cases ho; exact R.load F rfl (wanted_none rfl) (p := 3) rfl (fun j hj => by show (if j = 51 then 6 else 97 + j) ≠ 3; split <;> omega) rfl HBa2.out HKa2.out rfl
      · cases ho; exact R.called F rfl (wanted_none rfl) (f := 18) (args := #[a'.eval (.tmp 100)]) (by kernel_rfl) (mk_star (R.at (by decide +kernel) (hd 3 (by decide +kernel)) rfl))
      · cases ho; exact R.move F rfl (wanted_none rfl) (x := .tmp 2) (y := .text s) (.inl rfl) (R.slot (fun j hj => by show (if j = 51 then 6 else 97 + j) ≠ 2; split <;> omega) rfl) rfl
      · cases ho; exact R.called F rfl (wanted_none rfl) (f := 17) (args := #[a'.eval (.tmp 99), a'.eval (.tmp 101), a'.eval (.tmp 102)]) (by kernel_rfl) (mk_same (R.at (by decide +kernel) (hd 2 (by decide +kernel)) rfl) (R.at (by decide +kernel) (hd 4 (by decide +kernel)) rfl) (R.at (by decide +kernel) (hd 5 (by decide +kernel)) rfl) HS T5)
      · cases ho; exact R.move F rfl (wanted_none rfl) (x := .tmp 103) (.inl rfl) (R.at (by decide +kernel) (hd 6 (by decide +kernel)) rfl) rfl
      · cases ho; exact R.load F rfl (wanted_some (j := 7) (b := true) rfl rfl rfl (R.at (j1 := 7) (by decide +kernel) (hd 7 (by decide +kernel)) rfl)) (p := 3) rfl (fun j hj => by show (if j = 51 then 6 else 97 + j) ≠ 3; split <;> omega) rfl HBa2.out HKa2.out rfl
      · cases ho; exact R.load F rfl (wanted_some (j := 7) (b := true) rfl rfl rfl (R.at (j1 := 7) (by decide +kernel) (hd 7 (by decide +kernel)) rfl)) (p := 4) rfl (fun j hj => by show (if j = 51 then 6 else 97 + j) ≠ 4; split <;> omega) rfl HBb2.out HKb2.out rfl
      · cases ho; exact R.load F rfl (wanted_some (j := 7) (b := true) rfl rfl rfl (R.at (j1 := 7) (by decide +kernel) (hd 7 (by decide +kernel)) rfl)) (p := 3) rfl (fun j hj => by show (if j = 51 then 6 else 97 + j) ≠ 3; split <;> omega) rfl HBa2.out HKa2.out rfl
      · cases ho; exact R.row2 F rfl (wanted_some (j := 7) (b := true) rfl rfl rfl (R.at (j1 := 7) (by decide +kernel) (hd 7 (by decide +kernel)) rfl)) (j1 := 9) (j2 := 10) rfl (R.at (by decide +kernel) (hd 9 (by decide +kernel)) rfl) (R.at (by decide +kernel) (hd 10 (by decide +kernel)) rfl) rfl
      · cases ho; exact R.called F rfl (wanted_some (j := 7) (b := true) rfl rfl rfl (R.at (j1 := 7) (by decide +kernel) (hd 7 (by decide +kernel)) rfl)) (f := 16) (args := #[a'.eval (.tmp 108)]) (by kernel_rfl) (mk_cat (R.at (by decide +kernel) (hd 11 (by decide +kernel)) rfl))
      · cases ho; exact R.called F rfl (wanted_some (j := 7) (b := true) rfl rfl rfl (R.at (j1 := 7) (by decide +kernel) (hd 7 (by decide +kernel)) rfl)) (f := 18) (args := #[a'.eval (.tmp 109)]) (by kernel_rfl) (mk_star (R.at (by decide +kernel) (hd 12 (by decide +kernel)) rfl))
      · cases ho; exact R.row2 F rfl (wanted_some (j := 7) (b := true) rfl rfl rfl (R.at (j1 := 7) (by decide +kernel) (hd 7 (by decide +kernel)) rfl)) (j1 := 8) (j2 := 13) rfl (R.at (by decide +kernel) (hd 8 (by decide +kernel)) rfl) (R.at (by decide +kernel) (hd 13 (by decide +kernel)) rfl) rfl
      · cases ho; exact R.called F rfl (wanted_some (j := 7) (b := true) rfl rfl rfl (R.at (j1 := 7) (by decide +kernel) (hd 7 (by decide +kernel)) rfl)) (f := 16) (args := #[a'.eval (.tmp 111)]) (by kernel_rfl) (mk_cat (R.at (by decide +kernel) (hd 14 (by decide +kernel)) rfl))
      · cases ho; exact R.load F rfl (wanted_some (j := 7) (b := true) rfl rfl rfl (R.at (j1 := 7) (by decide +kernel) (hd 7 (by decide +kernel)) rfl)) (p := 3) rfl (fun j hj => by show (if j = 51 then 6 else 97 + j) ≠ 3; split <;> omega) rfl HBa2.out HKa2.out rfl
      · cases ho; exact R.load F rfl (wanted_some (j := 7) (b := true) rfl rfl rfl (R.at (j1 := 7) (by decide +kernel) (hd 7 (by decide +kernel)) rfl)) (p := 4) rfl (fun j hj => by show (if j = 51 then 6 else 97 + j) ≠ 4; split <;> omega) rfl HBb2.out HKb2.out rfl
      · cases ho; exact R.row2 F rfl (wanted_some (j := 7) (b := true) rfl rfl rfl (R.at (j1 := 7) (by decide +kernel) (hd 7 (by decide +kernel)) rfl)) (j1 := 16) (j2 := 17) rfl (R.at (by decide +kernel) (hd 16 (by decide +kernel)) rfl) (R.at (by decide +kernel) (hd 17 (by decide +kernel)) rfl) rfl
      · cases ho; exact R.called F rfl (wanted_some (j := 7) (b := true) rfl rfl rfl (R.at (j1 := 7) (by decide +kernel) (hd 7 (by decide +kernel)) rfl)) (f := 16) (args := #[a'.eval (.tmp 115)]) (by kernel_rfl) (mk_cat (R.at (by decide +kernel) (hd 18 (by decide +kernel)) rfl))
      · cases ho; exact R.called F rfl (wanted_some (j := 7) (b := true) rfl rfl rfl (R.at (j1 := 7) (by decide +kernel) (hd 7 (by decide +kernel)) rfl)) (f := 18) (args := #[a'.eval (.tmp 116)]) (by kernel_rfl) (mk_star (R.at (by decide +kernel) (hd 19 (by decide +kernel)) rfl))
      · cases ho; exact R.load F rfl (wanted_some (j := 7) (b := true) rfl rfl rfl (R.at (j1 := 7) (by decide +kernel) (hd 7 (by decide +kernel)) rfl)) (p := 3) rfl (fun j hj => by show (if j = 51 then 6 else 97 + j) ≠ 3; split <;> omega) rfl HBa2.out HKa2.out rfl
      · cases ho; exact R.row2 F rfl (wanted_some (j := 7) (b := true) rfl rfl rfl (R.at (j1 := 7) (by decide +kernel) (hd 7 (by decide +kernel)) rfl)) (j1 := 20) (j2 := 21) rfl (R.at (by decide +kernel) (hd 20 (by decide +kernel)) rfl) (R.at (by decide +kernel) (hd 21 (by decide +kernel)) rfl) rfl
      · cases ho; exact R.called F rfl (wanted_some (j := 7) (b := true) rfl rfl rfl (R.at (j1 := 7) (by decide +kernel) (hd 7 (by decide +kernel)) rfl)) (f := 16) (args := #[a'.eval (.tmp 119)]) (by kernel_rfl) (mk_cat (R.at (by decide +kernel) (hd 22 (by decide +kernel)) rfl))
      · cases ho; exact R.move F rfl (wanted_some (j := 7) (b := true) rfl rfl rfl (R.at (j1 := 7) (by decide +kernel) (hd 7 (by decide +kernel)) rfl)) (x := .tmp 2) (y := .text s) (.inl rfl) (R.slot (fun j hj => by show (if j = 51 then 6 else 97 + j) ≠ 2; split <;> omega) rfl) rfl
      · cases ho; exact R.called F rfl (wanted_some (j := 7) (b := true) rfl rfl rfl (R.at (j1 := 7) (by decide +kernel) (hd 7 (by decide +kernel)) rfl)) (f := 17) (args := #[a'.eval (.tmp 112), a'.eval (.tmp 120), a'.eval (.tmp 121)]) (by kernel_rfl) (mk_same (R.at (by decide +kernel) (hd 15 (by decide +kernel)) rfl) (R.at (by decide +kernel) (hd 23 (by decide +kernel)) rfl) (R.at (by decide +kernel) (hd 24 (by decide +kernel)) rfl) HS T6)
      · cases ho; exact R.pick F rfl (wanted_none rfl) (c := .tmp 104) (b := true) rfl (R.at (by decide +kernel) (hd 7 (by decide +kernel)) rfl) (R.at (by decide +kernel) (hd 25 (by decide +kernel)) rfl) rfl
      · cases ho; exact R.move F rfl (wanted_none rfl) (x := .tmp 123) (.inl rfl) (R.at (by decide +kernel) (hd 26 (by decide +kernel)) rfl) rfl
      · cases ho; exact R.load F rfl (wanted_some (j := 27) (b := true) rfl rfl rfl (R.at (j1 := 27) (by decide +kernel) (hd 27 (by decide +kernel)) rfl)) (p := 3) rfl (fun j hj => by show (if j = 51 then 6 else 97 + j) ≠ 3; split <;> omega) rfl HBa2.out HKa2.out rfl
      · cases ho; exact R.load F rfl (wanted_some (j := 27) (b := true) rfl rfl rfl (R.at (j1 := 27) (by decide +kernel) (hd 27 (by decide +kernel)) rfl)) (p := 4) rfl (fun j hj => by show (if j = 51 then 6 else 97 + j) ≠ 4; split <;> omega) rfl HBb2.out HKb2.out rfl
      · cases ho; exact R.row2 F rfl (wanted_some (j := 27) (b := true) rfl rfl rfl (R.at (j1 := 27) (by decide +kernel) (hd 27 (by decide +kernel)) rfl)) (j1 := 28) (j2 := 29) rfl (R.at (by decide +kernel) (hd 28 (by decide +kernel)) rfl) (R.at (by decide +kernel) (hd 29 (by decide +kernel)) rfl) rfl
      · cases ho; exact R.called F rfl (wanted_some (j := 27) (b := true) rfl rfl rfl (R.at (j1 := 27) (by decide +kernel) (hd 27 (by decide +kernel)) rfl)) (f := 19) (args := #[a'.eval (.tmp 127)]) (by kernel_rfl) (mk_alt (R.at (by decide +kernel) (hd 30 (by decide +kernel)) rfl))
      · cases ho; exact R.load F rfl (wanted_some (j := 27) (b := true) rfl rfl rfl (R.at (j1 := 27) (by decide +kernel) (hd 27 (by decide +kernel)) rfl)) (p := 4) rfl (fun j hj => by show (if j = 51 then 6 else 97 + j) ≠ 4; split <;> omega) rfl HBb2.out HKb2.out rfl
      · cases ho; exact R.load F rfl (wanted_some (j := 27) (b := true) rfl rfl rfl (R.at (j1 := 27) (by decide +kernel) (hd 27 (by decide +kernel)) rfl)) (p := 3) rfl (fun j hj => by show (if j = 51 then 6 else 97 + j) ≠ 3; split <;> omega) rfl HBa2.out HKa2.out rfl
      · cases ho; exact R.row2 F rfl (wanted_some (j := 27) (b := true) rfl rfl rfl (R.at (j1 := 27) (by decide +kernel) (hd 27 (by decide +kernel)) rfl)) (j1 := 32) (j2 := 33) rfl (R.at (by decide +kernel) (hd 32 (by decide +kernel)) rfl) (R.at (by decide +kernel) (hd 33 (by decide +kernel)) rfl) rfl
      · cases ho; exact R.called F rfl (wanted_some (j := 27) (b := true) rfl rfl rfl (R.at (j1 := 27) (by decide +kernel) (hd 27 (by decide +kernel)) rfl)) (f := 19) (args := #[a'.eval (.tmp 131)]) (by kernel_rfl) (mk_alt (R.at (by decide +kernel) (hd 34 (by decide +kernel)) rfl))
      · cases ho; exact R.move F rfl (wanted_some (j := 27) (b := true) rfl rfl rfl (R.at (j1 := 27) (by decide +kernel) (hd 27 (by decide +kernel)) rfl)) (x := .tmp 2) (y := .text s) (.inl rfl) (R.slot (fun j hj => by show (if j = 51 then 6 else 97 + j) ≠ 2; split <;> omega) rfl) rfl
      · cases ho; exact R.called F rfl (wanted_some (j := 27) (b := true) rfl rfl rfl (R.at (j1 := 27) (by decide +kernel) (hd 27 (by decide +kernel)) rfl)) (f := 17) (args := #[a'.eval (.tmp 128), a'.eval (.tmp 132), a'.eval (.tmp 133)]) (by kernel_rfl) (mk_same (R.at (by decide +kernel) (hd 31 (by decide +kernel)) rfl) (R.at (by decide +kernel) (hd 35 (by decide +kernel)) rfl) (R.at (by decide +kernel) (hd 36 (by decide +kernel)) rfl) HS T7)
      · cases ho; exact R.pick F rfl (wanted_none rfl) (c := .tmp 124) (b := true) rfl (R.at (by decide +kernel) (hd 27 (by decide +kernel)) rfl) (R.at (by decide +kernel) (hd 37 (by decide +kernel)) rfl) rfl
      · cases ho; exact R.move F rfl (wanted_none rfl) (x := .tmp 135) (.inl rfl) (R.at (by decide +kernel) (hd 38 (by decide +kernel)) rfl) rfl
      · cases ho; exact R.load F rfl (wanted_some (j := 39) (b := true) rfl rfl rfl (R.at (j1 := 39) (by decide +kernel) (hd 39 (by decide +kernel)) rfl)) (p := 3) rfl (fun j hj => by show (if j = 51 then 6 else 97 + j) ≠ 3; split <;> omega) rfl HBa2.out HKa2.out rfl
      · cases ho; exact R.called F rfl (wanted_some (j := 39) (b := true) rfl rfl rfl (R.at (j1 := 39) (by decide +kernel) (hd 39 (by decide +kernel)) rfl)) (f := 18) (args := #[a'.eval (.tmp 137)]) (by kernel_rfl) (mk_star (R.at (by decide +kernel) (hd 40 (by decide +kernel)) rfl))
      · cases ho; exact R.load F rfl (wanted_some (j := 39) (b := true) rfl rfl rfl (R.at (j1 := 39) (by decide +kernel) (hd 39 (by decide +kernel)) rfl)) (p := 3) rfl (fun j hj => by show (if j = 51 then 6 else 97 + j) ≠ 3; split <;> omega) rfl HBa2.out HKa2.out rfl
      · cases ho; exact R.called F rfl (wanted_some (j := 39) (b := true) rfl rfl rfl (R.at (j1 := 39) (by decide +kernel) (hd 39 (by decide +kernel)) rfl)) (f := 18) (args := #[a'.eval (.tmp 139)]) (by kernel_rfl) (mk_star (R.at (by decide +kernel) (hd 42 (by decide +kernel)) rfl))
      · cases ho; exact R.row2 F rfl (wanted_some (j := 39) (b := true) rfl rfl rfl (R.at (j1 := 39) (by decide +kernel) (hd 39 (by decide +kernel)) rfl)) (j1 := 41) (j2 := 43) rfl (R.at (by decide +kernel) (hd 41 (by decide +kernel)) rfl) (R.at (by decide +kernel) (hd 43 (by decide +kernel)) rfl) rfl
      · cases ho; exact R.called F rfl (wanted_some (j := 39) (b := true) rfl rfl rfl (R.at (j1 := 39) (by decide +kernel) (hd 39 (by decide +kernel)) rfl)) (f := 16) (args := #[a'.eval (.tmp 141)]) (by kernel_rfl) (mk_cat (R.at (by decide +kernel) (hd 44 (by decide +kernel)) rfl))
      · cases ho; exact R.load F rfl (wanted_some (j := 39) (b := true) rfl rfl rfl (R.at (j1 := 39) (by decide +kernel) (hd 39 (by decide +kernel)) rfl)) (p := 3) rfl (fun j hj => by show (if j = 51 then 6 else 97 + j) ≠ 3; split <;> omega) rfl HBa2.out HKa2.out rfl
      · cases ho; exact R.called F rfl (wanted_some (j := 39) (b := true) rfl rfl rfl (R.at (j1 := 39) (by decide +kernel) (hd 39 (by decide +kernel)) rfl)) (f := 18) (args := #[a'.eval (.tmp 143)]) (by kernel_rfl) (mk_star (R.at (by decide +kernel) (hd 46 (by decide +kernel)) rfl))
      · cases ho; exact R.move F rfl (wanted_some (j := 39) (b := true) rfl rfl rfl (R.at (j1 := 39) (by decide +kernel) (hd 39 (by decide +kernel)) rfl)) (x := .tmp 2) (y := .text s) (.inl rfl) (R.slot (fun j hj => by show (if j = 51 then 6 else 97 + j) ≠ 2; split <;> omega) rfl) rfl
      · cases ho; exact R.called F rfl (wanted_some (j := 39) (b := true) rfl rfl rfl (R.at (j1 := 39) (by decide +kernel) (hd 39 (by decide +kernel)) rfl)) (f := 17) (args := #[a'.eval (.tmp 142), a'.eval (.tmp 144), a'.eval (.tmp 145)]) (by kernel_rfl) (mk_same (R.at (by decide +kernel) (hd 45 (by decide +kernel)) rfl) (R.at (by decide +kernel) (hd 47 (by decide +kernel)) rfl) (R.at (by decide +kernel) (hd 48 (by decide +kernel)) rfl) HS T8)
      · cases ho; exact R.pick F rfl (wanted_none rfl) (c := .tmp 136) (b := true) rfl (R.at (by decide +kernel) (hd 39 (by decide +kernel)) rfl) (R.at (by decide +kernel) (hd 49 (by decide +kernel)) rfl) rfl
      · cases ho; exact R.move F rfl (wanted_none rfl) (x := .tmp 147) (.inr rfl) (R.at (by decide +kernel) (hd 50 (by decide +kernel)) rfl) rfl
    · intro u w' g hO
      have h6 : u 6 = .bool true := hO 51 (by decide +kernel)
      have GG := Lib.hid g
      clear g hO
      simp only [List.map_cons, List.map_nil, putL, List.foldl_cons, List.foldl_nil, h6]
      clear h6
      go_simp
      go_wp2_with fail
      go_ret
      exact ⟨rfl, G2.out.trans (Z10.out.trans GG.out)⟩
end Go.Proofs.YtlkjejmmoalliaaDoor
