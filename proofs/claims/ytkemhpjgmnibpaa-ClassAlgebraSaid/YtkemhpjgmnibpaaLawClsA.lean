/- The sets of bytes are a Boolean algebra. -/
import Derived.Test.YtkemhpjgmnibpaaClsF
import Derived.Deep.CutRange
import Derived.IntWalk
namespace Go.Proofs.Ytkemhpjgmnibpaa.classAlgebra
open Go.RowKit

structure S3 (p q r : Nat) (x y z : BitVec 256) (w : World) : Prop where
  X : SetAt w p x
  Y : SetAt w q y
  Z : SetAt w r z
theorem S3.grown {p q r : Nat} {x y z : BitVec 256} {w w' : World} (h : S3 p q r x y z w) (g : w.grownBy w' none) : S3 p q r x y z w' := ⟨h.X.grown g, h.Y.grown g, h.Z.grown g⟩
theorem S3.alloc {p q r : Nat} {x y z : BitVec 256} {w : World} (h : S3 p q r x y z w) (o : Obj) : S3 p q r x y z (w.alloc o) := h.grown (World.grownBy_alloc _ _ _)
theorem S3.drew {p q r : Nat} {x y z : BitVec 256} {w : World} (h : S3 p q r x y z w) : S3 p q r x y z w.drew := h.grown (grown_drew (World.grownBy.refl _ _))
theorem setAt_set {w : World} {b : Nat} {s : BitVec 256} (h : SetAt w b s) (c o : Nat) (v : Value) (hc : c ≠ b) : SetAt (w.setCell ⟨c, o, none⟩ v) b s :=
  ⟨(World.cell?_setCell_far w ⟨c, o, none⟩ ⟨b, 0, none⟩ v hc).trans h.c0, (World.cell?_setCell_far w ⟨c, o, none⟩ ⟨b, 1, none⟩ v hc).trans h.c1, (World.cell?_setCell_far w ⟨c, o, none⟩ ⟨b, 2, none⟩ v hc).trans h.c2, (World.cell?_setCell_far w ⟨c, o, none⟩ ⟨b, 3, none⟩ v hc).trans h.c3⟩
theorem S3.set {p q r : Nat} {x y z : BitVec 256} {w : World} (h : S3 p q r x y z w) (c o : Nat) (v : Value) (h1 : c ≠ p) (h2 : c ≠ q) (h3 : c ≠ r) : S3 p q r x y z (w.setCell ⟨c, o, none⟩ v) :=
  ⟨setAt_set h.X c o v h1, setAt_set h.Y c o v h2, setAt_set h.Z c o v h3⟩
theorem S3.out {p q r : Nat} {x y z : BitVec 256} {w' : World} (h : S3 p q r x y z w') : w'.cell? ⟨p, 0, none⟩ = some (.int .u64 (wd x 0)) ∧ w'.cell? ⟨p, 1, none⟩ = some (.int .u64 (wd x 1)) ∧ w'.cell? ⟨p, 2, none⟩ = some (.int .u64 (wd x 2)) ∧ w'.cell? ⟨p, 3, none⟩ = some (.int .u64 (wd x 3)) ∧
      w'.cell? ⟨q, 0, none⟩ = some (.int .u64 (wd y 0)) ∧ w'.cell? ⟨q, 1, none⟩ = some (.int .u64 (wd y 1)) ∧ w'.cell? ⟨q, 2, none⟩ = some (.int .u64 (wd y 2)) ∧ w'.cell? ⟨q, 3, none⟩ = some (.int .u64 (wd y 3)) ∧
      w'.cell? ⟨r, 0, none⟩ = some (.int .u64 (wd z 0)) ∧ w'.cell? ⟨r, 1, none⟩ = some (.int .u64 (wd z 1)) ∧ w'.cell? ⟨r, 2, none⟩ = some (.int .u64 (wd z 2)) ∧ w'.cell? ⟨r, 3, none⟩ = some (.int .u64 (wd z 3)) :=
  ⟨h.X.c0, h.X.c1, h.X.c2, h.X.c3, h.Y.c0, h.Y.c1, h.Y.c2, h.Y.c3, h.Z.c0, h.Z.c1, h.Z.c2, h.Z.c3⟩

theorem eqT {A B : BitVec 256} (h : A = B) (w : World) : (Op.equalIn 10000 27 (setV A) (setV B)).run Try.prog w = .ok true w := by
  rw [eq_run 27 Try.underlying27, h]; simp
theorem a1 (x y : BitVec 256) : no (un x y) = me (no x) (no y) := inn_ext fun b hb => by
  rw [inn_no _ _ hb, inn_un, inn_me, inn_no _ _ hb, inn_no _ _ hb]; cases inn x b <;> cases inn y b <;> rfl
theorem a2 (x y : BitVec 256) : no (me x y) = un (no x) (no y) := inn_ext fun b hb => by
  rw [inn_no _ _ hb, inn_un, inn_me, inn_no _ _ hb, inn_no _ _ hb]; cases inn x b <;> cases inn y b <;> rfl
theorem a3 (x : BitVec 256) : no (no x) = x := inn_ext fun b hb => by
  rw [inn_no _ _ hb, inn_no _ _ hb]; cases inn x b <;> rfl
theorem a4 (x y : BitVec 256) : un x y = un y x := inn_ext fun b _ => by
  rw [inn_un, inn_un]; cases inn x b <;> cases inn y b <;> rfl
theorem a5 (x y z : BitVec 256) : me x (un y z) = un (me x y) (me x z) := inn_ext fun b _ => by
  rw [inn_me, inn_un, inn_un, inn_me, inn_me]; cases inn x b <;> cases inn y b <;> cases inn z b <;> rfl
theorem a6 (x y : BitVec 256) : un x (me x y) = x := inn_ext fun b _ => by
  rw [inn_un, inn_me]; cases inn x b <;> cases inn y b <;> rfl
theorem a7 (x : BitVec 256) : un x (no x) = no emp := inn_ext fun b hb => by
  rw [inn_un, inn_no _ _ hb, inn_no _ _ hb, inn_emp]; cases inn x b <;> rfl
theorem a8 (x : BitVec 256) : me x (no x) = emp := inn_ext fun b hb => by
  rw [inn_me, inn_no _ _ hb, inn_emp]; cases inn x b <;> rfl
theorem a9 (x y : BitVec 256) : me x (un x y) = x := inn_ext fun b _ => by
  rw [inn_me, inn_un]; cases inn x b <;> cases inn y b <;> rfl
theorem b1 (f g : Nat → Bool) : ∀ l : List Nat, l.countP (fun b => f b || g b) + l.countP (fun b => f b && g b) = l.countP f + l.countP g
  | [] => rfl
  | b :: l => by
    have := b1 f g l
    rw [List.countP_cons, List.countP_cons, List.countP_cons, List.countP_cons]
    cases f b <;> cases g b <;> simp <;> omega
theorem a10 (x y : BitVec 256) : cnt (un x y) + cnt (me x y) = cnt x + cnt y := by
  rw [cnt_eq (fun b _ => inn_un x y b), cnt_eq (fun b _ => inn_me x y b)]
  exact b1 (inn x) (inn y) _
theorem a11 (x y : BitVec 256) (h1 : me x y = x) (h2 : me y x = y) : x = y := by
  rw [← h1]
  refine Eq.trans (inn_ext fun b _ => ?_) h2
  rw [inn_me, inn_me]; cases inn x b <;> cases inn y b <;> rfl

set_option maxRecDepth 100000 in
set_option maxHeartbeats 4000000 in
theorem walk (x y z : BitVec 256) (w : World) :
    Calls Try.prog 5 #[setV x, setV y, setV z] w fun e w' => e = .returned (.bool true) ∧ w.grownBy w' none := by
  go_enter Try.func5, Try.ntmps5
  go_upto_region 1 with fail
  obtain ⟨b1, b2, b3, g⟩ := heap3 w (.cells #[.int .u64 (wd x 0), .int .u64 (wd x 1), .int .u64 (wd x 2), .int .u64 (wd x 3)] 26) (.cells #[.int .u64 (wd y 0), .int .u64 (wd y 1), .int .u64 (wd y 2), .int .u64 (wd y 3)] 26) (.cells #[.int .u64 (wd z 0), .int .u64 (wd z 1), .int .u64 (wd z 2), .int .u64 (wd z 3)] 26)
  generalize (((w.alloc _).alloc _).alloc _) = w1 at b1 b2 b3 g ⊢
  generalize w.heap.size + 1 + 1 = r at b3 ⊢
  generalize w.heap.size + 1 = q at b2 ⊢
  generalize w.heap.size = p at b1 ⊢
  have X1 := set_of_block b1; have Y1 := set_of_block b2; have Z1 := set_of_block b3; have G1 := Lib.hid g
  clear b1 b2 b3 g
  go_wp2_with fail
  refine (lAlive6 _).mono ?_
  rintro e w2 ⟨rfl, g2⟩
  obtain ⟨x0, x1, x2, x3⟩ := X1.grown g2
  obtain ⟨y0, y1, y2, y3⟩ := Y1.grown g2
  obtain ⟨z0, z1, z2, z3⟩ := Z1.grown g2
  have G2 := Lib.hid (G1.out.trans g2)
  have HS := Lib.hid (show S3 p q r x y z w2 from ⟨X1.grown g2, Y1.grown g2, Z1.grown g2⟩)
  have lp := (X1.grown g2).lt; have lq := (Y1.grown g2).lt; have lr := (Z1.grown g2).lt
  clear g2 X1 Y1 Z1 G1
  go_upto_region 3 with fail
  go_cut [7, 8, 9] from 12 to 14 (fun s7 s8 s9 wx => ∃ a b c : Nat, s7 = .pointer (some ⟨a, 0, none⟩) ∧ s8 = .pointer (some ⟨b, 0, none⟩) ∧ s9 = .pointer (some ⟨c, 0, none⟩) ∧ Hid (SetAt wx a x ∧ SetAt wx b y ∧ SetAt wx c z) ∧ Hid (w2.grownBy wx none))
  case first =>
    go_region_held3 (fun w' => w'.cell? ⟨p, 0, none⟩ = some (.int .u64 (wd x 0)) ∧ w'.cell? ⟨p, 1, none⟩ = some (.int .u64 (wd x 1)) ∧ w'.cell? ⟨p, 2, none⟩ = some (.int .u64 (wd x 2)) ∧ w'.cell? ⟨p, 3, none⟩ = some (.int .u64 (wd x 3)) ∧
      w'.cell? ⟨q, 0, none⟩ = some (.int .u64 (wd y 0)) ∧ w'.cell? ⟨q, 1, none⟩ = some (.int .u64 (wd y 1)) ∧ w'.cell? ⟨q, 2, none⟩ = some (.int .u64 (wd y 2)) ∧ w'.cell? ⟨q, 3, none⟩ = some (.int .u64 (wd y 3)) ∧
      w'.cell? ⟨r, 0, none⟩ = some (.int .u64 (wd z 0)) ∧ w'.cell? ⟨r, 1, none⟩ = some (.int .u64 (wd z 1)) ∧ w'.cell? ⟨r, 2, none⟩ = some (.int .u64 (wd z 2)) ∧ w'.cell? ⟨r, 3, none⟩ = some (.int .u64 (wd z 3)))
      ((refine S3.out ?_; repeat (first | exact HS.out | refine S3.drew ?_ | refine S3.alloc ?_ _ | refine S3.set ?_ _ _ _ (by simp; omega) (by simp; omega) (by simp; omega)))) (fail)
    all_goals (go_wp2_with fail; go_meet; refine ⟨_, _, _, rfl, rfl, rfl, Lib.hid ⟨?_, ?_, ?_⟩, Lib.hid (grown_drew (heap3 w2 _ _ _).2.2.2)⟩)
    all_goals (refine SetAt.grown ?_ (grown_drew (World.grownBy.refl _ _)); first | exact set_of_block (heap3 w2 _ _ _).1 | exact set_of_block (heap3 w2 _ _ _).2.1 | exact set_of_block (heap3 w2 _ _ _).2.2.1)
  case rest =>
    obtain ⟨a, b, c, rfl, rfl, rfl, hs, hg⟩ := hcut
    have G3 := Lib.hid (G2.out.trans hg.out)
    clear x0 x1 x2 x3 y0 y1 y2 y3 z0 z1 z2 z3 HS lp lq lr G2 hg
    have k0 : ∀ u : Gr wc, u.W.cell? ⟨a, 0, none⟩ = some (.int .u64 (wd x 0)) := fun u => (hs.out.1.grown u.g).c0
    have k1 : ∀ u : Gr wc, u.W.cell? ⟨a, 1, none⟩ = some (.int .u64 (wd x 1)) := fun u => (hs.out.1.grown u.g).c1
    have k2 : ∀ u : Gr wc, u.W.cell? ⟨a, 2, none⟩ = some (.int .u64 (wd x 2)) := fun u => (hs.out.1.grown u.g).c2
    have k3 : ∀ u : Gr wc, u.W.cell? ⟨a, 3, none⟩ = some (.int .u64 (wd x 3)) := fun u => (hs.out.1.grown u.g).c3
    have l0 : ∀ u : Gr wc, u.W.cell? ⟨b, 0, none⟩ = some (.int .u64 (wd y 0)) := fun u => (hs.out.2.1.grown u.g).c0
    have l1 : ∀ u : Gr wc, u.W.cell? ⟨b, 1, none⟩ = some (.int .u64 (wd y 1)) := fun u => (hs.out.2.1.grown u.g).c1
    have l2 : ∀ u : Gr wc, u.W.cell? ⟨b, 2, none⟩ = some (.int .u64 (wd y 2)) := fun u => (hs.out.2.1.grown u.g).c2
    have l3 : ∀ u : Gr wc, u.W.cell? ⟨b, 3, none⟩ = some (.int .u64 (wd y 3)) := fun u => (hs.out.2.1.grown u.g).c3
    have m0 : ∀ u : Gr wc, u.W.cell? ⟨c, 0, none⟩ = some (.int .u64 (wd z 0)) := fun u => (hs.out.2.2.grown u.g).c0
    have m1 : ∀ u : Gr wc, u.W.cell? ⟨c, 1, none⟩ = some (.int .u64 (wd z 1)) := fun u => (hs.out.2.2.grown u.g).c1
    have m2 : ∀ u : Gr wc, u.W.cell? ⟨c, 2, none⟩ = some (.int .u64 (wd z 2)) := fun u => (hs.out.2.2.grown u.g).c2
    have m3 : ∀ u : Gr wc, u.W.cell? ⟨c, 3, none⟩ = some (.int .u64 (wd z 3)) := fun u => (hs.out.2.2.grown u.g).c3
    have inst : Nonempty (Gr wc) := ⟨⟨wc, World.grownBy.refl _ _⟩⟩
    have q1 := eqT (a1 x y); have q2 := eqT (a2 x y); have q3 := eqT (a3 x)
    go_upto_region 4 with fail
    refine wp_region_grows (by kernel_rfl) (by kernel_rfl) ?_
    repeat (go_big_quiet_step (first
      | (go_at_call 10; refine (cUnion _ _ _).mono ?_; rintro e w9 ⟨he, g9⟩; exact ⟨he, ⟨_, (Gr.g _).trans g9⟩, rfl⟩)
      | (go_at_call 11; refine (cMeet _ _ _).mono ?_; rintro e w9 ⟨he, g9⟩; exact ⟨he, ⟨_, (Gr.g _).trans g9⟩, rfl⟩)
      | (go_at_call 12; refine (cNot _ _).mono ?_; rintro e w9 ⟨he, g9⟩; exact ⟨he, ⟨_, (Gr.g _).trans g9⟩, rfl⟩)
      | (go_at_call 19; refine (cAll _).mono ?_; rintro e w9 ⟨he, g9⟩; exact ⟨he, ⟨_, (Gr.g _).trans g9⟩, rfl⟩)
      | (go_at_call 17; refine (cEmpty _ _).mono ?_; rintro e w9 ⟨he, g9⟩; exact ⟨he, ⟨_, (Gr.g _).trans g9⟩, rfl⟩)
      | (go_at_call 16; refine (cCount _ _).mono ?_; rintro e w9 ⟨he, g9⟩; exact ⟨he, ⟨_, (Gr.g _).trans g9⟩, rfl⟩)
      | (go_at_call 18; refine (cWithin _ _ _).mono ?_; rintro e w9 ⟨he, g9⟩; exact ⟨he, ⟨_, (Gr.g _).trans g9⟩, rfl⟩)))
    refine wpQuiet_nil ?_
    rintro wd4 ⟨⟨_, gg⟩, rfl⟩
    have hs4 := Lib.hid (show SetAt wd4 a x ∧ SetAt wd4 b y ∧ SetAt wd4 c z from ⟨hs.out.1.grown gg, hs.out.2.1.grown gg, hs.out.2.2.grown gg⟩)
    have G4 := Lib.hid (G3.out.trans gg)
    clear gg
    clear k0 k1 k2 k3 l0 l1 l2 l3 m0 m1 m2 m3 inst
    clear q1 q2 q3 hs G3
    have k0 : ∀ u : Gr wd4, u.W.cell? ⟨a, 0, none⟩ = some (.int .u64 (wd x 0)) := fun u => (hs4.out.1.grown u.g).c0
    have k1 : ∀ u : Gr wd4, u.W.cell? ⟨a, 1, none⟩ = some (.int .u64 (wd x 1)) := fun u => (hs4.out.1.grown u.g).c1
    have k2 : ∀ u : Gr wd4, u.W.cell? ⟨a, 2, none⟩ = some (.int .u64 (wd x 2)) := fun u => (hs4.out.1.grown u.g).c2
    have k3 : ∀ u : Gr wd4, u.W.cell? ⟨a, 3, none⟩ = some (.int .u64 (wd x 3)) := fun u => (hs4.out.1.grown u.g).c3
    have l0 : ∀ u : Gr wd4, u.W.cell? ⟨b, 0, none⟩ = some (.int .u64 (wd y 0)) := fun u => (hs4.out.2.1.grown u.g).c0
    have l1 : ∀ u : Gr wd4, u.W.cell? ⟨b, 1, none⟩ = some (.int .u64 (wd y 1)) := fun u => (hs4.out.2.1.grown u.g).c1
    have l2 : ∀ u : Gr wd4, u.W.cell? ⟨b, 2, none⟩ = some (.int .u64 (wd y 2)) := fun u => (hs4.out.2.1.grown u.g).c2
    have l3 : ∀ u : Gr wd4, u.W.cell? ⟨b, 3, none⟩ = some (.int .u64 (wd y 3)) := fun u => (hs4.out.2.1.grown u.g).c3
    have m0 : ∀ u : Gr wd4, u.W.cell? ⟨c, 0, none⟩ = some (.int .u64 (wd z 0)) := fun u => (hs4.out.2.2.grown u.g).c0
    have m1 : ∀ u : Gr wd4, u.W.cell? ⟨c, 1, none⟩ = some (.int .u64 (wd z 1)) := fun u => (hs4.out.2.2.grown u.g).c1
    have m2 : ∀ u : Gr wd4, u.W.cell? ⟨c, 2, none⟩ = some (.int .u64 (wd z 2)) := fun u => (hs4.out.2.2.grown u.g).c2
    have m3 : ∀ u : Gr wd4, u.W.cell? ⟨c, 3, none⟩ = some (.int .u64 (wd z 3)) := fun u => (hs4.out.2.2.grown u.g).c3
    have inst : Nonempty (Gr wd4) := ⟨⟨wd4, World.grownBy.refl _ _⟩⟩
    have q1 := eqT (a4 x y); have q2 := eqT (a5 x y z); have q3 := eqT (a6 x y); have q4 := eqT (a7 x)
    go_upto_region 6 with fail
    refine wp_region_grows (by kernel_rfl) (by kernel_rfl) ?_
    repeat (go_big_quiet_step (first
      | (go_at_call 10; refine (cUnion _ _ _).mono ?_; rintro e w9 ⟨he, g9⟩; exact ⟨he, ⟨_, (Gr.g _).trans g9⟩, rfl⟩)
      | (go_at_call 11; refine (cMeet _ _ _).mono ?_; rintro e w9 ⟨he, g9⟩; exact ⟨he, ⟨_, (Gr.g _).trans g9⟩, rfl⟩)
      | (go_at_call 12; refine (cNot _ _).mono ?_; rintro e w9 ⟨he, g9⟩; exact ⟨he, ⟨_, (Gr.g _).trans g9⟩, rfl⟩)
      | (go_at_call 19; refine (cAll _).mono ?_; rintro e w9 ⟨he, g9⟩; exact ⟨he, ⟨_, (Gr.g _).trans g9⟩, rfl⟩)
      | (go_at_call 17; refine (cEmpty _ _).mono ?_; rintro e w9 ⟨he, g9⟩; exact ⟨he, ⟨_, (Gr.g _).trans g9⟩, rfl⟩)
      | (go_at_call 16; refine (cCount _ _).mono ?_; rintro e w9 ⟨he, g9⟩; exact ⟨he, ⟨_, (Gr.g _).trans g9⟩, rfl⟩)
      | (go_at_call 18; refine (cWithin _ _ _).mono ?_; rintro e w9 ⟨he, g9⟩; exact ⟨he, ⟨_, (Gr.g _).trans g9⟩, rfl⟩)))
    refine wpQuiet_nil ?_
    rintro wd6 ⟨⟨_, gg⟩, rfl⟩
    have hs6 := Lib.hid (show SetAt wd6 a x ∧ SetAt wd6 b y ∧ SetAt wd6 c z from ⟨hs4.out.1.grown gg, hs4.out.2.1.grown gg, hs4.out.2.2.grown gg⟩)
    have G6 := Lib.hid (G4.out.trans gg)
    clear gg
    clear k0 k1 k2 k3 l0 l1 l2 l3 m0 m1 m2 m3 inst
    clear q1 q2 q3 q4 hs4 G4
    have k0 : ∀ u : Gr wd6, u.W.cell? ⟨a, 0, none⟩ = some (.int .u64 (wd x 0)) := fun u => (hs6.out.1.grown u.g).c0
    have k1 : ∀ u : Gr wd6, u.W.cell? ⟨a, 1, none⟩ = some (.int .u64 (wd x 1)) := fun u => (hs6.out.1.grown u.g).c1
    have k2 : ∀ u : Gr wd6, u.W.cell? ⟨a, 2, none⟩ = some (.int .u64 (wd x 2)) := fun u => (hs6.out.1.grown u.g).c2
    have k3 : ∀ u : Gr wd6, u.W.cell? ⟨a, 3, none⟩ = some (.int .u64 (wd x 3)) := fun u => (hs6.out.1.grown u.g).c3
    have l0 : ∀ u : Gr wd6, u.W.cell? ⟨b, 0, none⟩ = some (.int .u64 (wd y 0)) := fun u => (hs6.out.2.1.grown u.g).c0
    have l1 : ∀ u : Gr wd6, u.W.cell? ⟨b, 1, none⟩ = some (.int .u64 (wd y 1)) := fun u => (hs6.out.2.1.grown u.g).c1
    have l2 : ∀ u : Gr wd6, u.W.cell? ⟨b, 2, none⟩ = some (.int .u64 (wd y 2)) := fun u => (hs6.out.2.1.grown u.g).c2
    have l3 : ∀ u : Gr wd6, u.W.cell? ⟨b, 3, none⟩ = some (.int .u64 (wd y 3)) := fun u => (hs6.out.2.1.grown u.g).c3
    have m0 : ∀ u : Gr wd6, u.W.cell? ⟨c, 0, none⟩ = some (.int .u64 (wd z 0)) := fun u => (hs6.out.2.2.grown u.g).c0
    have m1 : ∀ u : Gr wd6, u.W.cell? ⟨c, 1, none⟩ = some (.int .u64 (wd z 1)) := fun u => (hs6.out.2.2.grown u.g).c1
    have m2 : ∀ u : Gr wd6, u.W.cell? ⟨c, 2, none⟩ = some (.int .u64 (wd z 2)) := fun u => (hs6.out.2.2.grown u.g).c2
    have m3 : ∀ u : Gr wd6, u.W.cell? ⟨c, 3, none⟩ = some (.int .u64 (wd z 3)) := fun u => (hs6.out.2.2.grown u.g).c3
    have inst : Nonempty (Gr wd6) := ⟨⟨wd6, World.grownBy.refl _ _⟩⟩
    have E1 := Lib.hid (fun w => (show (me x (no x) == emp) = true by rw [a8]; simp) ▸ cEmpty (me x (no x)) w)
    have W1 := Lib.hid (fun w => (show (me x (un x y) == x) = true by rw [a9]; simp) ▸ cWithin x (un x y) w)
    have W2 := Lib.hid (fun w => cWithin x y w)
    have W3 := Lib.hid (fun w => cWithin y x w)
    have s0 := a10 x y
    have t1 := cnt_le (un x y); have t2 := cnt_le (me x y); have t3 := cnt_le x; have t4 := cnt_le y
    have v1 : IntKind.i64.wrap ((cnt (un x y) : Int) + (cnt (me x y) : Int)) = (cnt (un x y) : Int) + (cnt (me x y) : Int) := IntWalk.i64_in _ (by omega)
    have v2 : IntKind.i64.wrap ((cnt x : Int) + (cnt y : Int)) = (cnt x : Int) + (cnt y : Int) := IntWalk.i64_in _ (by omega)
    have r3 : ((cnt (un x y) : Int) + (cnt (me x y) : Int) == (cnt x : Int) + (cnt y : Int)) = true := by simp; omega
    clear s0 t1 t2 t3 t4
    have q1 := eq_run 27 Try.underlying27 x y
    have hxy : Hid ((x == y) = ((me x y == x) && (me y x == y))) := Lib.hid (by
      rw [Bool.eq_iff_iff]; simp only [beq_iff_eq, Bool.and_eq_true]
      exact ⟨fun h => by subst h; exact ⟨inn_ext fun b _ => by rw [inn_me]; simp, inn_ext fun b _ => by rw [inn_me]; simp⟩, fun h => a11 x y h.1 h.2⟩)
    go_upto_region 8 with fail
    rw [hxy.out] at q1
    clear hxy
    generalize (me x y == x) = v5 at W2 q1
    generalize (me y x == y) = v6 at W3 q1
    cases v5
    all_goals cases v6
    all_goals
      simp only [Bool.and_true, Bool.and_false, Bool.and_self] at q1
      refine wp_region_grows (by kernel_rfl) (by kernel_rfl) ?_
      repeat (go_big_quiet_step (first
        | (go_at_call 10; refine (cUnion _ _ _).mono ?_; rintro e w9 ⟨he, g9⟩; exact ⟨he, ⟨_, (Gr.g _).trans g9⟩, rfl⟩)
        | (go_at_call 11; refine (cMeet _ _ _).mono ?_; rintro e w9 ⟨he, g9⟩; exact ⟨he, ⟨_, (Gr.g _).trans g9⟩, rfl⟩)
        | (go_at_call 12; refine (cNot _ _).mono ?_; rintro e w9 ⟨he, g9⟩; exact ⟨he, ⟨_, (Gr.g _).trans g9⟩, rfl⟩)
        | (go_at_call 19; refine (cAll _).mono ?_; rintro e w9 ⟨he, g9⟩; exact ⟨he, ⟨_, (Gr.g _).trans g9⟩, rfl⟩)
        | (go_at_call 17; refine (E1.out _).mono ?_; rintro e w9 ⟨he, g9⟩; exact ⟨he, ⟨_, (Gr.g _).trans g9⟩, rfl⟩)
        | (go_at_call 16; refine (cCount _ _).mono ?_; rintro e w9 ⟨he, g9⟩; exact ⟨he, ⟨_, (Gr.g _).trans g9⟩, rfl⟩)
        | (go_at_call 18; with_reducible refine (W1.out _).mono ?_; rintro e w9 ⟨he, g9⟩; exact ⟨he, ⟨_, (Gr.g _).trans g9⟩, rfl⟩)
        | (go_at_call 18; with_reducible refine (W2.out _).mono ?_; rintro e w9 ⟨he, g9⟩; exact ⟨he, ⟨_, (Gr.g _).trans g9⟩, rfl⟩)
        | (go_at_call 18; with_reducible refine (W3.out _).mono ?_; rintro e w9 ⟨he, g9⟩; exact ⟨he, ⟨_, (Gr.g _).trans g9⟩, rfl⟩)))
      refine wpQuiet_nil ?_
      rintro wd8 ⟨⟨_, gg⟩, rfl⟩
      go_wp2
      go_ret
      exact ⟨rfl, G6.out.trans gg⟩
end Go.Proofs.Ytkemhpjgmnibpaa.classAlgebra
