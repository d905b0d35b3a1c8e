/- The reader: one, joined, the signs behind an atom; nodes that are handed back. The reader: atoms and groups. The reader: an atom. The reader: an item. -/
import Derived.Test.YtlkjejmmoalliaaGreatDoorRexL
namespace Go.Proofs.YtlkjejmmoalliaaGreatDoor
open Go.RowKit

/-- what a call that reads a part answers: whether there is one, the node, where the reader stands; P says what it means -/
def NdOut (r : Nat) (s : ByteArray) (w : World) (P : Option (Nd × Nat × Nat) → Prop) (e : Ending) (w' : World) : Prop :=
  w.grownBy w' (some r) ∧ ((∃ n a m k, e = .returned (.tuple #[ndV n (.slice a m k), .bool false]) ∧ P none) ∨
    ∃ n a m k j c, e = .returned (.tuple #[ndV n (.slice a m k), .bool true]) ∧ KidsAt w' (fun b => w.heap.size ≤ b) (.slice a m k) n.kids ∧ Rd w' r s j c ∧ P (some (n, j, c)))
theorem seven_far {w : World} {r b o : Nat} {u : Value} (v0 v1 v2 v3 v4 v5 v6 : Value) (hb : b ≠ r) (h : w.cell? ⟨b, o, none⟩ = some u) :
    (((((((w.setCell ⟨r, 0, none⟩ v0).setCell ⟨r, 1, none⟩ v1).setCell ⟨r, 2, none⟩ v2).setCell ⟨r, 3, none⟩ v3).setCell ⟨r, 4, none⟩ v4).setCell ⟨r, 5, none⟩ v5).setCell ⟨r, 6, none⟩ v6).cell? ⟨b, o, none⟩ = some u := set7_far h hb
theorem KidsAt.seven {w : World} {p : Nat → Prop} {v : Value} {l : List Nd} (h : KidsAt w p v l) {r : Nat} (v0 v1 v2 v3 v4 v5 v6 : Value) (hr : ∀ b, p b → b ≠ r) :
    KidsAt (((((((w.setCell ⟨r, 0, none⟩ v0).setCell ⟨r, 1, none⟩ v1).setCell ⟨r, 2, none⟩ v2).setCell ⟨r, 3, none⟩ v3).setCell ⟨r, 4, none⟩ v4).setCell ⟨r, 5, none⟩ v5).setCell ⟨r, 6, none⟩ v6) p v l :=
  h.kept fun b _ _ hb hu => set7_far hu (hr b hb)
/-- kids in blocks that another block's turning leaves -/
theorem KidsAt.over {w w' : World} {p : Nat → Prop} {r : Nat} {v : Value} {l : List Nd} (h : KidsAt w p v l) (g : w.grownBy w' (some r)) (hr : ∀ b, p b → b ≠ r) : KidsAt w' p v l :=
  h.kept fun b _ _ hb hu => g.cell hu (by simp only [ne_eq, Option.some.injEq]; exact hr b hb)
theorem kids_one {w : World} {p : Nat → Prop} {n : Nd} {kv : Value} (T : TypeId) (h : KidsAt w p kv n.kids) (hp : p w.heap.size) (k : Nat) (hk : k = w.heap.size) :
    KidsAt (w.alloc (.cells #[.int .i64 n.kind, .int .i64 n.index, .int .u64 (wd n.set 0), .int .u64 (wd n.set 1), .int .u64 (wd n.set 2), .int .u64 (wd n.set 3), kv] T)) p (.slice (some ⟨k, 0, none⟩) 1 1) [n] := by
  subst hk
  have hb := heap_alloc_new w (.cells #[.int .i64 n.kind, .int .i64 n.index, .int .u64 (wd n.set 0), .int .u64 (wd n.set 1), .int .u64 (wd n.set 2), .int .u64 (wd n.set 3), kv] T)
  obtain ⟨c0, c1, c2, c3, c4, c5, c6⟩ := seven_cells hb
  refine .items _ 0 1 [n] (fun _ => kv) (by simp) hp (by simp) ?_ ?_
  · intro k m hm j u hu
    cases k with
    | succ k => simp at hm
    | zero =>
      simp at hm; subst hm
      unfold cells7 at hu
      match j, hu with
      | 0, hu => simp at hu; subst hu; exact c0
      | 1, hu => simp at hu; subst hu; exact c1
      | 2, hu => simp at hu; subst hu; exact c2
      | 3, hu => simp at hu; subst hu; exact c3
      | 4, hu => simp at hu; subst hu; exact c4
      | 5, hu => simp at hu; subst hu; exact c5
      | 6, hu => simp at hu; subst hu; exact c6
      | j + 7, hu => simp at hu
  · intro k m hm
    cases k with
    | succ k => simp at hm
    | zero =>
      simp at hm; subst hm
      exact h.grown (World.grownBy_alloc _ _ _)

theorem cOneP (b : Nat) (hb : b < 256) (w : World) :
    Calls Tryz.prog 84 #[.int .u8 b] w fun e w' => e = .returned (ndV (.mk 1 0 (one b) []) (.slice none 0 0)) ∧ w.grownBy w' none := by
  have HB := Lib.hid hb
  have B3 := Lib.hid (heap_alloc_new w (.cells #[.int .i64 0, .int .i64 0, .int .u64 0, .int .u64 0, .int .u64 0, .int .u64 0, .slice none 0 0] 28))
  have G := Lib.hid (World.grownBy_alloc w (.cells #[.int .i64 0, .int .i64 0, .int .u64 0, .int .u64 0, .int .u64 0, .int .u64 0, .slice none 0 0] 28) none)
  have HO := Lib.hid (ofL_one b)
  clear hb
  go_enter Tryz.func84, Tryz.ntmps84
  go_upto_region 1 with fail
  generalize w.alloc _ = w1 at B3 G ⊢
  obtain ⟨g, eg⟩ : ∃ g, g = w.heap.size := ⟨_, rfl⟩
  rw [← eg] at B3 ⊢
  have HR := Lib.hid (show w.heap.size ≤ g by omega)
  clear eg
  go_wp2_with (go_at_call 82; refine (cOf _ [b] _ (brow_one _ _ _ HB.out _ rfl)).mono ?_; rintro e w4 ⟨rfl, g4⟩; have g5 := (World.grownBy_alloc w1 (.cells #[.int .u8 b] 5) none).trans g4; have B5 := Lib.hid (heap_grown g5 B3.out); have G4 := Lib.hid (G.out.trans g5); clear g4 g5; obtain ⟨r0, r1, r2, r3, r4, r5, r6⟩ := seven_cells B5.out; have fr := four_free B5.out; rw [HO.out])
  refine bodyPost_ret (v := ndV (.mk 1 0 (one b) []) (.slice none 0 0)) (back_nd1 28 Tryz.underlying28 sizeNd28 Tryz.results84 rfl (set_seven B5.out _ _ _ _ _ _ _)) rfl ?_
  exact ⟨rfl, grown7 G4.out HR.out⟩

set_option maxRecDepth 100000 in
set_option maxHeartbeats 2000000 in
theorem cJoined (m : Nat) (kv : Value) (l : List Nd) (p : Nat → Prop) (w : World) (h : KidsAt w p kv l) :
    Calls Tryz.prog 45 #[.int .i64 m, kv] w fun e w' => (∃ a k c, e = .returned (ndV (oneN m l) (.slice a k c)) ∧ KidsAt w' p (.slice a k c) (oneN m l).kids) ∧ w.grownBy w' none := by
  have H := Lib.hid (h.weak (q := fun b => p b ∧ b < w.heap.size) fun b hb hp => ⟨hp, hb⟩)
  obtain ⟨a, c, rfl⟩ := h.shape
  clear h
  go_enter Tryz.func45, Tryz.ntmps45
  have B1 := Lib.hid (heap_alloc_new w (.cells #[.int .i64 0, .int .i64 0, .int .u64 0, .int .u64 0, .int .u64 0, .int .u64 0, .slice none 0 0] 28))
  have G := Lib.hid (World.grownBy_alloc w (.cells #[.int .i64 0, .int .i64 0, .int .u64 0, .int .u64 0, .int .u64 0, .int .u64 0, .slice none 0 0] 28) none)
  have HR := Lib.hid (Nat.le_refl w.heap.size)
  go_upto_region 1 with fail
  generalize hr : w.heap.size = r at B1 HR ⊢
  have HR2 := Lib.hid (show w.heap.size ≤ r by omega)
  clear HR hr
  have H1 := Lib.hid (H.out.grown G.out)
  generalize w.alloc _ = w1 at B1 G H1 ⊢
  obtain ⟨r0, r1, r2, r3, r4, r5, r6⟩ := seven_cells B1.out
  have fr := four_free B1.out
  cases l with
  | nil =>
    go_wp2
    refine bodyPost_ret (v := ndV ndE (.slice none 0 0)) (back_nd1 28 Tryz.underlying28 sizeNd28 Tryz.results45 rfl (zero_seven B1.out)) rfl ⟨⟨_, _, _, rfl, .empty none 0⟩, ?_⟩
    exact grown7 G.out HR2.out
  | cons n l =>
    cases l with
    | nil =>
      obtain ⟨b, off, c', kv, e, hc, hk⟩ := H1.out.first
      cases e
      have c0 : w1.cell? ⟨b, off, none⟩ = some (.int .i64 n.kind) := hc 0 _ rfl
      have c1 := hc 1 _ rfl
      have c2 := hc 2 _ rfl
      have c3 := hc 3 _ rfl
      have c4 := hc 4 _ rfl
      have c5 := hc 5 _ rfl
      have c6 := hc 6 _ rfl
      clear hc
      have HK := Lib.hid hk
      obtain ⟨ka, kc, rfl⟩ := hk.shape
      clear hk
      go_wp2
      refine bodyPost_ret (v := ndV n (.slice ka n.kids.length kc)) (back_nd1 28 Tryz.underlying28 sizeNd28 Tryz.results45 rfl (set_seven B1.out _ _ _ _ _ _ _)) rfl ⟨⟨_, _, _, rfl, ?_⟩, grown7 G.out HR2.out⟩
      exact (HK.out.kept fun b o u hb hu => set7_far hu (by have := HR2.out; have := hb.2; omega)).weak fun b _ hb => hb.1
    | cons n2 l =>
      have dz : (((l.length + 1 + 1 : Nat) : Int) == 0) = false := by simp; omega
      have d1 : (((l.length + 1 + 1 : Nat) : Int) == 1) = false := by simp; omega
      go_wp2
      refine bodyPost_ret (v := ndV (.mk m 0 emp (n :: n2 :: l)) (.slice a (n :: n2 :: l).length c)) (back_nd1 28 Tryz.underlying28 sizeNd28 Tryz.results45 rfl (by have := set_seven B1.out (.int .i64 m) (.int .i64 0) (.int .u64 0) (.int .u64 0) (.int .u64 0) (.int .u64 0) (.slice a (n :: n2 :: l).length c); simpa [wd_emp, Nd.kind, Nd.index, Nd.set] using this)) rfl ⟨⟨_, _, _, rfl, ?_⟩, grown7 G.out HR2.out⟩
      exact (H1.out.kept fun b o u hb hu => set7_far hu (by have := HR2.out; have := hb.2; omega)).weak fun b _ hb => hb.1

/-- the table of the signs behind an atom, as it lies -/
structure RepEnv (w : World) : Prop where
  c0 : w.cell? ⟨18, 0, none⟩ = some (.int .u8 42)
  c1 : w.cell? ⟨18, 1, none⟩ = some (.int .i64 4)
  c2 : w.cell? ⟨18, 2, none⟩ = some (.int .u8 43)
  c3 : w.cell? ⟨18, 3, none⟩ = some (.int .i64 5)
  c4 : w.cell? ⟨18, 4, none⟩ = some (.int .u8 63)
  c5 : w.cell? ⟨18, 5, none⟩ = some (.int .i64 6)
theorem RepEnv.kept {w w' : World} {row : Option Nat} (h : RepEnv w) (g : w.grownBy w' row) (hr : some 18 ≠ row) : RepEnv w' :=
  ⟨g.cell h.c0 hr, g.cell h.c1 hr, g.cell h.c2 hr, g.cell h.c3 hr, g.cell h.c4 hr, g.cell h.c5 hr⟩
/-- the sign behind an atom: its kind -/
def repK (s : ByteArray) (i : Nat) : Option Nat := if nxt s i 42 then some 4 else if nxt s i 43 then some 5 else if nxt s i 63 then some 6 else none
def Skips (s : ByteArray) (i k : Nat) : Prop := (0 < k → nxt s i 42 = false) ∧ (1 < k → nxt s i 43 = false) ∧ (2 < k → nxt s i 63 = false)
def RepOut (r c : Nat) (s : ByteArray) (i : Nat) (w : World) (o : Option Nat) (e : Ending) (w' : World) : Prop :=
  match o with
  | some k => e = .returned (.tuple #[.int .i64 k, .bool true]) ∧ Rd w' r s (i + 1) c ∧ w.grownBy w' (some r)
  | none => e = .returned (.tuple #[.int .i64 0, .bool false]) ∧ Rd w' r s i c ∧ w.grownBy w' (some r)

set_option maxRecDepth 100000 in
set_option maxHeartbeats 2000000 in
theorem cRepeat (r : Nat) (s : ByteArray) (i c : Nat) (w : World) (hE : RepEnv w) (h : Rd w r s i c) :
    Calls Tryz.prog 65 #[.pointer (some ⟨r, 0, none⟩)] w (RepOut r c s i w (repK s i)) := by
  obtain ⟨t0, t1, t2, t3, t4, t5⟩ := hE
  have i0 : ∀ w, (Instr.index 137 (.agg #[.int .u8 42, .int .i64 4, .int .u8 43, .int .i64 5, .int .u8 63, .int .i64 6]) (.int .i64 0)).run Tryz.prog w = .ok (.agg #[.int .u8 42, .int .i64 4]) w := fun _ => by kernel_rfl
  have i1 : ∀ w, (Instr.index 137 (.agg #[.int .u8 42, .int .i64 4, .int .u8 43, .int .i64 5, .int .u8 63, .int .i64 6]) (.int .i64 1)).run Tryz.prog w = .ok (.agg #[.int .u8 43, .int .i64 5]) w := fun _ => by kernel_rfl
  have i2 : ∀ w, (Instr.index 137 (.agg #[.int .u8 42, .int .i64 4, .int .u8 43, .int .i64 5, .int .u8 63, .int .i64 6]) (.int .i64 2)).run Tryz.prog w = .ok (.agg #[.int .u8 63, .int .i64 6]) w := fun _ => by kernel_rfl
  have H := Lib.hid h
  clear h
  go_enter Tryz.func65, Tryz.ntmps65
  go_wp2
  clear t0 t1 t2 t3 t4 t5
  go_loopw [5, 7] (fun _ x wr => ∃ k : Nat, k ≤ 3 ∧ x = .int .i64 k ∧ Hid (Rd wr r s i c) ∧ Hid (w.grownBy wr none) ∧ Hid (Skips s i k)) (fun _ x _ => 3 - (intOf x).toNat)
  case atStart => exact ⟨0, by omega, rfl, H, Lib.hid (World.grownBy.refl _ _), Lib.hid (show Skips s i 0 from ⟨by omega, by omega, by omega⟩)⟩
  case round =>
    obtain ⟨k, hk, rfl, hR, hG, hN⟩ := hrel
    obtain rfl | rfl | rfl | rfl : k = 0 ∨ k = 1 ∨ k = 2 ∨ k = 3 := by omega
    · have ga := World.grownBy_alloc wr (.cells #[.int .u8 42, .int .i64 4] 136) none
      have R1 := Lib.hid (hR.out.kept ga); have G1 := Lib.hid (hG.out.trans ga)
      clear ga
      cases hn : nxt s i 42 with
      | true =>
        have HO := Lib.hid (show repK s i = some 4 by unfold repK; rw [hn]; rfl)
        have H9 := Lib.hid hn
        clear hn
        go_wp2_with (go_at_call 25; refine (cTake1 42 _ _ _ _ _ R1.out H9.out).mono ?_; rintro e w8 ⟨rfl, r8, g8⟩; have R8 := Lib.hid r8; have G8 := Lib.hid (grown_into G1.out g8); have c1 := (g8.cell (two_cells (heap_alloc_new wr (.cells #[.int .u8 42, .int .i64 4] 136))).2 (by have := hR.out.lt; simp; omega)); clear r8 g8)
        go_ret2
        rw [HO.out]
        exact ⟨rfl, R8.out, G8.out⟩
      | false =>
        have H9 := Lib.hid hn
        clear hn
        go_wp2_with (go_at_call 25; refine (cTake0 42 _ _ _ _ _ R1.out H9.out).mono ?_; rintro e w8 ⟨rfl, rfl⟩)
        go_roundw
        case rel => exact ⟨1, by omega, rfl, R1, G1, Lib.hid (show Skips s i 1 from ⟨fun _ => H9.out, by omega, by omega⟩)⟩
        case measure => simp [intOf]
    · have ga := World.grownBy_alloc wr (.cells #[.int .u8 43, .int .i64 5] 136) none
      have R1 := Lib.hid (hR.out.kept ga); have G1 := Lib.hid (hG.out.trans ga)
      clear ga
      cases hn : nxt s i 43 with
      | true =>
        have HO := Lib.hid (show repK s i = some 5 by unfold repK; rw [hN.out.1 (by omega), hn]; rfl)
        have H9 := Lib.hid hn
        clear hn
        go_wp2_with (go_at_call 25; refine (cTake1 43 _ _ _ _ _ R1.out H9.out).mono ?_; rintro e w8 ⟨rfl, r8, g8⟩; have R8 := Lib.hid r8; have G8 := Lib.hid (grown_into G1.out g8); have c1 := (g8.cell (two_cells (heap_alloc_new wr (.cells #[.int .u8 43, .int .i64 5] 136))).2 (by have := hR.out.lt; simp; omega)); clear r8 g8)
        go_ret2
        rw [HO.out]
        exact ⟨rfl, R8.out, G8.out⟩
      | false =>
        have H9 := Lib.hid hn
        clear hn
        go_wp2_with (go_at_call 25; refine (cTake0 43 _ _ _ _ _ R1.out H9.out).mono ?_; rintro e w8 ⟨rfl, rfl⟩)
        go_roundw
        case rel => exact ⟨2, by omega, rfl, R1, G1, Lib.hid (show Skips s i 2 from ⟨fun _ => hN.out.1 (by omega), fun _ => H9.out, by omega⟩)⟩
        case measure => simp [intOf]
    · have ga := World.grownBy_alloc wr (.cells #[.int .u8 63, .int .i64 6] 136) none
      have R1 := Lib.hid (hR.out.kept ga); have G1 := Lib.hid (hG.out.trans ga)
      clear ga
      cases hn : nxt s i 63 with
      | true =>
        have HO := Lib.hid (show repK s i = some 6 by unfold repK; rw [hN.out.1 (by omega), hN.out.2.1 (by omega), hn]; rfl)
        have H9 := Lib.hid hn
        clear hn
        go_wp2_with (go_at_call 25; refine (cTake1 63 _ _ _ _ _ R1.out H9.out).mono ?_; rintro e w8 ⟨rfl, r8, g8⟩; have R8 := Lib.hid r8; have G8 := Lib.hid (grown_into G1.out g8); have c1 := (g8.cell (two_cells (heap_alloc_new wr (.cells #[.int .u8 63, .int .i64 6] 136))).2 (by have := hR.out.lt; simp; omega)); clear r8 g8)
        go_ret2
        rw [HO.out]
        exact ⟨rfl, R8.out, G8.out⟩
      | false =>
        have H9 := Lib.hid hn
        clear hn
        go_wp2_with (go_at_call 25; refine (cTake0 63 _ _ _ _ _ R1.out H9.out).mono ?_; rintro e w8 ⟨rfl, rfl⟩)
        go_roundw
        case rel => exact ⟨3, by omega, rfl, R1, G1, Lib.hid (show Skips s i 3 from ⟨fun _ => hN.out.1 (by omega), fun _ => hN.out.2.1 (by omega), fun _ => H9.out⟩)⟩
        case measure => simp [intOf]
    · have HO := Lib.hid (show repK s i = none by unfold repK; rw [hN.out.1 (by omega), hN.out.2.1 (by omega), hN.out.2.2 (by omega)]; rfl)
      go_wp2
      go_ret2
      rw [HO.out]
      exact ⟨rfl, hR.out, grown_wide hG.out⟩
theorem repK_some {s : ByteArray} {i k : Nat} (h : repK s i = some k) : ∃ c1, nxt s i c1 = true ∧ ((c1 = 42 ∧ k = 4) ∨ (c1 = 43 ∧ k = 5) ∨ (c1 = 63 ∧ k = 6)) := by
  unfold repK at h
  split at h
  · rename_i h1; cases h; exact ⟨42, h1, by simp⟩
  · split at h
    · rename_i h1; cases h; exact ⟨43, h1, by simp⟩
    · split at h
      · rename_i h1; cases h; exact ⟨63, h1, by simp⟩
      · cases h
theorem repK_none {s : ByteArray} {i : Nat} (h : repK s i = none) : isRep s i = false := by
  unfold repK at h
  split at h
  · cases h
  · split at h
    · cases h
    · split at h
      · cases h
      · unfold isRep; simp_all
end Go.Proofs.YtlkjejmmoalliaaGreatDoor

namespace Go.Proofs.YtlkjejmmoalliaaGreatDoor
open Go.RowKit

theorem NdOut.mono {r : Nat} {s : ByteArray} {w : World} {P Q : Option (Nd × Nat × Nat) → Prop} {e : Ending} {w' : World} (h : NdOut r s w P e w') (hpq : ∀ o, P o → Q o) : NdOut r s w Q e w' := by
  obtain ⟨g, h | h⟩ := h
  · obtain ⟨n, a, m, k, he, hp⟩ := h
    exact ⟨g, .inl ⟨n, a, m, k, he, hpq _ hp⟩⟩
  · obtain ⟨n, a, m, k, j, c, he, hk, hr, hp⟩ := h
    exact ⟨g, .inr ⟨n, a, m, k, j, c, he, hk, hr, hpq _ hp⟩⟩
theorem Rd.more {w : World} {r : Nat} {s : ByteArray} {i c : Nat} (h : Rd w r s i c) (hc : c < i) : Rd (w.setCell ⟨r, 1, none⟩ (.int .i64 ((c : Int) + 1))) r s i (c + 1) :=
  ⟨heap_setCell_same w r 1 _ _ _ h.B, h.hi, h.hs, hc⟩

set_option maxRecDepth 100000 in
set_option maxHeartbeats 2000000 in
theorem cGroup (r : Nat) (s : ByteArray) (i c : Nat) (w : World) (h : Rd w r s (i + 1) c) (hc : c ≤ i) (hE : RepEnv w) (hr : r ≠ 18) (ho : nxt s i 40 = true)
    (hx : ∀ w, RepEnv w → Rd w r s (i + 1) (c + 1) → Calls Tryz.prog 12 #[.pointer (some ⟨r, 0, none⟩)] w (NdOut r s w (ExP s (i + 1) (c + 1)))) :
    Calls Tryz.prog 80 #[.pointer (some ⟨r, 0, none⟩)] w (NdOut r s w (AtomP s i c)) := by
  have hlt := h.lt
  have B3 := heap_alloc_new w (.cells #[.int .i64 0, .int .i64 0, .int .u64 0, .int .u64 0, .int .u64 0, .int .u64 0, .slice none 0 0] 28)
  have G := Lib.hid (World.grownBy_alloc w (.cells #[.int .i64 0, .int .i64 0, .int .u64 0, .int .u64 0, .int .u64 0, .int .u64 0, .slice none 0 0] 28) none)
  have H1 := Lib.hid (h.kept G.out)
  have E1 := Lib.hid (hE.kept G.out (by simp))
  have HX := Lib.hid hx; have HO := Lib.hid ho; have HRR := Lib.hid hr
  have hs := h.hs; have hi := h.hi
  have HC := Lib.hid hc
  clear h hE hx ho hr
  go_enter Tryz.func80, Tryz.ntmps80
  go_upto_region 1 with fail
  generalize w.alloc _ = w1 at B3 G H1 E1 ⊢
  obtain ⟨g, eg⟩ : ∃ g, g = w.heap.size := ⟨_, rfl⟩
  rw [← eg] at B3 ⊢
  have HR := Lib.hid (show w.heap.size ≤ g by omega)
  have HN := Lib.hid (show g ≠ r by omega)
  have B3 := Lib.hid B3
  have hgl : g < w1.heap.size := (Array.getElem?_eq_some_iff.1 B3.out).1
  clear eg hlt
  obtain ⟨c0, c1⟩ := two_cells H1.out.B
  have fr := four_free H1.out.B
  have R2 := Lib.hid (H1.out.more (Nat.lt_succ_of_le HC.out))
  have B4 := Lib.hid ((heap_setCell_other w1 ⟨r, 1, none⟩ g (.int .i64 ((c : Int) + 1)) HN.out).trans B3.out)
  have G2 := Lib.hid (grown_into G.out (grown_at w1 r 1 (.int .i64 ((c : Int) + 1))))
  have E2 := Lib.hid (E1.out.kept (grown_at w1 r 1 (.int .i64 ((c : Int) + 1))) (by simp only [ne_eq, Option.some.injEq]; exact fun e => HRR.out e.symm))
  have hg2 : g < (w1.setCell ⟨r, 1, none⟩ (.int .i64 ((c : Int) + 1))).heap.size := (Array.getElem?_eq_some_iff.1 B4.out).1
  have hc60 : c ≤ 60 := by have := HC.out; omega
  clear H1 E1 B3 G hgl
  go_upto_region 2 with fail
  clear c0 c1 fr
  generalize World.setCell w1 _ _ = w2 at R2 B4 G2 E2 hg2 ⊢
  obtain ⟨c0, c1⟩ := two_cells R2.out.B
  have HG2 := Lib.hid hg2
  clear hg2
  go_wp2_with fail
  refine (HX.out _ E2.out R2.out).mono ?_
  rintro e w3 ⟨g3, ⟨n, a, m, k, rfl, hp⟩ | ⟨n, a, m, k, j, c2, rfl, hk, r3, hp⟩⟩
  · -- no expression
    have ga := World.grownBy_alloc w3 (.cells #[.int .i64 n.kind, .int .i64 n.index, .int .u64 (wd n.set 0), .int .u64 (wd n.set 1), .int .u64 (wd n.set 2), .int .u64 (wd n.set 3), .slice a m k] 28) none
    have B5 := Lib.hid (heap_grown ga (heap_row g3 HN.out B4.out))
    have G5 := Lib.hid (grown_then (G2.out.trans g3) ga)
    have HP := Lib.hid (atom_group_bad HO.out hp)
    clear ga g3 hp c0 c1
    obtain ⟨r0, r1, r2, r3, r4, r5, r6⟩ := seven_cells B5.out
    have fr := four_free B5.out
    go_wp2
    refine bodyPost_ret (v := .tuple #[ndV ndE (.slice none 0 0), .bool false]) (back_nd2 28 Tryz.underlying28 sizeNd28 Tryz.results80 rfl rfl (zero_seven B5.out)) rfl ?_
    exact ⟨grown_seven G5.out _ _ _ _ _ _ _ HR.out, .inl ⟨ndE, none, 0, 0, rfl, HP.out⟩⟩
  · have ga := World.grownBy_alloc w3 (.cells #[.int .i64 n.kind, .int .i64 n.index, .int .u64 (wd n.set 0), .int .u64 (wd n.set 1), .int .u64 (wd n.set 2), .int .u64 (wd n.set 3), .slice a m k] 28) none
    have B5 := Lib.hid (heap_grown ga (heap_row g3 HN.out B4.out))
    have G5 := Lib.hid (grown_then (G2.out.trans g3) ga)
    have R5 := Lib.hid (r3.kept ga)
    have K5 := Lib.hid ((hk.weak (q := fun b => w.heap.size ≤ b ∧ b ≠ r ∧ b ≠ g) fun b _ hb => by
      have := R2.out.lt; have := G2.out.size; have := HG2.out; omega).grown ga)
    have N5 := Lib.hid (heap_alloc_new w3 (.cells #[.int .i64 n.kind, .int .i64 n.index, .int .u64 (wd n.set 0), .int .u64 (wd n.set 1), .int .u64 (wd n.set 2), .int .u64 (wd n.set 3), .slice a m k] 28))
    have HP := Lib.hid hp
    have hw3 : w.heap.size ≤ w3.heap.size ∧ g < w3.heap.size ∧ r < w3.heap.size := by
      have := G2.out.size; have := g3.size; have := HG2.out; have := r3.lt; omega
    have HW3 := Lib.hid hw3
    clear ga g3 r3 hk hp c0 c1 hw3
    cases hj : nxt s j 41 with
    | false =>
      have H9 := Lib.hid hj
      have HF := Lib.hid (atom_group_open HO.out HP.out hj)
      clear hj
      obtain ⟨r0, r1, r2, r3, r4, r5, r6⟩ := seven_cells B5.out
      have fr := four_free B5.out
      go_wp2_with (go_at_call 25; refine (cTake0 41 _ _ _ _ _ R5.out H9.out).mono ?_; rintro e w8 ⟨rfl, rfl⟩)
      refine bodyPost_ret (v := .tuple #[ndV ndE (.slice none 0 0), .bool false]) (back_nd2 28 Tryz.underlying28 sizeNd28 Tryz.results80 rfl rfl (zero_seven B5.out)) rfl ?_
      exact ⟨grown_seven G5.out _ _ _ _ _ _ _ HR.out, .inl ⟨ndE, none, 0, 0, rfl, HF.out⟩⟩
    | true =>
      have H9 := Lib.hid hj
      have HF := Lib.hid (atom_group HO.out HP.out hj)
      clear hj
      go_wp2_with (go_at_call 25; refine (cTake1 41 _ _ _ _ _ R5.out H9.out).mono ?_; rintro e w8 ⟨rfl, r8, g8⟩; have R8 := Lib.hid r8; have B8 := Lib.hid (heap_row g8 HN.out B5.out); have N8 := Lib.hid (heap_row g8 (by have := HW3.out; omega) N5.out); have K8 := Lib.hid (K5.out.over g8 fun b hb => hb.2.1); have G8 := Lib.hid (G5.out.trans g8); have S8 := Lib.hid (show w.heap.size ≤ w8.heap.size ∧ w8.heap.size ≠ r ∧ w8.heap.size ≠ g by have h1 := g8.size; have h2 := HW3.out; have h3 := (Array.getElem?_eq_some_iff.1 B8.out).1; have h4 := r8.lt; have h5 := G8.out.size; omega); clear r8 g8; obtain ⟨n0, n1, n2, n3, n4, n5, n6⟩ := seven_cells N8.out; have ga := World.grownBy_alloc w8 (.cells #[.int .i64 n.kind, .int .i64 n.index, .int .u64 (wd n.set 0), .int .u64 (wd n.set 1), .int .u64 (wd n.set 2), .int .u64 (wd n.set 3), .slice a m k] 28) none; have B9 := Lib.hid (heap_grown ga B8.out); have R9 := Lib.hid (R8.out.kept ga); have G9 := Lib.hid (grown_then G8.out ga); clear ga; have K9 := Lib.hid (kids_one (p := fun b => w.heap.size ≤ b ∧ b ≠ r ∧ b ≠ g) 28 K8.out S8.out w8.heap.size rfl); obtain ⟨r0, r1, r2, r3, r4, r5, r6⟩ := seven_cells B9.out; have fr := four_free B9.out)
      refine bodyPost_ret (v := .tuple #[ndV (.mk 7 (c + 1) emp [n]) (.slice (some ⟨w8.heap.size, 0, none⟩) 1 1), .bool true]) (back_nd2 28 Tryz.underlying28 sizeNd28 Tryz.results80 rfl rfl (by
        have := set_seven B9.out (.int .i64 7) (.int .i64 ((c : Int) + 1)) (.int .u64 0) (.int .u64 0) (.int .u64 0) (.int .u64 0) (.slice (some ⟨w8.heap.size, 0, none⟩) 1 1)
        simpa [wd_emp, Nd.kind, Nd.index, Nd.set] using this)) rfl ?_
      exact ⟨grown_seven G9.out _ _ _ _ _ _ _ HR.out, .inr ⟨_, _, 1, 1, j + 1, c2, rfl, (K9.out.seven _ _ _ _ _ _ _ fun b hb => hb.2.2).weak fun b _ hb => hb.1, R9.out.seven _ _ _ _ _ _ _ (Ne.symm HN.out), HF.out⟩⟩
end Go.Proofs.YtlkjejmmoalliaaGreatDoor

namespace Go.Proofs.YtlkjejmmoalliaaGreatDoor
open Go.RowKit

theorem nxt_not {s : ByteArray} {i c k : Nat} (hi : i < s.size) (h : s[i].toNat = c) (hk : c ≠ k) : nxt s i k = false := by
  unfold nxt; rw [dif_pos hi, h]; simpa using hk
theorem rep_not {s : ByteArray} {i : Nat} (hi : i < s.size) (h : s[i].toNat ≠ 42 ∧ s[i].toNat ≠ 43 ∧ s[i].toNat ≠ 63) : isRep s i = false := by
  unfold isRep; rw [nxt_not hi rfl h.1, nxt_not hi rfl h.2.1, nxt_not hi rfl h.2.2]; rfl
theorem rep_is {s : ByteArray} {i : Nat} (hi : i < s.size) (h : s[i].toNat = 42 ∨ s[i].toNat = 43 ∨ s[i].toNat = 63) : isRep s i = true := by
  unfold isRep
  rcases h with h | h | h <;> simp [nxt_is hi h]

set_option maxRecDepth 100000 in
set_option maxHeartbeats 8000000 in
theorem cAtom (r : Nat) (s : ByteArray) (i c : Nat) (w : World) (h : Rd w r s i c) (hi : i < s.size) (h41 : nxt s i 41 = false) (h124 : nxt s i 124 = false) (hE : RepEnv w) (hr : r ≠ 18)
    (hx : ∀ w, RepEnv w → Rd w r s (i + 1) (c + 1) → Calls Tryz.prog 12 #[.pointer (some ⟨r, 0, none⟩)] w (NdOut r s w (ExP s (i + 1) (c + 1)))) :
    Calls Tryz.prog 64 #[.pointer (some ⟨r, 0, none⟩)] w (NdOut r s w (AtomP s i c)) := by
  have hlt := h.lt
  have B3 := heap_alloc_new w (.cells #[.int .i64 0, .int .i64 0, .int .u64 0, .int .u64 0, .int .u64 0, .int .u64 0, .slice none 0 0] 28)
  have G := Lib.hid (World.grownBy_alloc w (.cells #[.int .i64 0, .int .i64 0, .int .u64 0, .int .u64 0, .int .u64 0, .int .u64 0, .slice none 0 0] 28) none)
  have H1 := Lib.hid (h.kept G.out)
  have E1 := Lib.hid (hE.kept G.out (by simp))
  have HX := Lib.hid hx; have HRR := Lib.hid hr
  have N41 := nxt_no h41 hi; have N124 := nxt_no h124 hi
  have HC := Lib.hid h.hc
  clear h hE hx hr h41 h124
  go_enter Tryz.func64, Tryz.ntmps64
  go_upto_region 1 with fail
  generalize w.alloc _ = w1 at B3 G H1 E1 ⊢
  obtain ⟨g, eg⟩ : ∃ g, g = w.heap.size := ⟨_, rfl⟩
  rw [← eg] at B3 ⊢
  have HR := Lib.hid (show w.heap.size ≤ g by omega)
  have HN := Lib.hid (show g ≠ r by omega)
  have B3 := Lib.hid B3
  clear eg hlt
  go_wp2_with fail
  refine (cNext1 _ _ _ _ _ H1.out hi).mono ?_
  rintro e w2 ⟨rfl, r2, g2⟩
  have R2 := Lib.hid r2
  have B4 := Lib.hid (heap_row g2 HN.out B3.out)
  have G2 := Lib.hid (grown_into G.out g2)
  have E2 := Lib.hid (E1.out.kept g2 (by simp only [ne_eq, Option.some.injEq]; exact fun e => HRR.out e.symm))
  clear r2 g2 H1 E1 B3 G
  have HW := Lib.hid (show w.heap.size ≤ w2.heap.size from G2.out.size)
  obtain ⟨b, hb⟩ : ∃ b, b = s[i].toNat := ⟨_, rfl⟩
  have hb256 : b < 256 := by rw [hb]; exact UInt8.toNat_lt _
  rw [← hb] at N41 N124 ⊢
  by_cases h40 : b = 40
  · subst h40
    have HO := Lib.hid (nxt_is hi hb.symm)
    clear hb N41 N124 hb256
    go_wp2_with fail
    refine (cGroup r s i c _ R2.out HC.out E2.out HRR.out HO.out HX.out).mono ?_
    rintro e w3 ⟨g3, ⟨n, a, m, k, rfl, hp⟩ | ⟨n, a, m, k, j, c2, rfl, hk, r3, hp⟩⟩
    · have B5 := Lib.hid (heap_row g3 HN.out B4.out)
      have G5 := Lib.hid (G2.out.trans g3)
      have HP := Lib.hid hp
      clear g3 hp
      obtain ⟨r0, r1, r2, r3, r4, r5, r6⟩ := seven_cells B5.out
      have fr := four_free B5.out
      go_wp2
      refine bodyPost_ret (v := .tuple #[ndV n (.slice a m k), .bool false]) (back_nd2 28 Tryz.underlying28 sizeNd28 Tryz.results64 rfl rfl (set_seven B5.out _ _ _ _ _ _ _)) rfl ?_
      exact ⟨grown_seven G5.out _ _ _ _ _ _ _ HR.out, .inl ⟨n, a, m, k, rfl, HP.out⟩⟩
    · have B5 := Lib.hid (heap_row g3 HN.out B4.out)
      have G5 := Lib.hid (G2.out.trans g3)
      have HP := Lib.hid hp
      have R5 := Lib.hid r3
      have K5 := Lib.hid (hk.weak (q := fun b => w.heap.size ≤ b ∧ b ≠ g) fun b _ hb => by
        have := HW.out; have := (Array.getElem?_eq_some_iff.1 B4.out).1; omega)
      clear g3 hp r3 hk
      obtain ⟨r0, r1, r2, r3, r4, r5, r6⟩ := seven_cells B5.out
      have fr := four_free B5.out
      go_wp2
      refine bodyPost_ret (v := .tuple #[ndV n (.slice a m k), .bool true]) (back_nd2 28 Tryz.underlying28 sizeNd28 Tryz.results64 rfl rfl (set_seven B5.out _ _ _ _ _ _ _)) rfl ?_
      exact ⟨grown_seven G5.out _ _ _ _ _ _ _ HR.out, .inr ⟨n, a, m, k, j, c2, rfl, (K5.out.seven _ _ _ _ _ _ _ fun b hb => hb.2).weak fun b _ hb => hb.1, R5.out.seven _ _ _ _ _ _ _ (Ne.symm HN.out), HP.out⟩⟩
  by_cases h91 : b = 91
  · subst h91
    have HB := Lib.hid hb.symm
    cases hcl : clsP s (i + 1) with
    | none =>
      have HP := Lib.hid (atom_bad c (sgn_clsbad hi HB.out hcl))
      have CC := Lib.hid (fun w h => hcl ▸ cClass r s (i + 1) c w h)
      clear hb N41 N124 hb256 h40 hcl
      go_wp2_with fail
      refine (CC.out _ R2.out).mono ?_
      rintro e w3 ⟨rfl, g3⟩
      have B5 := Lib.hid (heap_row g3 HN.out B4.out)
      have G5 := Lib.hid (G2.out.trans g3)
      clear g3
      obtain ⟨r0, r1, r2, r3, r4, r5, r6⟩ := seven_cells B5.out
      have fr := four_free B5.out
      go_wp2
      refine bodyPost_ret (v := .tuple #[ndV ndE (.slice none 0 0), .bool false]) (back_nd2 28 Tryz.underlying28 sizeNd28 Tryz.results64 rfl rfl (set_seven B5.out _ _ _ _ _ _ _)) rfl ?_
      exact ⟨grown_seven G5.out _ _ _ _ _ _ _ HR.out, .inl ⟨ndE, none, 0, 0, rfl, HP.out⟩⟩
    | some te =>
      obtain ⟨t, j⟩ := te
      have hgt := cls_gt hcl
      have HP := Lib.hid (atom_set c (sgn_cls hi HB.out hcl) (by omega))
      have CC := Lib.hid (fun w h => hcl ▸ cClass r s (i + 1) c w h)
      clear hb N41 N124 hb256 h40 hcl
      go_wp2_with fail
      refine (CC.out _ R2.out).mono ?_
      rintro e w3 ⟨rfl, r3, g3⟩
      have B5 := Lib.hid (heap_row g3 HN.out B4.out)
      have G5 := Lib.hid (G2.out.trans g3)
      have R5 := Lib.hid r3
      clear g3 r3
      obtain ⟨r0, r1, r2, r3, r4, r5, r6⟩ := seven_cells B5.out
      have fr := four_free B5.out
      go_wp2
      refine bodyPost_ret (v := .tuple #[ndV (.mk 1 0 t []) (.slice none 0 0), .bool true]) (back_nd2 28 Tryz.underlying28 sizeNd28 Tryz.results64 rfl rfl (set_seven B5.out _ _ _ _ _ _ _)) rfl ?_
      exact ⟨grown_seven G5.out _ _ _ _ _ _ _ HR.out, .inr ⟨.mk 1 0 t [], none, 0, 0, j + 1, c, rfl, .empty none 0, R5.out.seven _ _ _ _ _ _ _ (Ne.symm HN.out), HP.out⟩⟩
  by_cases h46 : b = 46
  · subst h46
    have HP := Lib.hid (atom_set c (sgn_dot hi hb.symm) (Nat.lt_succ_self i))
    have HO := Lib.hid (ofL_one 10)
    clear hb N41 N124 hb256 h40 h91
    go_wp2_with (first
      | (go_at_call 82; refine (cOf _ [10] _ (brow_one _ _ _ (by decide) _ rfl)).mono ?_; rintro e w4 ⟨rfl, g4⟩; have g5 := (World.grownBy_alloc w2 (.cells #[.int .u8 10] 5) none).trans g4; have B5 := Lib.hid (heap_grown g5 B4.out); have G5 := Lib.hid (grown_then G2.out g5); have R5 := Lib.hid (R2.out.kept g5); clear g4 g5; rw [HO.out])
      | (go_at_call 83; refine (cNot (one 10) _).mono ?_; rintro e w6 ⟨rfl, g6⟩; have B6 := Lib.hid (heap_grown g6 B5.out); have G6 := Lib.hid (grown_then G5.out g6); have R6 := Lib.hid (R5.out.kept g6); clear g6; obtain ⟨r0, r1, r2, r3, r4, r5, r6⟩ := seven_cells B6.out; have fr := four_free B6.out))
    refine bodyPost_ret (v := .tuple #[ndV (.mk 1 0 (no (one 10)) []) (.slice none 0 0), .bool true]) (back_nd2 28 Tryz.underlying28 sizeNd28 Tryz.results64 rfl rfl (set_seven B6.out _ _ _ _ _ _ _)) rfl ?_
    exact ⟨grown_seven G6.out _ _ _ _ _ _ _ HR.out, .inr ⟨.mk 1 0 (no (one 10)) [], none, 0, 0, i + 1, c, rfl, .empty none 0, R6.out.seven _ _ _ _ _ _ _ (Ne.symm HN.out), HP.out⟩⟩
  by_cases h94 : b = 94
  · subst h94
    have HP := Lib.hid (atom_hat c (nxt_is hi hb.symm))
    clear hb N41 N124 hb256 h40 h91 h46
    obtain ⟨r0, r1, r2, r3, r4, r5, r6⟩ := seven_cells B4.out
    have fr := four_free B4.out
    go_wp2
    refine bodyPost_ret (v := .tuple #[ndV (.mk 8 0 emp []) (.slice none 0 0), .bool true]) (back_nd2 28 Tryz.underlying28 sizeNd28 Tryz.results64 rfl rfl (by
      have := set_seven B4.out (.int .i64 8) (.int .i64 0) (.int .u64 0) (.int .u64 0) (.int .u64 0) (.int .u64 0) (.slice none 0 0)
      simpa [wd_emp, Nd.kind, Nd.index, Nd.set] using this)) rfl ?_
    exact ⟨grown_seven G2.out _ _ _ _ _ _ _ HR.out, .inr ⟨.mk 8 0 emp [], none, 0, 0, i + 1, c, rfl, .empty none 0, R2.out.seven _ _ _ _ _ _ _ (Ne.symm HN.out), HP.out⟩⟩
  by_cases h36 : b = 36
  · subst h36
    have HP := Lib.hid (atom_dollar c (nxt_is hi hb.symm))
    clear hb N41 N124 hb256 h40 h91 h46 h94
    obtain ⟨r0, r1, r2, r3, r4, r5, r6⟩ := seven_cells B4.out
    have fr := four_free B4.out
    go_wp2
    refine bodyPost_ret (v := .tuple #[ndV (.mk 9 0 emp []) (.slice none 0 0), .bool true]) (back_nd2 28 Tryz.underlying28 sizeNd28 Tryz.results64 rfl rfl (by
      have := set_seven B4.out (.int .i64 9) (.int .i64 0) (.int .u64 0) (.int .u64 0) (.int .u64 0) (.int .u64 0) (.slice none 0 0)
      simpa [wd_emp, Nd.kind, Nd.index, Nd.set] using this)) rfl ?_
    exact ⟨grown_seven G2.out _ _ _ _ _ _ _ HR.out, .inr ⟨.mk 9 0 emp [], none, 0, 0, i + 1, c, rfl, .empty none 0, R2.out.seven _ _ _ _ _ _ _ (Ne.symm HN.out), HP.out⟩⟩
  by_cases hrep : b = 42 ∨ b = 43 ∨ b = 63
  · have HP := Lib.hid (atom_rep c (rep_is hi (by rw [← hb]; exact hrep)))
    clear hb N41 N124 hb256 h40 h91 h46 h94 h36
    obtain ⟨r0, r1, r2, r3, r4, r5, r6⟩ := seven_cells B4.out
    have fr := four_free B4.out
    rcases hrep with rfl | rfl | rfl
    all_goals
      go_wp2
      refine bodyPost_ret (v := .tuple #[ndV ndE (.slice none 0 0), .bool false]) (back_nd2 28 Tryz.underlying28 sizeNd28 Tryz.results64 rfl rfl (zero_seven B4.out)) rfl ?_
      exact ⟨grown_seven G2.out _ _ _ _ _ _ _ HR.out, .inl ⟨ndE, none, 0, 0, rfl, HP.out⟩⟩
  by_cases h92 : b = 92
  · subst h92
    by_cases hi1 : i + 1 < s.size
    · have HP := Lib.hid (atom_set c (sgn_esc hi hb.symm hi1) (show i < i + 2 by omega))
      have HB := Lib.hid (UInt8.toNat_lt s[i + 1])
      clear hb N41 N124 hb256 h40 h91 h46 h94 h36 hrep
      go_wp2_with fail
      refine (cNext1 _ _ _ _ _ R2.out hi1).mono ?_
      rintro e w3 ⟨rfl, r3, g3⟩
      have R3 := Lib.hid r3
      have B5 := Lib.hid (heap_row g3 HN.out B4.out)
      have G3 := Lib.hid (G2.out.trans g3)
      clear r3 g3
      go_wp2_with (go_at_call 84; refine (cOneP _ HB.out _).mono ?_; rintro e w4 ⟨rfl, g4⟩; have B6 := Lib.hid (heap_grown g4 B5.out); have G6 := Lib.hid (grown_then G3.out g4); have R6 := Lib.hid (R3.out.kept g4); clear g4; obtain ⟨r0, r1, r2, r3, r4, r5, r6⟩ := seven_cells B6.out; have fr := four_free B6.out)
      refine bodyPost_ret (v := .tuple #[ndV (.mk 1 0 (one s[i + 1].toNat) []) (.slice none 0 0), .bool true]) (back_nd2 28 Tryz.underlying28 sizeNd28 Tryz.results64 rfl rfl (set_seven B6.out _ _ _ _ _ _ _)) rfl ?_
      exact ⟨grown_seven G6.out _ _ _ _ _ _ _ HR.out, .inr ⟨.mk 1 0 (one s[i + 1].toNat) [], none, 0, 0, i + 2, c, rfl, .empty none 0, R6.out.seven _ _ _ _ _ _ _ (Ne.symm HN.out), HP.out⟩⟩
    · have HP := Lib.hid (atom_bad c (sgn_escbad hi hb.symm hi1))
      clear hb N41 N124 hb256 h40 h91 h46 h94 h36 hrep
      go_wp2_with fail
      refine (cNext0 _ _ _ _ _ R2.out hi1).mono ?_
      rintro e w3 ⟨rfl, rfl⟩
      have C1 := Lib.hid (fun w => cOneP 0 (by decide) w)
      go_wp2_with (go_at_call 84; refine (C1.out _).mono ?_; rintro e w4 ⟨rfl, g4⟩; have B6 := Lib.hid (heap_grown g4 B4.out); have G6 := Lib.hid (grown_then G2.out g4); clear g4; obtain ⟨r0, r1, r2, r3, r4, r5, r6⟩ := seven_cells B6.out; have fr := four_free B6.out)
      refine bodyPost_ret (v := .tuple #[ndV (.mk 1 0 (one 0) []) (.slice none 0 0), .bool false]) (back_nd2 28 Tryz.underlying28 sizeNd28 Tryz.results64 rfl rfl (set_seven B6.out _ _ _ _ _ _ _)) rfl ?_
      exact ⟨grown_seven G6.out _ _ _ _ _ _ _ HR.out, .inl ⟨.mk 1 0 (one 0) [], none, 0, 0, rfl, HP.out⟩⟩
  have HP := Lib.hid (atom_set c (sgn_lit hi (by rw [← hb]; exact ⟨h92, h91, h46, h40, N41, N124, by omega, by omega, by omega, h94, h36⟩)) (Nat.lt_succ_self i))
  rw [← hb] at HP
  have HB := Lib.hid hb256
  have n0 : ((b : Int) == 92) = false := by simp; omega
  have n1 : ((b : Int) == 91) = false := by simp; omega
  have n2 : ((b : Int) == 46) = false := by simp; omega
  have n3 : ((b : Int) == 40) = false := by simp; omega
  have n4 : ((b : Int) == 41) = false := by simp; omega
  have n5 : ((b : Int) == 124) = false := by simp; omega
  have n6 : ((b : Int) == 42) = false := by simp; omega
  have n7 : ((b : Int) == 43) = false := by simp; omega
  have n8 : ((b : Int) == 63) = false := by simp; omega
  have n9 : ((b : Int) == 94) = false := by simp; omega
  have na : ((b : Int) == 36) = false := by simp; omega
  clear hb N41 N124 hb256 h40 h91 h46 h94 h36 hrep h92
  go_wp2_with (go_at_call 84; refine (cOneP _ HB.out _).mono ?_; rintro e w4 ⟨rfl, g4⟩; have B6 := Lib.hid (heap_grown g4 B4.out); have G6 := Lib.hid (grown_then G2.out g4); have R6 := Lib.hid (R2.out.kept g4); clear g4; obtain ⟨r0, r1, r2, r3, r4, r5, r6⟩ := seven_cells B6.out; have fr := four_free B6.out)
  refine bodyPost_ret (v := .tuple #[ndV (.mk 1 0 (one b) []) (.slice none 0 0), .bool true]) (back_nd2 28 Tryz.underlying28 sizeNd28 Tryz.results64 rfl rfl (set_seven B6.out _ _ _ _ _ _ _)) rfl ?_
  exact ⟨grown_seven G6.out _ _ _ _ _ _ _ HR.out, .inr ⟨.mk 1 0 (one b) [], none, 0, 0, i + 1, c, rfl, .empty none 0, R6.out.seven _ _ _ _ _ _ _ (Ne.symm HN.out), HP.out⟩⟩
end Go.Proofs.YtlkjejmmoalliaaGreatDoor

namespace Go.Proofs.YtlkjejmmoalliaaGreatDoor
open Go.RowKit

/-- what the loop over the signs behind an atom knows -/
structure IW (w0 : World) (r : Nat) (s : ByteArray) (i c g q : Nat) (n : Nd) (kv : Value) (j c2 : Nat) (wr : World) : Prop where
  G : w0.grownBy wr (some r)
  R : Rd wr r s j c2
  N : wr.heap[g]? = some (.cells #[.int .i64 0, .int .i64 0, .int .u64 0, .int .u64 0, .int .u64 0, .int .u64 0, .slice none 0 0] 28 (0, 0))
  Q : wr.heap[q]? = some (.cells #[.int .i64 n.kind, .int .i64 n.index, .int .u64 (wd n.set 0), .int .u64 (wd n.set 1), .int .u64 (wd n.set 2), .int .u64 (wd n.set 3), kv] 28 (0, 0))
  K : KidsAt wr (fun b => w0.heap.size ≤ b ∧ b ≠ g ∧ b ≠ q ∧ b ≠ r) kv n.kids
  P : AtomP s i c (some (n, j, c2))
  E : RepEnv wr
theorem heap_seven {w : World} {b b' : Nat} {o : Obj} (hb : w.heap[b]? = some o) (v0 v1 v2 v3 v4 v5 v6 : Value) (hne : b ≠ b') :
    (((((((w.setCell ⟨b', 0, none⟩ v0).setCell ⟨b', 1, none⟩ v1).setCell ⟨b', 2, none⟩ v2).setCell ⟨b', 3, none⟩ v3).setCell ⟨b', 4, none⟩ v4).setCell ⟨b', 5, none⟩ v5).setCell ⟨b', 6, none⟩ v6).heap[b]? = some o := by
  rw [heap_setCell_other _ _ b _ hne, heap_setCell_other _ _ b _ hne, heap_setCell_other _ _ b _ hne, heap_setCell_other _ _ b _ hne, heap_setCell_other _ _ b _ hne, heap_setCell_other _ _ b _ hne, heap_setCell_other _ _ b _ hne]; exact hb
theorem RepEnv.seven {w : World} (h : RepEnv w) {r : Nat} (v0 v1 v2 v3 v4 v5 v6 : Value) (hr : 18 ≠ r) :
    RepEnv (((((((w.setCell ⟨r, 0, none⟩ v0).setCell ⟨r, 1, none⟩ v1).setCell ⟨r, 2, none⟩ v2).setCell ⟨r, 3, none⟩ v3).setCell ⟨r, 4, none⟩ v4).setCell ⟨r, 5, none⟩ v5).setCell ⟨r, 6, none⟩ v6) :=
  ⟨set7_far h.c0 hr, set7_far h.c1 hr, set7_far h.c2 hr, set7_far h.c3 hr, set7_far h.c4 hr, set7_far h.c5 hr⟩
theorem RepEnv.lt {w : World} (h : RepEnv w) : 18 < w.heap.size := cell_block h.c0

set_option maxRecDepth 100000 in
set_option maxHeartbeats 4000000 in
theorem cItem (r : Nat) (s : ByteArray) (i c : Nat) (w : World) (h : Rd w r s i c) (hi : i < s.size) (h41 : nxt s i 41 = false) (h124 : nxt s i 124 = false) (hE : RepEnv w) (hr : r ≠ 18)
    (hx : ∀ w, RepEnv w → Rd w r s (i + 1) (c + 1) → Calls Tryz.prog 12 #[.pointer (some ⟨r, 0, none⟩)] w (NdOut r s w (ExP s (i + 1) (c + 1)))) :
    Calls Tryz.prog 46 #[.pointer (some ⟨r, 0, none⟩)] w (NdOut r s w (ItemP s i c)) := by
  have hlt := h.lt
  have hel := hE.lt
  have B3 := heap_alloc_new w (.cells #[.int .i64 0, .int .i64 0, .int .u64 0, .int .u64 0, .int .u64 0, .int .u64 0, .slice none 0 0] 28)
  have G := Lib.hid (World.grownBy_alloc w (.cells #[.int .i64 0, .int .i64 0, .int .u64 0, .int .u64 0, .int .u64 0, .int .u64 0, .slice none 0 0] 28) none)
  have H1 := Lib.hid (h.kept G.out)
  have E1 := Lib.hid (hE.kept G.out (by simp))
  have HRR := Lib.hid (show some 18 ≠ some r by simp only [ne_eq, Option.some.injEq]; exact fun e => hr e.symm)
  have CA := Lib.hid (fun w h hE => cAtom r s i c w h hi h41 h124 hE hr hx)
  have HL := Lib.hid hel
  clear h hE hx hr h41 h124 hi hel
  go_enter Tryz.func46, Tryz.ntmps46
  go_upto_region 1 with fail
  generalize w.alloc _ = w1 at B3 G H1 E1 ⊢
  obtain ⟨g, eg⟩ : ∃ g, g = w.heap.size := ⟨_, rfl⟩
  rw [← eg] at B3 ⊢
  have HR := Lib.hid (show w.heap.size ≤ g by omega)
  have HN := Lib.hid (show g ≠ r by omega)
  have HGE := Lib.hid (show 18 ≠ g by have := HL.out; omega)
  have B3 := Lib.hid B3
  have HLT := Lib.hid hlt
  clear eg hlt
  go_wp2_with fail
  refine (CA.out _ H1.out E1.out).mono ?_
  rintro e w3 ⟨g3, ⟨n, a, m, k, rfl, hp⟩ | ⟨n, a, m, k, j, c2, rfl, hk, r3, hp⟩⟩
  · have ga := World.grownBy_alloc w3 (.cells #[.int .i64 n.kind, .int .i64 n.index, .int .u64 (wd n.set 0), .int .u64 (wd n.set 1), .int .u64 (wd n.set 2), .int .u64 (wd n.set 3), .slice a m k] 28) none
    have B5 := Lib.hid (heap_grown ga (heap_row g3 HN.out B3.out))
    have G5 := Lib.hid (grown_then (grown_into G.out g3) ga)
    have HP := Lib.hid (show ItemP s i c none from hp)
    clear ga g3 hp
    obtain ⟨r0, r1, r2, r3, r4, r5, r6⟩ := seven_cells B5.out
    have fr := four_free B5.out
    go_wp2
    refine bodyPost_ret (v := .tuple #[ndV ndE (.slice none 0 0), .bool false]) (back_nd2 28 Tryz.underlying28 sizeNd28 Tryz.results46 rfl rfl (zero_seven B5.out)) rfl ?_
    exact ⟨grown_seven G5.out _ _ _ _ _ _ _ HR.out, .inl ⟨ndE, none, 0, 0, rfl, HP.out⟩⟩
  · have ga := World.grownBy_alloc w3 (.cells #[.int .i64 n.kind, .int .i64 n.index, .int .u64 (wd n.set 0), .int .u64 (wd n.set 1), .int .u64 (wd n.set 2), .int .u64 (wd n.set 3), .slice a m k] 28) none
    have hg3 := (Array.getElem?_eq_some_iff.1 (heap_row g3 HN.out B3.out)).1
    have hg1 := (Array.getElem?_eq_some_iff.1 B3.out).1
    have hw3 := G.out.size
    have hw31 := g3.size
    have W0 := Lib.hid (show IW w r s i c g w3.heap.size n (.slice a m k) j c2 (w3.alloc (.cells #[.int .i64 n.kind, .int .i64 n.index, .int .u64 (wd n.set 0), .int .u64 (wd n.set 1), .int .u64 (wd n.set 2), .int .u64 (wd n.set 3), .slice a m k] 28)) from
      ⟨grown_then (grown_into G.out g3) ga, r3.kept ga, heap_grown ga (heap_row g3 HN.out B3.out), heap_alloc_new w3 _, (hk.weak fun b hb hb1 => by have := HLT.out; omega).grown ga, hp, (E1.out.kept g3 HRR.out).kept ga (by simp)⟩)
    obtain ⟨q, eq⟩ : ∃ q, q = w3.heap.size := ⟨_, rfl⟩
    have HQ := Lib.hid (show w.heap.size ≤ q ∧ q ≠ g ∧ q ≠ r ∧ 18 ≠ q by have := HLT.out; have := HL.out; omega)
    clear ga g3 hp r3 hk hg3 hg1 hw3 hw31 B3 G H1 E1
    rw [← eq] at W0
    go_wp2_with fail
    rw [← eq]
    clear eq
    generalize w3.alloc _ = w4 at W0 ⊢
    go_loopw [6, 7] (fun _ _ wr => ∃ (n : Nd) (a : Option Addr) (m k j c2 : Nat), Hid (IW w r s i c g q n (.slice a m k) j c2 wr)) (fun _ _ wr => restLen wr r)
    case atStart => exact ⟨n, a, m, k, j, c2, W0⟩
    case round =>
      obtain ⟨n, a, m, k, j, c2, hW⟩ := hrel
      clear W0
      cases hrk : repK s j with
      | none =>
        have HP := Lib.hid (item_atom hW.out.P (repK_none hrk))
        have CR := Lib.hid (fun w hE h => hrk ▸ cRepeat r s j c2 w hE h)
        clear hrk
        go_wp2_with fail
        refine (CR.out _ hW.out.E hW.out.R).mono ?_
        rintro e w5 ⟨rfl, r5, g5⟩
        have R5 := Lib.hid r5
        have B5 := Lib.hid (heap_row g5 HN.out hW.out.N)
        have Q5 := Lib.hid (heap_row g5 HQ.out.2.2.1 hW.out.Q)
        have K5 := Lib.hid (hW.out.K.over g5 fun b hb => hb.2.2.2)
        have G5 := Lib.hid (hW.out.G.trans g5)
        clear r5 g5 hW
        obtain ⟨q0, q1, q2, q3, q4, q5, q6⟩ := seven_cells Q5.out
        obtain ⟨r0, r1, r2, r3, r4, r5, r6⟩ := seven_cells B5.out
        have fr := four_free B5.out
        go_wp2
        refine bodyPost_ret (v := .tuple #[ndV n (.slice a m k), .bool true]) (back_nd2 28 Tryz.underlying28 sizeNd28 Tryz.results46 rfl rfl (set_seven B5.out _ _ _ _ _ _ _)) rfl ?_
        exact ⟨grown_seven G5.out _ _ _ _ _ _ _ HR.out, .inr ⟨n, a, m, k, j, c2, rfl, (K5.out.seven _ _ _ _ _ _ _ fun b hb => hb.2.1).weak fun b _ hb => hb.1, R5.out.seven _ _ _ _ _ _ _ (Ne.symm HN.out), HP.out⟩⟩
      | some kk =>
        obtain ⟨c1, hn1, hkk⟩ := repK_some hrk
        have HP := Lib.hid (atom_more hW.out.P hn1 hkk)
        have CR := Lib.hid (fun w hE h => hrk ▸ cRepeat r s j c2 w hE h)
        have HM := Lib.hid (restLen_of hW.out.R)
        have hjs := (nxt_yes hn1).1
        clear hrk hn1 hkk
        go_wp2_with fail
        refine (CR.out _ hW.out.E hW.out.R).mono ?_
        rintro e w5 ⟨rfl, r5, g5⟩
        have R5 := Lib.hid r5
        have B5 := Lib.hid (heap_row g5 HN.out hW.out.N)
        have Q5 := Lib.hid (heap_row g5 HQ.out.2.2.1 hW.out.Q)
        have K5 := Lib.hid (hW.out.K.over g5 fun b hb => hb.2.2.2)
        have G5 := Lib.hid (hW.out.G.trans g5)
        have E5 := Lib.hid (hW.out.E.kept g5 HRR.out)
        clear r5 g5 hW
        obtain ⟨q0, q1, q2, q3, q4, q5, q6⟩ := seven_cells Q5.out
        have ga := World.grownBy_alloc w5 (.cells #[.int .i64 n.kind, .int .i64 n.index, .int .u64 (wd n.set 0), .int .u64 (wd n.set 1), .int .u64 (wd n.set 2), .int .u64 (wd n.set 3), .slice a m k] 28) none
        have S5 := Lib.hid (show w.heap.size ≤ w5.heap.size ∧ w5.heap.size ≠ g ∧ w5.heap.size ≠ q ∧ w5.heap.size ≠ r by
          have h1 := (Array.getElem?_eq_some_iff.1 B5.out).1
          have h2 := (Array.getElem?_eq_some_iff.1 Q5.out).1
          have h3 := R5.out.lt
          have h4 := G5.out.size
          omega)
        have K6 := Lib.hid (kids_one (p := fun b => w.heap.size ≤ b ∧ b ≠ g ∧ b ≠ q ∧ b ≠ r) 28 K5.out S5.out w5.heap.size rfl)
        have R6 := Lib.hid (R5.out.kept ga)
        have B6 := Lib.hid (heap_grown ga B5.out)
        have Q6 := Lib.hid (heap_grown ga Q5.out)
        have G6 := Lib.hid (grown_then G5.out ga)
        have E6 := Lib.hid (E5.out.kept ga (by simp))
        clear ga R5 B5 G5 E5 K5
        obtain ⟨p0, p1, p2, p3, p4, p5, p6⟩ := seven_cells Q6.out
        have fr := four_free Q6.out
        go_wp2
        clear p0 p1 p2 p3 p4 p5 p6 q0 q1 q2 q3 q4 q5 q6 fr
        have HF := Lib.hid (show IW w r s i c g q (.mk kk 0 emp [n]) (.slice (some ⟨w5.heap.size, 0, none⟩) 1 1) (j + 1) c2 _ from
          ⟨grown_seven G6.out (.int .i64 kk) (.int .i64 0) (.int .u64 0) (.int .u64 0) (.int .u64 0) (.int .u64 0) (.slice (some ⟨w5.heap.size, 0, none⟩) 1 1) HQ.out.1,
           R6.out.seven _ _ _ _ _ _ _ (Ne.symm HQ.out.2.2.1), heap_seven B6.out _ _ _ _ _ _ _ (Ne.symm HQ.out.2.1),
           by have := set_seven Q6.out (.int .i64 kk) (.int .i64 0) (.int .u64 0) (.int .u64 0) (.int .u64 0) (.int .u64 0) (.slice (some ⟨w5.heap.size, 0, none⟩) 1 1); simpa [wd_emp, Nd.kind, Nd.index, Nd.set] using this,
           K6.out.seven _ _ _ _ _ _ _ fun b hb => hb.2.2.1, HP.out, E6.out.seven _ _ _ _ _ _ _ HQ.out.2.2.2⟩)
        have HM2 := Lib.hid (restLen_of HF.out.R)
        go_roundw
        case rel => exact ⟨_, _, 1, 1, _, _, HF⟩
        case measure => rw [HM.out, HM2.out]; omega
end Go.Proofs.YtlkjejmmoalliaaGreatDoor
