/- The reader: one, joined, the signs behind an atom; nodes that are handed back. -/
import Derived.Test.YtliefnjhobdphaaDoorRexL
namespace Go.Proofs.YtliefnjhobdphaaDoor
open Go.RowKit

/-- what a call that reads a part answers: whether there is one, the node, where the reader stands; P says what it means -/
def NdOut (r : Nat) (s : ByteArray) (w : World) (P : Option (Nd × Nat × Nat) → Prop) (e : Ending) (w' : World) : Prop :=
  w.grownBy w' (some r) ∧ ((∃ n a m k, e = .returned (.tuple #[ndV n (.slice a m k), .bool false]) ∧ P none) ∨
    ∃ n a m k j c, e = .returned (.tuple #[ndV n (.slice a m k), .bool true]) ∧ KidsAt w' (fun b => w.heap.size ≤ b) (.slice a m k) n.kids ∧ Rd w' r s j c ∧ P (some (n, j, c)))
theorem seven_far {w : World} {r b o : Nat} {u : Value} (v0 v1 v2 v3 v4 v5 v6 : Value) (hb : b ≠ r) (h : w.cell? ⟨b, o, none⟩ = some u) :
    (((((((w.setCell ⟨r, 0, none⟩ v0).setCell ⟨r, 1, none⟩ v1).setCell ⟨r, 2, none⟩ v2).setCell ⟨r, 3, none⟩ v3).setCell ⟨r, 4, none⟩ v4).setCell ⟨r, 5, none⟩ v5).setCell ⟨r, 6, none⟩ v6).cell? ⟨b, o, none⟩ = some u := set7_far h hb
theorem KidsAt.seven {w : World} {p : Nat → Prop} {v : Value} {l : List Nd} (h : KidsAt w p v l) {r : Nat} (v0 v1 v2 v3 v4 v5 v6 : Value) (hr : ∀ b, p b → b ≠ r) :
    KidsAt (((((((w.setCell ⟨r, 0, none⟩ v0).setCell ⟨r, 1, none⟩ v1).setCell ⟨r, 2, none⟩ v2).setCell ⟨r, 3, none⟩ v3).setCell ⟨r, 4, none⟩ v4).setCell ⟨r, 5, none⟩ v5).setCell ⟨r, 6, none⟩ v6) p v l :=
  h.kept fun b _ _ hb hu => set7_far hu (hr b hb)
/-- kids in blocks that another block's turning leaves -/
theorem KidsAt.over {w w' : World} {p : Nat → Prop} {r : Nat} {v : Value} {l : List Nd} (h : KidsAt w p v l) (g : w.grownBy w' (some r)) (hr : ∀ b, p b → b ≠ r) : KidsAt w' p v l :=
  h.kept fun b _ _ hb hu => g.cell hu (by simp only [ne_eq, Option.some.injEq]; exact hr b hb)
theorem kids_one {w : World} {p : Nat → Prop} {n : Nd} {kv : Value} (T : TypeId) (h : KidsAt w p kv n.kids) (hp : p w.heap.size) (k : Nat) (hk : k = w.heap.size) :
    KidsAt (w.alloc (.cells #[.int .i64 n.kind, .int .i64 n.index, .int .u64 (wd n.set 0), .int .u64 (wd n.set 1), .int .u64 (wd n.set 2), .int .u64 (wd n.set 3), kv] T)) p (.slice (some ⟨k, 0, none⟩) 1 1) [n] := by
  subst hk
  have hb := heap_alloc_new w (.cells #[.int .i64 n.kind, .int .i64 n.index, .int .u64 (wd n.set 0), .int .u64 (wd n.set 1), .int .u64 (wd n.set 2), .int .u64 (wd n.set 3), kv] T)
  obtain ⟨c0, c1, c2, c3, c4, c5, c6⟩ := seven_cells hb
  refine .items _ 0 1 [n] (fun _ => kv) (by simp) hp (by simp) ?_ ?_
  · intro k m hm j u hu
    cases k with
    | succ k => simp at hm
    | zero =>
      simp at hm; subst hm
      unfold cells7 at hu
      match j, hu with
      | 0, hu => simp at hu; subst hu; exact c0
      | 1, hu => simp at hu; subst hu; exact c1
      | 2, hu => simp at hu; subst hu; exact c2
      | 3, hu => simp at hu; subst hu; exact c3
      | 4, hu => simp at hu; subst hu; exact c4
      | 5, hu => simp at hu; subst hu; exact c5
      | 6, hu => simp at hu; subst hu; exact c6
      | j + 7, hu => simp at hu
  · intro k m hm
    cases k with
    | succ k => simp at hm
    | zero =>
      simp at hm; subst hm
      exact h.grown (World.grownBy_alloc _ _ _)

theorem cOneP (b : Nat) (hb : b < 256) (w : World) :
    Calls Tryd.prog 78 #[.int .u8 b] w fun e w' => e = .returned (ndV (.mk 1 0 (one b) []) (.slice none 0 0)) ∧ w.grownBy w' none := by
  have HB := Lib.hid hb
  have B3 := Lib.hid (heap_alloc_new w (.cells #[.int .i64 0, .int .i64 0, .int .u64 0, .int .u64 0, .int .u64 0, .int .u64 0, .slice none 0 0] 44))
  have G := Lib.hid (World.grownBy_alloc w (.cells #[.int .i64 0, .int .i64 0, .int .u64 0, .int .u64 0, .int .u64 0, .int .u64 0, .slice none 0 0] 44) none)
  have HO := Lib.hid (ofL_one b)
  clear hb
  go_enter Tryd.func78, Tryd.ntmps78
  go_upto_region 1 with fail
  generalize w.alloc _ = w1 at B3 G ⊢
  obtain ⟨g, eg⟩ : ∃ g, g = w.heap.size := ⟨_, rfl⟩
  rw [← eg] at B3 ⊢
  have HR := Lib.hid (show w.heap.size ≤ g by omega)
  clear eg
  go_wp2_with (go_at_call 76; refine (cOf _ [b] _ (brow_one _ _ _ HB.out _ rfl)).mono ?_; rintro e w4 ⟨rfl, g4⟩; have g5 := (World.grownBy_alloc w1 (.cells #[.int .u8 b] 5) none).trans g4; have B5 := Lib.hid (heap_grown g5 B3.out); have G4 := Lib.hid (G.out.trans g5); clear g4 g5; obtain ⟨r0, r1, r2, r3, r4, r5, r6⟩ := seven_cells B5.out; have fr := four_free B5.out; rw [HO.out])
  refine bodyPost_ret (v := ndV (.mk 1 0 (one b) []) (.slice none 0 0)) (back_nd1 44 Tryd.underlying44 sizeNd28 Tryd.results78 rfl (set_seven B5.out _ _ _ _ _ _ _)) rfl ?_
  exact ⟨rfl, grown7 G4.out HR.out⟩

set_option maxRecDepth 100000 in
set_option maxHeartbeats 2000000 in
theorem cJoined (m : Nat) (kv : Value) (l : List Nd) (p : Nat → Prop) (w : World) (h : KidsAt w p kv l) :
    Calls Tryd.prog 62 #[.int .i64 m, kv] w fun e w' => (∃ a k c, e = .returned (ndV (oneN m l) (.slice a k c)) ∧ KidsAt w' p (.slice a k c) (oneN m l).kids) ∧ w.grownBy w' none := by
  have H := Lib.hid (h.weak (q := fun b => p b ∧ b < w.heap.size) fun b hb hp => ⟨hp, hb⟩)
  obtain ⟨a, c, rfl⟩ := h.shape
  clear h
  go_enter Tryd.func62, Tryd.ntmps62
  have B1 := Lib.hid (heap_alloc_new w (.cells #[.int .i64 0, .int .i64 0, .int .u64 0, .int .u64 0, .int .u64 0, .int .u64 0, .slice none 0 0] 44))
  have G := Lib.hid (World.grownBy_alloc w (.cells #[.int .i64 0, .int .i64 0, .int .u64 0, .int .u64 0, .int .u64 0, .int .u64 0, .slice none 0 0] 44) none)
  have HR := Lib.hid (Nat.le_refl w.heap.size)
  go_upto_region 1 with fail
  generalize hr : w.heap.size = r at B1 HR ⊢
  have HR2 := Lib.hid (show w.heap.size ≤ r by omega)
  clear HR hr
  have H1 := Lib.hid (H.out.grown G.out)
  generalize w.alloc _ = w1 at B1 G H1 ⊢
  obtain ⟨r0, r1, r2, r3, r4, r5, r6⟩ := seven_cells B1.out
  have fr := four_free B1.out
  cases l with
  | nil =>
    go_wp2
    refine bodyPost_ret (v := ndV ndE (.slice none 0 0)) (back_nd1 44 Tryd.underlying44 sizeNd28 Tryd.results62 rfl (zero_seven B1.out)) rfl ⟨⟨_, _, _, rfl, .empty none 0⟩, ?_⟩
    exact grown7 G.out HR2.out
  | cons n l =>
    cases l with
    | nil =>
      obtain ⟨b, off, c', kv, e, hc, hk⟩ := H1.out.first
      cases e
      have c0 : w1.cell? ⟨b, off, none⟩ = some (.int .i64 n.kind) := hc 0 _ rfl
      have c1 := hc 1 _ rfl
      have c2 := hc 2 _ rfl
      have c3 := hc 3 _ rfl
      have c4 := hc 4 _ rfl
      have c5 := hc 5 _ rfl
      have c6 := hc 6 _ rfl
      clear hc
      have HK := Lib.hid hk
      obtain ⟨ka, kc, rfl⟩ := hk.shape
      clear hk
      go_wp2
      refine bodyPost_ret (v := ndV n (.slice ka n.kids.length kc)) (back_nd1 44 Tryd.underlying44 sizeNd28 Tryd.results62 rfl (set_seven B1.out _ _ _ _ _ _ _)) rfl ⟨⟨_, _, _, rfl, ?_⟩, grown7 G.out HR2.out⟩
      exact (HK.out.kept fun b o u hb hu => set7_far hu (by have := HR2.out; have := hb.2; omega)).weak fun b _ hb => hb.1
    | cons n2 l =>
      have dz : (((l.length + 1 + 1 : Nat) : Int) == 0) = false := by simp; omega
      have d1 : (((l.length + 1 + 1 : Nat) : Int) == 1) = false := by simp; omega
      go_wp2
      refine bodyPost_ret (v := ndV (.mk m 0 emp (n :: n2 :: l)) (.slice a (n :: n2 :: l).length c)) (back_nd1 44 Tryd.underlying44 sizeNd28 Tryd.results62 rfl (by have := set_seven B1.out (.int .i64 m) (.int .i64 0) (.int .u64 0) (.int .u64 0) (.int .u64 0) (.int .u64 0) (.slice a (n :: n2 :: l).length c); simpa [wd_emp, Nd.kind, Nd.index, Nd.set] using this)) rfl ⟨⟨_, _, _, rfl, ?_⟩, grown7 G.out HR2.out⟩
      exact (H1.out.kept fun b o u hb hu => set7_far hu (by have := HR2.out; have := hb.2; omega)).weak fun b _ hb => hb.1

/-- the table of the signs behind an atom, as it lies -/
structure RepEnv (w : World) : Prop where
  c0 : w.cell? ⟨18, 0, none⟩ = some (.int .u8 42)
  c1 : w.cell? ⟨18, 1, none⟩ = some (.int .i64 4)
  c2 : w.cell? ⟨18, 2, none⟩ = some (.int .u8 43)
  c3 : w.cell? ⟨18, 3, none⟩ = some (.int .i64 5)
  c4 : w.cell? ⟨18, 4, none⟩ = some (.int .u8 63)
  c5 : w.cell? ⟨18, 5, none⟩ = some (.int .i64 6)
theorem RepEnv.kept {w w' : World} {row : Option Nat} (h : RepEnv w) (g : w.grownBy w' row) (hr : some 18 ≠ row) : RepEnv w' :=
  ⟨g.cell h.c0 hr, g.cell h.c1 hr, g.cell h.c2 hr, g.cell h.c3 hr, g.cell h.c4 hr, g.cell h.c5 hr⟩
/-- the sign behind an atom: its kind -/
def repK (s : ByteArray) (i : Nat) : Option Nat := if nxt s i 42 then some 4 else if nxt s i 43 then some 5 else if nxt s i 63 then some 6 else none
def Skips (s : ByteArray) (i k : Nat) : Prop := (0 < k → nxt s i 42 = false) ∧ (1 < k → nxt s i 43 = false) ∧ (2 < k → nxt s i 63 = false)
def RepOut (r c : Nat) (s : ByteArray) (i : Nat) (w : World) (o : Option Nat) (e : Ending) (w' : World) : Prop :=
  match o with
  | some k => e = .returned (.tuple #[.int .i64 k, .bool true]) ∧ Rd w' r s (i + 1) c ∧ w.grownBy w' (some r)
  | none => e = .returned (.tuple #[.int .i64 0, .bool false]) ∧ Rd w' r s i c ∧ w.grownBy w' (some r)

set_option maxRecDepth 100000 in
set_option maxHeartbeats 2000000 in
theorem cRepeat (r : Nat) (s : ByteArray) (i c : Nat) (w : World) (hE : RepEnv w) (h : Rd w r s i c) :
    Calls Tryd.prog 69 #[.pointer (some ⟨r, 0, none⟩)] w (RepOut r c s i w (repK s i)) := by
  obtain ⟨t0, t1, t2, t3, t4, t5⟩ := hE
  have i0 : ∀ w, (Instr.index 124 (.agg #[.int .u8 42, .int .i64 4, .int .u8 43, .int .i64 5, .int .u8 63, .int .i64 6]) (.int .i64 0)).run Tryd.prog w = .ok (.agg #[.int .u8 42, .int .i64 4]) w := fun _ => by kernel_rfl
  have i1 : ∀ w, (Instr.index 124 (.agg #[.int .u8 42, .int .i64 4, .int .u8 43, .int .i64 5, .int .u8 63, .int .i64 6]) (.int .i64 1)).run Tryd.prog w = .ok (.agg #[.int .u8 43, .int .i64 5]) w := fun _ => by kernel_rfl
  have i2 : ∀ w, (Instr.index 124 (.agg #[.int .u8 42, .int .i64 4, .int .u8 43, .int .i64 5, .int .u8 63, .int .i64 6]) (.int .i64 2)).run Tryd.prog w = .ok (.agg #[.int .u8 63, .int .i64 6]) w := fun _ => by kernel_rfl
  have H := Lib.hid h
  clear h
  go_enter Tryd.func69, Tryd.ntmps69
  go_wp2
  clear t0 t1 t2 t3 t4 t5
  go_loopw [5, 7] (fun _ x wr => ∃ k : Nat, k ≤ 3 ∧ x = .int .i64 k ∧ Hid (Rd wr r s i c) ∧ Hid (w.grownBy wr none) ∧ Hid (Skips s i k)) (fun _ x _ => 3 - (intOf x).toNat)
  case atStart => exact ⟨0, by omega, rfl, H, Lib.hid (World.grownBy.refl _ _), Lib.hid (show Skips s i 0 from ⟨by omega, by omega, by omega⟩)⟩
  case round =>
    obtain ⟨k, hk, rfl, hR, hG, hN⟩ := hrel
    obtain rfl | rfl | rfl | rfl : k = 0 ∨ k = 1 ∨ k = 2 ∨ k = 3 := by omega
    · have ga := World.grownBy_alloc wr (.cells #[.int .u8 42, .int .i64 4] 123) none
      have R1 := Lib.hid (hR.out.kept ga); have G1 := Lib.hid (hG.out.trans ga)
      clear ga
      cases hn : nxt s i 42 with
      | true =>
        have HO := Lib.hid (show repK s i = some 4 by unfold repK; rw [hn]; rfl)
        have H9 := Lib.hid hn
        clear hn
        go_wp2_with (go_at_call 53; refine (cTake1 42 _ _ _ _ _ R1.out H9.out).mono ?_; rintro e w8 ⟨rfl, r8, g8⟩; have R8 := Lib.hid r8; have G8 := Lib.hid (grown_into G1.out g8); have c1 := (g8.cell (two_cells (heap_alloc_new wr (.cells #[.int .u8 42, .int .i64 4] 123))).2 (by have := hR.out.lt; simp; omega)); clear r8 g8)
        go_ret2
        rw [HO.out]
        exact ⟨rfl, R8.out, G8.out⟩
      | false =>
        have H9 := Lib.hid hn
        clear hn
        go_wp2_with (go_at_call 53; refine (cTake0 42 _ _ _ _ _ R1.out H9.out).mono ?_; rintro e w8 ⟨rfl, rfl⟩)
        go_roundw
        case rel => exact ⟨1, by omega, rfl, R1, G1, Lib.hid (show Skips s i 1 from ⟨fun _ => H9.out, by omega, by omega⟩)⟩
        case measure => simp [intOf]
    · have ga := World.grownBy_alloc wr (.cells #[.int .u8 43, .int .i64 5] 123) none
      have R1 := Lib.hid (hR.out.kept ga); have G1 := Lib.hid (hG.out.trans ga)
      clear ga
      cases hn : nxt s i 43 with
      | true =>
        have HO := Lib.hid (show repK s i = some 5 by unfold repK; rw [hN.out.1 (by omega), hn]; rfl)
        have H9 := Lib.hid hn
        clear hn
        go_wp2_with (go_at_call 53; refine (cTake1 43 _ _ _ _ _ R1.out H9.out).mono ?_; rintro e w8 ⟨rfl, r8, g8⟩; have R8 := Lib.hid r8; have G8 := Lib.hid (grown_into G1.out g8); have c1 := (g8.cell (two_cells (heap_alloc_new wr (.cells #[.int .u8 43, .int .i64 5] 123))).2 (by have := hR.out.lt; simp; omega)); clear r8 g8)
        go_ret2
        rw [HO.out]
        exact ⟨rfl, R8.out, G8.out⟩
      | false =>
        have H9 := Lib.hid hn
        clear hn
        go_wp2_with (go_at_call 53; refine (cTake0 43 _ _ _ _ _ R1.out H9.out).mono ?_; rintro e w8 ⟨rfl, rfl⟩)
        go_roundw
        case rel => exact ⟨2, by omega, rfl, R1, G1, Lib.hid (show Skips s i 2 from ⟨fun _ => hN.out.1 (by omega), fun _ => H9.out, by omega⟩)⟩
        case measure => simp [intOf]
    · have ga := World.grownBy_alloc wr (.cells #[.int .u8 63, .int .i64 6] 123) none
      have R1 := Lib.hid (hR.out.kept ga); have G1 := Lib.hid (hG.out.trans ga)
      clear ga
      cases hn : nxt s i 63 with
      | true =>
        have HO := Lib.hid (show repK s i = some 6 by unfold repK; rw [hN.out.1 (by omega), hN.out.2.1 (by omega), hn]; rfl)
        have H9 := Lib.hid hn
        clear hn
        go_wp2_with (go_at_call 53; refine (cTake1 63 _ _ _ _ _ R1.out H9.out).mono ?_; rintro e w8 ⟨rfl, r8, g8⟩; have R8 := Lib.hid r8; have G8 := Lib.hid (grown_into G1.out g8); have c1 := (g8.cell (two_cells (heap_alloc_new wr (.cells #[.int .u8 63, .int .i64 6] 123))).2 (by have := hR.out.lt; simp; omega)); clear r8 g8)
        go_ret2
        rw [HO.out]
        exact ⟨rfl, R8.out, G8.out⟩
      | false =>
        have H9 := Lib.hid hn
        clear hn
        go_wp2_with (go_at_call 53; refine (cTake0 63 _ _ _ _ _ R1.out H9.out).mono ?_; rintro e w8 ⟨rfl, rfl⟩)
        go_roundw
        case rel => exact ⟨3, by omega, rfl, R1, G1, Lib.hid (show Skips s i 3 from ⟨fun _ => hN.out.1 (by omega), fun _ => hN.out.2.1 (by omega), fun _ => H9.out⟩)⟩
        case measure => simp [intOf]
    · have HO := Lib.hid (show repK s i = none by unfold repK; rw [hN.out.1 (by omega), hN.out.2.1 (by omega), hN.out.2.2 (by omega)]; rfl)
      go_wp2
      go_ret2
      rw [HO.out]
      exact ⟨rfl, hR.out, grown_wide hG.out⟩
theorem repK_some {s : ByteArray} {i k : Nat} (h : repK s i = some k) : ∃ c1, nxt s i c1 = true ∧ ((c1 = 42 ∧ k = 4) ∨ (c1 = 43 ∧ k = 5) ∨ (c1 = 63 ∧ k = 6)) := by
  unfold repK at h
  split at h
  · rename_i h1; cases h; exact ⟨42, h1, by simp⟩
  · split at h
    · rename_i h1; cases h; exact ⟨43, h1, by simp⟩
    · split at h
      · rename_i h1; cases h; exact ⟨63, h1, by simp⟩
      · cases h
theorem repK_none {s : ByteArray} {i : Nat} (h : repK s i = none) : isRep s i = false := by
  unfold repK at h
  split at h
  · cases h
  · split at h
    · cases h
    · split at h
      · cases h
      · unfold isRep; simp_all
end Go.Proofs.YtliefnjhobdphaaDoor
