/- The reader: the next byte. The reader: classes. The reader: a member of a class. Nodes that a call hands back; the reader: a class. -/
import Derived.Test.YtlkjejmmoalliaaGreatDoorRexI
import Derived.Lib.Bytealg
import Derived.Test.YtlkjejmmoalliaaGreatDoorClsB
import Derived.Test.YtlkjejmmoalliaaGreatDoorClsD
namespace Go.Proofs.YtlkjejmmoalliaaGreatDoor
open Go.RowKit

/-- a reader that lies in a block: it stands at a place of a text, c groups were opened -/
structure Rd (w : World) (r : Nat) (s : ByteArray) (i c : Nat) : Prop where
  B : w.heap[r]? = some (.cells #[.string (s.extract i s.size), .int .i64 c] 45 (0, 0))
  hi : i ≤ s.size
  hs : s.size ≤ 60
  hc : c ≤ i
theorem rest_size (s : ByteArray) {i : Nat} : (s.extract i s.size).size = s.size - i := by rw [ByteArray.size_extract]; omega
theorem rest_get (s : ByteArray) {i : Nat} (h : i < s.size) (h0 : 0 < (s.extract i s.size).size) : (s.extract i s.size)[0] = s[i] := by
  rw [ByteArray.getElem_extract]; congr 1
theorem rest_on (s : ByteArray) {i : Nat} (h : i < s.size) : (s.extract i s.size).extract 1 (s.extract i s.size).size = s.extract (i + 1) s.size := by
  rw [ByteArray.extract_extract, rest_size, show i + (s.size - i) = s.size by omega, Nat.min_self]
theorem Rd.kept {w w' : World} {r : Nat} {s : ByteArray} {i c : Nat} (h : Rd w r s i c) (g : w.grownBy w' none) : Rd w' r s i c := ⟨heap_grown g h.B, h.hi, h.hs, h.hc⟩
theorem two_cells {w : World} {b : Nat} {v0 v1 : Value} {t : TypeId} (h : w.heap[b]? = some (.cells #[v0, v1] t (0, 0))) : w.cell? ⟨b, 0, none⟩ = some v0 ∧ w.cell? ⟨b, 1, none⟩ = some v1 := by
  refine ⟨?_, ?_⟩ <;> (unfold World.cell?; rw [h]; rfl)
theorem grown_at (w : World) (r o : Nat) (v : Value) : w.grownBy (w.setCell ⟨r, o, none⟩ v) (some r) :=
  ⟨rfl, rfl, rfl, by simp, fun k _ hk => heap_setCell_other w _ k v (fun e => hk (by rw [e]))⟩
theorem Rd.on {w : World} {r : Nat} {s : ByteArray} {i c : Nat} (h : Rd w r s i c) (hi : i < s.size) : Rd (w.setCell ⟨r, 0, none⟩ (.string (s.extract (i + 1) s.size))) r s (i + 1) c :=
  ⟨heap_setCell_same w r 0 _ _ _ h.B, by omega, h.hs, by have := h.hc; omega⟩
theorem rest_ne (s : ByteArray) {i : Nat} (h : i < s.size) : (s.extract i s.size).toList.isEmpty = false := by rw [Lib.toList_data]; simp; omega
theorem rest_no (s : ByteArray) {i : Nat} (h : ¬ i < s.size) : (s.extract i s.size).toList.isEmpty = true := by rw [Lib.toList_data]; simp; omega
theorem ret_two {k : IntKind} {a b : Int} {x : Bool} (h : a = b) : Ending.returned (.tuple #[.int k a, .bool x]) = .returned (.tuple #[.int k b, .bool x]) := by rw [h]

theorem cTake1 (b : Nat) (r : Nat) (s : ByteArray) (i c : Nat) (w : World) (h : Rd w r s i c) (hn : nxt s i b = true) :
    Calls Tryz.prog 25 #[.pointer (some ⟨r, 0, none⟩), .int .u8 b] w fun e w' => e = .returned (.bool true) ∧ Rd w' r s (i + 1) c ∧ w.grownBy w' (some r) := by
  obtain ⟨hi, hb⟩ := nxt_yes hn
  obtain ⟨c0, c1⟩ := two_cells h.B
  have fr := four_free h.B
  have H := Lib.hid (h.on hi)
  have h0 : 0 < (s.extract i s.size).size := by rw [rest_size]; omega
  have hg : (s.extract i s.size)[0].toNat = b := by rw [rest_get s hi h0, hb]
  have hon := Lib.hid (rest_on s hi)
  have hE := rest_ne s hi
  clear hn hb h
  generalize s.extract i s.size = t at c0 h0 hg hon hE
  rw [← hon.out] at H
  go_enter Tryz.func25, Tryz.ntmps25
  go_wp2
  go_ret
  exact ⟨rfl, H.out, grown_at _ _ _ _⟩

theorem cTake0 (b : Nat) (r : Nat) (s : ByteArray) (i c : Nat) (w : World) (h : Rd w r s i c) (hn : nxt s i b = false) :
    Calls Tryz.prog 25 #[.pointer (some ⟨r, 0, none⟩), .int .u8 b] w fun e w' => e = .returned (.bool false) ∧ w = w' := by
  obtain ⟨c0, c1⟩ := two_cells h.B
  by_cases hi : i < s.size
  · have h0 : 0 < (s.extract i s.size).size := by rw [rest_size]; omega
    have hg : (((s.extract i s.size)[0].toNat : Int) != (b : Int)) = true := by rw [rest_get s hi h0]; have := nxt_no hn hi; simp; omega
    have hE := rest_ne s hi
    clear hn h
    generalize s.extract i s.size = t at c0 h0 hg hE
    go_enter Tryz.func25, Tryz.ntmps25
    go_wp2
    go_ret
    exact ⟨rfl, rfl⟩
  · have hE := rest_no s hi
    clear hn h
    generalize s.extract i s.size = t at c0 hE
    go_enter Tryz.func25, Tryz.ntmps25
    go_wp2
    go_ret
    exact ⟨rfl, rfl⟩

theorem cNext1 (r : Nat) (s : ByteArray) (i c : Nat) (w : World) (h : Rd w r s i c) (hi : i < s.size) :
    Calls Tryz.prog 79 #[.pointer (some ⟨r, 0, none⟩)] w fun e w' => e = .returned (.tuple #[.int .u8 s[i].toNat, .bool true]) ∧ Rd w' r s (i + 1) c ∧ w.grownBy w' (some r) := by
  obtain ⟨c0, c1⟩ := two_cells h.B
  have fr := four_free h.B
  have H := Lib.hid (h.on hi)
  have h0 : 0 < (s.extract i s.size).size := by rw [rest_size]; omega
  have hg := Lib.hid (show (s.extract i s.size)[0].toNat = s[i].toNat by rw [rest_get s hi h0])
  have hon := Lib.hid (rest_on s hi)
  have hE := rest_ne s hi
  clear h
  generalize s.extract i s.size = t at c0 h0 hg hon hE
  rw [← hon.out] at H
  go_enter Tryz.func79, Tryz.ntmps79
  go_wp2
  go_ret2
  exact ⟨ret_two (by rw [hg.out]), H.out, grown_at _ _ _ _⟩

theorem cNext0 (r : Nat) (s : ByteArray) (i c : Nat) (w : World) (h : Rd w r s i c) (hi : ¬ i < s.size) :
    Calls Tryz.prog 79 #[.pointer (some ⟨r, 0, none⟩)] w fun e w' => e = .returned (.tuple #[.int .u8 0, .bool false]) ∧ w = w' := by
  obtain ⟨c0, c1⟩ := two_cells h.B
  have hE := rest_no s hi
  clear h
  generalize s.extract i s.size = t at c0 hE
  go_enter Tryz.func79, Tryz.ntmps79
  go_wp2
  go_ret2
  exact ⟨rfl, rfl⟩

theorem cIdx1 (t : ByteArray) (c : Nat) (w : World) :
    Calls Tryz.prog 85 #[.string t, .int .u8 c] w fun e w' => e = .returned (.int .i64 (Lib.indexByte t.data.toList c.toUInt8)) ∧ w = w' := by
  have hx := @run_callFunc_extern Tryz.prog 93 _ Extern.BytealgIndexByte.indexByte Tryz.func93 (by kernel_rfl) (by kernel_rfl) (by kernel_rfl) (by kernel_rfl)
  have hr := @Lib.run_indexByteString Tryz.prog
  go_enter Tryz.func85, Tryz.ntmps85
  go_wp2
  go_ret
  exact ⟨rfl, rfl⟩
theorem cIdx (t : ByteArray) (c : Nat) (w : World) :
    Calls Tryz.prog 66 #[.string t, .int .u8 c] w fun e w' => e = .returned (.int .i64 (Lib.indexByte t.data.toList c.toUInt8)) ∧ w = w' := by
  go_enter Tryz.func66, Tryz.ntmps66
  go_wp2_with (go_at_call 85; refine (cIdx1 _ _ _).mono ?_; rintro e w' ⟨rfl, rfl⟩)
  go_ret
  exact ⟨rfl, rfl⟩
/-- does one of these bytes stand here? -/
def seen (s : ByteArray) (i : Nat) (l : List UInt8) : Bool := if h : i < s.size then decide (0 ≤ Lib.indexByte l s[i]) else false
theorem cSees (t : ByteArray) (r : Nat) (s : ByteArray) (i c : Nat) (w : World) (h : Rd w r s i c) :
    Calls Tryz.prog 48 #[.pointer (some ⟨r, 0, none⟩), .string t] w fun e w' => e = .returned (.bool (seen s i t.data.toList)) ∧ w = w' := by
  obtain ⟨c0, c1⟩ := two_cells h.B
  by_cases hi : i < s.size
  · have h0 : 0 < (s.extract i s.size).size := by rw [rest_size]; omega
    have hg := Lib.hid (show (s.extract i s.size)[0] = s[i] by rw [rest_get s hi h0])
    have hE := rest_ne s hi
    have hS := Lib.hid (show seen s i t.data.toList = decide (0 ≤ Lib.indexByte t.data.toList s[i]) by unfold seen; rw [dif_pos hi])
    clear h
    generalize s.extract i s.size = u at c0 h0 hg hE
    go_enter Tryz.func48, Tryz.ntmps48
    go_wp2_with (go_at_call 66; refine (cIdx _ _ _).mono ?_; rintro e w' ⟨rfl, rfl⟩)
    go_ret
    exact ⟨ret_bool (by rw [hS.out]; simp [hg.out]), rfl⟩
  · have hE := rest_no s hi
    have hS := Lib.hid (show seen s i t.data.toList = false by unfold seen; rw [dif_neg hi])
    clear h
    generalize s.extract i s.size = u at c0 hE
    go_enter Tryz.func48, Tryz.ntmps48
    go_wp2
    go_ret
    exact ⟨ret_bool (by rw [hS.out]), rfl⟩
theorem beq_byte (a : UInt8) (n : Nat) (b : UInt8) (hb : b.toNat = n) : (b == a) = (a.toNat == n) := by
  rw [Bool.eq_iff_iff]; simp only [beq_iff_eq]; constructor
  · rintro rfl; exact hb
  · intro h; exact UInt8.toNat_inj.1 (by rw [h, hb])
theorem seen_93 (s : ByteArray) (i : Nat) : seen s i [93] = nxt s i 93 := by
  unfold seen nxt
  split
  · rename_i h
    unfold Lib.indexByte Lib.indexByte
    rw [beq_byte s[i] 93 93 rfl]
    cases s[i].toNat == 93 <;> simp
  · rfl
theorem seen_bar (s : ByteArray) (i : Nat) : seen s i [124, 41] = (nxt s i 124 || nxt s i 41) := by
  unfold seen nxt
  split
  · rename_i h
    unfold Lib.indexByte Lib.indexByte Lib.indexByte
    rw [beq_byte s[i] 124 124 rfl, beq_byte s[i] 41 41 rfl]
    cases s[i].toNat == 124 <;> cases s[i].toNat == 41 <;> simp
  · rfl
theorem cPre1 (t : ByteArray) (w : World) (v : Bool) (hv : v = (decide (2 ≤ t.size) && ((t.extract 0 2).toList == [45, 93]))) :
    Calls Tryz.prog 100 #[.string t, .string ⟨#[45, 93]⟩] w fun e w' => e = .returned (.bool v) ∧ w = w' := by
  have HV := Lib.hid hv
  by_cases h2 : 2 ≤ t.size
  · have h2' : decide ((t.size : Int) ≥ 2) = true := by simp; omega
    have HV' := Lib.hid (show v = ((t.extract 0 2).toList == [45, 93]) by rw [hv]; simp [h2])
    clear hv HV
    go_enter Tryz.func100, Tryz.ntmps100
    go_wp2
    go_ret
    exact ⟨ret_bool HV'.out.symm, rfl⟩
  · have HV' := Lib.hid (show v = false by rw [hv]; simp [h2])
    clear hv HV
    go_enter Tryz.func100, Tryz.ntmps100
    go_wp2
    go_ret
    exact ⟨ret_bool HV'.out.symm, rfl⟩
theorem cPre (s : ByteArray) (i : Nat) (w : World) :
    Calls Tryz.prog 97 #[.string (s.extract i s.size), .string ⟨#[45, 93]⟩] w fun e w' => e = .returned (.bool (nxt s i 45 && nxt s (i + 1) 93)) ∧ w = w' := by
  have HV := Lib.hid (show (nxt s i 45 && nxt s (i + 1) 93) = (decide (2 ≤ (s.extract i s.size).size) && (((s.extract i s.size).extract 0 2).toList == [45, 93])) by
    rw [rest_size, Lib.toList_data]
    by_cases h : i + 1 < s.size
    · have hd : decide (2 ≤ s.size - i) = true := by simp; omega
      rw [hd, Bool.true_and]
      unfold nxt
      rw [dif_pos (show i < s.size by omega), dif_pos h]
      have e : ((s.extract i s.size).extract 0 2).data.toList = [s[i], s[i + 1]] := by
        have hl : s.data.toList.length = s.size := rfl
        have e1 : s.data.toList.drop i = s[i] :: s[i + 1] :: s.data.toList.drop (i + 2) := by
          rw [List.drop_eq_getElem_cons (by omega), List.drop_eq_getElem_cons (i := i + 1) (by omega)]; rfl
        have e2 : min (i + 2) s.size - i = 2 := by omega
        simp [e1, e2]
      rw [e]
      show _ = (s[i] == 45 && (s[i + 1] == 93 && true))
      rw [Bool.and_true, BEq.comm (a := s[i]), BEq.comm (a := s[i + 1]), beq_byte s[i] 45 45 rfl, beq_byte s[i + 1] 93 93 rfl]
    · have hd : decide (2 ≤ s.size - i) = false := by simp; omega
      rw [hd, Bool.false_and, nxt_end h, Bool.and_false])
  generalize s.extract i s.size = t at HV ⊢
  go_enter Tryz.func97, Tryz.ntmps97
  go_wp2_with (go_at_call 100; refine (cPre1 _ _ _ HV.out).mono ?_; rintro e w' ⟨rfl, rfl⟩)
  go_ret
  exact ⟨rfl, rfl⟩
end Go.Proofs.YtlkjejmmoalliaaGreatDoor

namespace Go.Proofs.YtlkjejmmoalliaaGreatDoor
open Go.RowKit

theorem cMByte1 (r : Nat) (s : ByteArray) (i c b j : Nat) (f : Bool) (w : World) (h : Rd w r s i c) (hb : byteAt s i = some (b, f, j)) :
    Calls Tryz.prog 96 #[.pointer (some ⟨r, 0, none⟩)] w fun e w' => e = .returned (.tuple #[.int .u8 b, .bool true]) ∧ Rd w' r s j c ∧ w.grownBy w' (some r) := by
  have H := Lib.hid h
  have C93 := Lib.hid (fun w h => seen_93 s i ▸ cSees ⟨#[93]⟩ r s i c w h)
  clear h
  unfold byteAt at hb
  split at hb
  · rename_i hi
    split at hb
    · cases hb
    · rename_i h93
      have n93 := Lib.hid (show nxt s i 93 = false by unfold nxt; rw [dif_pos hi]; simpa using h93)
      split at hb
      · rename_i h92
        split at hb
        · rename_i hi1
          simp only [Option.some.injEq, Prod.mk.injEq] at hb; obtain ⟨rfl, -, rfl⟩ := hb
          have n92 := Lib.hid (nxt_is hi h92)
          clear h93 h92
          go_enter Tryz.func96, Tryz.ntmps96
          go_wp2_with (go_at_call 25; refine (cTake1 92 _ _ _ _ _ H.out n92.out).mono ?_; rintro e w1 ⟨rfl, r1, g1⟩; have R1 := Lib.hid r1; have G1 := Lib.hid g1; clear r1 g1)
          refine (cNext1 _ _ _ _ _ R1.out hi1).mono ?_
          rintro e w2 ⟨rfl, r2, g2⟩
          have R2 := Lib.hid r2; have G2 := Lib.hid (G1.out.trans g2)
          clear r2 g2
          go_wp2
          go_ret2
          exact ⟨rfl, R2.out, G2.out⟩
        · cases hb
      · rename_i h92
        simp only [Option.some.injEq, Prod.mk.injEq] at hb; obtain ⟨rfl, -, rfl⟩ := hb
        have n92 := Lib.hid (show nxt s i 92 = false by unfold nxt; rw [dif_pos hi]; simpa using h92)
        clear h93 h92
        rw [n93.out] at C93
        go_enter Tryz.func96, Tryz.ntmps96
        go_wp2_with (first
          | (go_at_call 25; refine (cTake0 92 _ _ _ _ _ H.out n92.out).mono ?_; rintro e w1 ⟨rfl, rfl⟩)
          | (go_at_call 48; refine (C93.out _ H.out).mono ?_; rintro e w1 ⟨rfl, rfl⟩))
        refine (cNext1 _ _ _ _ _ H.out hi).mono ?_
        rintro e w2 ⟨rfl, r2, g2⟩
        have R2 := Lib.hid r2; have G2 := Lib.hid g2
        clear r2 g2
        go_wp2
        go_ret2
        exact ⟨rfl, R2.out, G2.out⟩
  · cases hb

theorem cMByte0 (r : Nat) (s : ByteArray) (i c : Nat) (w : World) (h : Rd w r s i c) (hb : byteAt s i = none) :
    Calls Tryz.prog 96 #[.pointer (some ⟨r, 0, none⟩)] w fun e w' => e = .returned (.tuple #[.int .u8 0, .bool false]) ∧ w.grownBy w' (some r) := by
  have H := Lib.hid h
  have C93 := Lib.hid (fun w h => seen_93 s i ▸ cSees ⟨#[93]⟩ r s i c w h)
  clear h
  unfold byteAt at hb
  split at hb
  · rename_i hi
    split at hb
    · rename_i h93
      have n93 := Lib.hid (nxt_is hi h93)
      have n92 := Lib.hid (show nxt s i 92 = false by unfold nxt; rw [dif_pos hi, h93]; rfl)
      rw [n93.out] at C93
      clear hb h93
      go_enter Tryz.func96, Tryz.ntmps96
      go_wp2_with (first
        | (go_at_call 25; refine (cTake0 92 _ _ _ _ _ H.out n92.out).mono ?_; rintro e w1 ⟨rfl, rfl⟩)
        | (go_at_call 48; refine (C93.out _ H.out).mono ?_; rintro e w1 ⟨rfl, rfl⟩))
      go_ret2
      exact ⟨rfl, World.grownBy.refl _ _⟩
    · split at hb
      · rename_i h92
        split at hb
        · cases hb
        · rename_i hi1
          have n92 := Lib.hid (nxt_is hi h92)
          clear hb h92
          go_enter Tryz.func96, Tryz.ntmps96
          go_wp2_with (go_at_call 25; refine (cTake1 92 _ _ _ _ _ H.out n92.out).mono ?_; rintro e w1 ⟨rfl, r1, g1⟩; have R1 := Lib.hid r1; have G1 := Lib.hid g1; clear r1 g1)
          refine (cNext0 _ _ _ _ _ R1.out hi1).mono ?_
          rintro e w2 ⟨rfl, rfl⟩
          go_wp2
          go_ret2
          exact ⟨rfl, G1.out⟩
      · cases hb
  · rename_i hi
    have n92 := Lib.hid (nxt_end (c := 92) hi)
    have n93 := Lib.hid (nxt_end (c := 93) hi)
    rw [n93.out] at C93
    clear hb
    go_enter Tryz.func96, Tryz.ntmps96
    go_wp2_with (first
      | (go_at_call 25; refine (cTake0 92 _ _ _ _ _ H.out n92.out).mono ?_; rintro e w1 ⟨rfl, rfl⟩)
      | (go_at_call 48; refine (C93.out _ H.out).mono ?_; rintro e w1 ⟨rfl, rfl⟩))
    refine (cNext0 _ _ _ _ _ H.out hi).mono ?_
    rintro e w2 ⟨rfl, rfl⟩
    go_wp2
    go_ret2
    exact ⟨rfl, World.grownBy.refl _ _⟩
end Go.Proofs.YtlkjejmmoalliaaGreatDoor

namespace Go.Proofs.YtlkjejmmoalliaaGreatDoor
open Go.RowKit

theorem heap_row {w w' : World} {r b : Nat} {o : Obj} (g : w.grownBy w' (some r)) (hne : b ≠ r) (hb : w.heap[b]? = some o) : w'.heap[b]? = some o := by
  rw [g.block b (by rcases Nat.lt_or_ge b w.heap.size with h | h; exact h; simp [Array.getElem?_eq_none h] at hb) (fun e => hne (by cases e; rfl))]; exact hb
theorem grown_setR {w w1 : World} {r : Nat} (h : w.grownBy w1 (some r)) {b : Nat} (o : Nat) (v : Value) (hb : w.heap.size ≤ b) : w.grownBy (w1.setCell ⟨b, o, none⟩ v) (some r) :=
  h.andThen (grown_at w1 b o v) (fun j e => .inl (by cases e; exact hb))
theorem grown_into {w w1 w2 : World} {r : Nat} (h : w.grownBy w1 none) (g : w1.grownBy w2 (some r)) : w.grownBy w2 (some r) :=
  (World.grownBy.mk h.os h.tape h.output h.size (fun k hk _ => h.block k hk (by simp)) : w.grownBy w1 (some r)).trans g
theorem grown_wide {w w1 : World} {r : Nat} (h : w.grownBy w1 none) : w.grownBy w1 (some r) := grown_into h (World.grownBy.refl _ _)
theorem grown_then {w w1 w2 : World} {r : Nat} (h : w.grownBy w1 (some r)) (g : w1.grownBy w2 none) : w.grownBy w2 (some r) := h.trans (grown_wide g)
theorem Rd.lt {w : World} {r : Nat} {s : ByteArray} {i c : Nat} (h : Rd w r s i c) : r < w.heap.size := (Array.getElem?_eq_some_iff.1 h.B).1
theorem Rd.other {w : World} {r : Nat} {s : ByteArray} {i c : Nat} (h : Rd w r s i c) {b : Nat} (o : Nat) (v : Value) (hb : r ≠ b) : Rd (w.setCell ⟨b, o, none⟩ v) r s i c :=
  ⟨(heap_setCell_other w ⟨b, o, none⟩ r v hb).trans h.B, h.hi, h.hs, h.hc⟩
theorem grown_four {w w1 : World} {r : Nat} (h : w.grownBy w1 (some r)) {b : Nat} (v0 v1 v2 v3 : Value) (hb : w.heap.size ≤ b) : w.grownBy ((((w1.setCell ⟨b, 0, none⟩ v0).setCell ⟨b, 1, none⟩ v1).setCell ⟨b, 2, none⟩ v2).setCell ⟨b, 3, none⟩ v3) (some r) :=
  grown_setR (grown_setR (grown_setR (grown_setR h _ _ hb) _ _ hb) _ _ hb) _ _ hb
theorem Rd.four {w : World} {r : Nat} {s : ByteArray} {i c : Nat} (h : Rd w r s i c) {b : Nat} (v0 v1 v2 v3 : Value) (hb : r ≠ b) : Rd ((((w.setCell ⟨b, 0, none⟩ v0).setCell ⟨b, 1, none⟩ v1).setCell ⟨b, 2, none⟩ v2).setCell ⟨b, 3, none⟩ v3) r s i c :=
  (((h.other _ _ hb).other _ _ hb).other _ _ hb).other _ _ hb
theorem brow_one (w : World) (b : Nat) (t : TypeId) (hb : b < 256) (n : Nat) (hn : n = w.heap.size) : BRow (w.alloc (.cells #[.int .u8 b] t)) (.slice (some ⟨n, 0, none⟩) 1 1) [b] := by
  subst hn
  refine ⟨_, 1, rfl, ⟨by simp, by simpa using hb⟩, fun _ => ⟨_, 0, rfl, by show _ < (w.heap.push _).size; simp, fun k x hx => ?_⟩⟩
  cases k with
  | zero =>
    simp at hx; subst hx
    simp [byteV]
  | succ k => simp at hx
theorem ofL_one (b : Nat) : ofL [b] = one b := by
  show un emp (one b) = _
  unfold un emp; simp
/-- what a member answers -/
def MemOut (r c : Nat) (s : ByteArray) (w : World) (o : Option (BitVec 256 × Nat)) (e : Ending) (w' : World) : Prop :=
  match o with
  | some (t, j) => e = .returned (.tuple #[setV t, .bool true]) ∧ Rd w' r s j c ∧ w.grownBy w' (some r)
  | none => ∃ t, e = .returned (.tuple #[setV t, .bool false]) ∧ w.grownBy w' (some r)

theorem ret_set {s t : BitVec 256} {x y : Bool} (h : s = t) (h2 : x = y) : Ending.returned (.tuple #[setV s, .bool x]) = .returned (.tuple #[setV t, .bool y]) := by rw [h, h2]

set_option maxHeartbeats 4000000 in
theorem cMember (r : Nat) (s : ByteArray) (i c : Nat) (w : World) (h : Rd w r s i c) :
    Calls Tryz.prog 89 #[.pointer (some ⟨r, 0, none⟩)] w (MemOut r c s w (memP s i)) := by
  have hlt := h.lt
  have B3 := heap_alloc_new w (.cells #[.int .u64 0, .int .u64 0, .int .u64 0, .int .u64 0] 25)
  have G := Lib.hid (World.grownBy_alloc w (.cells #[.int .u64 0, .int .u64 0, .int .u64 0, .int .u64 0] 25) none)
  have H1 := Lib.hid (h.kept G.out)
  clear h
  go_enter Tryz.func89, Tryz.ntmps89
  go_upto_region 1 with fail
  generalize w.alloc _ = w1 at B3 G H1 ⊢
  obtain ⟨q, eq⟩ : ∃ q, q = w.heap.size := ⟨_, rfl⟩
  rw [← eq] at B3 ⊢
  have HR := Lib.hid (show w.heap.size ≤ q by omega)
  have HN := Lib.hid (show q ≠ r by omega)
  have B3 := Lib.hid B3
  clear eq hlt
  cases hb : byteAt s i with
  | none =>
    have HM := Lib.hid (show memP s i = none by unfold memP; rw [hb])
    have HB := Lib.hid hb
    clear hb
    go_wp2_with fail
    refine (cMByte0 _ _ _ _ _ H1.out HB.out).mono ?_
    rintro e w2 ⟨rfl, g2⟩
    have B4 := Lib.hid (heap_row g2 HN.out B3.out)
    have G2 := Lib.hid (grown_into G.out g2)
    clear g2
    obtain ⟨r0, r1, r2, r3⟩ := four_cells B4.out
    have fr := four_free B4.out
    go_wp2
    refine bodyPost_ret (v := .tuple #[setV emp, .bool false]) (back_pair 25 Tryz.underlying25 (by kernel_rfl) Tryz.results89 rfl rfl (zero_four B4.out)) rfl ?_
    rw [HM.out]
    exact ⟨emp, rfl, grown_four G2.out _ _ _ _ HR.out⟩
  | some p =>
    obtain ⟨lo, fl, j⟩ := p
    have hlo := Lib.hid (byteAt_gt hb).2.2
    by_cases hj : joins s j = true
    · have hjj := hj
      unfold joins at hjj
      simp only [Bool.and_eq_true, Bool.not_eq_true'] at hjj
      obtain ⟨n45, n93⟩ := hjj
      have CP := Lib.hid (fun w => cPre s j w)
      rw [n45, n93] at CP
      simp only [Bool.and_false] at CP
      have N45 := Lib.hid n45
      clear n45 n93
      cases hb2 : byteAt s (j + 1) with
      | none =>
        have HM := Lib.hid (show memP s i = none by unfold memP; rw [hb]; simp only [hj, if_true, hb2])
        have HB := Lib.hid hb; have HB2 := Lib.hid hb2
        clear hb hj hb2
        go_wp2_with fail
        refine (cMByte1 _ _ _ _ _ _ _ _ H1.out HB.out).mono ?_
        rintro e w2 ⟨rfl, r2, g2⟩
        have R2 := Lib.hid r2
        have B4 := Lib.hid (heap_row g2 HN.out B3.out)
        have G2 := Lib.hid (grown_into G.out g2)
        obtain ⟨c0, c1⟩ := two_cells r2.B
        clear r2 g2
        go_wp2_with (first
          | (go_at_call 97; refine (CP.out _).mono ?_; rintro e w3 ⟨rfl, rfl⟩)
          | (go_at_call 25; refine (cTake1 45 _ _ _ _ _ R2.out N45.out).mono ?_; rintro e w3 ⟨rfl, r3, g3⟩; have R3 := Lib.hid r3; have B5 := Lib.hid (heap_row g3 HN.out B4.out); have G3 := Lib.hid (G2.out.trans g3); clear r3 g3 c0 c1))
        refine (cMByte0 _ _ _ _ _ R3.out HB2.out).mono ?_
        rintro e w4 ⟨rfl, g4⟩
        have B6 := Lib.hid (heap_row g4 HN.out B5.out)
        have G4 := Lib.hid (G3.out.trans g4)
        clear g4
        go_wp2_with fail
        refine (cSpan lo 0 _).mono ?_
        rintro e w5 ⟨rfl, g5⟩
        have B7 := Lib.hid (heap_grown g5 B6.out)
        have G5 := Lib.hid (grown_then G4.out g5)
        clear g5
        obtain ⟨r0, r1, r2, r3⟩ := four_cells B7.out
        have fr := four_free B7.out
        generalize spn lo 0 = z
        go_wp2
        refine bodyPost_ret (v := .tuple #[setV z, .bool false]) (back_pair 25 Tryz.underlying25 (by kernel_rfl) Tryz.results89 rfl rfl (set_four B7.out _ _ _ _)) rfl ?_
        rw [HM.out]
        exact ⟨z, rfl, grown_four G5.out _ _ _ _ HR.out⟩
      | some p2 =>
        obtain ⟨hi, fl2, k⟩ := p2
        have HM := Lib.hid (show memP s i = if lo ≤ hi then some (spn lo hi, k) else none by unfold memP; rw [hb]; simp only [hj, if_true, hb2])
        have HB := Lib.hid hb; have HB2 := Lib.hid hb2
        clear hb hj hb2
        go_wp2_with fail
        refine (cMByte1 _ _ _ _ _ _ _ _ H1.out HB.out).mono ?_
        rintro e w2 ⟨rfl, r2, g2⟩
        have R2 := Lib.hid r2
        have B4 := Lib.hid (heap_row g2 HN.out B3.out)
        have G2 := Lib.hid (grown_into G.out g2)
        obtain ⟨c0, c1⟩ := two_cells r2.B
        clear r2 g2
        go_wp2_with (first
          | (go_at_call 97; refine (CP.out _).mono ?_; rintro e w3 ⟨rfl, rfl⟩)
          | (go_at_call 25; refine (cTake1 45 _ _ _ _ _ R2.out N45.out).mono ?_; rintro e w3 ⟨rfl, r3, g3⟩; have R3 := Lib.hid r3; have B5 := Lib.hid (heap_row g3 HN.out B4.out); have G3 := Lib.hid (G2.out.trans g3); clear r3 g3 c0 c1))
        refine (cMByte1 _ _ _ _ _ _ _ _ R3.out HB2.out).mono ?_
        rintro e w4 ⟨rfl, r4, g4⟩
        have B6 := Lib.hid (heap_row g4 HN.out B5.out)
        have G4 := Lib.hid (G3.out.trans g4)
        have R4 := Lib.hid r4
        clear r4 g4
        go_wp2_with fail
        refine (cSpan lo hi _).mono ?_
        rintro e w5 ⟨rfl, g5⟩
        have B7 := Lib.hid (heap_grown g5 B6.out)
        have G5 := Lib.hid (grown_then G4.out g5)
        have R5 := Lib.hid (R4.out.kept g5)
        clear g5
        obtain ⟨r0, r1, r2, r3⟩ := four_cells B7.out
        have fr := four_free B7.out
        generalize spn lo hi = z at HM ⊢
        by_cases hle : lo ≤ hi
        · have hd : decide (lo ≤ hi) = true := decide_eq_true hle
          have HM2 := Lib.hid (show memP s i = some (z, k) by rw [HM.out, if_pos hle])
          clear hle HM
          go_wp2
          refine bodyPost_ret (v := .tuple #[setV z, .bool true]) (back_pair 25 Tryz.underlying25 (by kernel_rfl) Tryz.results89 rfl rfl (set_four B7.out _ _ _ _)) rfl ?_
          rw [HM2.out]
          exact ⟨rfl, R5.out.four _ _ _ _ (Ne.symm HN.out), grown_four G5.out _ _ _ _ HR.out⟩
        · have hd : decide (lo ≤ hi) = false := decide_eq_false hle
          have HM2 := Lib.hid (show memP s i = none by rw [HM.out, if_neg hle])
          clear hle HM
          go_wp2
          refine bodyPost_ret (v := .tuple #[setV z, .bool false]) (back_pair 25 Tryz.underlying25 (by kernel_rfl) Tryz.results89 rfl rfl (set_four B7.out _ _ _ _)) rfl ?_
          rw [HM2.out]
          exact ⟨z, rfl, grown_four G5.out _ _ _ _ HR.out⟩
    · have hj' : joins s j = false := by simpa using hj
      have HM := Lib.hid (show memP s i = some (one lo, j) by unfold memP; rw [hb]; simp only [hj', Bool.false_eq_true, if_false])
      have HB := Lib.hid hb
      have HO := Lib.hid (ofL_one lo)
      have CP := Lib.hid (fun w => cPre s j w)
      clear hb hj
      unfold joins at hj'
      cases n45 : nxt s j 45 with
      | true =>
        rw [n45] at hj' CP
        simp only [Bool.true_and, Bool.not_eq_false'] at hj'
        rw [hj'] at CP
        simp only [Bool.and_self] at CP
        clear hj' n45
        go_wp2_with fail
        refine (cMByte1 _ _ _ _ _ _ _ _ H1.out HB.out).mono ?_
        rintro e w2 ⟨rfl, r2, g2⟩
        have R2 := Lib.hid r2
        have B4 := Lib.hid (heap_row g2 HN.out B3.out)
        have G2 := Lib.hid (grown_into G.out g2)
        obtain ⟨c0, c1⟩ := two_cells r2.B
        clear r2 g2
        go_wp2_with (first
          | (go_at_call 97; refine (CP.out _).mono ?_; rintro e w3 ⟨rfl, rfl⟩)
          | (go_at_call 82; refine (cOf _ [lo] _ (brow_one _ _ _ hlo.out _ rfl)).mono ?_; rintro e w4 ⟨rfl, g4⟩; have g5 := (World.grownBy_alloc w2 (.cells #[.int .u8 lo] 5) none).trans g4; have B5 := Lib.hid (heap_grown g5 B4.out); have G4 := Lib.hid (grown_then G2.out g5); have R4 := Lib.hid (R2.out.kept g5); clear g4 g5 c0 c1; obtain ⟨r0, r1, r2, r3⟩ := four_cells B5.out; have fr := four_free B5.out; generalize ofL [lo] = z at HO ⊢))
        refine bodyPost_ret (v := .tuple #[setV z, .bool true]) (back_pair 25 Tryz.underlying25 (by kernel_rfl) Tryz.results89 rfl rfl (set_four B5.out _ _ _ _)) rfl ?_
        rw [HM.out, ← HO.out]
        exact ⟨rfl, R4.out.four _ _ _ _ (Ne.symm HN.out), grown_four G4.out _ _ _ _ HR.out⟩
      | false =>
        rw [n45] at CP
        simp only [Bool.false_and] at CP
        have N45 := Lib.hid n45
        clear hj' n45
        go_wp2_with fail
        refine (cMByte1 _ _ _ _ _ _ _ _ H1.out HB.out).mono ?_
        rintro e w2 ⟨rfl, r2, g2⟩
        have R2 := Lib.hid r2
        have B4 := Lib.hid (heap_row g2 HN.out B3.out)
        have G2 := Lib.hid (grown_into G.out g2)
        obtain ⟨c0, c1⟩ := two_cells r2.B
        clear r2 g2
        go_wp2_with (first
          | (go_at_call 97; refine (CP.out _).mono ?_; rintro e w3 ⟨rfl, rfl⟩)
          | (go_at_call 25; refine (cTake0 45 _ _ _ _ _ R2.out N45.out).mono ?_; rintro e w3 ⟨rfl, rfl⟩)
          | (go_at_call 82; refine (cOf _ [lo] _ (brow_one _ _ _ hlo.out _ rfl)).mono ?_; rintro e w4 ⟨rfl, g4⟩; have g5 := (World.grownBy_alloc w2 (.cells #[.int .u8 lo] 5) none).trans g4; have B5 := Lib.hid (heap_grown g5 B4.out); have G4 := Lib.hid (grown_then G2.out g5); have R4 := Lib.hid (R2.out.kept g5); clear g4 g5 c0 c1; obtain ⟨r0, r1, r2, r3⟩ := four_cells B5.out; have fr := four_free B5.out; generalize ofL [lo] = z at HO ⊢))
        refine bodyPost_ret (v := .tuple #[setV z, .bool true]) (back_pair 25 Tryz.underlying25 (by kernel_rfl) Tryz.results89 rfl rfl (set_four B5.out _ _ _ _)) rfl ?_
        rw [HM.out, ← HO.out]
        exact ⟨rfl, R4.out.four _ _ _ _ (Ne.symm HN.out), grown_four G4.out _ _ _ _ HR.out⟩
end Go.Proofs.YtlkjejmmoalliaaGreatDoor

namespace Go.Proofs.YtlkjejmmoalliaaGreatDoor
open Go.RowKit

theorem back_nd1 (T : TypeId) {fs : Array Field} (hT : Tryz.prog.underlying T = some (.struct fs)) (hi : (Tryz.prog.info? T).map (·.size) = some 7) {fn : Func} {p : Tmp} {w : World} {g : Nat} {n : Nd} {kv : Value} {tmps : Array Value} (hf : fn.results = #[.cell p T])
    (hp : tmps.getD p undef = .pointer (some ⟨g, 0, none⟩)) (hg : w.heap[g]? = some (.cells #[.int .i64 n.kind, .int .i64 n.index, .int .u64 (wd n.set 0), .int .u64 (wd n.set 1), .int .u64 (wd n.set 2), .int .u64 (wd n.set 3), kv] T (0, 0))) :
    (results fn tmps).run Tryz.prog w = .ok (ndV n kv) w :=
  results_cell_row hf tmps w g _ _ _ _ hp hg hT rfl hi
theorem back_nd2 (T : TypeId) {fs : Array Field} (hT : Tryz.prog.underlying T = some (.struct fs)) (hi : (Tryz.prog.info? T).map (·.size) = some 7) {fn : Func} {p q : Tmp} {w : World} {g : Nat} {n : Nd} {kv v : Value} {tmps : Array Value} (hf : fn.results = #[.cell p T, .tmp q])
    (hp : tmps.getD p undef = .pointer (some ⟨g, 0, none⟩)) (hq : tmps.getD q undef = v) (hg : w.heap[g]? = some (.cells #[.int .i64 n.kind, .int .i64 n.index, .int .u64 (wd n.set 0), .int .u64 (wd n.set 1), .int .u64 (wd n.set 2), .int .u64 (wd n.set 3), kv] T (0, 0))) :
    (results fn tmps).run Tryz.prog w = .ok (.tuple #[ndV n kv, v]) w := by
  have hp' : tmps[p]?.getD undef = .pointer (some ⟨g, 0, none⟩) := by simpa using hp
  have hq' : tmps[q]?.getD undef = v := by simpa using hq
  have hl := run_loadVar_row (P := Tryz.prog) w g T T _ (0, 0) _ hg hT rfl hi
  simp [results, hf, hp', hq', asAddr, hl]
theorem sizeNd28 : (Tryz.prog.info? 28).map (·.size) = some 7 := by kernel_rfl
theorem zero_seven {w : World} {r : Nat} {T : TypeId} {a0 a1 a2 a3 a4 a5 a6 : Value} (h : w.heap[r]? = some (.cells #[a0, a1, a2, a3, a4, a5, a6] T (0, 0))) :
    (((((((w.setCell ⟨r, 0, none⟩ (.int .i64 0)).setCell ⟨r, 1, none⟩ (.int .i64 0)).setCell ⟨r, 2, none⟩ (.int .u64 0)).setCell ⟨r, 3, none⟩ (.int .u64 0)).setCell ⟨r, 4, none⟩ (.int .u64 0)).setCell ⟨r, 5, none⟩ (.int .u64 0)).setCell ⟨r, 6, none⟩ (.slice none 0 0)).heap[r]? = some (.cells #[.int .i64 ndE.kind, .int .i64 ndE.index, .int .u64 (wd ndE.set 0), .int .u64 (wd ndE.set 1), .int .u64 (wd ndE.set 2), .int .u64 (wd ndE.set 3), .slice none 0 0] T (0, 0)) := by
  show _ = some (Obj.cells #[_, _, .int .u64 (wd emp 0), .int .u64 (wd emp 1), .int .u64 (wd emp 2), .int .u64 (wd emp 3), _] T (0, 0))
  rw [wd_emp, wd_emp, wd_emp, wd_emp]; exact set_seven h _ _ _ _ _ _ _
theorem grown_seven {w w1 : World} {r : Nat} (h : w.grownBy w1 (some r)) {b : Nat} (v0 v1 v2 v3 v4 v5 v6 : Value) (hb : w.heap.size ≤ b) :
    w.grownBy (((((((w1.setCell ⟨b, 0, none⟩ v0).setCell ⟨b, 1, none⟩ v1).setCell ⟨b, 2, none⟩ v2).setCell ⟨b, 3, none⟩ v3).setCell ⟨b, 4, none⟩ v4).setCell ⟨b, 5, none⟩ v5).setCell ⟨b, 6, none⟩ v6) (some r) :=
  grown_setR (grown_setR (grown_setR (grown_setR (grown_setR (grown_setR (grown_setR h _ _ hb) _ _ hb) _ _ hb) _ _ hb) _ _ hb) _ _ hb) _ _ hb
theorem Rd.seven {w : World} {r : Nat} {s : ByteArray} {i c : Nat} (h : Rd w r s i c) {b : Nat} (v0 v1 v2 v3 v4 v5 v6 : Value) (hb : r ≠ b) :
    Rd (((((((w.setCell ⟨b, 0, none⟩ v0).setCell ⟨b, 1, none⟩ v1).setCell ⟨b, 2, none⟩ v2).setCell ⟨b, 3, none⟩ v3).setCell ⟨b, 4, none⟩ v4).setCell ⟨b, 5, none⟩ v5).setCell ⟨b, 6, none⟩ v6) r s i c :=
  ((((((h.other _ _ hb).other _ _ hb).other _ _ hb).other _ _ hb).other _ _ hb).other _ _ hb).other _ _ hb
theorem heap_four {w : World} {b b' : Nat} {o : Obj} (hb : w.heap[b]? = some o) (v0 v1 v2 v3 : Value) (hne : b ≠ b') : ((((w.setCell ⟨b', 0, none⟩ v0).setCell ⟨b', 1, none⟩ v1).setCell ⟨b', 2, none⟩ v2).setCell ⟨b', 3, none⟩ v3).heap[b]? = some o := by
  rw [heap_setCell_other _ _ b _ hne, heap_setCell_other _ _ b _ hne, heap_setCell_other _ _ b _ hne, heap_setCell_other _ _ b _ hne]; exact hb
def restLen (w : World) (r : Nat) : Nat := match w.cell? ⟨r, 0, none⟩ with | some (.string t) => t.size | _ => 0
theorem restLen_of {w : World} {r : Nat} {s : ByteArray} {i c : Nat} (h : Rd w r s i c) : restLen w r = s.size - i := by
  unfold restLen; rw [(two_cells h.B).1]; exact rest_size s
theorem caret_nxt (s : ByteArray) (i : Nat) : caret s i = nxt s i 94 := by
  unfold caret nxt
  split
  · rename_i h; rw [Bool.eq_iff_iff]; simp only [decide_eq_true_eq, beq_iff_eq]
    constructor
    · intro e; rw [e]; rfl
    · intro e; exact UInt8.toNat_inj.1 e
  · rfl
/-- what a class answers -/
def ClassOut (r c : Nat) (s : ByteArray) (w : World) (o : Option (BitVec 256 × Nat)) (e : Ending) (w' : World) : Prop :=
  match o with
  | some (t, j) => e = .returned (.tuple #[ndV (.mk 1 0 t []) (.slice none 0 0), .bool true]) ∧ Rd w' r s (j + 1) c ∧ w.grownBy w' (some r)
  | none => e = .returned (.tuple #[ndV ndE (.slice none 0 0), .bool false]) ∧ w.grownBy w' (some r)
/-- what the members' loop knows -/
structure CW (w0 : World) (r c : Nat) (s : ByteArray) (n : Bool) (O : Option (BitVec 256 × Nat)) (g q : Nat) (b : Bool) (i : Nat) (f : Nat → Bool) (z : BitVec 256) (wr : World) : Prop where
  R : Rd wr r s i c
  G : w0.grownBy wr (some r)
  N : wr.heap[g]? = some (.cells #[.int .i64 0, .int .i64 0, .int .u64 0, .int .u64 0, .int .u64 0, .int .u64 0, .slice none 0 0] 28 (0, 0))
  S : wr.heap[q]? = some (.cells #[.int .u64 (wd z 0), .int .u64 (wd z 1), .int .u64 (wd z 2), .int .u64 (wd z 3)] 25 (0, 0))
  Z : z = mkS f
  O : O = if b then (if nxt s i 93 then none else clsK s n f i) else some (mkS (fun x => f x != n), i - 1)
  i : b = false → 0 < i
theorem mkS_un (f : Nat → Bool) (t : BitVec 256) : un (mkS f) t = mkS (fun b => f b || inn t b) := inn_ext fun b hb => by rw [inn_un, inn_mkS _ _ hb, inn_mkS _ _ hb]
theorem mkS_no (f : Nat → Bool) : no (mkS f) = mkS (fun b => f b != true) := inn_ext fun b hb => by rw [inn_no _ _ hb, inn_mkS _ _ hb, inn_mkS _ _ hb]; simp
theorem mkS_same (f : Nat → Bool) : mkS (fun b => f b != false) = mkS f := mkS_ext fun b _ => by simp
theorem mkS_none : mkS (fun _ => false) = emp := inn_ext fun b hb => by rw [inn_mkS _ _ hb, inn_emp]
theorem cw_none {w0 : World} {r c : Nat} {s : ByteArray} {n : Bool} {O : Option (BitVec 256 × Nat)} {g q i : Nat} {f : Nat → Bool} {z : BitVec 256} {wr : World} (h : CW w0 r c s n O g q true i f z wr) (hm : memP s i = none) : O = none := by
  have h1 := h.O
  rw [if_pos rfl] at h1
  rw [h1]
  by_cases h9 : nxt s i 93 = true
  · rw [if_pos h9]
  · rw [if_neg h9, clsK_mem (by simpa using h9), hm]
theorem cw_some {w0 : World} {r c : Nat} {s : ByteArray} {n : Bool} {O : Option (BitVec 256 × Nat)} {g q i j : Nat} {f : Nat → Bool} {t z : BitVec 256} {wr : World} (h : CW w0 r c s n O g q true i f z wr) (hm : memP s i = some (t, j)) : O = clsK s n (fun b => f b || inn t b) j := by
  have h1 := h.O
  rw [if_pos rfl] at h1
  have h9 : nxt s i 93 = false := by
    cases h9 : nxt s i 93 with
    | false => rfl
    | true =>
      obtain ⟨hi, h9⟩ := nxt_yes h9
      exfalso
      unfold memP at hm
      have : byteAt s i = none := by unfold byteAt; rw [dif_pos hi, if_pos h9]
      rw [this] at hm; cases hm
  rw [h1, h9, if_neg (by simp), clsK_mem h9, hm]

set_option maxRecDepth 100000 in
set_option maxHeartbeats 1600000 in
theorem cClass (r : Nat) (s : ByteArray) (i c : Nat) (w : World) (h : Rd w r s i c) :
    Calls Tryz.prog 81 #[.pointer (some ⟨r, 0, none⟩)] w (ClassOut r c s w (clsP s i)) := by
  have hlt := h.lt
  have B3 := heap_alloc_new w (.cells #[.int .i64 0, .int .i64 0, .int .u64 0, .int .u64 0, .int .u64 0, .int .u64 0, .slice none 0 0] 28)
  have G := Lib.hid (World.grownBy_alloc w (.cells #[.int .i64 0, .int .i64 0, .int .u64 0, .int .u64 0, .int .u64 0, .int .u64 0, .slice none 0 0] 28) none)
  have H1 := Lib.hid (h.kept G.out)
  clear h
  go_enter Tryz.func81, Tryz.ntmps81
  go_upto_region 1 with fail
  generalize w.alloc _ = w1 at B3 G H1 ⊢
  obtain ⟨g, eg⟩ : ∃ g, g = w.heap.size := ⟨_, rfl⟩
  rw [← eg] at B3 ⊢
  have HR := Lib.hid (show w.heap.size ≤ g by omega)
  have HN := Lib.hid (show g ≠ r by omega)
  have B3 := Lib.hid B3
  clear eg
  have HC := Lib.hid (show clsP s i = clsQ s (nxt s i 94) (if nxt s i 94 then i + 1 else i) by unfold clsP; rw [caret_nxt])
  cases hcar : nxt s i 94
  case' false =>
    have HC := Lib.hid (show clsP s i = clsQ s false i by rw [HC.out, hcar]; rfl)
    have HCAR := Lib.hid hcar
    clear hcar
    go_wp2_with fail
    refine (cTake0 94 _ _ _ _ _ H1.out HCAR.out).mono ?_
    rintro e w2 ⟨rfl, rfl⟩
    have R2 := H1; have B4 := B3; have G2 := Lib.hid (grown_wide (r := r) G.out)
    clear H1 B3 G
    revert R2 B4 G2
    generalize w1 = w2
    intro R2 B4 G2
    obtain ⟨i1, ei⟩ : ∃ i1, i1 = i := ⟨_, rfl⟩
    obtain ⟨n, en⟩ : ∃ n, n = false := ⟨_, rfl⟩
    rw [← ei] at R2
    have HC := Lib.hid (show clsP s i = clsQ s n i1 by rw [HC.out, ei, en])
  case' true =>
    have HC := Lib.hid (show clsP s i = clsQ s true (i + 1) by rw [HC.out, hcar]; rfl)
    have HCAR := Lib.hid hcar
    clear hcar
    go_wp2_with fail
    refine (cTake1 94 _ _ _ _ _ H1.out HCAR.out).mono ?_
    rintro e w2 ⟨rfl, r2, g2⟩
    have R2 := Lib.hid r2; have B4 := Lib.hid (heap_row g2 HN.out B3.out); have G2 := Lib.hid (grown_into G.out g2)
    clear r2 g2 H1 B3 G
    obtain ⟨i1, ei⟩ : ∃ i1, i1 = i + 1 := ⟨_, rfl⟩
    obtain ⟨n, en⟩ : ∃ n, n = true := ⟨_, rfl⟩
    rw [← ei] at R2
    have HC := Lib.hid (show clsP s i = clsQ s n i1 by rw [HC.out, ei, en])
  all_goals
    have EN := Lib.hid en
    clear ei en HCAR
    obtain ⟨O, eO⟩ : ∃ O, O = clsP s i := ⟨_, rfl⟩
    rw [← eO] at HC
    have EO := Lib.hid eO
    clear eO
    have B5 := Lib.hid (heap_alloc_new w2 (.cells #[.int .u64 0, .int .u64 0, .int .u64 0, .int .u64 0] 25))
    have ga := World.grownBy_alloc w2 (.cells #[.int .u64 0, .int .u64 0, .int .u64 0, .int .u64 0] 25) none
    have B6 := Lib.hid (heap_grown ga B4.out)
    have R3 := Lib.hid (R2.out.kept ga)
    have G3 := Lib.hid (grown_then G2.out ga)
    have hgl : g < w2.heap.size := (Array.getElem?_eq_some_iff.1 B4.out).1
    have hrl := R2.out.lt
    have hwl := G2.out.size
    go_wp2_with fail
    clear ga R2 B4 G2
    generalize w2.alloc _ = w3 at B5 B6 R3 G3 ⊢
    obtain ⟨q, eq⟩ : ∃ q, q = w2.heap.size := ⟨_, rfl⟩
    rw [← eq] at B5 ⊢
    have HQ := Lib.hid (show w.heap.size ≤ q by omega)
    have HQR := Lib.hid (show q ≠ r by omega)
    have HQG := Lib.hid (show q ≠ g by omega)
    clear eq hgl hrl hwl hlt
    have W0 := Lib.hid (show CW w r c s n O g q true i1 (fun _ => false) emp w3 from ⟨R3.out, G3.out, B6.out, by rw [wd_emp, wd_emp, wd_emp, wd_emp]; exact B5.out, mkS_none.symm, by
      rw [if_pos rfl, HC.out]
      cases h9 : nxt s i1 93 with
      | true => rw [if_pos rfl, clsQ_first h9]
      | false => rw [if_neg (by simp), clsQ_K h9], by intro e; cases e⟩)
    clear B5 B6 R3 G3 HC
    go_loopw [6, 7, 8, 11, 12, 13, 14, 15, 16, 17, 18, 19, 20, 21, 22, 23, 24, 25] (fun more _ _ _ _ _ _ _ _ _ _ _ _ _ _ _ _ _ wr => ∃ (b : Bool) (k : Nat) (f : Nat → Bool) (z : BitVec 256), more = .bool b ∧ Hid (CW w r c s n O g q b k f z wr)) (fun _ _ _ _ _ _ _ _ _ _ _ _ _ _ _ _ _ _ wr => restLen wr r)
    case atStart => exact ⟨true, i1, _, _, rfl, W0⟩
    case round =>
      obtain ⟨b, k, f, z0, rfl, hW⟩ := hrel
      clear W0
      cases b with
      | true =>
        cases hm : memP s k with
        | none =>
          have HO := Lib.hid (cw_none hW.out hm)
          have CM := Lib.hid (fun w h => hm ▸ cMember r s k c w h)
          clear hm
          go_wp2_with fail
          refine (CM.out _ hW.out.R).mono ?_
          rintro e w4 ⟨t, rfl, g4⟩
          have B7 := Lib.hid (heap_grown (World.grownBy_alloc w4 (.cells #[.int .u64 (wd t 0), .int .u64 (wd t 1), .int .u64 (wd t 2), .int .u64 (wd t 3)] 25) none) (heap_row g4 HN.out hW.out.N))
          have G5 := Lib.hid (grown_then (hW.out.G.trans g4) (World.grownBy_alloc w4 (.cells #[.int .u64 (wd t 0), .int .u64 (wd t 1), .int .u64 (wd t 2), .int .u64 (wd t 3)] 25) none))
          clear g4
          obtain ⟨r0, r1, r2, r3, r4, r5, r6⟩ := seven_cells B7.out
          have fr := four_free B7.out
          go_wp2
          refine bodyPost_ret (v := .tuple #[ndV ndE (.slice none 0 0), .bool false]) (back_nd2 28 Tryz.underlying28 sizeNd28 Tryz.results81 rfl rfl (zero_seven B7.out)) rfl ?_
          rw [← EO.out, HO.out]
          exact ⟨rfl, grown_seven G5.out _ _ _ _ _ _ _ HR.out⟩
        | some p =>
          obtain ⟨t, j⟩ := p
          have HO := Lib.hid (cw_some hW.out hm)
          have hjk := (memP_gt hm).1
          have CM := Lib.hid (fun w h => hm ▸ cMember r s k c w h)
          clear hm
          go_wp2_with fail
          refine (CM.out _ hW.out.R).mono ?_
          rintro e w4 ⟨rfl, r4, g4⟩
          have ga := World.grownBy_alloc w4 (.cells #[.int .u64 (wd t 0), .int .u64 (wd t 1), .int .u64 (wd t 2), .int .u64 (wd t 3)] 25) none
          have R5 := Lib.hid (r4.kept ga)
          have N5 := Lib.hid (heap_grown ga (heap_row g4 HN.out hW.out.N))
          have S5 := Lib.hid (heap_grown ga (heap_row g4 HQR.out hW.out.S))
          have M5 := Lib.hid (set_new w4 t 25)
          have G5 := Lib.hid (grown_then (hW.out.G.trans g4) ga)
          have hres := restLen_of hW.out.R
          have hkl := hW.out.R.hi
          have hjl := r4.hi
          clear g4 r4 ga
          obtain ⟨m0, m1, m2, m3⟩ := M5.out
          obtain ⟨s0, s1, s2, s3⟩ := four_cells S5.out
          have HRES := Lib.hid hres
          clear hres
          go_wp2_with fail
          refine (cUnion z0 t _).mono ?_
          rintro e w6 ⟨rfl, g6⟩
          have R6 := Lib.hid (R5.out.kept g6)
          have N6 := Lib.hid (heap_grown g6 N5.out)
          have S6 := Lib.hid (heap_grown g6 S5.out)
          have G6 := Lib.hid (grown_then G5.out g6)
          have HU := Lib.hid (show un z0 t = mkS (fun b => f b || inn t b) by rw [hW.out.Z]; exact mkS_un f t)
          clear g6 m0 m1 m2 m3 s0 s1 s2 s3 R5 N5 S5 M5 G5
          generalize un z0 t = z at HU ⊢
          have fr := four_free S6.out
          obtain ⟨p0, p1, p2, p3⟩ := four_cells S6.out
          have R7 := Lib.hid (R6.out.four (.int .u64 (wd z 0)) (.int .u64 (wd z 1)) (.int .u64 (wd z 2)) (.int .u64 (wd z 3)) (Ne.symm HQR.out))
          have N7 := Lib.hid (heap_four N6.out (.int .u64 (wd z 0)) (.int .u64 (wd z 1)) (.int .u64 (wd z 2)) (.int .u64 (wd z 3)) (Ne.symm HQG.out))
          have S7 := Lib.hid (set_four S6.out (.int .u64 (wd z 0)) (.int .u64 (wd z 1)) (.int .u64 (wd z 2)) (.int .u64 (wd z 3)))
          have G7 := Lib.hid (grown_four G6.out (.int .u64 (wd z 0)) (.int .u64 (wd z 1)) (.int .u64 (wd z 2)) (.int .u64 (wd z 3)) HQ.out)
          go_upto_region 5 with fail
          clear fr p0 p1 p2 p3 R6 N6 S6 G6
          generalize World.setCell _ _ _ = w7 at R7 N7 S7 G7 ⊢
          cases h9 : nxt s j 93 with
          | false =>
            have H9 := Lib.hid h9
            clear h9
            go_wp2_with (go_at_call 25; refine (cTake0 93 _ _ _ _ _ R7.out H9.out).mono ?_; rintro e w8 ⟨rfl, rfl⟩)
            have HF := Lib.hid (show CW w r c s n O g q true j (fun b => f b || inn t b) z w7 from ⟨R7.out, G7.out, N7.out, S7.out, HU.out, by rw [if_pos rfl, H9.out, if_neg (by simp)]; exact HO.out, by intro e; cases e⟩)
            have HM := Lib.hid (restLen_of R7.out)
            go_roundw
            case rel => exact ⟨true, j, _, _, rfl, HF⟩
            case measure => rw [HRES.out, HM.out]; omega
          | true =>
            have H9 := Lib.hid h9
            obtain ⟨hj2, h93⟩ := nxt_yes h9
            have HS := Lib.hid (clsK_stop (s := s) (n := n) (f := fun b => f b || inn t b) hj2 h93)
            clear h9 h93
            go_wp2_with (go_at_call 25; refine (cTake1 93 _ _ _ _ _ R7.out H9.out).mono ?_; rintro e w8 ⟨rfl, r8, g8⟩; have R8 := Lib.hid r8; have N8 := Lib.hid (heap_row g8 HN.out N7.out); have S8 := Lib.hid (heap_row g8 HQR.out S7.out); have G8 := Lib.hid (G7.out.trans g8); clear r8 g8)
            have HF := Lib.hid (show CW w r c s n O g q false (j + 1) (fun b => f b || inn t b) z w8 from ⟨R8.out, G8.out, N8.out, S8.out, HU.out, by rw [if_neg (by simp), HO.out, HS.out, Nat.add_sub_cancel], by intro _; omega⟩)
            have HM := Lib.hid (restLen_of R8.out)
            go_roundw
            case rel => exact ⟨false, j + 1, _, _, rfl, HF⟩
            case measure => rw [HRES.out, HM.out]; omega
      | false =>
        have HO := Lib.hid (show O = some (mkS (fun x => f x != n), k - 1) by have := hW.out.O; rwa [if_neg (by simp)] at this)
        have hk := hW.out.i rfl
        have N1 := Lib.hid hW.out.N
        have S1 := Lib.hid hW.out.S
        have R1 := Lib.hid hW.out.R
        have G1 := Lib.hid hW.out.G
        have HK := Lib.hid (show k - 1 + 1 = k by omega)
        have HZ := Lib.hid hW.out.Z
        clear hk hW
        have en := EN.out
        subst en
        obtain ⟨s0, s1, s2, s3⟩ := four_cells S1.out
        first
          | (have HS := Lib.hid (mkS_same f)
             rw [HS.out, ← HZ.out] at HO
             obtain ⟨n0, n1, n2, n3, n4, n5, n6⟩ := seven_cells N1.out
             have fr := four_free N1.out
             clear HS
             go_wp2
             refine bodyPost_ret (v := .tuple #[ndV (.mk 1 0 z0 []) (.slice none 0 0), .bool true]) (back_nd2 28 Tryz.underlying28 sizeNd28 Tryz.results81 rfl rfl (set_seven N1.out _ _ _ _ _ _ _)) rfl ?_
             rw [← EO.out, HO.out]
             refine ⟨rfl, ?_, grown_seven G1.out _ _ _ _ _ _ _ HR.out⟩
             rw [HK.out]
             exact R1.out.seven _ _ _ _ _ _ _ (Ne.symm HN.out))
          | (have HS := Lib.hid (mkS_no f)
             rw [← HS.out, ← HZ.out] at HO
             clear HS
             go_wp2_with fail
             refine (cNot z0 _).mono ?_
             rintro e w6 ⟨rfl, g6⟩
             have N6 := Lib.hid (heap_grown g6 N1.out)
             have S6 := Lib.hid (heap_grown g6 S1.out)
             have R6 := Lib.hid (R1.out.kept g6)
             have G6 := Lib.hid (grown_then G1.out g6)
             clear g6 s0 s1 s2 s3 N1 S1 R1 G1
             generalize no z0 = y at *
             have fr := four_free S6.out
             obtain ⟨p0, p1, p2, p3⟩ := four_cells S6.out
             have R7 := Lib.hid (R6.out.four (.int .u64 (wd y 0)) (.int .u64 (wd y 1)) (.int .u64 (wd y 2)) (.int .u64 (wd y 3)) (Ne.symm HQR.out))
             have N7 := Lib.hid (heap_four N6.out (.int .u64 (wd y 0)) (.int .u64 (wd y 1)) (.int .u64 (wd y 2)) (.int .u64 (wd y 3)) (Ne.symm HQG.out))
             have S7 := Lib.hid (set_four S6.out (.int .u64 (wd y 0)) (.int .u64 (wd y 1)) (.int .u64 (wd y 2)) (.int .u64 (wd y 3)))
             have G7 := Lib.hid (grown_four G6.out (.int .u64 (wd y 0)) (.int .u64 (wd y 1)) (.int .u64 (wd y 2)) (.int .u64 (wd y 3)) HQ.out)
             go_upto_region 12 with fail
             clear fr p0 p1 p2 p3 N6 S6 R6 G6
             generalize World.setCell _ _ _ = w7 at R7 N7 S7 G7 ⊢
             obtain ⟨s0, s1, s2, s3⟩ := four_cells S7.out
             obtain ⟨n0, n1, n2, n3, n4, n5, n6⟩ := seven_cells N7.out
             have fr := four_free N7.out
             go_wp2
             refine bodyPost_ret (v := .tuple #[ndV (.mk 1 0 y []) (.slice none 0 0), .bool true]) (back_nd2 28 Tryz.underlying28 sizeNd28 Tryz.results81 rfl rfl (set_seven N7.out _ _ _ _ _ _ _)) rfl ?_
             rw [← EO.out, HO.out]
             refine ⟨rfl, ?_, grown_seven G7.out _ _ _ _ _ _ _ HR.out⟩
             rw [HK.out]
             exact R7.out.seven _ _ _ _ _ _ _ (Ne.symm HN.out))
end Go.Proofs.YtlkjejmmoalliaaGreatDoor
