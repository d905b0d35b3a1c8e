/- The reader: the next byte. The reader: classes. -/
import Derived.Test.YtliefnjhobdphaaDoorRexI
import Derived.Lib.Bytealg
import Derived.Test.YtliefnjhobdphaaDoorClsB
import Derived.Test.YtliefnjhobdphaaDoorClsD
namespace Go.Proofs.YtliefnjhobdphaaDoor
open Go.RowKit

/-- a reader that lies in a block: it stands at a place of a text, c groups were opened -/
structure Rd (w : World) (r : Nat) (s : ByteArray) (i c : Nat) : Prop where
  B : w.heap[r]? = some (.cells #[.string (s.extract i s.size), .int .i64 c] 77 (0, 0))
  hi : i ≤ s.size
  hs : s.size ≤ 60
  hc : c ≤ i
theorem rest_size (s : ByteArray) {i : Nat} : (s.extract i s.size).size = s.size - i := by rw [ByteArray.size_extract]; omega
theorem rest_get (s : ByteArray) {i : Nat} (h : i < s.size) (h0 : 0 < (s.extract i s.size).size) : (s.extract i s.size)[0] = s[i] := by
  rw [ByteArray.getElem_extract]; congr 1
theorem rest_on (s : ByteArray) {i : Nat} (h : i < s.size) : (s.extract i s.size).extract 1 (s.extract i s.size).size = s.extract (i + 1) s.size := by
  rw [ByteArray.extract_extract, rest_size, show i + (s.size - i) = s.size by omega, Nat.min_self]
theorem Rd.kept {w w' : World} {r : Nat} {s : ByteArray} {i c : Nat} (h : Rd w r s i c) (g : w.grownBy w' none) : Rd w' r s i c := ⟨heap_grown g h.B, h.hi, h.hs, h.hc⟩
theorem two_cells {w : World} {b : Nat} {v0 v1 : Value} {t : TypeId} (h : w.heap[b]? = some (.cells #[v0, v1] t (0, 0))) : w.cell? ⟨b, 0, none⟩ = some v0 ∧ w.cell? ⟨b, 1, none⟩ = some v1 := by
  refine ⟨?_, ?_⟩ <;> (unfold World.cell?; rw [h]; rfl)
theorem grown_at (w : World) (r o : Nat) (v : Value) : w.grownBy (w.setCell ⟨r, o, none⟩ v) (some r) :=
  ⟨rfl, rfl, rfl, by simp, fun k _ hk => heap_setCell_other w _ k v (fun e => hk (by rw [e]))⟩
theorem Rd.on {w : World} {r : Nat} {s : ByteArray} {i c : Nat} (h : Rd w r s i c) (hi : i < s.size) : Rd (w.setCell ⟨r, 0, none⟩ (.string (s.extract (i + 1) s.size))) r s (i + 1) c :=
  ⟨heap_setCell_same w r 0 _ _ _ h.B, by omega, h.hs, by have := h.hc; omega⟩
theorem rest_ne (s : ByteArray) {i : Nat} (h : i < s.size) : (s.extract i s.size).toList.isEmpty = false := by rw [Lib.toList_data]; simp; omega
theorem rest_no (s : ByteArray) {i : Nat} (h : ¬ i < s.size) : (s.extract i s.size).toList.isEmpty = true := by rw [Lib.toList_data]; simp; omega
theorem ret_two {k : IntKind} {a b : Int} {x : Bool} (h : a = b) : Ending.returned (.tuple #[.int k a, .bool x]) = .returned (.tuple #[.int k b, .bool x]) := by rw [h]

theorem cTake1 (b : Nat) (r : Nat) (s : ByteArray) (i c : Nat) (w : World) (h : Rd w r s i c) (hn : nxt s i b = true) :
    Calls Tryd.prog 53 #[.pointer (some ⟨r, 0, none⟩), .int .u8 b] w fun e w' => e = .returned (.bool true) ∧ Rd w' r s (i + 1) c ∧ w.grownBy w' (some r) := by
  obtain ⟨hi, hb⟩ := nxt_yes hn
  obtain ⟨c0, c1⟩ := two_cells h.B
  have fr := four_free h.B
  have H := Lib.hid (h.on hi)
  have h0 : 0 < (s.extract i s.size).size := by rw [rest_size]; omega
  have hg : (s.extract i s.size)[0].toNat = b := by rw [rest_get s hi h0, hb]
  have hon := Lib.hid (rest_on s hi)
  have hE := rest_ne s hi
  clear hn hb h
  generalize s.extract i s.size = t at c0 h0 hg hon hE
  rw [← hon.out] at H
  go_enter Tryd.func53, Tryd.ntmps53
  go_wp2
  go_ret
  exact ⟨rfl, H.out, grown_at _ _ _ _⟩

theorem cTake0 (b : Nat) (r : Nat) (s : ByteArray) (i c : Nat) (w : World) (h : Rd w r s i c) (hn : nxt s i b = false) :
    Calls Tryd.prog 53 #[.pointer (some ⟨r, 0, none⟩), .int .u8 b] w fun e w' => e = .returned (.bool false) ∧ w = w' := by
  obtain ⟨c0, c1⟩ := two_cells h.B
  by_cases hi : i < s.size
  · have h0 : 0 < (s.extract i s.size).size := by rw [rest_size]; omega
    have hg : (((s.extract i s.size)[0].toNat : Int) != (b : Int)) = true := by rw [rest_get s hi h0]; have := nxt_no hn hi; simp; omega
    have hE := rest_ne s hi
    clear hn h
    generalize s.extract i s.size = t at c0 h0 hg hE
    go_enter Tryd.func53, Tryd.ntmps53
    go_wp2
    go_ret
    exact ⟨rfl, rfl⟩
  · have hE := rest_no s hi
    clear hn h
    generalize s.extract i s.size = t at c0 hE
    go_enter Tryd.func53, Tryd.ntmps53
    go_wp2
    go_ret
    exact ⟨rfl, rfl⟩

theorem cNext1 (r : Nat) (s : ByteArray) (i c : Nat) (w : World) (h : Rd w r s i c) (hi : i < s.size) :
    Calls Tryd.prog 73 #[.pointer (some ⟨r, 0, none⟩)] w fun e w' => e = .returned (.tuple #[.int .u8 s[i].toNat, .bool true]) ∧ Rd w' r s (i + 1) c ∧ w.grownBy w' (some r) := by
  obtain ⟨c0, c1⟩ := two_cells h.B
  have fr := four_free h.B
  have H := Lib.hid (h.on hi)
  have h0 : 0 < (s.extract i s.size).size := by rw [rest_size]; omega
  have hg := Lib.hid (show (s.extract i s.size)[0].toNat = s[i].toNat by rw [rest_get s hi h0])
  have hon := Lib.hid (rest_on s hi)
  have hE := rest_ne s hi
  clear h
  generalize s.extract i s.size = t at c0 h0 hg hon hE
  rw [← hon.out] at H
  go_enter Tryd.func73, Tryd.ntmps73
  go_wp2
  go_ret2
  exact ⟨ret_two (by rw [hg.out]), H.out, grown_at _ _ _ _⟩

theorem cNext0 (r : Nat) (s : ByteArray) (i c : Nat) (w : World) (h : Rd w r s i c) (hi : ¬ i < s.size) :
    Calls Tryd.prog 73 #[.pointer (some ⟨r, 0, none⟩)] w fun e w' => e = .returned (.tuple #[.int .u8 0, .bool false]) ∧ w = w' := by
  obtain ⟨c0, c1⟩ := two_cells h.B
  have hE := rest_no s hi
  clear h
  generalize s.extract i s.size = t at c0 hE
  go_enter Tryd.func73, Tryd.ntmps73
  go_wp2
  go_ret2
  exact ⟨rfl, rfl⟩

theorem cIdx1 (t : ByteArray) (c : Nat) (w : World) :
    Calls Tryd.prog 79 #[.string t, .int .u8 c] w fun e w' => e = .returned (.int .i64 (Lib.indexByte t.data.toList c.toUInt8)) ∧ w = w' := by
  have hx := @run_callFunc_extern Tryd.prog 84 _ Extern.BytealgIndexByte.indexByte Tryd.func84 (by kernel_rfl) (by kernel_rfl) (by kernel_rfl) (by kernel_rfl)
  have hr := @Lib.run_indexByteString Tryd.prog
  go_enter Tryd.func79, Tryd.ntmps79
  go_wp2
  go_ret
  exact ⟨rfl, rfl⟩
theorem cIdx (t : ByteArray) (c : Nat) (w : World) :
    Calls Tryd.prog 70 #[.string t, .int .u8 c] w fun e w' => e = .returned (.int .i64 (Lib.indexByte t.data.toList c.toUInt8)) ∧ w = w' := by
  go_enter Tryd.func70, Tryd.ntmps70
  go_wp2_with (go_at_call 79; refine (cIdx1 _ _ _).mono ?_; rintro e w' ⟨rfl, rfl⟩)
  go_ret
  exact ⟨rfl, rfl⟩
/-- does one of these bytes stand here? -/
def seen (s : ByteArray) (i : Nat) (l : List UInt8) : Bool := if h : i < s.size then decide (0 ≤ Lib.indexByte l s[i]) else false
theorem cSees (t : ByteArray) (r : Nat) (s : ByteArray) (i c : Nat) (w : World) (h : Rd w r s i c) :
    Calls Tryd.prog 65 #[.pointer (some ⟨r, 0, none⟩), .string t] w fun e w' => e = .returned (.bool (seen s i t.data.toList)) ∧ w = w' := by
  obtain ⟨c0, c1⟩ := two_cells h.B
  by_cases hi : i < s.size
  · have h0 : 0 < (s.extract i s.size).size := by rw [rest_size]; omega
    have hg := Lib.hid (show (s.extract i s.size)[0] = s[i] by rw [rest_get s hi h0])
    have hE := rest_ne s hi
    have hS := Lib.hid (show seen s i t.data.toList = decide (0 ≤ Lib.indexByte t.data.toList s[i]) by unfold seen; rw [dif_pos hi])
    clear h
    generalize s.extract i s.size = u at c0 h0 hg hE
    go_enter Tryd.func65, Tryd.ntmps65
    go_wp2_with (go_at_call 70; refine (cIdx _ _ _).mono ?_; rintro e w' ⟨rfl, rfl⟩)
    go_ret
    exact ⟨ret_bool (by rw [hS.out]; simp [hg.out]), rfl⟩
  · have hE := rest_no s hi
    have hS := Lib.hid (show seen s i t.data.toList = false by unfold seen; rw [dif_neg hi])
    clear h
    generalize s.extract i s.size = u at c0 hE
    go_enter Tryd.func65, Tryd.ntmps65
    go_wp2
    go_ret
    exact ⟨ret_bool (by rw [hS.out]), rfl⟩
theorem beq_byte (a : UInt8) (n : Nat) (b : UInt8) (hb : b.toNat = n) : (b == a) = (a.toNat == n) := by
  rw [Bool.eq_iff_iff]; simp only [beq_iff_eq]; constructor
  · rintro rfl; exact hb
  · intro h; exact UInt8.toNat_inj.1 (by rw [h, hb])
theorem seen_93 (s : ByteArray) (i : Nat) : seen s i [93] = nxt s i 93 := by
  unfold seen nxt
  split
  · rename_i h
    unfold Lib.indexByte Lib.indexByte
    rw [beq_byte s[i] 93 93 rfl]
    cases s[i].toNat == 93 <;> simp
  · rfl
theorem seen_bar (s : ByteArray) (i : Nat) : seen s i [124, 41] = (nxt s i 124 || nxt s i 41) := by
  unfold seen nxt
  split
  · rename_i h
    unfold Lib.indexByte Lib.indexByte Lib.indexByte
    rw [beq_byte s[i] 124 124 rfl, beq_byte s[i] 41 41 rfl]
    cases s[i].toNat == 124 <;> cases s[i].toNat == 41 <;> simp
  · rfl
theorem cPre1 (t : ByteArray) (w : World) (v : Bool) (hv : v = (decide (2 ≤ t.size) && ((t.extract 0 2).toList == [45, 93]))) :
    Calls Tryd.prog 89 #[.string t, .string ⟨#[45, 93]⟩] w fun e w' => e = .returned (.bool v) ∧ w = w' := by
  have HV := Lib.hid hv
  by_cases h2 : 2 ≤ t.size
  · have h2' : decide ((t.size : Int) ≥ 2) = true := by simp; omega
    have HV' := Lib.hid (show v = ((t.extract 0 2).toList == [45, 93]) by rw [hv]; simp [h2])
    clear hv HV
    go_enter Tryd.func89, Tryd.ntmps89
    go_wp2
    go_ret
    exact ⟨ret_bool HV'.out.symm, rfl⟩
  · have HV' := Lib.hid (show v = false by rw [hv]; simp [h2])
    clear hv HV
    go_enter Tryd.func89, Tryd.ntmps89
    go_wp2
    go_ret
    exact ⟨ret_bool HV'.out.symm, rfl⟩
theorem cPre (s : ByteArray) (i : Nat) (w : World) :
    Calls Tryd.prog 86 #[.string (s.extract i s.size), .string ⟨#[45, 93]⟩] w fun e w' => e = .returned (.bool (nxt s i 45 && nxt s (i + 1) 93)) ∧ w = w' := by
  have HV := Lib.hid (show (nxt s i 45 && nxt s (i + 1) 93) = (decide (2 ≤ (s.extract i s.size).size) && (((s.extract i s.size).extract 0 2).toList == [45, 93])) by
    rw [rest_size, Lib.toList_data]
    by_cases h : i + 1 < s.size
    · have hd : decide (2 ≤ s.size - i) = true := by simp; omega
      rw [hd, Bool.true_and]
      unfold nxt
      rw [dif_pos (show i < s.size by omega), dif_pos h]
      have e : ((s.extract i s.size).extract 0 2).data.toList = [s[i], s[i + 1]] := by
        have hl : s.data.toList.length = s.size := rfl
        have e1 : s.data.toList.drop i = s[i] :: s[i + 1] :: s.data.toList.drop (i + 2) := by
          rw [List.drop_eq_getElem_cons (by omega), List.drop_eq_getElem_cons (i := i + 1) (by omega)]; rfl
        have e2 : min (i + 2) s.size - i = 2 := by omega
        simp [e1, e2]
      rw [e]
      show _ = (s[i] == 45 && (s[i + 1] == 93 && true))
      rw [Bool.and_true, BEq.comm (a := s[i]), BEq.comm (a := s[i + 1]), beq_byte s[i] 45 45 rfl, beq_byte s[i + 1] 93 93 rfl]
    · have hd : decide (2 ≤ s.size - i) = false := by simp; omega
      rw [hd, Bool.false_and, nxt_end h, Bool.and_false])
  generalize s.extract i s.size = t at HV ⊢
  go_enter Tryd.func86, Tryd.ntmps86
  go_wp2_with (go_at_call 89; refine (cPre1 _ _ _ HV.out).mono ?_; rintro e w' ⟨rfl, rfl⟩)
  go_ret
  exact ⟨rfl, rfl⟩
end Go.Proofs.YtliefnjhobdphaaDoor

namespace Go.Proofs.YtliefnjhobdphaaDoor
open Go.RowKit

theorem cMByte1 (r : Nat) (s : ByteArray) (i c b j : Nat) (f : Bool) (w : World) (h : Rd w r s i c) (hb : byteAt s i = some (b, f, j)) :
    Calls Tryd.prog 85 #[.pointer (some ⟨r, 0, none⟩)] w fun e w' => e = .returned (.tuple #[.int .u8 b, .bool true]) ∧ Rd w' r s j c ∧ w.grownBy w' (some r) := by
  have H := Lib.hid h
  have C93 := Lib.hid (fun w h => seen_93 s i ▸ cSees ⟨#[93]⟩ r s i c w h)
  clear h
  unfold byteAt at hb
  split at hb
  · rename_i hi
    split at hb
    · cases hb
    · rename_i h93
      have n93 := Lib.hid (show nxt s i 93 = false by unfold nxt; rw [dif_pos hi]; simpa using h93)
      split at hb
      · rename_i h92
        split at hb
        · rename_i hi1
          simp only [Option.some.injEq, Prod.mk.injEq] at hb; obtain ⟨rfl, -, rfl⟩ := hb
          have n92 := Lib.hid (nxt_is hi h92)
          clear h93 h92
          go_enter Tryd.func85, Tryd.ntmps85
          go_wp2_with (go_at_call 53; refine (cTake1 92 _ _ _ _ _ H.out n92.out).mono ?_; rintro e w1 ⟨rfl, r1, g1⟩; have R1 := Lib.hid r1; have G1 := Lib.hid g1; clear r1 g1)
          refine (cNext1 _ _ _ _ _ R1.out hi1).mono ?_
          rintro e w2 ⟨rfl, r2, g2⟩
          have R2 := Lib.hid r2; have G2 := Lib.hid (G1.out.trans g2)
          clear r2 g2
          go_wp2
          go_ret2
          exact ⟨rfl, R2.out, G2.out⟩
        · cases hb
      · rename_i h92
        simp only [Option.some.injEq, Prod.mk.injEq] at hb; obtain ⟨rfl, -, rfl⟩ := hb
        have n92 := Lib.hid (show nxt s i 92 = false by unfold nxt; rw [dif_pos hi]; simpa using h92)
        clear h93 h92
        rw [n93.out] at C93
        go_enter Tryd.func85, Tryd.ntmps85
        go_wp2_with (first
          | (go_at_call 53; refine (cTake0 92 _ _ _ _ _ H.out n92.out).mono ?_; rintro e w1 ⟨rfl, rfl⟩)
          | (go_at_call 65; refine (C93.out _ H.out).mono ?_; rintro e w1 ⟨rfl, rfl⟩))
        refine (cNext1 _ _ _ _ _ H.out hi).mono ?_
        rintro e w2 ⟨rfl, r2, g2⟩
        have R2 := Lib.hid r2; have G2 := Lib.hid g2
        clear r2 g2
        go_wp2
        go_ret2
        exact ⟨rfl, R2.out, G2.out⟩
  · cases hb

theorem cMByte0 (r : Nat) (s : ByteArray) (i c : Nat) (w : World) (h : Rd w r s i c) (hb : byteAt s i = none) :
    Calls Tryd.prog 85 #[.pointer (some ⟨r, 0, none⟩)] w fun e w' => e = .returned (.tuple #[.int .u8 0, .bool false]) ∧ w.grownBy w' (some r) := by
  have H := Lib.hid h
  have C93 := Lib.hid (fun w h => seen_93 s i ▸ cSees ⟨#[93]⟩ r s i c w h)
  clear h
  unfold byteAt at hb
  split at hb
  · rename_i hi
    split at hb
    · rename_i h93
      have n93 := Lib.hid (nxt_is hi h93)
      have n92 := Lib.hid (show nxt s i 92 = false by unfold nxt; rw [dif_pos hi, h93]; rfl)
      rw [n93.out] at C93
      clear hb h93
      go_enter Tryd.func85, Tryd.ntmps85
      go_wp2_with (first
        | (go_at_call 53; refine (cTake0 92 _ _ _ _ _ H.out n92.out).mono ?_; rintro e w1 ⟨rfl, rfl⟩)
        | (go_at_call 65; refine (C93.out _ H.out).mono ?_; rintro e w1 ⟨rfl, rfl⟩))
      go_ret2
      exact ⟨rfl, World.grownBy.refl _ _⟩
    · split at hb
      · rename_i h92
        split at hb
        · cases hb
        · rename_i hi1
          have n92 := Lib.hid (nxt_is hi h92)
          clear hb h92
          go_enter Tryd.func85, Tryd.ntmps85
          go_wp2_with (go_at_call 53; refine (cTake1 92 _ _ _ _ _ H.out n92.out).mono ?_; rintro e w1 ⟨rfl, r1, g1⟩; have R1 := Lib.hid r1; have G1 := Lib.hid g1; clear r1 g1)
          refine (cNext0 _ _ _ _ _ R1.out hi1).mono ?_
          rintro e w2 ⟨rfl, rfl⟩
          go_wp2
          go_ret2
          exact ⟨rfl, G1.out⟩
      · cases hb
  · rename_i hi
    have n92 := Lib.hid (nxt_end (c := 92) hi)
    have n93 := Lib.hid (nxt_end (c := 93) hi)
    rw [n93.out] at C93
    clear hb
    go_enter Tryd.func85, Tryd.ntmps85
    go_wp2_with (first
      | (go_at_call 53; refine (cTake0 92 _ _ _ _ _ H.out n92.out).mono ?_; rintro e w1 ⟨rfl, rfl⟩)
      | (go_at_call 65; refine (C93.out _ H.out).mono ?_; rintro e w1 ⟨rfl, rfl⟩))
    refine (cNext0 _ _ _ _ _ H.out hi).mono ?_
    rintro e w2 ⟨rfl, rfl⟩
    go_wp2
    go_ret2
    exact ⟨rfl, World.grownBy.refl _ _⟩
end Go.Proofs.YtliefnjhobdphaaDoor
