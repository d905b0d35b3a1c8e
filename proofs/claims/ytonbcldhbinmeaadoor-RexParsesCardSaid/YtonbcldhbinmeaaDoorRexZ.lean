/- Literal. -/
import Derived.Test.YtonbcldhbinmeaaDoorRexU
import Derived.Laws.MakeOwn
namespace Go.Proofs.YtonbcldhbinmeaaDoor
open Go.RowKit

/-- the bytes' nodes -/
def onesOf (s : ByteArray) (k : Nat) : List Nd := (s.data.toList.take k).map fun b => .mk 1 0 (one b.toNat) []
def litN (s : ByteArray) : Nd := oneN 2 (onesOf s s.size)
theorem ones_next (s : ByteArray) {k : Nat} (h : k < s.size) : onesOf s (k + 1) = onesOf s k ++ [.mk 1 0 (one s[k].toNat) []] := by
  unfold onesOf
  rw [List.take_succ_eq_append_getElem (by simpa using h), List.map_append]; rfl
theorem ones_len (s : ByteArray) {k : Nat} (h : k ≤ s.size) : (onesOf s k).length = k := by
  unfold onesOf; rw [List.length_map, List.length_take]
  have : s.data.toList.length = s.size := rfl
  omega

set_option maxRecDepth 100000 in
set_option maxHeartbeats 1200000 in
theorem cLiteral (s : ByteArray) (hs : s.size ≤ 100) (w : World) :
    Calls Tryd.prog 17 #[.string s] w fun e w' => (∃ a m k, e = .returned (ndV (litN s) (.slice a m k)) ∧ Kids w' (.slice a m k) (litN s).kids) ∧ w.grownBy w' none := by
  have B3 := heap_alloc_new w (.cells #[.int .i64 0, .int .i64 0, .int .u64 0, .int .u64 0, .int .u64 0, .int .u64 0, .slice none 0 0] 28)
  have ga := World.grownBy_alloc w (.cells #[.int .i64 0, .int .i64 0, .int .u64 0, .int .u64 0, .int .u64 0, .int .u64 0, .slice none 0 0] 28) none
  have G := Lib.hid ga
  clear ga
  go_enter Tryd.func17, Tryd.ntmps17
  go_upto_region 1 with fail
  generalize w.alloc _ = w1 at B3 G ⊢
  obtain ⟨g, eg⟩ : ∃ g, g = w.heap.size := ⟨_, rfl⟩
  rw [← eg] at B3 ⊢
  have HR := Lib.hid (show w.heap.size ≤ g by omega)
  clear eg
  have HB := Lib.hid B3
  clear B3
  obtain ⟨iu, hiu, hu0, hu1, hu2⟩ := info_parts infoNd28
  have IU := Lib.hid hiu; have ZU0 := Lib.hid hu0; have ZU1 := Lib.hid hu1; have ZU2 := Lib.hid hu2
  clear hiu hu0 hu1 hu2
  have hgl := (Array.getElem?_eq_some_iff.1 HB.out).1
  obtain ⟨w2, hrun, hown, hg2⟩ := run_make_own (P := Tryd.prog) w1 (g + 1) 26 28 iu _ 7 Tryd.underlying26 IU.out ZU0.out ZU1.out .i64 .i64 s.size (by rw [ZU2.out]; omega) (by unfold maxLen; omega) (by omega)
  have W0 := Lib.hid (show NRow (g + 1) (fun b => w.heap.size ≤ b ∧ b ≠ g) 28 ((onesOf s 0).map fun n => (n, Value.slice none 0 0)) (.slice (some ⟨w1.heap.size, 0, none⟩) 0 s.size) w2 from
    ⟨by simpa [onesOf, flat7] using hown, by simp [onesOf]⟩)
  have N2 := Lib.hid (heap_grown hg2 HB.out)
  have G2 := Lib.hid (G.out.trans hg2)
  clear hown hg2 hgl HB G
  go_wp2
  clear hrun
  go_loopw [3, 4, 10] (fun v _ i wr => ∃ j : Nat, j ≤ s.size ∧ i = .int .i64 j ∧ Hid (NRow (g + 1) (fun b => w.heap.size ≤ b ∧ b ≠ g) 28 ((onesOf s j).map fun n => (n, Value.slice none 0 0)) v wr) ∧ Hid (w.grownBy wr none) ∧
    Hid (wr.heap[g]? = some (.cells #[.int .i64 0, .int .i64 0, .int .u64 0, .int .u64 0, .int .u64 0, .int .u64 0, .slice none 0 0] 28 (0, 0)))) (fun _ _ i _ => s.size - (intOf i).toNat)
  case atStart => exact ⟨0, Nat.zero_le _, rfl, W0, G2, N2⟩
  case round =>
    obtain ⟨j, hj, rfl, hW, hG, hN⟩ := hrel
    clear W0 G2 N2
    obtain ⟨va, vc, rfl⟩ := nilOr hW.out.O
    have hlen : ((onesOf s j).map fun n => (n, Value.slice none 0 0)).length = j := by rw [List.length_map, ones_len s hj]
    by_cases hlt : j < s.size
    · have HB := Lib.hid (UInt8.toNat_lt s[j])
      have HO := Lib.hid (ones_next s hlt)
      have HLE := Lib.hid hlen
      clear hlen
      obtain ⟨L, hL⟩ : ∃ L, L = (onesOf s j).map fun n => (n, Value.slice none 0 0) := ⟨_, rfl⟩
      rw [← hL] at hW HLE ⊢
      have HL := Lib.hid hL
      clear hL
      have hl100 : L.length ≤ 100 := by have := HLE.out; omega
      go_wp2_with (first
        | (go_at_call 30; refine (cOneP _ HB.out _).mono ?_; rintro e w3 ⟨rfl, g3⟩;
           have gb := World.grownBy_alloc w3 (.cells #[.int .i64 1, .int .i64 0, .int .u64 (wd (one s[j].toNat) 0), .int .u64 (wd (one s[j].toNat) 1), .int .u64 (wd (one s[j].toNat) 2), .int .u64 (wd (one s[j].toNat) 3), .slice none 0 0] 28) none;
           have V5 := Lib.hid ((hW.out.kept g3 (by simp) (fun b hb => by have := HR.out; omega)).kept gb (by simp) (fun b hb => by have := HR.out; omega));
           have B5 := Lib.hid (heap_grown gb (heap_grown g3 hN.out)); have G5 := Lib.hid ((hG.out.trans g3).trans gb);
           have HSZ := Lib.hid (Nat.succ_le_of_lt (Array.getElem?_eq_some_iff.1 B5.out).1); clear g3 gb)
        | (at_builtin; refine wpList_append_lies _ rfl _ _ 26 rfl (g + 1) 28 iu _ 7 72 Tryd.underlying26 IU.out ZU0.out ZU1.out ZU2.out rfl (by decide) _ _ _ rfl V5.out.O ⟨_, 0, none⟩ 1 1 (cells7 (.mk 1 0 (one s[j].toNat) []) (.slice none 0 0)) rfl rfl (new_seven _ (.mk 1 0 (one s[j].toNat) []) (.slice none 0 0) _ _ (by simp)) (seven_one _ _ _ _) (by decide) (by unfold maxLen; omega) (by omega) HSZ.out _ rfl ?_; intro gg cap w4 hown2 hgrow2 hat hlt2))
      have hne : ∀ b, b ≤ g → some b ≠ (Value.slice va L.length vc).ownBlock := fun b hb e => by have := (V5.out.O.lt b e.symm).1; omega
      have W6 := Lib.hid (V5.out.step (n := .mk 1 0 (one s[j].toNat) []) (kv := .slice none 0 0) (.empty none 0) hown2 hgrow2 hat)
      have G6 := Lib.hid (G5.out.andThen hgrow2 (fun b e => .inl (by have := (V5.out.O.lt b e).1; have := HR.out; omega)))
      have N6 := Lib.hid ((hgrow2.block g (Array.getElem?_eq_some_iff.1 B5.out).1 (hne g (Nat.le_refl _))).trans B5.out)
      clear hown2 hgrow2 hat hlt2 hne
      go_roundw
      case rel => exact ⟨j + 1, by omega, by go_num, by rw [HO.out, List.map_append, ← HL.out]; exact W6, G6, N6⟩
      case measure => simp [intOf]; omega
    · obtain rfl : j = s.size := by omega
      obtain ⟨L, hL⟩ : ∃ L, L = (onesOf s s.size).map fun n => (n, Value.slice none 0 0) := ⟨_, rfl⟩
      have HLN := Lib.hid (show oneN 2 (L.map Prod.fst) = litN s by rw [hL, List.map_map]; unfold litN; congr 1; simp [Function.comp_def])
      rw [← hL] at hW ⊢
      clear hL hlen
      have CJ := Lib.hid (show Calls Tryd.prog 31 #[.int .i64 2, .slice va L.length vc] wr fun e w' => (∃ a k c, e = .returned (ndV (oneN 2 (L.map Prod.fst)) (.slice a k c)) ∧ KidsAt w' (fun b => w.heap.size ≤ b ∧ b ≠ g) (.slice a k c) (oneN 2 (L.map Prod.fst)).kids) ∧ wr.grownBy w' none from
        cJoined 2 _ _ _ wr (hW.out.kids (fun b hb => by have := HR.out; omega)))
      go_wp2_with fail
      refine CJ.out.mono ?_
      rintro e w3 ⟨⟨a, k, kc, rfl, hk⟩, g3⟩
      have B5 := Lib.hid (heap_grown g3 hN.out)
      have G5 := Lib.hid (hG.out.trans g3)
      have K5 := Lib.hid hk
      clear g3 hk CJ
      generalize oneN 2 (L.map Prod.fst) = n at K5 HLN ⊢
      obtain ⟨r0, r1, r2, r3, r4, r5, r6⟩ := seven_cells B5.out
      have fr := four_free B5.out
      go_wp2
      refine bodyPost_ret (v := ndV n (.slice a k kc)) (back_nd1 28 Tryd.underlying28 sizeNd28 Tryd.results17 rfl (set_seven B5.out _ _ _ _ _ _ _)) rfl ?_
      rw [← HLN.out]
      exact ⟨⟨a, k, kc, rfl, (K5.out.seven _ _ _ _ _ _ _ fun b hb => hb.2).any⟩, grown7 G5.out HR.out⟩
end Go.Proofs.YtonbcldhbinmeaaDoor
