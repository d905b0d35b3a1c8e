/- The law LinesFaults, walked. -/
import Derived.Test.YtigjmaicolgalaaDoorLnMore
namespace Go.Proofs.YtigjmaicolgalaaDoor
open Go.RowKit

theorem wpn_errV (A : Nat → Addr) (k : Nat) (w : World) (hT : ErrTy w) : Calls Tryd.prog 17 #[errV A k] w fun e w' => e = .returned (.tuple #[.int .i64 0, .bool false]) ∧ w.grownBy w' none := by
  rcases Nat.eq_zero_or_pos k with rfl | hk
  · rw [errV_zero]; exact wpn_nil w
  · rw [errV_ne (by omega)]; exact wpn_err _ w hT
theorem num_19 (n : Int) : ∃ k : Nat, k ≤ 18 ∧ wrap64 ((IntKind.u64.wrap n).tmod 19) = k := by
  have h1 : 0 ≤ IntKind.u64.wrap n := by simp only [IntKind.wrap, IntKind.signed, IntKind.bits]; simp; omega
  rw [Int.tmod_eq_emod_of_nonneg h1]
  refine ⟨(IntKind.u64.wrap n % 19).toNat, by omega, ?_⟩
  rw [IntWalk.wrap64_in _ ⟨by omega, by omega⟩]; omega
set_option maxRecDepth 100000 in
set_option maxHeartbeats 4000000 in
theorem lLinesFaults {A : Nat → Addr} {E : World → Prop} (C : LnC A E) (line n : Int) (w : World) (hS : E w) (hE : LEnv A w) (h0 : -9223372036854775808 ≤ line) (h1 : line ≤ 9223372036854775807) (hP : Lib.TabIs Tryd.prog w "internal/strconv.uint64pow10" .u64 Lib.pow10Tab) :
    Calls Tryd.prog 6 #[.int .i64 line, .int .i64 n] w fun e w' => e = .returned (.bool true) ∧ w.grownBy w' none := by
  have CA := Lib.hid (lAlive12 C w hS)
  have HE := Lib.hid hE
  have HP := Lib.hid hP
  clear hE hS C hP
  go_enter Tryd.func6, Tryd.ntmps6
  go_upto_region 4 with (go_at_call 7; refine CA.out.mono ?_; rintro e w1 ⟨rfl, g1⟩; have G1 := Lib.hid g1; clear g1)
  obtain ⟨k, hk, hkn⟩ := num_19 n
  rw [hkn]
  clear hkn
  obtain ⟨y, hy, hyz⟩ := some_fig (Lib.itoa line)
  have hyz : y.size ≤ 30 := by rw [hyz]; exact itoa_len line h0 h1
  have HT := Lib.hid (show ((⟨#[108, 105, 110, 101, 32]⟩ : ByteArray) ++ y).data.toList = ftxQ line by rw [toList_app, hy]; rfl)
  have CF := Lib.hid (fun W => dFig line y W h0 h1 hy)
  have CE := Lib.hid (fun W hW => dErr A k hk W hW)
  have CW := Lib.hid (fun W hW => wpn_errV A k W hW)
  have CN := Lib.hid (fun W hW => lNumV A k hk W hW)
  have CG := Lib.hid (fun (h1 : 1 ≤ k) q line W hW q2 line2 h hh => lNumG A k h1 hk q line W hW q2 line2 h hh)
  clear hy
  rcases Nat.eq_zero_or_pos k with hk0 | hk0
  · have hkb : ((k : Int) == 0) = true := by simp [hk0]
    have hev : errV A k = .nilIface := by rw [hk0, errV_zero]
    rw [hev] at CE CW CN CG
    have HK := Lib.hid hk0
    clear hk0 hev
    go_wp2_with (first
      | (go_at_call 20; (with_reducible refine (CG.out HK.out _ _ _ (HE.out.grown G8.out).err _ _ (O4.out.grown A8.out) (F4.out.grown A8.out)).mono ?_); rintro e w9 ⟨rfl, g9⟩; have G9 := Lib.hid (G8.out.trans g9); clear g9)
      | (go_at_call 20; (with_reducible refine (CN.out _ (HE.out.grown G7.out).err).mono ?_); rintro e w8 ⟨rfl, g8⟩; have G8 := Lib.hid (G7.out.trans g8); have A8 := Lib.hid (A7.out.trans g8); clear g8)
      | (go_at_call 21; (refine (pUnwrap _ line (.nilIface) _ (F4.out.grown A7.out)).mono ?_); rintro e w' ⟨rfl, rfl⟩)
      | (go_at_call 19; (with_reducible refine (CF.out _).mono ?_); rintro e w' ⟨rfl, rfl⟩)
      | (go_at_call 18; (refine (pError _ line (.nilIface) _ (F4.out.grown A6.out) h0 h1 (tab_later12 HP.out (below_of_grown G6.out))).mono ?_); rintro e w7 ⟨⟨t, rfl, ht⟩, g7⟩; obtain rfl : (⟨#[108, 105, 110, 101, 32]⟩ : ByteArray) ++ y = t := ba_ext12 (HT.out.trans ht.symm); have G7 := Lib.hid (G6.out.trans g7); have A7 := Lib.hid (A6.out.trans g7); clear g7 ht)
      | (go_at_call 17; (with_reducible refine (CW.out _ (HE.out.grown G5.out).ty).mono ?_); rintro e w6 ⟨rfl, g6⟩; have G6 := Lib.hid (G5.out.trans g6); have A6 := Lib.hid (A5.out.trans g6); clear g6)
      | (go_at_call 16; (with_reducible refine (CE.out _ (HE.out.grown G4.out).err).mono ?_); rintro e w5 ⟨rfl, g5⟩; have G5 := Lib.hid (G4.out.trans g5); have A5 := Lib.hid g5; clear g5)
      | (go_at_call 17; (refine (wpn_flt w3.heap.size 7 (fltV w2.heap.size) _ ((HE.out.grown G3.out).ty.grown (World.grownBy_alloc _ _ _)) (heap_alloc_new w3 _)).mono ?_); rintro e w4 ⟨rfl, g4⟩; have G4 := Lib.hid ((G3.out.trans (World.grownBy_alloc _ _ _)).trans g4); have O4 := Lib.hid (FltAt.grown (heap_alloc_new w3 (.cells #[.int .i64 7, fltV w2.heap.size] 44)) g4); have F4 := Lib.hid (F3.out.grown ((World.grownBy_alloc _ _ _).trans g4)); clear g4)
      | (go_at_call 17; (refine (wpn_flt w2.heap.size line (.nilIface) _ ((HE.out.grown G2.out).ty.grown (World.grownBy_alloc _ _ _)) (heap_alloc_new w2 _)).mono ?_); rintro e w3 ⟨rfl, g3⟩; have G3 := Lib.hid ((G2.out.trans (World.grownBy_alloc _ _ _)).trans g3); have F3 := Lib.hid (FltAt.grown (heap_alloc_new w2 (.cells #[.int .i64 line, (.nilIface)] 44)) g3); clear g3)
      | (go_at_call 16; (with_reducible refine (CE.out _ (HE.out.grown G1.out).err).mono ?_); rintro e w2 ⟨rfl, g2⟩; have G2 := Lib.hid (G1.out.trans g2); clear g2))
    go_ret
    exact ⟨by simp, by first | exact G9.out | exact G8.out⟩
  · have hkb : ((k : Int) == 0) = false := by simp; omega
    have hev : errV A k = .iface 141 (.pointer (some (A k))) := errV_ne (by omega)
    rw [hev] at CE CW CN CG
    have HK := Lib.hid (show 1 ≤ k from hk0)
    clear hk0 hev
    go_wp2_with (first
      | (go_at_call 20; (with_reducible refine (CG.out HK.out _ _ _ (HE.out.grown G8.out).err _ _ (O4.out.grown A8.out) (F4.out.grown A8.out)).mono ?_); rintro e w9 ⟨rfl, g9⟩; have G9 := Lib.hid (G8.out.trans g9); clear g9)
      | (go_at_call 20; (with_reducible refine (CN.out _ (HE.out.grown G7.out).err).mono ?_); rintro e w8 ⟨rfl, g8⟩; have G8 := Lib.hid (G7.out.trans g8); have A8 := Lib.hid (A7.out.trans g8); clear g8)
      | (go_at_call 21; (refine (pUnwrap _ line (.iface 141 (.pointer (some (A k)))) _ (F4.out.grown A7.out)).mono ?_); rintro e w' ⟨rfl, rfl⟩)
      | (go_at_call 19; (with_reducible refine (CF.out _).mono ?_); rintro e w' ⟨rfl, rfl⟩)
      | (go_at_call 18; (refine (pError _ line (.iface 141 (.pointer (some (A k)))) _ (F4.out.grown A6.out) h0 h1 (tab_later12 HP.out (below_of_grown G6.out))).mono ?_); rintro e w7 ⟨⟨t, rfl, ht⟩, g7⟩; obtain rfl : (⟨#[108, 105, 110, 101, 32]⟩ : ByteArray) ++ y = t := ba_ext12 (HT.out.trans ht.symm); have G7 := Lib.hid (G6.out.trans g7); have A7 := Lib.hid (A6.out.trans g7); clear g7 ht)
      | (go_at_call 17; (with_reducible refine (CW.out _ (HE.out.grown G5.out).ty).mono ?_); rintro e w6 ⟨rfl, g6⟩; have G6 := Lib.hid (G5.out.trans g6); have A6 := Lib.hid (A5.out.trans g6); clear g6)
      | (go_at_call 16; (with_reducible refine (CE.out _ (HE.out.grown G4.out).err).mono ?_); rintro e w5 ⟨rfl, g5⟩; have G5 := Lib.hid (G4.out.trans g5); have A5 := Lib.hid g5; clear g5)
      | (go_at_call 17; (refine (wpn_flt w3.heap.size 7 (fltV w2.heap.size) _ ((HE.out.grown G3.out).ty.grown (World.grownBy_alloc _ _ _)) (heap_alloc_new w3 _)).mono ?_); rintro e w4 ⟨rfl, g4⟩; have G4 := Lib.hid ((G3.out.trans (World.grownBy_alloc _ _ _)).trans g4); have O4 := Lib.hid (FltAt.grown (heap_alloc_new w3 (.cells #[.int .i64 7, fltV w2.heap.size] 44)) g4); have F4 := Lib.hid (F3.out.grown ((World.grownBy_alloc _ _ _).trans g4)); clear g4)
      | (go_at_call 17; (refine (wpn_flt w2.heap.size line (.iface 141 (.pointer (some (A k)))) _ ((HE.out.grown G2.out).ty.grown (World.grownBy_alloc _ _ _)) (heap_alloc_new w2 _)).mono ?_); rintro e w3 ⟨rfl, g3⟩; have G3 := Lib.hid ((G2.out.trans (World.grownBy_alloc _ _ _)).trans g3); have F3 := Lib.hid (FltAt.grown (heap_alloc_new w2 (.cells #[.int .i64 line, (.iface 141 (.pointer (some (A k))))] 44)) g3); clear g3)
      | (go_at_call 16; (with_reducible refine (CE.out _ (HE.out.grown G1.out).err).mono ?_); rintro e w2 ⟨rfl, g2⟩; have G2 := Lib.hid (G1.out.trans g2); clear g2))
    go_ret
    exact ⟨by simp, by first | exact G9.out | exact G8.out⟩
end Go.Proofs.YtigjmaicolgalaaDoor
