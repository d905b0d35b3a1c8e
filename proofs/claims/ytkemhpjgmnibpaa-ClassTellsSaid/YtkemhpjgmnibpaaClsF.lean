/- The chapter's example, as the statements of layer 6 ask it first. -/
import Derived.Test.YtkemhpjgmnibpaaClsE
namespace Go.Proofs.Ytkemhpjgmnibpaa
open Go.RowKit

theorem cnt_eq {s : BitVec 256} {f : Nat → Bool} (h : ∀ b, b < 256 → inn s b = f b) : cnt s = (List.range 256).countP f := by
  unfold cnt; exact List.countP_congr fun b hb => by rw [h b (by simpa using hb)]
theorem cnt_abc : cnt (spn 97 99) = 3 := by
  rw [cnt_eq (fun b hb => inn_spn 97 99 b hb)]; decide +kernel
theorem cnt_all : cnt (no emp) = 256 := by
  rw [cnt_eq (f := fun _ => true) (fun b hb => by rw [inn_no _ _ hb, inn_emp]; rfl)]; decide +kernel

set_option maxHeartbeats 2000000 in
theorem lAlive6 (w : World) : Calls Try.prog 6 #[] w fun e w' => e = .returned (.bool true) ∧ w.grownBy w' none := by
  have HA := Lib.hid (show inn (spn 97 99) 98 = true from inn_spn 97 99 98 (by omega))
  have HD := Lib.hid (show inn (spn 97 99) 100 = false from inn_spn 97 99 100 (by omega))
  have HN := Lib.hid cnt_abc
  have HF := Lib.hid cnt_all
  have CS := Lib.hid (fun w => cSpan 97 99 w)
  generalize spn 97 99 = s at HA HD HN CS
  have C1 := Lib.hid (fun w => HN.out ▸ cCount s w)
  have C2 := Lib.hid (fun w => HA.out ▸ cHas s 98 w (by omega))
  have C3 := Lib.hid (fun w => HD.out ▸ cHas s 100 w (by omega))
  have C4 := Lib.hid (fun w => cAll w)
  generalize no emp = a at HF C4
  have C5 := Lib.hid (fun w => HF.out ▸ cCount a w)
  clear HA HD HN HF
  go_enter Try.func6, Try.ntmps6
  go_wp2_with fail
  refine (CS.out _).mono ?_
  rintro e w1 ⟨rfl, g1⟩
  go_upto_region 2 with fail
  have G1 := Lib.hid (g1.trans (World.grownBy_alloc w1 (.cells #[.int .u64 (wd s 0), .int .u64 (wd s 1), .int .u64 (wd s 2), .int .u64 (wd s 3)] 27) none))
  have S := Lib.hid (set_new w1 s 27)
  generalize w1.heap.size = p at S ⊢
  generalize w1.alloc _ = w2 at S G1 ⊢
  clear g1
  obtain ⟨c0, c1, c2, c3⟩ := S.out
  go_wp2_with fail
  refine (C1.out _).mono ?_
  rintro e w3 ⟨rfl, g3⟩
  have S3 := Lib.hid (S.out.grown g3); have G3 := Lib.hid (G1.out.trans g3)
  clear c0 c1 c2 c3 g3
  obtain ⟨c0, c1, c2, c3⟩ := S3.out
  go_wp2_with fail
  refine (C2.out _).mono ?_
  rintro e w4 ⟨rfl, g4⟩
  have S4 := Lib.hid (S3.out.grown g4); have G4 := Lib.hid (G3.out.trans g4)
  clear c0 c1 c2 c3 g4
  obtain ⟨c0, c1, c2, c3⟩ := S4.out
  go_wp2_with fail
  refine (C3.out _).mono ?_
  rintro e w5 ⟨rfl, g5⟩
  have G5 := Lib.hid (G4.out.trans g5)
  clear c0 c1 c2 c3 g5
  go_wp2_with fail
  refine (C4.out _).mono ?_
  rintro e w6 ⟨rfl, g6⟩
  have G6 := Lib.hid (G5.out.trans g6)
  clear g6
  go_wp2_with fail
  refine (C5.out _).mono ?_
  rintro e w7 ⟨rfl, g7⟩
  have G7 := Lib.hid (G6.out.trans g7)
  clear g7
  go_wp2
  go_ret
  exact ⟨rfl, G7.out⟩
end Go.Proofs.Ytkemhpjgmnibpaa
