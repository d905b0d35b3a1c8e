/- Walks of layer 6: Count, Empty, Within. -/
import Derived.Test.YtkemhpjgmnibpaaClsB
import Derived.Laws.StructEq
import Derived.OneCell
import Derived.Deep.AppendLies
namespace Go.Proofs.Ytkemhpjgmnibpaa
open Go.RowKit

theorem eq_one (d : Nat) (a b : Int) (w : World) : (Op.equalIn (d + 1) 25 (.int .u64 a) (.int .u64 b)).run Try.prog w = .ok (a == b) w := by
  simp only [Op.equalIn, Sem.run_bind, run_underlying Try.underlying25, Result.andThen_ok]
  simp
theorem part0 (v0 v1 v2 v3 : Value) (w : World) : (part 25 #[v0, v1, v2, v3] 0).run Try.prog w = .ok v0 w := rfl
theorem part1 (v0 v1 v2 v3 : Value) (w : World) : (part 25 #[v0, v1, v2, v3] 1).run Try.prog w = .ok v1 w := rfl
theorem part2 (v0 v1 v2 v3 : Value) (w : World) : (part 25 #[v0, v1, v2, v3] 2).run Try.prog w = .ok v2 w := rfl
theorem part3 (v0 v1 v2 v3 : Value) (w : World) : (part 25 #[v0, v1, v2, v3] 3).run Try.prog w = .ok v3 w := rfl
theorem eq_run (T : TypeId) (hT : Try.prog.underlying T = some (.array 4 25)) (s t : BitVec 256) (w : World) : (Op.equalIn 10000 T (setV s) (setV t)).run Try.prog w = .ok (s == t) w := by
  rw [show (10000 : Nat) = 9998 + 1 + 1 from rfl]
  unfold Op.equalIn
  simp only [Sem.run_bind, run_underlying hT, Result.andThen_ok]
  have e : ∀ a b w, (Op.equalIn 9999 25 (.int .u64 a) (.int .u64 b)).run Try.prog w = .ok (a == b) w := fun a b w => eq_one 9998 a b w
  simp [Sem.run_bind, List.range', e, part0, part1, part2, part3]
  by_cases h0 : wd s 0 = wd t 0
  · by_cases h1 : wd s 1 = wd t 1
    · by_cases h2 : wd s 2 = wd t 2
      · by_cases h3 : wd s 3 = wd t 3
        · have := wd_ext h0 h1 h2 h3
          simp [this]
        · have : s ≠ t := fun h => h3 (by rw [h])
          simp [h0, h1, h2, h3, this]
      · have : s ≠ t := fun h => h2 (by rw [h])
        simp [h0, h1, h2, this]
    · have : s ≠ t := fun h => h1 (by rw [h])
      simp [h0, h1, this]
  · have : s ≠ t := fun h => h0 (by rw [h])
    simp [h0, this]

theorem idx (s : BitVec 256) (k : Nat) (hk : k < 4) (w : World) : (Instr.index 27 (setV s) (.int .i64 k)).run Try.prog w = .ok (.int .u64 (wd s k)) w := by
  obtain rfl | rfl | rfl | rfl : k = 0 ∨ k = 1 ∨ k = 2 ∨ k = 3 := by omega
  all_goals rfl

def cntTo (s : BitVec 256) : Nat → Nat
  | 0 => 0
  | k + 1 => cntTo s k + popN 64 (wn s k)
theorem cntTo_le (s : BitVec 256) : ∀ k, cntTo s k ≤ 64 * k
  | 0 => Nat.le_refl _
  | k + 1 => by have := cntTo_le s k; have := popN_le 64 (wn s k); show cntTo s k + popN 64 (wn s k) ≤ _; omega
theorem cntTo_all (s : BitVec 256) : cntTo s 4 = cnt s := by
  rw [cnt_words]; simp only [cntTo, Nat.zero_add]

set_option maxHeartbeats 1000000 in
theorem cCount (s : BitVec 256) (w : World) :
    Calls Try.prog 16 #[setV s] w fun e w' => e = .returned (.int .i64 (cnt s)) ∧ w.grownBy w' none := by
  go_enter Try.func16, Try.ntmps16
  go_upto_region 1 with fail
  have G := Lib.hid (World.grownBy_alloc w (.cells #[.int .u64 (wd s 0), .int .u64 (wd s 1), .int .u64 (wd s 2), .int .u64 (wd s 3)] 27) none)
  obtain ⟨c0, c1, c2, c3⟩ := set_new w s 27
  generalize w.heap.size = p at c0 c1 c2 c3 ⊢
  generalize w.alloc (.cells #[.int .u64 (wd s 0), .int .u64 (wd s 1), .int .u64 (wd s 2), .int .u64 (wd s 3)] 27) = w1 at G c0 c1 c2 c3 ⊢
  go_wp2
  go_loop [3, 5, 7] (fun n _ i => ∃ k : Nat, k ≤ 4 ∧ i = .int .i64 k ∧ n = .int .i64 (cntTo s k)) (fun _ _ i => 4 - (intOf i).toNat)
  case atStart => exact ⟨0, by omega, rfl, rfl⟩
  case round =>
    obtain ⟨k, hk, rfl, rfl⟩ := hrel
    by_cases hlt : k < 4
    · have hidx := idx s k hlt w1
      have hcl := cntTo_le s k
      obtain ⟨m, hm, hC, hsn⟩ : ∃ m : Nat, m ≤ 64 ∧ Hid (∀ w, Calls Try.prog 26 #[.int .u64 (wd s k)] w fun e w' => e = .returned (.int .i64 m) ∧ w = w') ∧ Hid (((cntTo s k : Nat) : Int) + m = ((cntTo s (k + 1) : Nat) : Int)) :=
        ⟨popN 64 (wn s k), popN_le 64 _, Lib.hid (fun w => cPop (wn s k) (wn_lt s k) w), Lib.hid (by show _ = ((cntTo s k + popN 64 (wn s k) : Nat) : Int); omega)⟩
      obtain ⟨c, hc⟩ : ∃ c, c = cntTo s k := ⟨_, rfl⟩
      rw [← hc] at hcl hsn ⊢
      clear hc
      go_wp2_with (go_at_call 26; refine (hC.out _).mono ?_; rintro e w' ⟨rfl, rfl⟩)
      go_round
      case rel => exact ⟨k + 1, by omega, by go_num, by rw [hsn.out]⟩
      case measure => simp [intOf]; omega
    · obtain rfl : k = 4 := by omega
      have H := Lib.hid (cntTo_all s)
      go_wp2
      go_ret
      exact ⟨ret_int (by rw [H.out]), G.out⟩

set_option maxHeartbeats 1000000 in
theorem cEmpty (s : BitVec 256) (w : World) :
    Calls Try.prog 17 #[setV s] w fun e w' => e = .returned (.bool (s == emp)) ∧ w.grownBy w' none := by
  go_enter Try.func17, Try.ntmps17
  go_upto_region 1 with fail
  have G := Lib.hid (World.grownBy_alloc w (.cells #[.int .u64 (wd s 0), .int .u64 (wd s 1), .int .u64 (wd s 2), .int .u64 (wd s 3)] 27) none)
  obtain ⟨c0, c1, c2, c3⟩ := set_new w s 27
  generalize w.heap.size = p at c0 c1 c2 c3 ⊢
  generalize w.alloc (.cells #[.int .u64 (wd s 0), .int .u64 (wd s 1), .int .u64 (wd s 2), .int .u64 (wd s 3)] 27) = w1 at G c0 c1 c2 c3 ⊢
  have he := eq_run 27 Try.underlying27 s emp
  rw [setV_emp] at he
  go_wp2
  go_ret
  exact ⟨rfl, G.out⟩

set_option maxHeartbeats 1000000 in
theorem cWithin (s t : BitVec 256) (w : World) :
    Calls Try.prog 18 #[setV s, setV t] w fun e w' => e = .returned (.bool (me s t == s)) ∧ w.grownBy w' none := by
  have C := Lib.hid (fun w => cMeet s t w)
  go_enter Try.func18, Try.ntmps18
  go_upto_region 1 with fail
  obtain ⟨b1, b2, g⟩ := heap2 w (.cells #[.int .u64 (wd s 0), .int .u64 (wd s 1), .int .u64 (wd s 2), .int .u64 (wd s 3)] 27) (.cells #[.int .u64 (wd t 0), .int .u64 (wd t 1), .int .u64 (wd t 2), .int .u64 (wd t 3)] 27)
  generalize ((w.alloc _).alloc _) = w1 at b1 b2 g ⊢
  generalize w.heap.size + 1 = q at b2 ⊢
  generalize w.heap.size = p at b1 ⊢
  have SA := set_of_block b1; have SB := set_of_block b2; have G := Lib.hid g
  clear b1 b2 g
  have a0 : ∀ u : Gr w1, u.W.cell? ⟨p, 0, none⟩ = some (.int .u64 (wd s 0)) := fun u => (SA.grown u.g).c0
  have a1 : ∀ u : Gr w1, u.W.cell? ⟨p, 1, none⟩ = some (.int .u64 (wd s 1)) := fun u => (SA.grown u.g).c1
  have a2 : ∀ u : Gr w1, u.W.cell? ⟨p, 2, none⟩ = some (.int .u64 (wd s 2)) := fun u => (SA.grown u.g).c2
  have a3 : ∀ u : Gr w1, u.W.cell? ⟨p, 3, none⟩ = some (.int .u64 (wd s 3)) := fun u => (SA.grown u.g).c3
  have d0 : ∀ u : Gr w1, u.W.cell? ⟨q, 0, none⟩ = some (.int .u64 (wd t 0)) := fun u => (SB.grown u.g).c0
  have d1 : ∀ u : Gr w1, u.W.cell? ⟨q, 1, none⟩ = some (.int .u64 (wd t 1)) := fun u => (SB.grown u.g).c1
  have d2 : ∀ u : Gr w1, u.W.cell? ⟨q, 2, none⟩ = some (.int .u64 (wd t 2)) := fun u => (SB.grown u.g).c2
  have d3 : ∀ u : Gr w1, u.W.cell? ⟨q, 3, none⟩ = some (.int .u64 (wd t 3)) := fun u => (SB.grown u.g).c3
  clear SA SB
  have he := eq_run 27 Try.underlying27 (me s t) s
  have inst : Nonempty (Gr w1) := ⟨⟨w1, World.grownBy.refl _ _⟩⟩
  refine wp_region_grows (by kernel_rfl) (by kernel_rfl) ?_
  repeat (go_big_quiet_step (first
    | (go_at_call 11; refine (C.out _).mono ?_; rintro e w9 ⟨he, g9⟩; exact ⟨he, ⟨_, (Gr.g _).trans g9⟩, rfl⟩)))
  refine wpQuiet_nil ?_
  rintro _ ⟨⟨w9, gg⟩, rfl⟩
  go_wp2
  go_ret
  exact ⟨rfl, G.out.trans gg⟩
end Go.Proofs.Ytkemhpjgmnibpaa
