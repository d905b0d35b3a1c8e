/- Package attr: whether bits are among the flags', whether attributes are right, both attributes, a letter's flag, the flags of letters. -/
import Derived.Test.YtongclfpidnibaaDoorAtRef
import Derived.Test.YtongclfpidnibaaDoorByRow
namespace Go.Proofs.YtongclfpidnibaaDoor
open Go.RowKit

theorem sizeAp : (Tryd.prog.info? 24).map (·.size) = some 2 := by kernel_rfl
set_option maxRecDepth 100000 in
theorem pHas (f v : Int) (p : ByteArray) (w : World) : Calls Tryd.prog 11 #[atV f p, .int .i64 v] w fun e w' => e = .returned (.bool (bits .and .i64 f v == v)) ∧ w.grownBy w' none := by
  go_enter Tryd.func11, Tryd.ntmps11
  go_wp2
  go_ret
  exact ⟨rfl, World.grownBy_alloc _ _ _⟩
/-- are attributes right? -/
def rgA (f : Int) (p : ByteArray) : Bool := decide (0 ≤ f) && decide (f < 256) && decide (p.size ≤ 120)
set_option maxRecDepth 100000 in
theorem pRight (f : Int) (p : ByteArray) (w : World) : Calls Tryd.prog 10 #[atV f p] w fun e w' => e = .returned (.bool (rgA f p)) ∧ w.grownBy w' none := by
  unfold rgA
  by_cases h1 : 0 ≤ f
  · by_cases h2 : f < 256
    · by_cases h3 : p.size ≤ 120
      · have e1 : decide (0 ≤ f) = true := decide_eq_true h1
        have e2 : decide (f < 256) = true := decide_eq_true h2
        have e3 : decide ((p.size : Int) ≤ 120) = true := decide_eq_true (by omega)
        have HE := Lib.hid (show (decide (0 ≤ f) && decide (f < 256) && decide (p.size ≤ 120)) = true by simp [h1, h2, h3])
        clear h1 h2 h3
        go_enter Tryd.func10, Tryd.ntmps10
        go_wp2
        go_ret
        exact ⟨ret_bool (by rw [HE.out]), World.grownBy_alloc _ _ _⟩
      · have e1 : decide (0 ≤ f) = true := decide_eq_true h1
        have e2 : decide (f < 256) = true := decide_eq_true h2
        have e3 : decide ((p.size : Int) ≤ 120) = false := decide_eq_false (by omega)
        have HE := Lib.hid (show (decide (0 ≤ f) && decide (f < 256) && decide (p.size ≤ 120)) = false by simp [h3])
        clear h1 h2 h3
        go_enter Tryd.func10, Tryd.ntmps10
        go_wp2
        go_ret
        exact ⟨ret_bool (by rw [HE.out]), World.grownBy_alloc _ _ _⟩
    · have e1 : decide (0 ≤ f) = true := decide_eq_true h1
      have e2 : decide (f < 256) = false := decide_eq_false h2
      have HE := Lib.hid (show (decide (0 ≤ f) && decide (f < 256) && decide (p.size ≤ 120)) = false by simp [h2])
      clear h1 h2
      go_enter Tryd.func10, Tryd.ntmps10
      go_wp2
      go_ret
      exact ⟨ret_bool (by rw [HE.out]), World.grownBy_alloc _ _ _⟩
  · have e1 : decide (0 ≤ f) = false := decide_eq_false h1
    have HE := Lib.hid (show (decide (0 ≤ f) && decide (f < 256) && decide (p.size ≤ 120)) = false by simp [h1])
    clear h1
    go_enter Tryd.func10, Tryd.ntmps10
    go_wp2
    go_ret
    exact ⟨ret_bool (by rw [HE.out]), World.grownBy_alloc _ _ _⟩
/-- the one text, or, if it is none, the other one -/
def orB (p q : ByteArray) : ByteArray := if p.size = 0 then q else p
set_option maxRecDepth 100000 in
theorem pMerge (f g : Int) (p q : ByteArray) (w : World) : Calls Tryd.prog 14 #[atV f p, atV g q] w fun e w' => e = .returned (atV (bits .or .i64 f g) (orB p q)) ∧ w.grownBy w' none := by
  obtain ⟨B0, B1, B2, G3⟩ := heap3 w (.cells #[.int .i64 f, .string p] 24) (.cells #[.int .i64 g, .string q] 24) (.cells #[.int .i64 0, .string ⟨#[]⟩] 24)
  have H0 := Lib.hid B0; have H1 := Lib.hid B1; have H2 := Lib.hid B2; have HG := Lib.hid G3
  clear B0 B1 B2 G3
  unfold orB
  by_cases hp : p.size = 0
  · rw [if_pos hp]
    obtain rfl := nil_a hp
    clear hp
    go_enter Tryd.func14, Tryd.ntmps14
    go_upto_region 1 with fail
    generalize ((w.alloc _).alloc _).alloc _ = w3 at H0 H1 H2 HG ⊢
    obtain ⟨a0, a1⟩ := two_at H0.out; obtain ⟨b0, b1⟩ := two_at H1.out; obtain ⟨c0, c1⟩ := two_at H2.out
    have fr := free_at H2.out
    go_wp2
    refine bodyPost_ret (results_cell_row Tryd.results14 _ _ _ _ _ _ _ rfl (set_at2 H2.out _ _) Tryd.underlying24 rfl sizeAp) rfl ?_
    exact ⟨rfl, grown_at2 HG.out _ _ (by omega)⟩
  · rw [if_neg hp]
    obtain ⟨-, e1, e2⟩ := full_a hp
    clear hp
    go_enter Tryd.func14, Tryd.ntmps14
    go_upto_region 1 with fail
    generalize ((w.alloc _).alloc _).alloc _ = w3 at H0 H1 H2 HG ⊢
    obtain ⟨a0, a1⟩ := two_at H0.out; obtain ⟨b0, b1⟩ := two_at H1.out; obtain ⟨c0, c1⟩ := two_at H2.out
    have fr := free_at H2.out
    go_wp2
    refine bodyPost_ret (results_cell_row Tryd.results14 _ _ _ _ _ _ _ rfl (set_at2 H2.out _ _) Tryd.underlying24 rfl sizeAp) rfl ?_
    exact ⟨rfl, grown_at2 HG.out _ _ (by omega)⟩

/-- is it a letter? -/
def knA (b : UInt8) : Bool := decide (vlA b ≠ 0)
/-- the flags' letters as they lie: a letter and its flag, eight times -/
def letL : List Value := [.int .u8 68, .int .i64 1, .int .u8 69, .int .i64 2, .int .u8 78, .int .i64 4, .int .u8 110, .int .i64 8, .int .u8 81, .int .i64 16, .int .u8 82, .int .i64 32, .int .u8 85, .int .i64 64, .int .u8 86, .int .i64 128]
abbrev letV : Value := .agg #[.int .u8 68, .int .i64 1, .int .u8 69, .int .i64 2, .int .u8 78, .int .i64 4, .int .u8 110, .int .i64 8, .int .u8 81, .int .i64 16, .int .u8 82, .int .i64 32, .int .u8 85, .int .i64 64, .int .u8 86, .int .i64 128]
def LetE (w : World) : Prop := ∀ (i : Nat) v, letL[i]? = some v → w.cell? ⟨2, i, none⟩ = some v
theorem LetE.grown {w w' : World} (h : LetE w) (g : w.grownBy w' none) : LetE w' := fun i v hv => g.cell (h i v hv) (by simp)
theorem let_at {j : Nat} (h : j < 8) (w : World) : (Instr.index 52 letV (.int .i64 j)).run Tryd.prog w = .ok (.agg #[.int .u8 (bitL j).toNat, .int .i64 (bitF j)]) w := by
  obtain rfl | rfl | rfl | rfl | rfl | rfl | rfl | rfl : j = 0 ∨ j = 1 ∨ j = 2 ∨ j = 3 ∨ j = 4 ∨ j = 5 ∨ j = 6 ∨ j = 7 := by omega
  all_goals kernel_rfl
set_option maxRecDepth 100000 in
theorem pFlagOf (b : UInt8) (w : World) (hE : LetE w) : Calls Tryd.prog 22 #[.int .u8 b.toNat] w fun e w' => e = .returned (.tuple #[.int .i64 (vlA b), .bool (knA b)]) ∧ w.grownBy w' none := by
  have t0 := hE 0 _ rfl; have t1 := hE 1 _ rfl; have t2 := hE 2 _ rfl; have t3 := hE 3 _ rfl; have t4 := hE 4 _ rfl; have t5 := hE 5 _ rfl; have t6 := hE 6 _ rfl; have t7 := hE 7 _ rfl
  have t8 := hE 8 _ rfl; have t9 := hE 9 _ rfl; have t10 := hE 10 _ rfl; have t11 := hE 11 _ rfl; have t12 := hE 12 _ rfl; have t13 := hE 13 _ rfl; have t14 := hE 14 _ rfl; have t15 := hE 15 _ rfl
  clear hE
  go_enter Tryd.func22, Tryd.ntmps22
  go_wp2
  clear t0 t1 t2 t3 t4 t5 t6 t7 t8 t9 t10 t11 t12 t13 t14 t15
  go_loopw [5, 7] (fun _ x wr => ∃ k : Nat, k ≤ 8 ∧ x = .int .i64 k ∧ Hid (w.grownBy wr none) ∧ Hid (∀ j, j < k → bitL j ≠ b)) (fun _ x _ => 8 - (intOf x).toNat)
  case atStart => exact ⟨0, by omega, rfl, Lib.hid (World.grownBy.refl _ _), Lib.hid (by omega)⟩
  case round =>
    obtain ⟨k, hk, rfl, hG, hN⟩ := hrel
    by_cases hlt : k < 8
    · have ik := let_at hlt
      have HV := Lib.hid (bit_vl ⟨k, hlt⟩)
      obtain ⟨c, hc⟩ : ∃ c, bitL k = c := ⟨_, rfl⟩
      obtain ⟨v, hv⟩ : ∃ v, bitF k = v := ⟨_, rfl⟩
      rw [hc, hv] at ik
      have HC := Lib.hid hc
      have hvl : vlA c = v ∧ v ≠ 0 := by
        have h1 : vlA (bitL k) = bitF k ∧ bitF k ∈ [1, 2, 4, 8, 16, 32, 64, 128] := HV.out
        rw [hc, hv] at h1
        refine ⟨h1.1, ?_⟩
        rintro rfl
        exact absurd h1.2 (by decide)
      have HW := Lib.hid hvl
      clear hc hv hvl
      obtain ⟨d0, d1⟩ := two_at (heap_alloc_new wr (.cells #[.int .u8 c.toNat, .int .i64 v] 51))
      have ga := Lib.hid (hG.out.trans (World.grownBy_alloc wr (.cells #[.int .u8 c.toNat, .int .i64 v] 51) none))
      by_cases hb : c = b
      · have hq : ((c.toNat : Int) == (b.toNat : Int)) = true := by rw [hb]; simp
        have HX := Lib.hid (show vlA b = v ∧ knA b = true by rw [← hb]; exact ⟨HW.out.1, decide_eq_true (by rw [HW.out.1]; exact HW.out.2)⟩)
        clear hb
        go_wp2
        go_ret2
        rw [HX.out.2, HX.out.1]
        exact ⟨rfl, ga.out⟩
      · have hq : ((c.toNat : Int) == (b.toNat : Int)) = false := by rw [beq_eq_false_iff_ne]; intro h; exact hb (UInt8.toNat_inj.1 (by omega))
        have HN := Lib.hid (show ∀ j, j < k + 1 → bitL j ≠ b from fun j hj => by
          rcases Nat.lt_succ_iff_lt_or_eq.1 hj with h | h
          · exact hN.out j h
          · rw [h, HC.out]; exact hb)
        clear hb
        go_wp2
        go_roundw
        case rel => exact ⟨k + 1, by omega, by go_num, ga, HN⟩
        case measure => simp [intOf]; omega
    · have HX := Lib.hid (show vlA b = 0 ∧ knA b = false from have h := vl_none fun j hj => hN.out j (by omega); ⟨h, decide_eq_false (by simp [h])⟩)
      go_wp2
      go_ret2
      rw [HX.out.1, HX.out.2]
      exact ⟨rfl, hG.out⟩
/-- whether letters' flags are known -/
def oknA (x : Option Nat) : Bool := x.isSome
set_option maxRecDepth 100000 in
theorem pFlagsOf (s : ByteArray) (w : World) (hE : LetE w) (hs : s.size ≤ 1000) : Calls Tryd.prog 16 #[.string s] w fun e w' =>
    e = .returned (.tuple #[.int .i64 ((flA 0 s.data.toList).getD 0 : Nat), .bool (oknA (flA 0 s.data.toList))]) ∧ w.grownBy w' none := by
  obtain ⟨x, hx⟩ : ∃ x, flA 0 s.data.toList = x := ⟨_, rfl⟩
  rw [hx]
  have HX := Lib.hid hx
  have HE := Lib.hid hE
  clear hx hE
  go_enter Tryd.func16, Tryd.ntmps16
  go_wp2
  go_loopw [4, 5, 6, 7, 10] (fun f_ _ _ _ i wr => ∃ j f : Nat, j ≤ s.size ∧ i = .int .i64 j ∧ f_ = .int .i64 f ∧ Hid (f < 256) ∧ Hid (flA f (s.data.toList.drop j) = x) ∧ Hid (w.grownBy wr none)) (fun _ _ _ _ i _ => s.size - (intOf i).toNat)
  case atStart => exact ⟨0, 0, by omega, rfl, rfl, Lib.hid (by omega), HX, Lib.hid (World.grownBy.refl _ _)⟩
  case round =>
    obtain ⟨j, f, hj, rfl, rfl, hf, hX, hG⟩ := hrel
    by_cases hlt : j < s.size
    · obtain ⟨c, hc⟩ : ∃ c, s[j] = c := ⟨_, rfl⟩
      have hd : s.data.toList.drop j = c :: s.data.toList.drop (j + 1) := by
        have h2 : j < s.data.toList.length := by simpa using hlt
        have := List.drop_eq_getElem_cons h2
        rw [this, ← hc]; simp; rfl
      have hX2 := hX.out
      rw [hd, flA] at hX2
      have C1 := Lib.hid (pFlagOf c wr (HE.out.grown hG.out))
      by_cases hv : vlA c = 0
      · rw [if_pos hv] at hX2
        have HN := Lib.hid hX2
        rw [hv, show knA c = false from decide_eq_false (by simp [hv])] at C1
        clear hX2 hv hd
        go_wp2_with (go_at_call 22; (with_reducible refine C1.out.mono ?_); rintro e w3 ⟨rfl, g3⟩; have G3 := Lib.hid (hG.out.trans g3); clear g3)
        go_ret2
        rw [← HN.out]
        exact ⟨rfl, G3.out⟩
      · rw [if_neg hv] at hX2
        have HN := Lib.hid hX2
        have HO := Lib.hid (nat_or hf.out (vl_lt c))
        have HF := Lib.hid (or_lt hf.out (vl_lt c))
        rw [show knA c = true from decide_eq_true hv] at C1
        generalize vlA c = v at C1 HN HO HF
        have ho := HO.out
        generalize f ||| v = fv at HN HF ho
        clear hX2 hv hd HO
        go_wp2_with (go_at_call 22; (with_reducible refine C1.out.mono ?_); rintro e w3 ⟨rfl, g3⟩; have G3 := Lib.hid (hG.out.trans g3); clear g3)
        go_roundw
        case rel => exact ⟨j + 1, fv, by omega, by go_num, rfl, HF, HN, G3⟩
        case measure => simp [intOf]; omega
    · have HN := Lib.hid (show some f = x by rw [← hX.out, List.drop_of_length_le (by simp; omega)]; rfl)
      go_wp2
      go_ret2
      rw [← HN.out]
      exact ⟨rfl, hG.out⟩
end Go.Proofs.YtongclfpidnibaaDoor
