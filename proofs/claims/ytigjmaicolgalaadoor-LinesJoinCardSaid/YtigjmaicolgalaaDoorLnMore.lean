/- What layer 12's laws call beside package lines: numbers in figures, errors by their numbers, bare texts; lines of the program compared. -/
import Derived.Test.YtigjmaicolgalaaDoorLawLnS
namespace Go.Proofs.YtigjmaicolgalaaDoor
open Go.RowKit

theorem ret_strL {a b : ByteArray} (h : a = b) : Ending.returned (.string a) = .returned (.string b) := by rw [h]
theorem fig_dig : ∀ d : Fin 10, ((⟨#[48, 49, 50, 51, 52, 53, 54, 55, 56, 57]⟩ : ByteArray).extract d.val (d.val + 1)).data.toList = [UInt8.ofNat (48 + d.val)] := by decide
theorem fig_dig' {d : Nat} (h : d < 10) : ((⟨#[48, 49, 50, 51, 52, 53, 54, 55, 56, 57]⟩ : ByteArray).extract d (d + 1)).data.toList = [UInt8.ofNat (48 + d)] := fig_dig ⟨d, h⟩
/-- figures, a number below 0 or not: g says which -/
def figQ (g : Bool) (u : Nat) : List UInt8 := (if g then [45] else []) ++ Lib.decDigits u
theorem dec_one {u : Nat} (h : u < 10) : Lib.decDigits u = [UInt8.ofNat (48 + u)] := by rw [Lib.decDigits, dif_pos h]
theorem dec_more {u : Nat} (h : ¬u < 10) : Lib.decDigits u = Lib.decDigits (u / 10) ++ [UInt8.ofNat (48 + u % 10)] := by rw [Lib.decDigits, dif_neg h]
theorem fig_len (g : Bool) (u : Nat) (h : u ≤ 9223372036854775808) : (figQ g u).length ≤ 30 := by
  unfold figQ
  rw [List.length_append, Lib.decDigits_length]
  have := nd_le 19 u (by omega)
  cases g <;> simp <;> omega
theorem some_fig (l : List UInt8) : ∃ x : ByteArray, x.data.toList = l ∧ x.size = l.length := ⟨⟨l.toArray⟩, by simp, by show l.toArray.size = _; simp⟩
set_option maxRecDepth 100000 in
set_option maxHeartbeats 1000000 in
theorem dFigures (g : Bool) (u : Nat) : ∀ (n : Int) (w : World), (n = if g then -(u : Int) else u) → (g = true → 1 ≤ u) → u ≤ (if g then 9223372036854775808 else 9223372036854775807) →
    ∀ x : ByteArray, x.data.toList = figQ g u → Calls Tryd.prog 19 #[.int .i64 n] w fun e w' => e = .returned (.string x) ∧ w = w' := by
  induction u using Nat.strongRecOn with
  | _ u ih =>
    intro n w hn hg hu x hx
    have HD := Lib.hid (fig_dig' (d := u % 10) (by omega))
    have hz : ((⟨#[48, 49, 50, 51, 52, 53, 54, 55, 56, 57]⟩ : ByteArray).extract (u % 10) (u % 10 + 1)).size = 1 := by rw [ByteArray.size_extract]; show min (u % 10 + 1) 10 - u % 10 = 1; omega
    by_cases h10 : u < 10
    · cases g
      · simp only [Bool.false_eq_true, if_false] at hn hu
        subst hn
        have HX := Lib.hid (show (⟨#[]⟩ : ByteArray) ++ (⟨#[48, 49, 50, 51, 52, 53, 54, 55, 56, 57]⟩ : ByteArray).extract (u % 10) (u % 10 + 1) = x from ba_ext12 (by
          rw [toList_app, HD.out, hx]; unfold figQ; rw [dec_one h10, Nat.mod_eq_of_lt h10]; rfl))
        have h0 : (0 : Int) ≤ (u : Int) := by omega
        have h1 : (u : Int) < 10 := by omega
        clear ih hx hg
        go_enter Tryd.func19, Tryd.ntmps19
        go_wp2
        go_ret
        exact ⟨ret_strL HX.out, rfl⟩
      · simp only [if_true] at hn hu
        subst hn
        have hu1 := hg rfl
        have h0 : ¬ (0 : Int) ≤ -(u : Int) := by omega
        have h1 : -10 < -(u : Int) := by omega
        have h2 : -(u : Int) < 10 := by omega
        have HX := Lib.hid (show (⟨#[45]⟩ : ByteArray) ++ (⟨#[48, 49, 50, 51, 52, 53, 54, 55, 56, 57]⟩ : ByteArray).extract (u % 10) (u % 10 + 1) = x from ba_ext12 (by
          rw [toList_app, HD.out, hx]; unfold figQ; rw [dec_one h10, Nat.mod_eq_of_lt h10]; rfl))
        clear ih hx hg
        go_enter Tryd.func19, Tryd.ntmps19
        go_wp2
        go_ret
        exact ⟨ret_strL HX.out, rfl⟩
    · obtain ⟨y, hy, zy⟩ := some_fig (figQ g (u / 10))
      have HX := Lib.hid (show y ++ (⟨#[48, 49, 50, 51, 52, 53, 54, 55, 56, 57]⟩ : ByteArray).extract (u % 10) (u % 10 + 1) = x from ba_ext12 (by
        rw [toList_app, HD.out, hx, hy]; unfold figQ; rw [dec_more h10]; simp))
      have ys : y.size ≤ 30 := by rw [zy]; exact fig_len g (u / 10) (by cases g <;> simp at hu <;> omega)
      cases g
      · simp only [Bool.false_eq_true, if_false] at hn hu
        subst hn
        have HC := Lib.hid (fun (W : World) => ih (u / 10) (by omega) (((u / 10 : Nat) : Int)) W (by simp) (by simp) (by simp; omega) y hy)
        rw [show ((u / 10 : Nat) : Int) = (u : Int) / 10 by omega] at HC
        have h0 : (0 : Int) ≤ (u : Int) := by omega
        have h1 : (10 : Int) ≤ (u : Int) := by omega
        clear ih hx hy zy hg
        go_enter Tryd.func19, Tryd.ntmps19
        go_wp2_with (go_at_call 19; refine (HC.out _).mono ?_; rintro e w' ⟨rfl, rfl⟩)
        go_ret
        exact ⟨ret_strL HX.out, rfl⟩
      · simp only [if_true] at hn hu
        subst hn
        have HC := Lib.hid (fun (W : World) => ih (u / 10) (by omega) (-((u / 10 : Nat) : Int)) W (by simp) (fun _ => by omega) (by simp; omega) y hy)
        rw [show ((u / 10 : Nat) : Int) = (u : Int) / 10 by omega] at HC
        have h0 : ¬ (0 : Int) ≤ -(u : Int) := by omega
        have h1 : -(u : Int) ≤ -10 := by omega
        clear ih hx hy zy hg
        go_enter Tryd.func19, Tryd.ntmps19
        go_wp2_with (go_at_call 19; refine (HC.out _).mono ?_; rintro e w' ⟨rfl, rfl⟩)
        go_ret
        exact ⟨ret_strL HX.out, rfl⟩
/-- the figures of a number -/
theorem dFig (n : Int) (x : ByteArray) (w : World) (h0 : -9223372036854775808 ≤ n) (h1 : n ≤ 9223372036854775807) (hx : x.data.toList = Lib.itoa n) :
    Calls Tryd.prog 19 #[.int .i64 n] w fun e w' => e = .returned (.string x) ∧ w = w' := by
  by_cases hn : n < 0
  · refine dFigures true n.natAbs n w (by simp; omega) (fun _ => by omega) (by simp; omega) x ?_
    rw [hx]; unfold Lib.itoa figQ; rw [if_pos hn]; rfl
  · refine dFigures false n.toNat n w (by simp; omega) (by simp) (by simp; omega) x ?_
    rw [hx]; unfold Lib.itoa figQ; rw [if_neg hn]; rfl

/-- the error of a number -/
theorem dErr (A : Nat → Addr) (k : Nat) (hk : k ≤ 18) (w : World) (h : ErrEnv A w) : Calls Tryd.prog 16 #[.int .i64 k] w fun e w' => e = .returned (errV A k) ∧ w.grownBy w' none := by
  have HE := Lib.hid h
  clear h
  rcases Nat.eq_zero_or_pos k with rfl | h1
  · go_enter Tryd.func16, Tryd.ntmps16
    go_wp2
    go_ret
    exact ⟨by rw [errV_zero]; rfl, World.grownBy.refl _ _⟩
  · obtain ⟨j, rfl⟩ : ∃ j, k = j + 1 := ⟨k - 1, by omega⟩
    go_enter Tryd.func16, Tryd.ntmps16
    go_wp2_with (go_at_call 28; refine (lAllErr A _ HE.out).mono ?_; rintro e w1 ⟨b, rfl, hc, g1⟩; have hcell := hc j (by omega); have G1 := Lib.hid g1; clear hc g1)
    go_ret
    exact ⟨by rw [errV_ne (by omega)]; rfl, G1.out⟩

theorem brQ_no {l : List UInt8} {i : Nat} {b : UInt8} (h : l[i]? = some b) (hb : brQ b = false) : bareQ l = false := by
  unfold bareQ
  rw [Bool.and_eq_false_iff]; right
  rw [List.all_eq_false]
  exact ⟨b, List.mem_of_getElem? h, by simp [hb]⟩
theorem br_take {l : List UInt8} {i : Nat} {b : UInt8} (h : l[i]? = some b) : (l.take (i + 1)).all brQ = ((l.take i).all brQ && brQ b) := by
  rw [List.take_add_one, h, List.all_append]; simp
theorem br_parts (b : UInt8) : brQ b = !((((decide ((b.toNat : Int) < 33) || decide ((b.toNat : Int) > 126)) || ((b.toNat : Int) == 39)) || ((b.toNat : Int) == 92)) || ((b.toNat : Int) == 35)) := by
  unfold brQ nsQ
  rw [Bool.eq_iff_iff]
  simp only [Bool.and_eq_true, decide_eq_true_eq, bne_iff_ne, ne_eq, Bool.not_eq_true', Bool.or_eq_false_iff, decide_eq_false_iff_not, beq_eq_false_iff_ne, ← UInt8.toNat_inj]
  show (33 ≤ b.toNat ∧ b.toNat ≤ 126) ∧ (¬b.toNat = 39 ∧ ¬b.toNat = 92) ∧ ¬b.toNat = 35 ↔ _
  omega
set_option maxRecDepth 100000 in
set_option maxHeartbeats 4000000 in
theorem lBare (s : ByteArray) (w : World) (hs : s.size ≤ 5000) : Calls Tryd.prog 15 #[.string s] w fun e w' => e = .returned (.bool (bareQ s.data.toList)) ∧ w = w' := by
  have HN := Lib.hid (show ∀ i b, s.data.toList[i]? = some b → brQ b = false → bareQ s.data.toList = false from fun i b h hb => brQ_no h hb)
  have HY := Lib.hid (show s.data.toList.all brQ = true → bareQ s.data.toList = decide (0 < s.size) from fun h => by
    unfold bareQ
    rw [h, Bool.and_true, Bool.eq_iff_iff]
    cases e : s.data.toList with
    | nil => have := congrArg List.length e; simp at this; simp; omega
    | cons b l => have := congrArg List.length e; simp at this; simp; omega)
  generalize bareQ s.data.toList = z at HN HY ⊢
  go_enter Tryd.func15, Tryd.ntmps15
  go_wp2
  go_loop [3] (fun i => ∃ j : Nat, j ≤ s.size ∧ i = .int .i64 j ∧ Hid ((s.data.toList.take j).all brQ = true)) (fun i => s.size - (intOf i).toNat)
  case atStart => exact ⟨0, Nat.zero_le _, rfl, Lib.hid rfl⟩
  case round =>
    obtain ⟨j, hj, rfl, hA⟩ := hrel
    by_cases hlt : j < s.size
    · have HJ := Lib.hid (list_at hlt)
      have hp := br_parts s[j]
      obtain ⟨f1, h1⟩ : ∃ f, decide (((s[j]).toNat : Int) < 33) = f := ⟨_, rfl⟩
      obtain ⟨f2, h2⟩ : ∃ f, decide (((s[j]).toNat : Int) > 126) = f := ⟨_, rfl⟩
      obtain ⟨f3, h3⟩ : ∃ f, (((s[j]).toNat : Int) == 39) = f := ⟨_, rfl⟩
      obtain ⟨f4, h4⟩ : ∃ f, (((s[j]).toNat : Int) == 92) = f := ⟨_, rfl⟩
      obtain ⟨f5, h5⟩ : ∃ f, (((s[j]).toNat : Int) == 35) = f := ⟨_, rfl⟩
      rw [h1, h2, h3, h4, h5] at hp
      have HJ2 := HJ
      cases hb : brQ s[j]
      · have HZ := Lib.hid (HN.out j _ HJ.out hb)
        rw [hb] at hp
        have hw : f1 = true ∨ (f1 = false ∧ f2 = true) ∨ (f1 = false ∧ f2 = false ∧ f3 = true) ∨ (f1 = false ∧ f2 = false ∧ f3 = false ∧ f4 = true) ∨ (f1 = false ∧ f2 = false ∧ f3 = false ∧ f4 = false ∧ f5 = true) := by
          revert hp; cases f1 <;> cases f2 <;> cases f3 <;> cases f4 <;> cases f5 <;> simp
        clear hb hp
        rcases hw with rfl | ⟨rfl, rfl⟩ | ⟨rfl, rfl, rfl⟩ | ⟨rfl, rfl, rfl, rfl⟩ | ⟨rfl, rfl, rfl, rfl, rfl⟩
        all_goals
          go_wp2
          go_ret
          exact ⟨ret_bool HZ.out.symm, rfl⟩
      · have HA := Lib.hid (show (s.data.toList.take (j + 1)).all brQ = true by rw [br_take HJ.out, hA.out, hb]; rfl)
        rw [hb] at hp
        have hw : f1 = false ∧ f2 = false ∧ f3 = false ∧ f4 = false ∧ f5 = false := by
          revert hp; cases f1 <;> cases f2 <;> cases f3 <;> cases f4 <;> cases f5 <;> simp
        obtain ⟨rfl, rfl, rfl, rfl, rfl⟩ := hw
        clear hb hp
        go_wp2
        go_round
        case rel => exact ⟨j + 1, by omega, by go_num, HA⟩
        case measure => simp [intOf]; omega
    · obtain rfl : j = s.size := by omega
      have HZ := Lib.hid (HY.out (by have := hA.out; rwa [List.take_of_length_le (by simp)] at this))
      go_wp2
      go_ret
      exact ⟨ret_bool HZ.out.symm, rfl⟩

theorem guardLm (op : BinOp) (x y : Operand) (xs ys : Array Value) (w : World) : (eqGuard op 33 x y (.agg xs) (.agg ys)).run Tryd.prog w = .ok () w := run_eqGuard_agg w op _ x y xs ys (by kernel_rfl)
theorem eqlLm (f g : Lb) (w : World) : (binOp .eql 33 (.agg #[.string f.t, .int .i64 f.n, .bool f.r]) (.agg #[.string g.t, .int .i64 g.n, .bool g.r])).run Tryd.prog w = .ok (.bool (eqLb f g)) w := by
  have hS : Tryd.prog.underlying 33 = some (.struct (Tryd.prog.fieldsOf 33)) := by kernel_rfl
  have hp : Tryd.prog.stoodInHeld 33 = false := by kernel_rfl
  have u3 := Tryd.underlying3
  have a3 := Tryd.isAgg3
  have z3 := Tryd.sizeOf3
  have u9 := Tryd.underlying9
  have a9 := Tryd.isAgg9
  have z9 := Tryd.sizeOf9
  have u4 := Tryd.underlying4
  have a4 := Tryd.isAgg4
  have z4 := Tryd.sizeOf4
  rw [run_eql_struct, show (10000 : Nat) = 9999 + 1 from rfl, run_equalIn_agg w 9999 _ _ _ hS hp]
  simp only [Program.fieldsOf, Tryd.underlying33]
  go_simp
  unfold eqLb
  by_cases h1 : (f.t.toList == g.t.toList) = true <;> by_cases h2 : ((f.n : Int) == (g.n : Int)) = true <;> by_cases h3 : (f.r == g.r) = true <;> simp_all
end Go.Proofs.YtigjmaicolgalaaDoor
