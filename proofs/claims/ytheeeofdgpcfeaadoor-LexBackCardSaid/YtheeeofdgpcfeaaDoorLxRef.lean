/- The document's own answers of layer 13: a word's text; two rows of words. -/
import Derived.Test.YtheeeofdgpcfeaaDoorLxRow
import Derived.Test.YtheeeofdgpcfeaaDoorQtRef
import Derived.WalkSmall
namespace Go.Proofs.YtheeeofdgpcfeaaDoor
open Go.RowKit

/-- short pieces -/
def Shp (x : Pb) : Prop := x.t.size ≤ 100 ∧ x.f.size ≤ 100 ∧ x.o.size ≤ 100
def eqPb (x y : Pb) : Bool := x.k == y.k && x.t.toList == y.t.toList && x.f.toList == y.f.toList && x.o.toList == y.o.toList
theorem eqPb_iff {x y : Pb} : eqPb x y = true ↔ x = y := by
  obtain ⟨k, t, f, o⟩ := x
  obtain ⟨k', t', f', o'⟩ := y
  unfold eqPb
  simp only [Bool.and_eq_true, beq_iff_eq, Pb.mk.injEq]
  have h : ∀ a b : ByteArray, a.toList = b.toList ↔ a = b := fun a b => ⟨fun e => by rw [Lib.toList_data, Lib.toList_data] at e; exact bytes_inj e, fun e => by rw [e]⟩
  rw [h, h, h, and_assoc, and_assoc]
theorem neqPd (f g : Pb) (w : World) : (binOp .neq 51 (.agg #[.int .i64 f.k, .string f.t, .string f.f, .string f.o]) (.agg #[.int .i64 g.k, .string g.t, .string g.f, .string g.o])).run Tryd.prog w = .ok (.bool (!eqPb f g)) w := by
  have hS : Tryd.prog.underlying 51 = some (.struct (Tryd.prog.fieldsOf 51)) := by kernel_rfl
  have hp : Tryd.prog.stoodInHeld 51 = false := by kernel_rfl
  have u3 := Tryd.underlying3
  have a3 := Tryd.isAgg3
  have z3 := Tryd.sizeOf3
  have u9 := Tryd.underlying9
  have a9 := Tryd.isAgg9
  have z9 := Tryd.sizeOf9
  rw [run_neq_struct, show (10000 : Nat) = 9999 + 1 from rfl, run_equalIn_agg w 9999 _ _ _ hS hp]
  simp only [Program.fieldsOf, Tryd.underlying51]
  go_simp
  unfold eqPb
  by_cases h1 : (f.k == g.k) = true <;> by_cases h2 : (f.t.toList == g.t.toList) = true <;> by_cases h3 : (f.f.toList == g.f.toList) = true <;> by_cases h4 : (f.o.toList == g.o.toList) = true <;> simp_all
theorem guardPd (op : BinOp) (x y : Operand) (xs ys : Array Value) (w : World) : (eqGuard op 51 x y (.agg xs) (.agg ys)).run Tryd.prog w = .ok () w := run_eqGuard_agg w op _ x y xs ys (by kernel_rfl)
theorem four_px {w : World} {b : Nat} {v0 v1 v2 v3 : Value} {t : TypeId} (h : w.heap[b]? = some (.cells #[v0, v1, v2, v3] t (0, 0))) :
    w.cell? ⟨b, 0, none⟩ = some v0 ∧ w.cell? ⟨b, 1, none⟩ = some v1 ∧ w.cell? ⟨b, 2, none⟩ = some v2 ∧ w.cell? ⟨b, 3, none⟩ = some v3 := by
  refine ⟨?_, ?_, ?_, ?_⟩ <;> (unfold World.cell?; rw [h]; rfl)
theorem two_cons (b : UInt8) (l : List UInt8) : twoQ (b :: l) = (if b = 39 then [39, 39] else [b]) ++ twoQ l := by unfold twoQ; rw [List.flatMap_cons]
set_option maxRecDepth 100000 in
set_option maxHeartbeats 4000000 in
theorem dTextX (v : Value) (l : List Pb) (w : World) (hR : PRow w v l) (hl : l.length ≤ 12) (hs : ∀ x ∈ l, Shp x) :
    Calls Tryd.prog 9 #[v] w fun e w' => (∃ t : ByteArray, e = .returned (.string t) ∧ t.data.toList = txW (pcL l)) ∧ w.grownBy w' none := by
  obtain ⟨va, vc, rfl, -⟩ := hR.shape
  have HR := Lib.hid hR; have HS := Lib.hid hs
  have hT : ∃ T, txW (pcL l) = T := ⟨_, rfl⟩
  obtain ⟨T, hT⟩ := hT
  rw [hT]
  have HT := Lib.hid hT
  clear hR hs hT
  go_enter Tryd.func9, Tryd.ntmps9
  go_wp2
  go_loopw [3, 9] (fun s i wr => ∃ (j : Nat) (S : ByteArray), j ≤ l.length ∧ i = .int .i64 j ∧ s = .string S ∧ S.size ≤ 1000 * j ∧ Hid (T = S.data.toList ++ txW ((pcL l).drop j)) ∧ Hid (w.grownBy wr none)) (fun _ i _ => l.length - (intOf i).toNat)
  case atStart => exact ⟨0, ⟨#[]⟩, Nat.zero_le _, rfl, rfl, Nat.zero_le _, Lib.hid (by rw [← HT.out]; rfl), Lib.hid (World.grownBy.refl _ _)⟩
  case round =>
    obtain ⟨j, S, hj, rfl, rfl, hS, hF, hG⟩ := hrel
    by_cases hlt : j < l.length
    · obtain ⟨b, off, c, x, ev, hx, hb, c0, c1, c2, c3⟩ := (HR.out.grown hG.out).at j hlt
      injection ev with ev1 ev2 ev3
      subst ev1 ev3
      obtain ⟨hs1, hs2, hs3⟩ := HS.out x (List.mem_of_getElem? hx)
      have hD : txW ((pcL l).drop j) = txP x.q ++ txW ((pcL l).drop (j + 1)) := by
        have h2 : (pcL l)[j]? = some x.q := by rw [List.getElem?_map, hx]; rfl
        obtain ⟨h3, h4⟩ := List.getElem?_eq_some_iff.1 h2
        rw [List.drop_eq_getElem_cons h3, h4]; rfl
      have G4 := Lib.hid (hG.out.trans (World.grownBy_alloc wr (.cells #[.int .i64 x.k, .string x.t, .string x.f, .string x.o] 51) none))
      have B4 := Lib.hid (heap_alloc_new wr (.cells #[.int .i64 x.k, .string x.t, .string x.f, .string x.o] 51))
      clear hx hb hG
      go_upto_region 5 with fail
      generalize wr.alloc _ = w4 at B4 G4 ⊢
      obtain ⟨d0, d1, d2, d3⟩ := four_px B4.out
      clear c0 c1 c2 c3
      by_cases hk : x.k = 0
      · have e0 : (x.k == 0) = true := by rw [hk]; rfl
        have HN := Lib.hid (show T = (S ++ x.t).data.toList ++ txW ((pcL l).drop (j + 1)) by
          rw [hF.out, hD, show txP x.q = x.t.data.toList from by unfold txP Pb.q; simp [hk]]; simp only [toList_app]; simp)
        have hz : (S ++ x.t).size ≤ 1000 * (j + 1) := by simp only [ByteArray.size_append]; have l1 : (⟨#[36, 123]⟩ : ByteArray).size = 2 := rfl; have l2 : (⟨#[96, 123]⟩ : ByteArray).size = 2 := rfl; have l3 : (⟨#[125]⟩ : ByteArray).size = 1 := rfl; have l4 : (⟨#[58]⟩ : ByteArray).size = 1 := rfl; have l5 : (⟨#[61]⟩ : ByteArray).size = 1 := rfl; omega
        clear hF hD
        go_wp2
        go_roundw
        case rel => exact ⟨j + 1, _, hlt, by go_num, rfl, hz, HN, G4⟩
        case measure => simp [intOf]; omega
      by_cases hk1 : x.k = 1
      · have e0 : (x.k == 0) = false := by rw [hk1]; rfl
        have e1 : (x.k == 1) = true := by rw [hk1]; rfl
        have HN := Lib.hid (show T = (S ++ ⟨#[39]⟩).data.toList ++ (twoQ x.t.data.toList ++ 39 :: txW ((pcL l).drop (j + 1))) by
          rw [hF.out, hD, show txP x.q = 39 :: (twoQ x.t.data.toList ++ [39]) from by unfold txP Pb.q; simp [hk1]]; simp only [toList_app]; simp)
        have hz : (S ++ ⟨#[39]⟩).size ≤ 1000 * j + 1 := by simp only [ByteArray.size_append]; have l1 : (⟨#[39]⟩ : ByteArray).size = 1 := rfl; omega
        clear hF hD hk
        go_wp2
        go_loop [3, 6] (fun s i => ∃ (n : Nat) (Y : ByteArray), n ≤ x.t.size ∧ i = .int .i64 n ∧ s = .string Y ∧ Y.size ≤ 1000 * j + 1 + 2 * n ∧ Hid (T = Y.data.toList ++ (twoQ (x.t.data.toList.drop n) ++ 39 :: txW ((pcL l).drop (j + 1))))) (fun _ i => x.t.size - (intOf i).toNat)
        case atStart => exact ⟨0, _, Nat.zero_le _, rfl, rfl, by omega, HN⟩
        case round =>
          obtain ⟨n, Y, hn, rfl, rfl, hY, hF⟩ := hrel
          by_cases hnt : n < x.t.size
          · have HJ := Lib.hid (list_at hnt)
            have HE := Lib.hid (toList_one hnt)
            have hez : (x.t.extract n (n + 1)).size = 1 := by simp; omega
            have hD := drop_at HJ.out
            by_cases h39 : x.t[n] = 39
            · have e9 : (((x.t[n]).toNat : Int) == 39) = true := by rw [h39]; rfl
              have HN2 := Lib.hid (show T = (Y ++ x.t.extract n (n + 1) ++ ⟨#[39]⟩).data.toList ++ (twoQ (x.t.data.toList.drop (n + 1)) ++ 39 :: txW ((pcL l).drop (j + 1))) by
                rw [hF.out, hD, two_cons, if_pos h39]; simp only [toList_app, HE.out, h39]; simp)
              have hz2 : (Y ++ x.t.extract n (n + 1) ++ ⟨#[39]⟩).size ≤ 1000 * j + 1 + 2 * (n + 1) := by simp only [ByteArray.size_append]; have l1 : (⟨#[39]⟩ : ByteArray).size = 1 := rfl; omega
              clear h39 hD hF
              go_wp2
              go_round
              case rel => exact ⟨n + 1, _, hnt, by go_num, rfl, hz2, HN2⟩
              case measure => simp [intOf]; omega
            · have e9 : (((x.t[n]).toNat : Int) == 39) = false := by
                rw [beq_eq_false_iff_ne]; intro h; exact h39 (UInt8.toNat_inj.1 (by show (x.t[n]).toNat = 39; omega))
              have HN2 := Lib.hid (show T = (Y ++ x.t.extract n (n + 1)).data.toList ++ (twoQ (x.t.data.toList.drop (n + 1)) ++ 39 :: txW ((pcL l).drop (j + 1))) by
                rw [hF.out, hD, two_cons, if_neg h39]; simp only [toList_app, HE.out]; simp)
              have hz2 : (Y ++ x.t.extract n (n + 1)).size ≤ 1000 * j + 1 + 2 * (n + 1) := by simp only [ByteArray.size_append]; omega
              clear h39 hD hF
              go_wp2
              go_round
              case rel => exact ⟨n + 1, _, hnt, by go_num, rfl, hz2, HN2⟩
              case measure => simp [intOf]; omega
          · have HN2 := Lib.hid (show T = (Y ++ ⟨#[39]⟩).data.toList ++ txW ((pcL l).drop (j + 1)) by
              have e : x.t.data.toList.drop n = [] := List.drop_of_length_le (by simp; omega)
              rw [hF.out, e]; simp only [toList_app]; simp [twoQ])
            have hz2 : (Y ++ ⟨#[39]⟩).size ≤ 1000 * (j + 1) := by simp only [ByteArray.size_append]; have l1 : (⟨#[39]⟩ : ByteArray).size = 1 := rfl; omega
            clear hF
            go_wp2
            go_roundw
            case rel => exact ⟨j + 1, _, hlt, by go_num, rfl, hz2, HN2, G4⟩
            case measure => simp [intOf]; omega
      by_cases hk2 : x.k = 2
      · have e0 : (x.k == 0) = false := by rw [hk2]; rfl
        have e1 : (x.k == 1) = false := by rw [hk2]; rfl
        have e2 : (x.k == 2) = true := by rw [hk2]; rfl
        have HN := Lib.hid (show T = (S ++ (⟨#[36, 123]⟩ ++ x.t ++ ⟨#[125]⟩)).data.toList ++ txW ((pcL l).drop (j + 1)) by
          rw [hF.out, hD, show txP x.q = 36 :: 123 :: (x.t.data.toList ++ [125]) from by unfold txP Pb.q; simp [hk2]]; simp only [toList_app]; simp)
        have hz : (S ++ (⟨#[36, 123]⟩ ++ x.t ++ ⟨#[125]⟩)).size ≤ 1000 * (j + 1) := by simp only [ByteArray.size_append]; have l1 : (⟨#[36, 123]⟩ : ByteArray).size = 2 := rfl; have l2 : (⟨#[96, 123]⟩ : ByteArray).size = 2 := rfl; have l3 : (⟨#[125]⟩ : ByteArray).size = 1 := rfl; have l4 : (⟨#[58]⟩ : ByteArray).size = 1 := rfl; have l5 : (⟨#[61]⟩ : ByteArray).size = 1 := rfl; omega
        clear hF hD
        go_wp2
        go_roundw
        case rel => exact ⟨j + 1, _, hlt, by go_num, rfl, hz, HN, G4⟩
        case measure => simp [intOf]; omega
      by_cases hk3 : x.k = 3
      · have e0 : (x.k == 0) = false := by rw [hk3]; rfl
        have e1 : (x.k == 1) = false := by rw [hk3]; rfl
        have e2 : (x.k == 2) = false := by rw [hk3]; rfl
        have e3 : (x.k == 3) = true := by rw [hk3]; rfl
        have HN := Lib.hid (show T = (S ++ (⟨#[36, 123]⟩ ++ x.t ++ ⟨#[58]⟩ ++ x.f ++ ⟨#[61]⟩ ++ x.o ++ ⟨#[125]⟩)).data.toList ++ txW ((pcL l).drop (j + 1)) by
          rw [hF.out, hD, show txP x.q = 36 :: 123 :: (x.t.data.toList ++ 58 :: (x.f.data.toList ++ 61 :: (x.o.data.toList ++ [125]))) from by unfold txP Pb.q; simp [hk3]]; simp only [toList_app]; simp)
        have hz : (S ++ (⟨#[36, 123]⟩ ++ x.t ++ ⟨#[58]⟩ ++ x.f ++ ⟨#[61]⟩ ++ x.o ++ ⟨#[125]⟩)).size ≤ 1000 * (j + 1) := by simp only [ByteArray.size_append]; have l1 : (⟨#[36, 123]⟩ : ByteArray).size = 2 := rfl; have l2 : (⟨#[96, 123]⟩ : ByteArray).size = 2 := rfl; have l3 : (⟨#[125]⟩ : ByteArray).size = 1 := rfl; have l4 : (⟨#[58]⟩ : ByteArray).size = 1 := rfl; have l5 : (⟨#[61]⟩ : ByteArray).size = 1 := rfl; omega
        clear hF hD
        go_wp2
        go_roundw
        case rel => exact ⟨j + 1, _, hlt, by go_num, rfl, hz, HN, G4⟩
        case measure => simp [intOf]; omega
      by_cases hk4 : x.k = 4
      · have e0 : (x.k == 0) = false := by rw [hk4]; rfl
        have e1 : (x.k == 1) = false := by rw [hk4]; rfl
        have e2 : (x.k == 2) = false := by rw [hk4]; rfl
        have e3 : (x.k == 3) = false := by rw [hk4]; rfl
        have e4 : (x.k == 4) = true := by rw [hk4]; rfl
        have HN := Lib.hid (show T = (S ++ (⟨#[96, 123]⟩ ++ x.t ++ ⟨#[125]⟩)).data.toList ++ txW ((pcL l).drop (j + 1)) by
          rw [hF.out, hD, show txP x.q = 96 :: 123 :: (x.t.data.toList ++ [125]) from by unfold txP Pb.q; simp [hk4]]; simp only [toList_app]; simp)
        have hz : (S ++ (⟨#[96, 123]⟩ ++ x.t ++ ⟨#[125]⟩)).size ≤ 1000 * (j + 1) := by simp only [ByteArray.size_append]; have l1 : (⟨#[36, 123]⟩ : ByteArray).size = 2 := rfl; have l2 : (⟨#[96, 123]⟩ : ByteArray).size = 2 := rfl; have l3 : (⟨#[125]⟩ : ByteArray).size = 1 := rfl; have l4 : (⟨#[58]⟩ : ByteArray).size = 1 := rfl; have l5 : (⟨#[61]⟩ : ByteArray).size = 1 := rfl; omega
        clear hF hD
        go_wp2
        go_roundw
        case rel => exact ⟨j + 1, _, hlt, by go_num, rfl, hz, HN, G4⟩
        case measure => simp [intOf]; omega
      have HN := Lib.hid (show T = S.data.toList ++ txW ((pcL l).drop (j + 1)) by
        rw [hF.out, hD, show txP x.q = [] from by unfold txP Pb.q; simp [hk, hk1, hk2, hk3, hk4]]; rfl)
      have e0 : (x.k == 0) = false := by simpa using hk
      have e1 : (x.k == 1) = false := by simpa using hk1
      have e2 : (x.k == 2) = false := by simpa using hk2
      have e3 : (x.k == 3) = false := by simpa using hk3
      have e4 : (x.k == 4) = false := by simpa using hk4
      clear hF hD
      go_wp2
      go_roundw
      case rel => exact ⟨j + 1, _, hlt, by go_num, rfl, by omega, HN, G4⟩
      case measure => simp [intOf]; omega
    · have HN := Lib.hid (show S.data.toList = T by
        have e : (pcL l).drop j = [] := List.drop_of_length_le (by rw [List.length_map]; omega)
        rw [hF.out, e]; simp [txW])
      go_wp2
      go_ret
      exact ⟨⟨S, rfl, HN.out⟩, hG.out⟩
theorem take_more {α : Type} {a b : List α} {j : Nat} {x : α} (h : ∀ m, m < j → a[m]? = b[m]?) (ha : a[j]? = some x) (hb : b[j]? = some x) : ∀ m, m < j + 1 → a[m]? = b[m]? := by
  intro m hm
  rcases Nat.lt_succ_iff_lt_or_eq.1 hm with h1 | rfl
  · exact h m h1
  · rw [ha, hb]
theorem take_all {α : Type} {a b : List α} (hl : a.length = b.length) (h : ∀ m, m < a.length → a[m]? = b[m]?) : a = b := by
  apply List.ext_getElem?
  intro m
  rcases Nat.lt_or_ge m a.length with h1 | h1
  · exact h m h1
  · rw [List.getElem?_eq_none h1, List.getElem?_eq_none (by omega)]
set_option maxRecDepth 100000 in
set_option maxHeartbeats 4000000 in
theorem dSameX (v1 v2 : Value) (La Lb : List (List Pb)) (w : World) (ha : RRow w v1 La) (hb : RRow w v2 Lb) :
    Calls Tryd.prog 12 #[v1, v2] w fun e w' => (∃ z, e = .returned (.bool z) ∧ (z = true ↔ La = Lb)) ∧ w.grownBy w' none := by
  obtain ⟨va, vc, rfl, hm1⟩ := ha.shape
  obtain ⟨ua, uc, rfl, hm2⟩ := hb.shape
  have HA := Lib.hid ha; have HB := Lib.hid hb
  have GE := guardPd
  clear ha hb
  by_cases hlen : La.length = Lb.length
  case neg =>
    have e0 : ((La.length : Int) != (Lb.length : Int)) = true := by simp; omega
    have HN := Lib.hid (show ¬La = Lb from fun e => hlen (by rw [e]))
    clear hlen
    go_enter Tryd.func12, Tryd.ntmps12
    go_wp2
    go_ret
    exact ⟨⟨false, rfl, by simp [HN.out]⟩, World.grownBy.refl _ _⟩
  have HLN := Lib.hid hlen
  have e0 : ((La.length : Int) != (Lb.length : Int)) = false := by simp; omega
  clear hlen
  go_enter Tryd.func12, Tryd.ntmps12
  go_wp2
  clear e0
  go_loopw [14] (fun i wr => ∃ j : Nat, j ≤ La.length ∧ i = .int .i64 j ∧ Hid (∀ m, m < j → La[m]? = Lb[m]?) ∧ Hid (w.grownBy wr none)) (fun i _ => La.length - (intOf i).toNat)
  case atStart => exact ⟨0, Nat.zero_le _, rfl, Lib.hid (fun m hm => by omega), Lib.hid (World.grownBy.refl _ _)⟩
  case round =>
    obtain ⟨j, hj, rfl, hI, hG⟩ := hrel
    by_cases hlt : j < La.length
    · have hlt2 : j < Lb.length := by have := HLN.out; omega
      obtain ⟨b1, o1, c1, l1, u1, ev1, hx1, hb1, k1, p1⟩ := (HA.out.grown hG.out).at j hlt
      obtain ⟨b2, o2, c2, l2, u2, ev2, hx2, hb2, k2, p2⟩ := (HB.out.grown hG.out).at j hlt2
      injection ev1 with e1 e2 e3
      injection ev2 with f1 f2 f3
      subst e1 e3 f1 f3
      obtain ⟨a1, c1, rfl, hq1⟩ := p1.shape
      obtain ⟨a2, c2, rfl, hq2⟩ := p2.shape
      have P1 := Lib.hid p1; have P2 := Lib.hid p2; have X1 := Lib.hid hx1; have X2 := Lib.hid hx2
      clear p1 p2 hx1 hx2 hb1 hb2 e2 f2
      have d1 : decide ((j : Int) < (La.length : Int)) = true := by simp; omega
      by_cases hll : l1.length = l2.length
      case neg =>
        have e9 : ((l1.length : Int) != (l2.length : Int)) = true := by simp; omega
        have HN := Lib.hid (show ¬La = Lb from fun e => hll (by
          have h1 := X1.out; rw [e, X2.out] at h1; rw [Option.some.inj h1]))
        clear hll
        go_wp2
        go_quiet (fail)
        go_wp2
        go_ret
        exact ⟨⟨false, rfl, by simp [HN.out]⟩, grown_drewN hG.out _⟩
      have HLL := Lib.hid hll
      have e9 : ((l1.length : Int) != (l2.length : Int)) = false := by simp; omega
      clear hll
      go_wp2
      go_quiet (fail)
      go_wp2
      clear e9
      have K1 := Lib.hid k1; have K2 := Lib.hid k2
      have GN := Lib.hid (grown_drewN (World.grownBy.refl wr none) nq)
      obtain ⟨wo, rfl⟩ : ∃ wo : World, wo = wr := ⟨_, rfl⟩
      generalize wo.drewN nq = w5 at GN ⊢
      clear k1 k2
      go_loopw [33] (fun i wi => ∃ n : Nat, n ≤ l1.length ∧ i = .int .i64 n ∧ Hid (∀ m, m < n → l1[m]? = l2[m]?) ∧ Hid (wo.grownBy wi none)) (fun i _ => l1.length - (intOf i).toNat)
      case atStart => exact ⟨0, Nat.zero_le _, rfl, Lib.hid (fun m hm => by omega), GN⟩
      case round =>
        obtain ⟨n, hn, rfl, hI2, hG2⟩ := hrel
        by_cases hnt : n < l1.length
        · have hnt2 : n < l2.length := by have := HLL.out; omega
          have k1 := hG2.out.cell K1.out (by simp)
          have k2 := hG2.out.cell K2.out (by simp)
          obtain ⟨p1, q1, r1, x1, ew1, hy1, hp1, g0, g1, g2, g3⟩ := (P1.out.grown hG2.out).at n hnt
          obtain ⟨p2, q2, r2, x2, ew2, hy2, hp2, h0, h1, h2, h3⟩ := (P2.out.grown hG2.out).at n hnt2
          injection ew1 with z1 z2 z3
          injection ew2 with y1 y2 y3
          subst z1 z3 y1 y3
          have Y1 := Lib.hid hy1; have Y2 := Lib.hid hy2
          have NX := fun w => neqPd x1 x2 w
          clear hy1 hy2 hp1 hp2 z2 y2
          cases hx : eqPb x1 x2
          · rw [hx] at NX
            have HN := Lib.hid (show ¬La = Lb from fun e => by
              have h1 := X1.out
              rw [e, X2.out] at h1
              have h2 := Y1.out
              rw [← Option.some.inj h1, Y2.out] at h2
              have := eqPb_iff.2 (Option.some.inj h2).symm
              rw [hx] at this; cases this)
            clear hx
            go_wp2
            go_quiet (fail)
            go_wp2
            go_ret
            exact ⟨⟨false, rfl, by simp [HN.out]⟩, hG.out.trans (grown_drewN hG2.out _)⟩
          · rw [hx] at NX
            have HI := Lib.hid (show ∀ m, m < n + 1 → l1[m]? = l2[m]? from take_more hI2.out Y1.out (by rw [Y2.out, eqPb_iff.1 hx]))
            clear hx
            go_wp2
            go_quiet (fail)
            go_wp2
            go_roundw
            case rel => exact ⟨n + 1, hnt, by go_num, HI, Lib.hid (grown_drewN hG2.out _)⟩
            case measure => simp [intOf]; omega
        · have HI := Lib.hid (show ∀ m, m < j + 1 → La[m]? = Lb[m]? from take_more hI.out X1.out (by rw [X2.out, take_all HLL.out (fun m hm => hI2.out m (by omega))]))
          have k1 := hG2.out.cell K1.out (by simp)
          have k2 := hG2.out.cell K2.out (by simp)
          go_wp2
          go_roundw
          case rel => exact ⟨j + 1, hlt, by go_num, HI, Lib.hid (hG.out.trans hG2.out)⟩
          case measure => simp [intOf]; omega
    · have HE := Lib.hid (show La = Lb from take_all HLN.out (fun m hm => hI.out m (by omega)))
      go_wp2
      go_ret
      exact ⟨⟨true, rfl, by simp [HE.out]⟩, hG.out⟩
end Go.Proofs.YtheeeofdgpcfeaaDoor
