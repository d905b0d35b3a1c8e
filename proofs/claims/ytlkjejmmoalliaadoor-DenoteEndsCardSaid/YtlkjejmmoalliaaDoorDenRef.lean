/- The document's own answer what a node spans: kids one behind the other, a kid many times, a node: by places between. -/
import Derived.Test.YtlkjejmmoalliaaDoorDenPlain
import Derived.Test.YtlkjejmmoalliaaDoorPgMem
import Derived.Test.YtlkjejmmoalliaaDoorClsE
import Derived.Deep.CutRange
import Derived.Deep.CutBlock
namespace Go.Proofs.YtlkjejmmoalliaaDoor
open Go.RowKit

/-- the nodes behind the first one -/
theorem KidsI.tail {w : World} {p : Nat → Prop} {b off c m : Nat} {n : Ni} {l : List Ni} (h : KidsI w p (.slice (some ⟨b, off, none⟩) m c) (n :: l)) : KidsI w p (.slice (some ⟨b, off + 7, none⟩) l.length (c - 1)) l := by
  obtain ⟨q, hq⟩ : ∃ q, q = n :: l := ⟨_, rfl⟩
  rw [← hq] at h
  cases h with
  | empty => cases hq
  | items b off c l' kv hl' hp hq' hc hkk =>
    subst hq
    cases l with
    | nil => exact .empty _ _
    | cons n2 l =>
      refine .items b (off + 7) (c - 1) (n2 :: l) (fun k => kv (k + 1)) (by simp) hp (by simp at hq' ⊢; omega) (fun k n' hn j u hu => ?_) (fun k n' hn => hkk (k + 1) n' hn)
      have := hc (k + 1) n' hn j u hu
      rwa [show off + (k + 1) * 7 + j = off + 7 + k * 7 + j by omega] at this
/-- what the document says of a node of at most N -/
def DocSp (N : Nat) : Prop := ∀ (n : Ni) (s : ByteArray) (i j : Nat) (a : Option Addr) (m k : Nat) (w : World), szN n ≤ N → rgtN n = true → i ≤ j → j ≤ s.size → s.size ≤ 1000 → KidsE w (.slice a m k) n.kids →
    Calls Tryd.prog 10 #[niV n (.slice a m k), .string s, .int .i64 i, .int .i64 j] w fun e w' => e = .returned (.bool (dB (SpN s n i j))) ∧ w.grownBy w' none

set_option maxRecDepth 100000 in
set_option maxHeartbeats 4000000 in
theorem dRow (N : Nat) (HI : DocSp N) (s : ByteArray) (hs : s.size ≤ 1000) : ∀ (l : List Ni) (i j : Nat) (a : Option Addr) (m k : Nat) (w : World), (∀ n ∈ l, szN n ≤ N) → rgtL l = true → i ≤ j → j ≤ s.size → l.length ≤ 1000 → KidsE w (.slice a m k) l →
    Calls Tryd.prog 28 #[.slice a m k, .string s, .int .i64 i, .int .i64 j] w fun e w' => e = .returned (.bool (dB (SpR s l i j))) ∧ w.grownBy w' none := by
  intro l
  induction l with
  | nil =>
    intro i j a m k w _ _ hij hj _ hK
    obtain rfl := hK.len
    have HZ := Lib.hid (show ((i : Int) == (j : Int)) = dB (SpR s [] i j) by
      rw [Bool.eq_iff_iff, dB_iff, SpR]; simp; omega)
    generalize dB (SpR s [] i j) = z at HZ ⊢
    go_enter Tryd.func28, Tryd.ntmps28
    go_wp2
    go_ret
    exact ⟨ret_bool HZ.out, World.grownBy.refl _ _⟩
  | cons n l ih =>
    intro i j a m k w hN hr hij hj hl hK
    obtain rfl := hK.len
    rw [rgtL, Bool.and_eq_true] at hr
    have hcap := hK.cap (by simp)
    have HZ := Lib.hid (show ∀ q, SpN s n i q → SpR s l q j → dB (SpR s (n :: l) i j) = true from fun q h1 h2 => dB_yes (by rw [SpR]; exact ⟨q, h1, h2⟩))
    have HZ0 := Lib.hid (show (∀ q, i ≤ q → q < j + 1 → ¬(SpN s n i q ∧ SpR s l q j)) → dB (SpR s (n :: l) i j) = false from fun h => dB_no fun h' => by
      rw [SpR] at h'
      obtain ⟨q, h1, h2⟩ := h'
      have g1 := sp_goes s n i q (by omega) h1
      have g2 := spR_goes s l q j g1.2 h2
      exact h q g1.1 (by omega) ⟨h1, h2⟩)
    have HA := Lib.hid (fun (q : Nat) a m k w (h1 : i ≤ q) (h2 : q ≤ s.size) => HI n s i q a m k w (hN n (by simp)) hr.1 h1 h2 hs)
    have HB := Lib.hid (fun (q : Nat) a m k w (h1 : q ≤ j) => ih q j a m k w (fun n' h' => hN n' (by simp [h'])) hr.2 h1 hj (by simp at hl; omega))
    generalize dB (SpR s (n :: l) i j) = z at HZ HZ0 ⊢
    clear ih HI hN hr
    obtain ⟨b0, off, x0, y0, z0, rfl, -, -⟩ := hK.at (show (n :: l)[0]? = some n from rfl)
    have K0 := Lib.hid hK
    clear hK
    rw [List.length_cons] at hl hcap K0 ⊢
    obtain ⟨m, hm⟩ : ∃ m, m = l.length + 1 := ⟨_, rfl⟩
    have HM := Lib.hid (show m - 1 = l.length by omega)
    have hm1 : 1 ≤ m := by omega
    rw [← hm] at hl hcap K0 ⊢
    clear hm
    have d0 : ((m : Int) == 0) = false := by simp; omega
    have hk01 : k = 1 ∨ 2 ≤ k := by omega
    rcases hk01 with rfl | hk2
    all_goals
      go_enter Tryd.func28, Tryd.ntmps28
      go_wp2
      go_loopw [9] (fun v wr => ∃ q : Nat, i ≤ q ∧ q ≤ j + 1 ∧ v = .int .i64 q ∧ Hid (∀ q', i ≤ q' → q' < q → ¬(SpN s n i q' ∧ SpR s l q' j)) ∧ Hid (w.grownBy wr none)) (fun v _ => j + 1 - (intOf v).toNat)
      case atStart => exact ⟨i, by omega, by omega, rfl, Lib.hid (fun q' h1 h2 => by omega), Lib.hid (World.grownBy.refl _ _)⟩
      case round =>
        obtain ⟨q, hq1, hq2, rfl, hN, hG⟩ := hrel
        by_cases hlt : q ≤ j
        · obtain ⟨b', off', x1, y1, z1, e1, hc, hk'⟩ := (K0.out.grown hG.out).at (show (n :: l)[0]? = some n from rfl)
          cases e1
          have c0 : wr.cell? ⟨b0, off, none⟩ = some (.int .i64 n.kind) := hc 0 _ rfl
          have c1 : wr.cell? ⟨b0, off + 1, none⟩ = some (.int .i64 n.index) := hc 1 _ rfl
          have c2 : wr.cell? ⟨b0, off + 2, none⟩ = some (.int .u64 (wd n.set 0)) := hc 2 _ rfl
          have c3 : wr.cell? ⟨b0, off + 3, none⟩ = some (.int .u64 (wd n.set 1)) := hc 3 _ rfl
          have c4 : wr.cell? ⟨b0, off + 4, none⟩ = some (.int .u64 (wd n.set 2)) := hc 4 _ rfl
          have c5 : wr.cell? ⟨b0, off + 5, none⟩ = some (.int .u64 (wd n.set 3)) := hc 5 _ rfl
          have c6 : wr.cell? ⟨b0, off + 6, none⟩ = some (.slice x1 y1 z1) := hc 6 _ rfl
          have CA := Lib.hid (HA.out q x1 y1 z1 wr hq1 (by omega) hk')
          have KT := fun w' (g : w.grownBy w' none) => KidsI.tail (K0.out.grown g)
          simp only [← HM.out] at KT
          have CB := Lib.hid (fun w' (g : w.grownBy w' none) => HB.out q _ _ _ w' hlt (KT w' g))
          clear KT
          have CC := Lib.hid (fun w' (h : l = []) => HB.out q (some ⟨b0, off, none⟩) 0 0 w' hlt (by rw [h]; exact .empty _ _))
          have HN' := Lib.hid (show ∀ (b1 b2 : Bool), dB (SpN s n i q) = b1 → dB (SpR s l q j) = b2 → (b1 && b2) = false → ∀ q', i ≤ q' → q' < q + 1 → ¬(SpN s n i q' ∧ SpR s l q' j) from fun b1 b2 e1 e2 e3 q' g1 g2 ⟨g3, g4⟩ => by
            rcases Nat.lt_or_eq_of_le (Nat.le_of_lt_succ g2) with h | h
            · exact hN.out q' g1 h ⟨g3, g4⟩
            · subst h; rw [← e1, ← e2, dB_yes g3, dB_yes g4] at e3; cases e3)
          have HT := Lib.hid (show dB (SpN s n i q) = true → dB (SpR s l q j) = true → z = true from fun e1 e2 => HZ.out q ((dB_iff _).1 e1) ((dB_iff _).1 e2))
          clear hc hk' hN
          generalize dB (SpN s n i q) = b1 at CA HN' HT
          generalize dB (SpR s l q j) = b2 at CB CC HN' HT
          cases b1
          · have HN2 := Lib.hid (HN'.out false b2 rfl rfl rfl)
            clear HN' CB CC HT
            go_wp2_with (go_at_call 10; refine (CA.out).mono ?_; rintro e w5 ⟨rfl, g5⟩; have G5 := Lib.hid (hG.out.trans g5); clear g5)
            go_roundw
            case rel => exact ⟨q + 1, by omega, by omega, by go_num, HN2, G5⟩
            case measure => simp [intOf]; omega
          · cases b2
            · have HN2 := Lib.hid (HN'.out true false rfl rfl rfl)
              clear HN' HT
              go_wp2_with (first | (go_at_call 10; (with_reducible refine (CA.out).mono ?_); rintro e w5 ⟨rfl, g5⟩; have CB5 := Lib.hid (CB.out w5 (hG.out.trans g5)); have CC5 := Lib.hid (fun h => CC.out w5 h); have G5 := Lib.hid (hG.out.trans g5); clear g5) | (go_at_call 28; (first | (with_reducible refine (CB5.out).mono ?_) | (with_reducible refine (CC5.out (List.eq_nil_of_length_eq_zero (by have := HM.out; omega))).mono ?_)); rintro e w6 ⟨rfl, g6⟩; have G6 := Lib.hid (G5.out.trans g6); clear g6))
              all_goals
                go_roundw
                case rel => exact ⟨q + 1, by omega, by omega, by go_num, HN2, G6⟩
                case measure => simp [intOf]; omega
            · have HE := Lib.hid (HT.out rfl rfl)
              clear HN' HT
              go_wp2_with (first | (go_at_call 10; (with_reducible refine (CA.out).mono ?_); rintro e w5 ⟨rfl, g5⟩; have CB5 := Lib.hid (CB.out w5 (hG.out.trans g5)); have CC5 := Lib.hid (fun h => CC.out w5 h); have G5 := Lib.hid (hG.out.trans g5); clear g5) | (go_at_call 28; (first | (with_reducible refine (CB5.out).mono ?_) | (with_reducible refine (CC5.out (List.eq_nil_of_length_eq_zero (by have := HM.out; omega))).mono ?_)); rintro e w6 ⟨rfl, g6⟩; have G6 := Lib.hid (G5.out.trans g6); clear g6))
              all_goals
                go_ret
                exact ⟨ret_bool HE.out.symm, G6.out⟩
        · have HE := Lib.hid (HZ0.out (fun q' h1 h2 => hN.out q' h1 (by omega)))
          go_wp2
          go_ret
          exact ⟨ret_bool HE.out.symm, hG.out⟩

set_option maxRecDepth 100000 in
set_option maxHeartbeats 4000000 in
theorem dMany (N : Nat) (HI : DocSp N) (s : ByteArray) (hs : s.size ≤ 1000) : ∀ (d : Nat) (n : Ni) (i j : Nat) (a : Option Addr) (m k : Nat) (w : World), szN n ≤ N → rgtN n = true → i ≤ j → j ≤ s.size → j - i ≤ d → KidsE w (.slice a m k) n.kids →
    Calls Tryd.prog 29 #[niV n (.slice a m k), .string s, .int .i64 i, .int .i64 j] w fun e w' => e = .returned (.bool (dB (Mny (SpN s n) i j))) ∧ w.grownBy w' none := by
  intro d
  induction d with
  | zero =>
    intro n i j a m k w _ _ hij hj hd hK
    obtain rfl : i = j := by omega
    have HZ := Lib.hid (show dB (Mny (SpN s n) i i) = false from dB_no fun h => by have := h.lt; omega)
    generalize dB (Mny (SpN s n) i i) = z at HZ ⊢
    have G1 := Lib.hid (World.grownBy_alloc w (.cells #[.int .i64 n.kind, .int .i64 n.index, .int .u64 (wd n.set 0), .int .u64 (wd n.set 1), .int .u64 (wd n.set 2), .int .u64 (wd n.set 3), .slice a m k] 32) none)
    go_enter Tryd.func29, Tryd.ntmps29
    go_upto_region 1 with fail
    generalize w.alloc _ = w1 at G1 ⊢
    go_wp2
    go_loopw [9] (fun v wr => v = .int .i64 (i + 1 : Nat) ∧ Hid (w.grownBy wr none)) (fun _ _ => 0)
    case atStart => exact ⟨by go_num, G1⟩
    case round =>
      obtain ⟨rfl, hG⟩ := hrel
      go_wp2
      go_ret
      exact ⟨ret_bool HZ.out.symm, hG.out⟩
  | succ d ih =>
    intro n i j a m k w hN hr hij hj hd hK
    have HZ := Lib.hid (show ∀ q, i < q → q ≤ j → SpN s n i q → (q = j ∨ Mny (SpN s n) q j) → dB (Mny (SpN s n) i j) = true from fun q h0 h1 h2 h3 => dB_yes ((mny_eq i j).2 ⟨q, h0, h1, h2, h3⟩))
    have HZ0 := Lib.hid (show (∀ q, i < q → q < j + 1 → ¬(SpN s n i q ∧ (q = j ∨ Mny (SpN s n) q j))) → dB (Mny (SpN s n) i j) = false from fun h => dB_no fun h' => by
      obtain ⟨q, h0, h1, h2, h3⟩ := (mny_eq i j).1 h'
      exact h q h0 (by omega) ⟨h2, h3⟩)
    have HA := Lib.hid (fun (q : Nat) w (h1 : i ≤ q) (h2 : q ≤ s.size) => HI n s i q a m k w hN hr h1 h2 hs)
    have HB := Lib.hid (fun (q : Nat) w (h1 : q ≤ j) (h2 : i < q) => ih n q j a m k w hN hr h1 hj (by omega))
    generalize dB (Mny (SpN s n) i j) = z at HZ HZ0 ⊢
    clear ih HI hN hr
    have ga := World.grownBy_alloc w (.cells #[.int .i64 n.kind, .int .i64 n.index, .int .u64 (wd n.set 0), .int .u64 (wd n.set 1), .int .u64 (wd n.set 2), .int .u64 (wd n.set 3), .slice a m k] 32) none
    have B1 := Lib.hid (heap_alloc_new w (.cells #[.int .i64 n.kind, .int .i64 n.index, .int .u64 (wd n.set 0), .int .u64 (wd n.set 1), .int .u64 (wd n.set 2), .int .u64 (wd n.set 3), .slice a m k] 32))
    have K1 := Lib.hid (hK.grown ga)
    have G1 := Lib.hid ga
    clear ga hK
    go_enter Tryd.func29, Tryd.ntmps29
    go_upto_region 1 with fail
    generalize w.alloc _ = w1 at B1 K1 G1 ⊢
    generalize w.heap.size = b at B1 ⊢
    go_wp2
    go_loopw [9] (fun v wr => ∃ q : Nat, i < q ∧ q ≤ j + 1 ∧ v = .int .i64 q ∧ Hid (∀ q', i < q' → q' < q → ¬(SpN s n i q' ∧ (q' = j ∨ Mny (SpN s n) q' j))) ∧ Hid (w1.grownBy wr none)) (fun v _ => j + 1 - (intOf v).toNat)
    case atStart => exact ⟨i + 1, by omega, by omega, by go_num, Lib.hid (fun q' h1 h2 => by omega), Lib.hid (World.grownBy.refl _ _)⟩
    case round =>
      obtain ⟨q, hq1, hq2, rfl, hN, hG⟩ := hrel
      by_cases hlt : q ≤ j
      · have B2 := Lib.hid (heap_grown hG.out B1.out)
        obtain ⟨c0, c1, c2, c3, c4, c5, c6⟩ := seven_cells B2.out
        have CA := Lib.hid (HA.out q wr (by omega) (by omega) (K1.out.grown hG.out))
        have CB := Lib.hid (fun w' (g : w1.grownBy w' none) => HB.out q w' hlt hq1 (K1.out.grown g))
        have BC := Lib.hid (fun w' (g : wr.grownBy w' none) => seven_cells (heap_grown g B2.out))
        obtain ⟨b3, h3⟩ : ∃ b3, b3 = decide (q = j) := ⟨_, rfl⟩
        have e3 : ((q : Int) == (j : Int)) = b3 := by rw [h3, Bool.eq_iff_iff]; simp; omega
        have HN' := Lib.hid (show ∀ (b1 b2 : Bool), dB (SpN s n i q) = b1 → dB (Mny (SpN s n) q j) = b2 → (b1 && (b3 || b2)) = false → ∀ q', i < q' → q' < q + 1 → ¬(SpN s n i q' ∧ (q' = j ∨ Mny (SpN s n) q' j)) from fun b1 b2 e1 e2 e4 q' g1 g2 ⟨g3, g4⟩ => by
          rcases Nat.lt_or_eq_of_le (Nat.le_of_lt_succ g2) with h | h
          · exact hN.out q' g1 h ⟨g3, g4⟩
          · subst h
            rw [← e1, ← e2, dB_yes g3, Bool.true_and, h3, Bool.or_eq_false_iff] at e4
            rcases g4 with g4 | g4
            · have := e4.1; simp [g4] at this
            · rw [dB_yes g4] at e4; cases e4.2)
        have HT := Lib.hid (show dB (SpN s n i q) = true → (b3 = true ∨ dB (Mny (SpN s n) q j) = true) → z = true from fun e1 e2 => HZ.out q hq1 hlt ((dB_iff _).1 e1) (by
          rcases e2 with e2 | e2
          · left; rw [h3] at e2; simpa using e2
          · right; exact (dB_iff _).1 e2))
        clear hN h3
        generalize dB (SpN s n i q) = b1 at CA HN' HT
        generalize dB (Mny (SpN s n) q j) = b2 at CB HN' HT
        cases b1
        · have HN2 := Lib.hid (HN'.out false b2 rfl rfl rfl)
          clear HN' CB HT BC
          go_wp2_with (go_at_call 10; (with_reducible refine (CA.out).mono ?_); rintro e w5 ⟨rfl, g5⟩; have G5 := Lib.hid (hG.out.trans g5); clear g5)
          go_roundw
          case rel => exact ⟨q + 1, by omega, by omega, by go_num, HN2, G5⟩
          case measure => simp [intOf]; omega
        · cases b3
          rotate_left
          · have HE := Lib.hid (HT.out rfl (.inl rfl))
            clear HN' CB HT BC
            go_wp2_with (go_at_call 10; (with_reducible refine (CA.out).mono ?_); rintro e w5 ⟨rfl, g5⟩; have G5 := Lib.hid (hG.out.trans g5); clear g5)
            go_ret
            exact ⟨ret_bool HE.out.symm, G1.out.trans G5.out⟩
          · cases b2
            · have HN2 := Lib.hid (HN'.out true false rfl rfl rfl)
              clear HN' HT
              go_wp2_with (first | (go_at_call 10; (with_reducible refine (CA.out).mono ?_); rintro e w5 ⟨rfl, g5⟩; clear c0 c1 c2 c3 c4 c5 c6; obtain ⟨c0, c1, c2, c3, c4, c5, c6⟩ := BC.out w5 g5; have CB5 := Lib.hid (CB.out w5 (hG.out.trans g5)); have G5 := Lib.hid (hG.out.trans g5); clear g5) | (go_at_call 29; (with_reducible refine (CB5.out).mono ?_); rintro e w6 ⟨rfl, g6⟩; have G6 := Lib.hid (G5.out.trans g6); clear g6))
              go_roundw
              case rel => exact ⟨q + 1, by omega, by omega, by go_num, HN2, G6⟩
              case measure => simp [intOf]; omega
            · have HE := Lib.hid (HT.out rfl (.inr rfl))
              clear HN' HT
              go_wp2_with (first | (go_at_call 10; (with_reducible refine (CA.out).mono ?_); rintro e w5 ⟨rfl, g5⟩; clear c0 c1 c2 c3 c4 c5 c6; obtain ⟨c0, c1, c2, c3, c4, c5, c6⟩ := BC.out w5 g5; have CB5 := Lib.hid (CB.out w5 (hG.out.trans g5)); have G5 := Lib.hid (hG.out.trans g5); clear g5) | (go_at_call 29; (with_reducible refine (CB5.out).mono ?_); rintro e w6 ⟨rfl, g6⟩; have G6 := Lib.hid (G5.out.trans g6); clear g6))
              go_ret
              exact ⟨ret_bool HE.out.symm, G1.out.trans G6.out⟩
      · have HE := Lib.hid (HZ0.out (fun q' h1 h2 => hN.out q' h1 (by omega)))
        go_wp2
        go_ret
        exact ⟨ret_bool HE.out.symm, G1.out.trans hG.out⟩

theorem plus_mny {m : Nat} {R : Nat → Nat → Prop} (hR : Goes m R) {i j : Nat} (hi : i ≤ m) : (∃ q, R i q ∧ RT R q j) ↔ R i j ∨ Mny R i j := by
  constructor
  · rintro ⟨q, h, t⟩
    have h1 := hR _ _ hi h
    rcases RT.mny hR h1.2 t with rfl | t
    · exact .inl h
    · rcases Nat.lt_or_eq_of_le h1.1 with hq | rfl
      · exact .inr (.cons hq h t)
      · exact .inr t
  · rintro (h | h)
    · exact ⟨j, h, .nil _⟩
    · cases h with
      | one _ h => exact ⟨j, h, .nil _⟩
      | cons _ h t => exact ⟨_, h, t.rt⟩
theorem spA_take (s : ByteArray) (l : List Ni) (i j : Nat) : SpA s l i j ↔ ∃ q : Nat, q < l.length ∧ ∃ n, l[q]? = some n ∧ SpN s n i j := by
  rw [spA_mem]
  constructor
  · rintro ⟨n, hn, h⟩
    obtain ⟨q, hq, e⟩ := List.getElem_of_mem hn
    exact ⟨q, hq, n, by rw [List.getElem?_eq_getElem hq, e], h⟩
  · rintro ⟨q, _, n, hn, h⟩
    exact ⟨n, List.mem_of_getElem? hn, h⟩

set_option maxRecDepth 100000 in
set_option maxHeartbeats 8000000 in
theorem dSpans : ∀ N : Nat, N ≤ 1000 → DocSp N := by
  intro N
  induction N with
  | zero => intro _ n s i j a m k w h; rw [sz_eq] at h; omega
  | succ N ih =>
    intro hN1 n s i j a m k w hN hr hij hj hs hK
    obtain rfl := hK.len
    have HI := ih (by omega)
    have hz := sz_eq n
    have hl1000 : n.kids.length ≤ 1000 := by have := len_le_sz n.kids; omega
    rw [rgt_eq] at hr
    simp only [Bool.and_eq_true] at hr
    obtain ⟨⟨⟨hk, -⟩, -⟩, hl⟩ := hr
    have hE := sp_eq s n i j
    have hE' := fun p : Prop => fun h : SpN s n i j ↔ p => dB_same h
    have hM := fun h : n.kind = 4 ∨ n.kind = 5 ∨ n.kind = 6 ∨ n.kind = 7 => kids_single hk h
    have hkk := kids_kind hk
    obtain ⟨z, hzz⟩ : ∃ z, dB (SpN s n i j) = z := ⟨_, rfl⟩
    have HZ : dB (if n.kind = 0 then i = j
      else if n.kind = 1 then j = i + 1 ∧ byt9 s i n.set = true
      else if n.kind = 2 then SpR s n.kids i j
      else if n.kind = 3 then SpA s n.kids i j
      else if n.kind = 4 then RT (SpA s n.kids) i j
      else if n.kind = 5 then ∃ m, SpA s n.kids i m ∧ RT (SpA s n.kids) m j
      else if n.kind = 6 then i = j ∨ SpA s n.kids i j
      else if n.kind = 7 then SpA s n.kids i j
      else if n.kind = 8 then i = j ∧ i = 0
      else i = j ∧ i = s.size) = z := by rw [← hzz]; exact (hE' _ hE).symm
    rw [hzz]
    clear hE hE' hzz
    obtain ⟨l, hl'⟩ : ∃ l, n.kids = l := ⟨_, rfl⟩
    rw [hl'] at hK hz hl1000 hl hM HZ ⊢
    have HS := Lib.hid (show ∀ n' ∈ l, szN n' ≤ N from fun n' h' => by have := szL_mem h'; omega)
    have HG := Lib.hid (show ∀ n' ∈ l, rgtN n' = true from fun n' h' => rgtL_mem hl h')
    have HL := Lib.hid hl
    clear ih hN hz hl' hk hl
    obtain ⟨x, hx⟩ : ∃ x, n.kind = x := ⟨_, rfl⟩
    obtain ⟨y, hy⟩ : ∃ y, n.index = y := ⟨_, rfl⟩
    obtain ⟨c, hc⟩ : ∃ c, n.set = c := ⟨_, rfl⟩
    have e0 : niV n (.slice a l.length k) = .agg #[.int .i64 x, .int .i64 y, .int .u64 (wd c 0), .int .u64 (wd c 1), .int .u64 (wd c 2), .int .u64 (wd c 3), .slice a l.length k] := by unfold niV; rw [hx, hy, hc]
    rw [e0]
    rw [hx, hc] at HZ
    rw [hx] at hM hkk
    clear hx hy hc e0 n
    have ga := World.grownBy_alloc w (.cells #[.int .i64 x, .int .i64 y, .int .u64 (wd c 0), .int .u64 (wd c 1), .int .u64 (wd c 2), .int .u64 (wd c 3), .slice a l.length k] 32) none
    have B1 := Lib.hid (heap_alloc_new w (.cells #[.int .i64 x, .int .i64 y, .int .u64 (wd c 0), .int .u64 (wd c 1), .int .u64 (wd c 2), .int .u64 (wd c 3), .slice a l.length k] 32))
    have K1 := Lib.hid (hK.grown ga)
    have G1 := Lib.hid ga
    clear ga hK
    have hcs : x = 0 ∨ x = 1 ∨ x = 2 ∨ x = 3 ∨ x = 4 ∨ x = 5 ∨ x = 6 ∨ x = 7 ∨ x = 8 ∨ x = 9 := by omega
    clear hkk
    go_enter Tryd.func10, Tryd.ntmps10
    go_upto_region 1 with fail
    generalize w.alloc _ = w1 at B1 K1 G1 ⊢
    generalize w.heap.size = b at B1 ⊢
    obtain ⟨c0, c1, c2, c3, c4, c5, c6⟩ := seven_cells B1.out
    rcases hcs with rfl | rfl | rfl | rfl | rfl | rfl | rfl | rfl | rfl | rfl
    · rw [if_pos rfl] at HZ
      have HZ2 := Lib.hid (show ((i : Int) == (j : Int)) = z by rw [← HZ, Bool.eq_iff_iff, dB_iff]; simp; omega)
      go_wp2
      go_ret
      exact ⟨ret_bool HZ2.out, G1.out⟩
    · simp only [show ((1 : Int) = 0) = False from by simp, if_false, if_true] at HZ
      by_cases hji : j = i + 1
      · have hi : i < s.size := by omega
        have h256 : (s[i]).toNat < 256 := UInt8.toNat_lt _
        have hb : inn c (s[i]).toNat = z := by
          rw [← HZ, Bool.eq_iff_iff, dB_iff]; unfold byt9; rw [dif_pos hi]; simp [hji]
        subst hji
        have hzi : ((i : Int) + 1 == ((i : Int) + 1)) = true := by simp
        have u2 : ∀ u : Gr w1, u.W.cell? ⟨b, 2, none⟩ = _ := fun u => u.g.cell c2 (by simp)
        have u3 : ∀ u : Gr w1, u.W.cell? ⟨b, 3, none⟩ = _ := fun u => u.g.cell c3 (by simp)
        have u4 : ∀ u : Gr w1, u.W.cell? ⟨b, 4, none⟩ = _ := fun u => u.g.cell c4 (by simp)
        have u5 : ∀ u : Gr w1, u.W.cell? ⟨b, 5, none⟩ = _ := fun u => u.g.cell c5 (by simp)
        have inst : Nonempty (Gr w1) := ⟨⟨w1, World.grownBy.refl _ _⟩⟩
        have CH := Lib.hid (fun u : Gr w1 => hb ▸ cRHas c (s[i]).toNat u.W h256)
        clear hb HZ
        go_upto_region 5 with fail
        refine wp_region_grows (by kernel_rfl) (by kernel_rfl) ?_
        repeat (go_big_quiet_step (first | (go_at_call 27; refine (CH.out _).mono ?_; rintro e w9 ⟨he, g9⟩; exact ⟨he, ⟨_, (Gr.g _).trans g9⟩, rfl⟩)))
        refine wpQuiet_nil ?_
        rintro w9 ⟨⟨_, g9⟩, rfl⟩
        have G5 := Lib.hid (G1.out.trans g9)
        go_wp2
        go_ret
        exact ⟨rfl, G5.out⟩
      · have hb : false = z := by
          rw [← HZ]; exact (dB_no fun h => hji h.1).symm
        have hzi : ((j : Int) == (i : Int) + 1) = false := by simp; omega
        subst hb
        clear HZ
        have inst : Nonempty (Gr w1) := ⟨⟨w1, World.grownBy.refl _ _⟩⟩
        go_upto_region 5 with fail
        refine wp_region_grows (by kernel_rfl) (by kernel_rfl) ?_
        repeat (go_big_quiet_step (fail))
        refine wpQuiet_nil ?_
        rintro w9 ⟨⟨_, g9⟩, rfl⟩
        have G5 := Lib.hid (G1.out.trans g9)
        go_wp2
        go_ret
        exact ⟨rfl, G5.out⟩
    · simp only [show ((2 : Int) = 0) = False from by simp, show ((2 : Int) = 1) = False from by simp, if_false, if_true] at HZ
      have CR := Lib.hid (dRow N HI s hs l i j a l.length k w1 HS.out HL.out hij hj hl1000 K1.out)
      rw [HZ] at CR
      clear HZ
      go_wp2_with (go_at_call 28; (with_reducible refine (CR.out).mono ?_); rintro e w5 ⟨rfl, g5⟩; have G5 := Lib.hid (G1.out.trans g5); clear g5)
      go_ret
      exact ⟨rfl, G5.out⟩
    · simp only [show ((3 : Int) = 0) = False from by simp, show ((3 : Int) = 1) = False from by simp, show ((3 : Int) = 2) = False from by simp, if_false, if_true] at HZ
      have HY := Lib.hid (show ∀ (q : Nat) n, l[q]? = some n → dB (SpN s n i j) = true → z = true from fun q n hn h => by
        rw [← HZ]; exact dB_yes ((spA_mem ..).2 ⟨n, List.mem_of_getElem? hn, (dB_iff _).1 h⟩))
      have HN := Lib.hid (show (∀ (q : Nat) n, q < l.length → l[q]? = some n → dB (SpN s n i j) = false) → z = false from fun h => by
        rw [← HZ]; refine dB_no fun h' => ?_
        obtain ⟨q, hq, n, hn, h'⟩ := (spA_take ..).1 h'
        exact dB_no' (h q n hq hn) h')
      clear HZ
      go_wp2
      clear c0 c1 c2 c3 c4 c5 c6
      go_loopw [46] (fun v wr => ∃ q : Nat, q ≤ l.length ∧ v = .int .i64 q ∧ Hid (∀ (q' : Nat) n, q' < q → l[q']? = some n → dB (SpN s n i j) = false) ∧ Hid (w1.grownBy wr none)) (fun v _ => l.length - (intOf v).toNat)
      case atStart => exact ⟨0, Nat.zero_le _, rfl, Lib.hid (fun q' n h => by omega), Lib.hid (World.grownBy.refl _ _)⟩
      case round =>
        obtain ⟨q, hq, rfl, hT, hG⟩ := hrel
        by_cases hlt : q < l.length
        · obtain ⟨n', hn'⟩ : ∃ n', l[q]? = some n' := ⟨_, List.getElem?_eq_getElem hlt⟩
          have HN' := Lib.hid (show dB (SpN s n' i j) = false → ∀ (q' : Nat) n, q' < q + 1 → l[q']? = some n → dB (SpN s n i j) = false from fun h q' n h1 h2 => by
            rcases Nat.lt_or_eq_of_le (Nat.le_of_lt_succ h1) with h3 | h3
            · exact hT.out q' n h3 h2
            · subst h3; rw [hn'] at h2; cases h2; exact h)
          have HY' := Lib.hid (HY.out q n' hn')
          obtain ⟨b0, off, x0, y0, z0, rfl, hc, hk'⟩ := (K1.out.grown hG.out).at hn'
          have c0 : wr.cell? ⟨b0, off + q * 7, none⟩ = some (.int .i64 n'.kind) := hc 0 _ rfl
          have c1 := hc 1 _ rfl
          have c2 := hc 2 _ rfl
          have c3 := hc 3 _ rfl
          have c4 := hc 4 _ rfl
          have c5 := hc 5 _ rfl
          have c6 := hc 6 _ rfl
          have ga := World.grownBy_alloc wr (.cells #[.int .i64 n'.kind, .int .i64 n'.index, .int .u64 (wd n'.set 0), .int .u64 (wd n'.set 1), .int .u64 (wd n'.set 2), .int .u64 (wd n'.set 3), .slice x0 y0 z0] 32) none
          have B3 := Lib.hid (heap_alloc_new wr (.cells #[.int .i64 n'.kind, .int .i64 n'.index, .int .u64 (wd n'.set 0), .int .u64 (wd n'.set 1), .int .u64 (wd n'.set 2), .int .u64 (wd n'.set 3), .slice x0 y0 z0] 32))
          have K3 := Lib.hid (hk'.grown ga)
          have G3 := Lib.hid (hG.out.trans ga)
          have CI := Lib.hid (fun w => HI n' s i j x0 y0 z0 w (HS.out n' (List.mem_of_getElem? hn')) (HG.out n' (List.mem_of_getElem? hn')) hij hj hs)
          clear hc hk' hn' ga
          go_upto_region 12 with fail
          clear c0 c1 c2 c3 c4 c5 c6
          generalize wr.alloc _ = w4 at B3 K3 G3 ⊢
          generalize wr.heap.size = q4 at B3 ⊢
          obtain ⟨c0, c1, c2, c3, c4, c5, c6⟩ := seven_cells B3.out
          generalize dB (SpN s n' i j) = bn at CI HN' HY'
          cases bn
          · have HE := Lib.hid (HN'.out rfl)
            go_wp2_with (go_at_call 10; (with_reducible refine (CI.out _ K3.out).mono ?_); rintro e w5 ⟨rfl, g5⟩; have G5 := Lib.hid (G3.out.trans g5); clear g5)
            go_roundw
            case rel => exact ⟨q + 1, by omega, by go_num, HE, G5⟩
            case measure => simp [intOf]; omega
          · have HE := Lib.hid (HY'.out rfl)
            go_wp2_with (go_at_call 10; (with_reducible refine (CI.out _ K3.out).mono ?_); rintro e w5 ⟨rfl, g5⟩; have G5 := Lib.hid (G3.out.trans g5); clear g5)
            go_ret
            exact ⟨ret_bool HE.out.symm, G1.out.trans G5.out⟩
        · obtain rfl : q = l.length := by omega
          have HE := Lib.hid (HN.out (fun q' n h1 h2 => hT.out q' n h1 h2))
          go_wp2
          go_ret
          exact ⟨ret_bool HE.out.symm, G1.out.trans hG.out⟩
    · simp only [show ((4 : Int) = 0) = False from by simp, show ((4 : Int) = 1) = False from by simp, show ((4 : Int) = 2) = False from by simp, show ((4 : Int) = 3) = False from by simp, if_false, if_true] at HZ
      replace hM := hM (by simp)
      obtain ⟨u, rfl⟩ := List.length_eq_one_iff.1 hM
      obtain ⟨b0, off, x0, y0, z0, rfl, hc, hk'⟩ := K1.out.at (show [u][0]? = some u from rfl)
      have d0 : w1.cell? ⟨b0, off, none⟩ = some (.int .i64 u.kind) := hc 0 _ rfl
      have d1 : w1.cell? ⟨b0, off + 1, none⟩ = some (.int .i64 u.index) := hc 1 _ rfl
      have d2 : w1.cell? ⟨b0, off + 2, none⟩ = some (.int .u64 (wd u.set 0)) := hc 2 _ rfl
      have d3 : w1.cell? ⟨b0, off + 3, none⟩ = some (.int .u64 (wd u.set 1)) := hc 3 _ rfl
      have d4 : w1.cell? ⟨b0, off + 4, none⟩ = some (.int .u64 (wd u.set 2)) := hc 4 _ rfl
      have d5 : w1.cell? ⟨b0, off + 5, none⟩ = some (.int .u64 (wd u.set 3)) := hc 5 _ rfl
      have d6 : w1.cell? ⟨b0, off + 6, none⟩ = some (.slice x0 y0 z0) := hc 6 _ rfl
      have hzs : szN u ≤ N := HS.out u (by simp)
      have hzr : rgtN u = true := HG.out u (by simp)
      rw [spA_one'] at HZ
      by_cases e3 : i = j
      · have HE := Lib.hid (show true = z by rw [← HZ]; exact (dB_yes (e3 ▸ RT.nil _)).symm)
        have e4 : ((i : Int) == (j : Int)) = true := by simp; omega
        clear HZ hc hk'
        go_wp2
        go_ret
        exact ⟨ret_bool HE.out, G1.out⟩
      · have HE : dB (Mny (SpN s u) i j) = z := by rw [← HZ]; exact dB_same (⟨fun h => (rt_mny (sp_goes s u) (by omega)).2 (.inr h), fun h => ((rt_mny (sp_goes s u) (by omega)).1 h).resolve_left e3⟩)
        have e4 : ((i : Int) == (j : Int)) = false := by simp; omega
        have CA := Lib.hid (dMany N HI s hs (j - i) u i j x0 y0 z0 w1 hzs hzr hij hj (Nat.le_refl _) hk')
        rw [HE] at CA
        clear HZ hc hk' HE
        go_wp2_with (go_at_call 29; (with_reducible refine (CA.out).mono ?_); rintro e w5 ⟨rfl, g5⟩; have G5 := Lib.hid (G1.out.trans g5); clear g5)
        go_ret
        exact ⟨rfl, G5.out⟩
    · simp only [show ((5 : Int) = 0) = False from by simp, show ((5 : Int) = 1) = False from by simp, show ((5 : Int) = 2) = False from by simp, show ((5 : Int) = 3) = False from by simp, show ((5 : Int) = 4) = False from by simp, if_false, if_true] at HZ
      replace hM := hM (by simp)
      obtain ⟨u, rfl⟩ := List.length_eq_one_iff.1 hM
      obtain ⟨b0, off, x0, y0, z0, rfl, hc, hk'⟩ := K1.out.at (show [u][0]? = some u from rfl)
      have d0 : w1.cell? ⟨b0, off, none⟩ = some (.int .i64 u.kind) := hc 0 _ rfl
      have d1 : w1.cell? ⟨b0, off + 1, none⟩ = some (.int .i64 u.index) := hc 1 _ rfl
      have d2 : w1.cell? ⟨b0, off + 2, none⟩ = some (.int .u64 (wd u.set 0)) := hc 2 _ rfl
      have d3 : w1.cell? ⟨b0, off + 3, none⟩ = some (.int .u64 (wd u.set 1)) := hc 3 _ rfl
      have d4 : w1.cell? ⟨b0, off + 4, none⟩ = some (.int .u64 (wd u.set 2)) := hc 4 _ rfl
      have d5 : w1.cell? ⟨b0, off + 5, none⟩ = some (.int .u64 (wd u.set 3)) := hc 5 _ rfl
      have d6 : w1.cell? ⟨b0, off + 6, none⟩ = some (.slice x0 y0 z0) := hc 6 _ rfl
      have hzs : szN u ≤ N := HS.out u (by simp)
      have hzr : rgtN u = true := HG.out u (by simp)
      rw [spA_one'] at HZ
      have CA := Lib.hid (HI u s i j x0 y0 z0 w1 hzs hzr hij hj hs hk')
      have CM := Lib.hid (fun w' (g : w1.grownBy w' none) => dMany N HI s hs (j - i) u i j x0 y0 z0 w' hzs hzr hij hj (Nat.le_refl _) (hk'.grown g))
      have HZ2 : (dB (SpN s u i j) || dB (Mny (SpN s u) i j)) = z := by
        rw [← HZ, dB_same (plus_mny (sp_goes s u) (by omega)), Bool.eq_iff_iff, Bool.or_eq_true, dB_iff, dB_iff, dB_iff]
      generalize dB (SpN s u i j) = b1 at CA HZ2
      generalize dB (Mny (SpN s u) i j) = b2 at CM HZ2
      have B0 := Lib.hid (fun w' (g : w1.grownBy w' none) => And.intro (g.cell c6 (by simp)) (And.intro (g.cell d0 (by simp)) (And.intro (g.cell d1 (by simp)) (And.intro (g.cell d2 (by simp)) (And.intro (g.cell d3 (by simp)) (And.intro (g.cell d4 (by simp)) (And.intro (g.cell d5 (by simp)) (g.cell d6 (by simp)))))))))
      clear HZ hc hk'
      cases b1
      · have HE := Lib.hid (show b2 = z from HZ2)
        clear HZ2
        go_wp2_with (first | (go_at_call 10; (with_reducible refine (CA.out).mono ?_); rintro e w5 ⟨rfl, g5⟩; clear c0 c1 c2 c3 c4 c5 c6 d0 d1 d2 d3 d4 d5 d6; obtain ⟨c6, d0, d1, d2, d3, d4, d5, d6⟩ := B0.out w5 g5; have CM5 := Lib.hid (CM.out w5 g5); have G5 := Lib.hid (G1.out.trans g5); clear g5) | (go_at_call 29; (with_reducible refine (CM5.out).mono ?_); rintro e w6 ⟨rfl, g6⟩; have G6 := Lib.hid (G5.out.trans g6); clear g6))
        go_ret
        exact ⟨ret_bool HE.out, G6.out⟩
      · have HE := Lib.hid (show true = z from HZ2)
        clear HZ2
        go_wp2_with (go_at_call 10; (with_reducible refine (CA.out).mono ?_); rintro e w5 ⟨rfl, g5⟩; have G5 := Lib.hid (G1.out.trans g5); clear g5)
        go_ret
        exact ⟨ret_bool HE.out, G5.out⟩
    · simp only [show ((6 : Int) = 0) = False from by simp, show ((6 : Int) = 1) = False from by simp, show ((6 : Int) = 2) = False from by simp, show ((6 : Int) = 3) = False from by simp, show ((6 : Int) = 4) = False from by simp, show ((6 : Int) = 5) = False from by simp, if_false, if_true] at HZ
      replace hM := hM (by simp)
      obtain ⟨u, rfl⟩ := List.length_eq_one_iff.1 hM
      obtain ⟨b0, off, x0, y0, z0, rfl, hc, hk'⟩ := K1.out.at (show [u][0]? = some u from rfl)
      have d0 : w1.cell? ⟨b0, off, none⟩ = some (.int .i64 u.kind) := hc 0 _ rfl
      have d1 : w1.cell? ⟨b0, off + 1, none⟩ = some (.int .i64 u.index) := hc 1 _ rfl
      have d2 : w1.cell? ⟨b0, off + 2, none⟩ = some (.int .u64 (wd u.set 0)) := hc 2 _ rfl
      have d3 : w1.cell? ⟨b0, off + 3, none⟩ = some (.int .u64 (wd u.set 1)) := hc 3 _ rfl
      have d4 : w1.cell? ⟨b0, off + 4, none⟩ = some (.int .u64 (wd u.set 2)) := hc 4 _ rfl
      have d5 : w1.cell? ⟨b0, off + 5, none⟩ = some (.int .u64 (wd u.set 3)) := hc 5 _ rfl
      have d6 : w1.cell? ⟨b0, off + 6, none⟩ = some (.slice x0 y0 z0) := hc 6 _ rfl
      have hzs : szN u ≤ N := HS.out u (by simp)
      have hzr : rgtN u = true := HG.out u (by simp)
      rw [spA_one'] at HZ
      by_cases e3 : i = j
      · have HE := Lib.hid (show true = z by rw [← HZ]; exact (dB_yes (.inl e3)).symm)
        have e4 : ((i : Int) == (j : Int)) = true := by simp; omega
        clear HZ hc hk'
        go_wp2
        go_ret
        exact ⟨ret_bool HE.out, G1.out⟩
      · have HE : dB (SpN s u i j) = z := by rw [← HZ]; exact dB_same (⟨.inr, fun h => h.resolve_left e3⟩)
        have e4 : ((i : Int) == (j : Int)) = false := by simp; omega
        have CA := Lib.hid (HI u s i j x0 y0 z0 w1 hzs hzr hij hj hs hk')
        rw [HE] at CA
        clear HZ hc hk' HE
        go_wp2_with (go_at_call 10; (with_reducible refine (CA.out).mono ?_); rintro e w5 ⟨rfl, g5⟩; have G5 := Lib.hid (G1.out.trans g5); clear g5)
        go_ret
        exact ⟨rfl, G5.out⟩
    · simp only [show ((7 : Int) = 0) = False from by simp, show ((7 : Int) = 1) = False from by simp, show ((7 : Int) = 2) = False from by simp, show ((7 : Int) = 3) = False from by simp, show ((7 : Int) = 4) = False from by simp, show ((7 : Int) = 5) = False from by simp, show ((7 : Int) = 6) = False from by simp, if_false, if_true] at HZ
      replace hM := hM (by simp)
      obtain ⟨u, rfl⟩ := List.length_eq_one_iff.1 hM
      obtain ⟨b0, off, x0, y0, z0, rfl, hc, hk'⟩ := K1.out.at (show [u][0]? = some u from rfl)
      have d0 : w1.cell? ⟨b0, off, none⟩ = some (.int .i64 u.kind) := hc 0 _ rfl
      have d1 : w1.cell? ⟨b0, off + 1, none⟩ = some (.int .i64 u.index) := hc 1 _ rfl
      have d2 : w1.cell? ⟨b0, off + 2, none⟩ = some (.int .u64 (wd u.set 0)) := hc 2 _ rfl
      have d3 : w1.cell? ⟨b0, off + 3, none⟩ = some (.int .u64 (wd u.set 1)) := hc 3 _ rfl
      have d4 : w1.cell? ⟨b0, off + 4, none⟩ = some (.int .u64 (wd u.set 2)) := hc 4 _ rfl
      have d5 : w1.cell? ⟨b0, off + 5, none⟩ = some (.int .u64 (wd u.set 3)) := hc 5 _ rfl
      have d6 : w1.cell? ⟨b0, off + 6, none⟩ = some (.slice x0 y0 z0) := hc 6 _ rfl
      have hzs : szN u ≤ N := HS.out u (by simp)
      have hzr : rgtN u = true := HG.out u (by simp)
      rw [spA_one'] at HZ
      have CA := Lib.hid (HI u s i j x0 y0 z0 w1 hzs hzr hij hj hs hk')
      rw [HZ] at CA
      clear HZ hc hk'
      go_wp2_with (go_at_call 10; (with_reducible refine (CA.out).mono ?_); rintro e w5 ⟨rfl, g5⟩; have G5 := Lib.hid (G1.out.trans g5); clear g5)
      go_ret
      exact ⟨rfl, G5.out⟩
    · simp only [show ((8 : Int) = 0) = False from by simp, show ((8 : Int) = 1) = False from by simp, show ((8 : Int) = 2) = False from by simp, show ((8 : Int) = 3) = False from by simp, show ((8 : Int) = 4) = False from by simp, show ((8 : Int) = 5) = False from by simp, show ((8 : Int) = 6) = False from by simp, show ((8 : Int) = 7) = False from by simp, if_false, if_true] at HZ
      obtain ⟨b3, h3⟩ : ∃ b3, b3 = decide (i = j) := ⟨_, rfl⟩
      obtain ⟨b4, h4⟩ : ∃ b4, b4 = decide (i = 0) := ⟨_, rfl⟩
      have e3 : ((i : Int) == (j : Int)) = b3 := by rw [h3, Bool.eq_iff_iff]; simp; omega
      have e4 : ((i : Int) == (0 : Int)) = b4 := by rw [h4, Bool.eq_iff_iff]; simp
      have HE := Lib.hid (show (b3 && b4) = z by rw [← HZ, h3, h4, Bool.eq_iff_iff, dB_iff]; simp)
      clear HZ h3 h4
      cases b3 <;> cases b4
      all_goals
        go_wp2
        go_ret
        exact ⟨ret_bool HE.out, G1.out⟩
    · simp only [show ((9 : Int) = 0) = False from by simp, show ((9 : Int) = 1) = False from by simp, show ((9 : Int) = 2) = False from by simp, show ((9 : Int) = 3) = False from by simp, show ((9 : Int) = 4) = False from by simp, show ((9 : Int) = 5) = False from by simp, show ((9 : Int) = 6) = False from by simp, show ((9 : Int) = 7) = False from by simp, show ((9 : Int) = 8) = False from by simp, if_false] at HZ
      obtain ⟨b3, h3⟩ : ∃ b3, b3 = decide (i = j) := ⟨_, rfl⟩
      obtain ⟨b4, h4⟩ : ∃ b4, b4 = decide (i = s.size) := ⟨_, rfl⟩
      have e3 : ((i : Int) == (j : Int)) = b3 := by rw [h3, Bool.eq_iff_iff]; simp; omega
      have e4 : ((i : Int) == (s.size : Int)) = b4 := by rw [h4, Bool.eq_iff_iff]; simp; omega
      have HE := Lib.hid (show (b3 && b4) = z by rw [← HZ, h3, h4, Bool.eq_iff_iff, dB_iff]; simp)
      clear HZ h3 h4
      cases b3 <;> cases b4
      all_goals
        go_wp2
        go_ret
        exact ⟨ret_bool HE.out, G1.out⟩

end Go.Proofs.YtlkjejmmoalliaaDoor
