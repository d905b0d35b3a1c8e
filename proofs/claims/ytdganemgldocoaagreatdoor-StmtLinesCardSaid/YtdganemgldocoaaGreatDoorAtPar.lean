/- Package attr: whether bits are among the flags', whether attributes are right, both attributes, a letter's flag, the flags of letters. Package attr: the attributes of a text; attributes' letters. The document's letters. -/
import Derived.Test.YtdganemgldocoaaGreatDoorAtRef
import Derived.Test.YtdganemgldocoaaGreatDoorByRow
import Derived.Test.YtdganemgldocoaaGreatDoorShelf
namespace Go.Proofs.YtdganemgldocoaaGreatDoor
open Go.RowKit

theorem sizeAp : (Tryz.prog.info? 44).map (·.size) = some 2 := by kernel_rfl
/-- are attributes right? -/
def rgA (f : Int) (p : ByteArray) : Bool := decide (0 ≤ f) && decide (f < 256) && decide (p.size ≤ 120)
/-- the one text, or, if it is none, the other one -/
def orB (p q : ByteArray) : ByteArray := if p.size = 0 then q else p
/-- is it a letter? -/
def knA (b : UInt8) : Bool := decide (vlA b ≠ 0)
/-- the flags' letters as they lie: a letter and its flag, eight times -/
def letL : List Value := [.int .u8 68, .int .i64 1, .int .u8 69, .int .i64 2, .int .u8 78, .int .i64 4, .int .u8 110, .int .i64 8, .int .u8 81, .int .i64 16, .int .u8 82, .int .i64 32, .int .u8 85, .int .i64 64, .int .u8 86, .int .i64 128]
abbrev letV : Value := .agg #[.int .u8 68, .int .i64 1, .int .u8 69, .int .i64 2, .int .u8 78, .int .i64 4, .int .u8 110, .int .i64 8, .int .u8 81, .int .i64 16, .int .u8 82, .int .i64 32, .int .u8 85, .int .i64 64, .int .u8 86, .int .i64 128]
def LetE (w : World) : Prop := ∀ (i : Nat) v, letL[i]? = some v → w.cell? ⟨22, i, none⟩ = some v
theorem LetE.grown {w w' : World} (h : LetE w) (g : w.grownBy w' none) : LetE w' := fun i v hv => g.cell (h i v hv) (by simp)
theorem let_at {j : Nat} (h : j < 8) (w : World) : (Instr.index 200 letV (.int .i64 j)).run Tryz.prog w = .ok (.agg #[.int .u8 (bitL j).toNat, .int .i64 (bitF j)]) w := by
  obtain rfl | rfl | rfl | rfl | rfl | rfl | rfl | rfl : j = 0 ∨ j = 1 ∨ j = 2 ∨ j = 3 ∨ j = 4 ∨ j = 5 ∨ j = 6 ∨ j = 7 := by omega
  all_goals kernel_rfl
set_option maxRecDepth 100000 in
theorem pFlagOf (b : UInt8) (w : World) (hE : LetE w) : Calls Tryz.prog 132 #[.int .u8 b.toNat] w fun e w' => e = .returned (.tuple #[.int .i64 (vlA b), .bool (knA b)]) ∧ w.grownBy w' none := by
  have t0 := hE 0 _ rfl; have t1 := hE 1 _ rfl; have t2 := hE 2 _ rfl; have t3 := hE 3 _ rfl; have t4 := hE 4 _ rfl; have t5 := hE 5 _ rfl; have t6 := hE 6 _ rfl; have t7 := hE 7 _ rfl
  have t8 := hE 8 _ rfl; have t9 := hE 9 _ rfl; have t10 := hE 10 _ rfl; have t11 := hE 11 _ rfl; have t12 := hE 12 _ rfl; have t13 := hE 13 _ rfl; have t14 := hE 14 _ rfl; have t15 := hE 15 _ rfl
  clear hE
  go_enter Tryz.func132, Tryz.ntmps132
  go_wp2
  clear t0 t1 t2 t3 t4 t5 t6 t7 t8 t9 t10 t11 t12 t13 t14 t15
  go_loopw [5, 7] (fun _ x wr => ∃ k : Nat, k ≤ 8 ∧ x = .int .i64 k ∧ Hid (w.grownBy wr none) ∧ Hid (∀ j, j < k → bitL j ≠ b)) (fun _ x _ => 8 - (intOf x).toNat)
  case atStart => exact ⟨0, by omega, rfl, Lib.hid (World.grownBy.refl _ _), Lib.hid (by omega)⟩
  case round =>
    obtain ⟨k, hk, rfl, hG, hN⟩ := hrel
    by_cases hlt : k < 8
    · have ik := let_at hlt
      have HV := Lib.hid (bit_vl ⟨k, hlt⟩)
      obtain ⟨c, hc⟩ : ∃ c, bitL k = c := ⟨_, rfl⟩
      obtain ⟨v, hv⟩ : ∃ v, bitF k = v := ⟨_, rfl⟩
      rw [hc, hv] at ik
      have HC := Lib.hid hc
      have hvl : vlA c = v ∧ v ≠ 0 := by
        have h1 : vlA (bitL k) = bitF k ∧ bitF k ∈ [1, 2, 4, 8, 16, 32, 64, 128] := HV.out
        rw [hc, hv] at h1
        refine ⟨h1.1, ?_⟩
        rintro rfl
        exact absurd h1.2 (by decide)
      have HW := Lib.hid hvl
      clear hc hv hvl
      obtain ⟨d0, d1⟩ := two_at (heap_alloc_new wr (.cells #[.int .u8 c.toNat, .int .i64 v] 199))
      have ga := Lib.hid (hG.out.trans (World.grownBy_alloc wr (.cells #[.int .u8 c.toNat, .int .i64 v] 199) none))
      by_cases hb : c = b
      · have hq : ((c.toNat : Int) == (b.toNat : Int)) = true := by rw [hb]; simp
        have HX := Lib.hid (show vlA b = v ∧ knA b = true by rw [← hb]; exact ⟨HW.out.1, decide_eq_true (by rw [HW.out.1]; exact HW.out.2)⟩)
        clear hb
        go_wp2
        go_ret2
        rw [HX.out.2, HX.out.1]
        exact ⟨rfl, ga.out⟩
      · have hq : ((c.toNat : Int) == (b.toNat : Int)) = false := by rw [beq_eq_false_iff_ne]; intro h; exact hb (UInt8.toNat_inj.1 (by omega))
        have HN := Lib.hid (show ∀ j, j < k + 1 → bitL j ≠ b from fun j hj => by
          rcases Nat.lt_succ_iff_lt_or_eq.1 hj with h | h
          · exact hN.out j h
          · rw [h, HC.out]; exact hb)
        clear hb
        go_wp2
        go_roundw
        case rel => exact ⟨k + 1, by omega, by go_num, ga, HN⟩
        case measure => simp [intOf]; omega
    · have HX := Lib.hid (show vlA b = 0 ∧ knA b = false from have h := vl_none fun j hj => hN.out j (by omega); ⟨h, decide_eq_false (by simp [h])⟩)
      go_wp2
      go_ret2
      rw [HX.out.1, HX.out.2]
      exact ⟨rfl, hG.out⟩
/-- whether letters' flags are known -/
def oknA (x : Option Nat) : Bool := x.isSome
set_option maxRecDepth 100000 in
theorem pFlagsOf (s : ByteArray) (w : World) (hE : LetE w) (hs : s.size ≤ 1000) : Calls Tryz.prog 128 #[.string s] w fun e w' =>
    e = .returned (.tuple #[.int .i64 ((flA 0 s.data.toList).getD 0 : Nat), .bool (oknA (flA 0 s.data.toList))]) ∧ w.grownBy w' none := by
  obtain ⟨x, hx⟩ : ∃ x, flA 0 s.data.toList = x := ⟨_, rfl⟩
  rw [hx]
  have HX := Lib.hid hx
  have HE := Lib.hid hE
  clear hx hE
  go_enter Tryz.func128, Tryz.ntmps128
  go_wp2
  go_loopw [4, 5, 6, 7, 10] (fun f_ _ _ _ i wr => ∃ j f : Nat, j ≤ s.size ∧ i = .int .i64 j ∧ f_ = .int .i64 f ∧ Hid (f < 256) ∧ Hid (flA f (s.data.toList.drop j) = x) ∧ Hid (w.grownBy wr none)) (fun _ _ _ _ i _ => s.size - (intOf i).toNat)
  case atStart => exact ⟨0, 0, by omega, rfl, rfl, Lib.hid (by omega), HX, Lib.hid (World.grownBy.refl _ _)⟩
  case round =>
    obtain ⟨j, f, hj, rfl, rfl, hf, hX, hG⟩ := hrel
    by_cases hlt : j < s.size
    · obtain ⟨c, hc⟩ : ∃ c, s[j] = c := ⟨_, rfl⟩
      have hd : s.data.toList.drop j = c :: s.data.toList.drop (j + 1) := by
        have h2 : j < s.data.toList.length := by simpa using hlt
        have := List.drop_eq_getElem_cons h2
        rw [this, ← hc]; simp; rfl
      have hX2 := hX.out
      rw [hd, flA] at hX2
      have C1 := Lib.hid (pFlagOf c wr (HE.out.grown hG.out))
      by_cases hv : vlA c = 0
      · rw [if_pos hv] at hX2
        have HN := Lib.hid hX2
        rw [hv, show knA c = false from decide_eq_false (by simp [hv])] at C1
        clear hX2 hv hd
        go_wp2_with (go_at_call 132; (with_reducible refine C1.out.mono ?_); rintro e w3 ⟨rfl, g3⟩; have G3 := Lib.hid (hG.out.trans g3); clear g3)
        go_ret2
        rw [← HN.out]
        exact ⟨rfl, G3.out⟩
      · rw [if_neg hv] at hX2
        have HN := Lib.hid hX2
        have HO := Lib.hid (nat_or hf.out (vl_lt c))
        have HF := Lib.hid (or_lt hf.out (vl_lt c))
        rw [show knA c = true from decide_eq_true hv] at C1
        generalize vlA c = v at C1 HN HO HF
        have ho := HO.out
        generalize f ||| v = fv at HN HF ho
        clear hX2 hv hd HO
        go_wp2_with (go_at_call 132; (with_reducible refine C1.out.mono ?_); rintro e w3 ⟨rfl, g3⟩; have G3 := Lib.hid (hG.out.trans g3); clear g3)
        go_roundw
        case rel => exact ⟨j + 1, fv, by omega, by go_num, rfl, HF, HN, G3⟩
        case measure => simp [intOf]; omega
    · have HN := Lib.hid (show some f = x by rw [← hX.out, List.drop_of_length_le (by simp; omega)]; rfl)
      go_wp2
      go_ret2
      rw [← HN.out]
      exact ⟨rfl, hG.out⟩
end Go.Proofs.YtdganemgldocoaaGreatDoor

namespace Go.Proofs.YtdganemgldocoaaGreatDoor
open Go.RowKit

/-- what Parse answers with, and what it reads -/
structure AtE (A : Nat → Addr) (w : World) : Prop where
  l : LetE w
  m : MaxI w
  e7 : w.cell? ⟨7, 0, none⟩ = some (.iface 202 (.pointer (some (A 7))))
  e2 : w.cell? ⟨0, 0, none⟩ = some (.iface 202 (.pointer (some (A 2))))
theorem AtE.grown {A : Nat → Addr} {w w' : World} (h : AtE A w) (g : w.grownBy w' none) : AtE A w' := ⟨h.l.grown g, h.m.grown g, g.cell h.e7 (by simp), g.cell h.e2 (by simp)⟩
theorem pCutP (s : ByteArray) (w : World) (hM : MaxI w) (hs : s.size ≤ 1000) : Calls Tryz.prog 114 #[.string s, .string ⟨#[80]⟩] w fun e w' =>
    ∃ T P : ByteArray, e = .returned (.tuple #[.string T, .string P, .bool (cutA s.data.toList).2.2]) ∧ T.data.toList = (cutA s.data.toList).1 ∧ P.data.toList = (cutA s.data.toList).2.1 ∧ ∃ n, w' = w.drewN n := by
  obtain ⟨m, hm⟩ := hM
  refine (Tryz.strings_Cut s ⟨#[80]⟩ m w (by omega) hm).mono fun e w' ⟨he, hn⟩ => ?_
  have e1 : Lib.cut s.data.toList (⟨#[80]⟩ : ByteArray).data.toList = cutA s.data.toList := cut_lib _
  rw [e1] at he
  exact ⟨_, _, he, by simp, by simp, hn⟩
set_option maxRecDepth 100000 in
set_option maxHeartbeats 4000000 in
theorem pParse (A : Nat → Addr) (s : ByteArray) (w : World) (hE : AtE A w) (hs : s.size ≤ 1000) : Calls Tryz.prog 115 #[.string s] w fun e w' =>
    e = .returned (.tuple #[atV (ansA (docA 0 s.data.toList)).1 (ansA (docA 0 s.data.toList)).2.1, errV A (ansA (docA 0 s.data.toList)).2.2]) ∧ w.grownBy w' none := by
  obtain ⟨l1, l2, l3⟩ := cut_le s.data.toList
  obtain ⟨x, hx⟩ : ∃ x, docA 0 s.data.toList = x := ⟨_, rfl⟩
  rw [hx]
  rw [← par_doc] at hx
  have HE := Lib.hid hE
  have B0 := Lib.hid (heap_alloc_new w (.cells #[.int .i64 0, .string ⟨#[]⟩] 44))
  have G0 := Lib.hid (World.grownBy_alloc w (.cells #[.int .i64 0, .string ⟨#[]⟩] 44) none)
  have CC := Lib.hid (fun w' (g : w.grownBy w' none) => pCutP s w' (hE.m.grown g) hs)
  have CF := Lib.hid (fun (T : ByteArray) w' (g : w.grownBy w' none) (h : T.size ≤ 1000) => pFlagsOf T w' (hE.l.grown g) h)
  have hgr : 7 < w.heap.size ∧ 0 < w.heap.size := ⟨cell_block hE.e7, cell_block hE.e2⟩
  obtain ⟨b, hb⟩ : ∃ b, (cutA s.data.toList).2.2 = b := ⟨_, rfl⟩
  rw [hb] at CC hx l3
  have hz : s.data.toList.length = s.size := by simp
  have HL := Lib.hid (show (cutA s.data.toList).1.length ≤ 1000 ∧ (cutA s.data.toList).2.1.length ≤ 1000 by omega)
  have HX := Lib.hid hx; have L3 := Lib.hid l3
  clear l1 l2 l3 hx hE hz hb
  go_enter Tryz.func115, Tryz.ntmps115
  go_upto_region 1 with fail
  generalize w.alloc _ = w1 at B0 G0 ⊢
  obtain ⟨g, eg⟩ : ∃ g, w.heap.size = g := ⟨_, rfl⟩
  rw [eg] at B0 hgr ⊢
  have hgs : w.heap.size ≤ g := by omega
  have q1 : ¬g = 7 := by omega
  have q2 : ¬7 = g := by omega
  have q3 : ¬g = 0 := by omega
  have q4 : ¬0 = g := by omega
  clear eg hgr
  go_upto_region 2 with (go_at_call 114; (with_reducible refine (CC.out _ G0.out).mono ?_); rintro e w2 ⟨T, P, rfl, hT, hP, n, rfl⟩; have HT := Lib.hid hT; have HP := Lib.hid hP; have G2 := Lib.hid (grown_drewN G0.out n); have B2 := Lib.hid (show (w1.drewN n).heap[g]? = _ from B0.out); clear hT hP)
  generalize w1.drewN n = w2 at G2 B2 ⊢
  have hTz : T.data.toList.length = T.size := by simp
  have hPz : P.data.toList.length = P.size := by simp
  have C3 := CF.out T w2 G2.out (by have := HL.out.1; rw [← HT.out] at this; omega)
  have hX := HX.out
  have hL3 := L3.out
  rw [← HT.out, ← HP.out] at hX
  rw [← HP.out] at hL3
  have hP1 : P.size ≤ 1000 := by have := HL.out.2; rw [← HP.out] at this; omega
  unfold parA at hX
  clear HT HP HL HX L3 CC CF B0 G0 hTz
  cases hf : flA 0 T.data.toList with
  | none =>
    rw [hf] at hX C3
    have HA := Lib.hid (ans_err hX.symm)
    have C4 := Lib.hid C3
    clear hX hf C3 hL3 hPz
    go_upto_region 3 with (go_at_call 128; (with_reducible refine C4.out.mono ?_); rintro e w3 ⟨rfl, g3⟩; have G3 := Lib.hid (G2.out.trans g3); have B3 := Lib.hid (kept_at g3 B2.out); clear g3)
    obtain ⟨c0, c1⟩ := two_at B3.out
    have fr := free_at B3.out
    have H2 : w3.cell? ⟨7, 0, none⟩ = some (.iface 202 (.pointer (some (A 7)))) := (HE.out.grown G3.out).e7
    go_wp2
    go_region
    go_wp2
    refine bodyPost_ret (back_at2 44 Tryz.underlying44 sizeAp Tryz.results115 rfl rfl (set_at2 B3.out _ _)) rfl ?_
    exact ⟨by rw [HA.out]; rfl, grown_drew (grown_at2 G3.out _ _ hgs)⟩
  | some f =>
    rw [hf] at hX C3
    simp only at hX
    have C4 := Lib.hid C3
    clear hf C3
    go_upto_region 3 with (go_at_call 128; (with_reducible refine C4.out.mono ?_); rintro e w3 ⟨rfl, g3⟩; have G3 := Lib.hid (G2.out.trans g3); have B3 := Lib.hid (kept_at g3 B2.out); clear g3)
    obtain ⟨c0, c1⟩ := two_at B3.out
    have fr := free_at B3.out
    clear C4
    cases b with
    | true =>
      by_cases hp : P.size = 0
      · obtain rfl := nil_a hp
        rw [if_pos ⟨rfl, rfl⟩] at hX
        have HA := Lib.hid (ans_err hX.symm)
        clear hX hL3 hPz hp
        have H2 : w3.cell? ⟨7, 0, none⟩ = some (.iface 202 (.pointer (some (A 7)))) := (HE.out.grown G3.out).e7
        go_wp2
        go_region
        go_wp2
        refine bodyPost_ret (back_at2 44 Tryz.underlying44 sizeAp Tryz.results115 rfl rfl (set_at2 B3.out _ _)) rfl ?_
        exact ⟨by rw [HA.out]; rfl, grown_drew (grown_at2 G3.out _ _ hgs)⟩
      · obtain ⟨e0, e1, e2⟩ := full_a hp
        rw [if_neg (fun h => e0 h.2)] at hX
        by_cases hl : 120 < P.size
        · rw [if_pos (by omega)] at hX
          have HA := Lib.hid (ans_err hX.symm)
          have e3 : decide ((P.size : Int) > 120) = true := by simp; omega
          clear hX hL3 hPz hp e0 hl
          have H2 : w3.cell? ⟨0, 0, none⟩ = some (.iface 202 (.pointer (some (A 2)))) := (HE.out.grown G3.out).e2
          go_wp2
          go_region
          go_wp2
          refine bodyPost_ret (back_at2 44 Tryz.underlying44 sizeAp Tryz.results115 rfl rfl (set_at2 B3.out _ _)) rfl ?_
          exact ⟨by rw [HA.out]; rfl, grown_drew (grown_at2 G3.out _ _ hgs)⟩
        · rw [if_neg (by omega)] at hX
          have HA := Lib.hid (ans_ok hX.symm)
          have e3 : decide ((P.size : Int) > 120) = false := by simp; omega
          clear hX hL3 hPz hp e0 hl
          go_wp2
          refine bodyPost_ret (back_at2 44 Tryz.underlying44 sizeAp Tryz.results115 rfl rfl (set_at2 B3.out _ _)) rfl ?_
          exact ⟨by rw [HA.out]; rfl, grown_at2 G3.out _ _ hgs⟩
    | false =>
      have hp := hL3 rfl
      obtain rfl : P = ⟨#[]⟩ := ba_of hp
      rw [if_neg (by simp), if_neg (by simp)] at hX
      have HA := Lib.hid (ans_ok (p := ⟨#[]⟩) hX.symm)
      clear hX hL3 hPz hp
      go_wp2
      refine bodyPost_ret (back_at2 44 Tryz.underlying44 sizeAp Tryz.results115 rfl rfl (set_at2 B3.out _ _)) rfl ?_
      exact ⟨by rw [HA.out]; rfl, grown_at2 G3.out _ _ hgs⟩
theorem app_a (s t : ByteArray) : (s ++ t).data.toList = s.data.toList ++ t.data.toList := by simp
/-- one byte as a text -/
theorem conv_one (c : UInt8) (w : World) : (convert 88 9 (.slice (some ⟨w.heap.size, 0, none⟩) 1 1)).run Tryz.prog (w.alloc (.cells #[.int .u8 c.toNat] 5)) = .ok (.string ⟨#[c]⟩) (w.alloc (.cells #[.int .u8 c.toNat] 5)) := by
  obtain ⟨t, h1, h2⟩ := conv_row (W := [c]) (World.ownsRow_lit (base := w.heap.size) (e := 5) w #[.int .u8 c.toNat] 1 (Nat.le_refl _) (by unfold maxLen; omega) rfl)
  rw [ba_of h2] at h1
  exact h1
theorem dValueG (b : UInt8) (w : World) : Calls Tryz.prog 75 #[.int .u8 b.toNat] w fun e w' => e = .returned (.int .i64 (vlA b)) ∧ w.grownBy w' none :=
  (dValue b w).mono fun _ _ ⟨he, h⟩ => ⟨he, h ▸ World.grownBy.refl _ _⟩
theorem p_txA {f : Nat} {p t : ByteArray} (h0 : p.size ≠ 0) (ht : t.data.toList = ltA f ++ (80 :: p.data.toList)) : t.data.toList = txA f p.data.toList := by
  unfold txA
  rw [if_neg (full_a h0).1, ht]
theorem n_txA {f : Nat} {p t : ByteArray} (h0 : p.size = 0) (ht : t.data.toList = ltA f) : t.data.toList = txA f p.data.toList := by
  unfold txA
  rw [if_pos (none_a (by omega)), ht, List.append_nil]
end Go.Proofs.YtdganemgldocoaaGreatDoor
