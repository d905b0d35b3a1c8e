/- Package attr: the attributes of a text; attributes' letters. The document's letters. -/
import Derived.Test.YtongclfpidnibaaDoorAtPro
import Derived.Test.YtongclfpidnibaaDoorShelf
namespace Go.Proofs.YtongclfpidnibaaDoor
open Go.RowKit

/-- what Parse answers with, and what it reads -/
structure AtE (A : Nat → Addr) (w : World) : Prop where
  l : LetE w
  m : MaxI w
  e7 : w.cell? ⟨0, 0, none⟩ = some (.iface 74 (.pointer (some (A 7))))
  e2 : w.cell? ⟨1, 0, none⟩ = some (.iface 74 (.pointer (some (A 2))))
theorem AtE.grown {A : Nat → Addr} {w w' : World} (h : AtE A w) (g : w.grownBy w' none) : AtE A w' := ⟨h.l.grown g, h.m.grown g, g.cell h.e7 (by simp), g.cell h.e2 (by simp)⟩
theorem pCutP (s : ByteArray) (w : World) (hM : MaxI w) (hs : s.size ≤ 1000) : Calls Tryd.prog 15 #[.string s, .string ⟨#[80]⟩] w fun e w' =>
    ∃ T P : ByteArray, e = .returned (.tuple #[.string T, .string P, .bool (cutA s.data.toList).2.2]) ∧ T.data.toList = (cutA s.data.toList).1 ∧ P.data.toList = (cutA s.data.toList).2.1 ∧ ∃ n, w' = w.drewN n := by
  obtain ⟨m, hm⟩ := hM
  refine (Tryd.strings_Cut s ⟨#[80]⟩ m w (by omega) hm).mono fun e w' ⟨he, hn⟩ => ?_
  have e1 : Lib.cut s.data.toList (⟨#[80]⟩ : ByteArray).data.toList = cutA s.data.toList := cut_lib _
  rw [e1] at he
  exact ⟨_, _, he, by simp, by simp, hn⟩
set_option maxRecDepth 100000 in
set_option maxHeartbeats 4000000 in
theorem pParse (A : Nat → Addr) (s : ByteArray) (w : World) (hE : AtE A w) (hs : s.size ≤ 1000) : Calls Tryd.prog 7 #[.string s] w fun e w' =>
    e = .returned (.tuple #[atV (ansA (docA 0 s.data.toList)).1 (ansA (docA 0 s.data.toList)).2.1, errV A (ansA (docA 0 s.data.toList)).2.2]) ∧ w.grownBy w' none := by
  obtain ⟨l1, l2, l3⟩ := cut_le s.data.toList
  obtain ⟨x, hx⟩ : ∃ x, docA 0 s.data.toList = x := ⟨_, rfl⟩
  rw [hx]
  rw [← par_doc] at hx
  have HE := Lib.hid hE
  have B0 := Lib.hid (heap_alloc_new w (.cells #[.int .i64 0, .string ⟨#[]⟩] 24))
  have G0 := Lib.hid (World.grownBy_alloc w (.cells #[.int .i64 0, .string ⟨#[]⟩] 24) none)
  have CC := Lib.hid (fun w' (g : w.grownBy w' none) => pCutP s w' (hE.m.grown g) hs)
  have CF := Lib.hid (fun (T : ByteArray) w' (g : w.grownBy w' none) (h : T.size ≤ 1000) => pFlagsOf T w' (hE.l.grown g) h)
  have hgr : 0 < w.heap.size ∧ 1 < w.heap.size := ⟨cell_block hE.e7, cell_block hE.e2⟩
  obtain ⟨b, hb⟩ : ∃ b, (cutA s.data.toList).2.2 = b := ⟨_, rfl⟩
  rw [hb] at CC hx l3
  have hz : s.data.toList.length = s.size := by simp
  have HL := Lib.hid (show (cutA s.data.toList).1.length ≤ 1000 ∧ (cutA s.data.toList).2.1.length ≤ 1000 by omega)
  have HX := Lib.hid hx; have L3 := Lib.hid l3
  clear l1 l2 l3 hx hE hz hb
  go_enter Tryd.func7, Tryd.ntmps7
  go_upto_region 1 with fail
  generalize w.alloc _ = w1 at B0 G0 ⊢
  obtain ⟨g, eg⟩ : ∃ g, w.heap.size = g := ⟨_, rfl⟩
  rw [eg] at B0 hgr ⊢
  have hgs : w.heap.size ≤ g := by omega
  have q1 : ¬g = 0 := by omega
  have q2 : ¬0 = g := by omega
  have q3 : ¬g = 1 := by omega
  have q4 : ¬1 = g := by omega
  clear eg hgr
  go_upto_region 2 with (go_at_call 15; (with_reducible refine (CC.out _ G0.out).mono ?_); rintro e w2 ⟨T, P, rfl, hT, hP, n, rfl⟩; have HT := Lib.hid hT; have HP := Lib.hid hP; have G2 := Lib.hid (grown_drewN G0.out n); have B2 := Lib.hid (show (w1.drewN n).heap[g]? = _ from B0.out); clear hT hP)
  generalize w1.drewN n = w2 at G2 B2 ⊢
  have hTz : T.data.toList.length = T.size := by simp
  have hPz : P.data.toList.length = P.size := by simp
  have C3 := CF.out T w2 G2.out (by have := HL.out.1; rw [← HT.out] at this; omega)
  have hX := HX.out
  have hL3 := L3.out
  rw [← HT.out, ← HP.out] at hX
  rw [← HP.out] at hL3
  have hP1 : P.size ≤ 1000 := by have := HL.out.2; rw [← HP.out] at this; omega
  unfold parA at hX
  clear HT HP HL HX L3 CC CF B0 G0 hTz
  cases hf : flA 0 T.data.toList with
  | none =>
    rw [hf] at hX C3
    have HA := Lib.hid (ans_err hX.symm)
    have C4 := Lib.hid C3
    clear hX hf C3 hL3 hPz
    go_upto_region 3 with (go_at_call 16; (with_reducible refine C4.out.mono ?_); rintro e w3 ⟨rfl, g3⟩; have G3 := Lib.hid (G2.out.trans g3); have B3 := Lib.hid (kept_at g3 B2.out); clear g3)
    obtain ⟨c0, c1⟩ := two_at B3.out
    have fr := free_at B3.out
    have H2 : w3.cell? ⟨0, 0, none⟩ = some (.iface 74 (.pointer (some (A 7)))) := (HE.out.grown G3.out).e7
    go_wp2
    go_region
    go_wp2
    refine bodyPost_ret (back_at2 24 Tryd.underlying24 sizeAp Tryd.results7 rfl rfl (set_at2 B3.out _ _)) rfl ?_
    exact ⟨by rw [HA.out]; rfl, grown_drew (grown_at2 G3.out _ _ hgs)⟩
  | some f =>
    rw [hf] at hX C3
    simp only at hX
    have C4 := Lib.hid C3
    clear hf C3
    go_upto_region 3 with (go_at_call 16; (with_reducible refine C4.out.mono ?_); rintro e w3 ⟨rfl, g3⟩; have G3 := Lib.hid (G2.out.trans g3); have B3 := Lib.hid (kept_at g3 B2.out); clear g3)
    obtain ⟨c0, c1⟩ := two_at B3.out
    have fr := free_at B3.out
    clear C4
    cases b with
    | true =>
      by_cases hp : P.size = 0
      · obtain rfl := nil_a hp
        rw [if_pos ⟨rfl, rfl⟩] at hX
        have HA := Lib.hid (ans_err hX.symm)
        clear hX hL3 hPz hp
        have H2 : w3.cell? ⟨0, 0, none⟩ = some (.iface 74 (.pointer (some (A 7)))) := (HE.out.grown G3.out).e7
        go_wp2
        go_region
        go_wp2
        refine bodyPost_ret (back_at2 24 Tryd.underlying24 sizeAp Tryd.results7 rfl rfl (set_at2 B3.out _ _)) rfl ?_
        exact ⟨by rw [HA.out]; rfl, grown_drew (grown_at2 G3.out _ _ hgs)⟩
      · obtain ⟨e0, e1, e2⟩ := full_a hp
        rw [if_neg (fun h => e0 h.2)] at hX
        by_cases hl : 120 < P.size
        · rw [if_pos (by omega)] at hX
          have HA := Lib.hid (ans_err hX.symm)
          have e3 : decide ((P.size : Int) > 120) = true := by simp; omega
          clear hX hL3 hPz hp e0 hl
          have H2 : w3.cell? ⟨1, 0, none⟩ = some (.iface 74 (.pointer (some (A 2)))) := (HE.out.grown G3.out).e2
          go_wp2
          go_region
          go_wp2
          refine bodyPost_ret (back_at2 24 Tryd.underlying24 sizeAp Tryd.results7 rfl rfl (set_at2 B3.out _ _)) rfl ?_
          exact ⟨by rw [HA.out]; rfl, grown_drew (grown_at2 G3.out _ _ hgs)⟩
        · rw [if_neg (by omega)] at hX
          have HA := Lib.hid (ans_ok hX.symm)
          have e3 : decide ((P.size : Int) > 120) = false := by simp; omega
          clear hX hL3 hPz hp e0 hl
          go_wp2
          refine bodyPost_ret (back_at2 24 Tryd.underlying24 sizeAp Tryd.results7 rfl rfl (set_at2 B3.out _ _)) rfl ?_
          exact ⟨by rw [HA.out]; rfl, grown_at2 G3.out _ _ hgs⟩
    | false =>
      have hp := hL3 rfl
      obtain rfl : P = ⟨#[]⟩ := ba_of hp
      rw [if_neg (by simp), if_neg (by simp)] at hX
      have HA := Lib.hid (ans_ok (p := ⟨#[]⟩) hX.symm)
      clear hX hL3 hPz hp
      go_wp2
      refine bodyPost_ret (back_at2 24 Tryd.underlying24 sizeAp Tryd.results7 rfl rfl (set_at2 B3.out _ _)) rfl ?_
      exact ⟨by rw [HA.out]; rfl, grown_at2 G3.out _ _ hgs⟩
theorem app_a (s t : ByteArray) : (s ++ t).data.toList = s.data.toList ++ t.data.toList := by simp
/-- one byte as a text -/
theorem conv_one (c : UInt8) (w : World) : (convert 50 9 (.slice (some ⟨w.heap.size, 0, none⟩) 1 1)).run Tryd.prog (w.alloc (.cells #[.int .u8 c.toNat] 5)) = .ok (.string ⟨#[c]⟩) (w.alloc (.cells #[.int .u8 c.toNat] 5)) := by
  obtain ⟨t, h1, h2⟩ := conv_row (W := [c]) (World.ownsRow_lit (base := w.heap.size) (e := 5) w #[.int .u8 c.toNat] 1 (Nat.le_refl _) (by unfold maxLen; omega) rfl)
  rw [ba_of h2] at h1
  exact h1
theorem dValueG (b : UInt8) (w : World) : Calls Tryd.prog 17 #[.int .u8 b.toNat] w fun e w' => e = .returned (.int .i64 (vlA b)) ∧ w.grownBy w' none :=
  (dValue b w).mono fun _ _ ⟨he, h⟩ => ⟨he, h ▸ World.grownBy.refl _ _⟩
theorem p_txA {f : Nat} {p t : ByteArray} (h0 : p.size ≠ 0) (ht : t.data.toList = ltA f ++ (80 :: p.data.toList)) : t.data.toList = txA f p.data.toList := by
  unfold txA
  rw [if_neg (full_a h0).1, ht]
theorem n_txA {f : Nat} {p t : ByteArray} (h0 : p.size = 0) (ht : t.data.toList = ltA f) : t.data.toList = txA f p.data.toList := by
  unfold txA
  rw [if_pos (none_a (by omega)), ht, List.append_nil]
set_option maxRecDepth 100000 in
set_option maxHeartbeats 4000000 in
theorem dText (f : Nat) (p : ByteArray) (w : World) (hf : f < 256) (hp : p.size ≤ 1000) : Calls Tryd.prog 13 #[atV f p] w fun e w' => ∃ t : ByteArray, e = .returned (.string t) ∧ t.data.toList = txA f p.data.toList ∧ w.grownBy w' none := by
  obtain ⟨B0, B1, G2⟩ := heap2 w (.cells #[.int .i64 f, .string p] 29) (.cells #[.int .u8 68, .int .u8 69, .int .u8 78, .int .u8 110, .int .u8 81, .int .u8 82, .int .u8 85, .int .u8 86] 5)
  have H0 := Lib.hid B0; have HG := Lib.hid G2
  have H1 := Lib.hid (show ∀ j, j < 8 → ((w.alloc (.cells #[.int .i64 f, .string p] 29)).alloc (.cells #[.int .u8 68, .int .u8 69, .int .u8 78, .int .u8 110, .int .u8 81, .int .u8 82, .int .u8 85, .int .u8 86] 5)).cell? ⟨w.heap.size + 1, j, none⟩ = some (.int .u8 (bitL j).toNat) from fun j hj => by
    obtain rfl | rfl | rfl | rfl | rfl | rfl | rfl | rfl : j = 0 ∨ j = 1 ∨ j = 2 ∨ j = 3 ∨ j = 4 ∨ j = 5 ∨ j = 6 ∨ j = 7 := by omega
    all_goals (unfold World.cell?; rw [B1]; rfl))
  clear B0 B1 G2
  go_enter Tryd.func13, Tryd.ntmps13
  go_upto_region 2 with fail
  go_wp2
  generalize (w.alloc _).alloc _ = w2 at H0 H1 HG ⊢
  obtain ⟨q, eq⟩ : ∃ q, w.heap.size + 1 = q := ⟨_, rfl⟩
  rw [eq] at H1 ⊢
  obtain ⟨g, eg⟩ : ∃ g, w.heap.size = g := ⟨_, rfl⟩
  rw [eg] at H0 ⊢
  clear eq eg
  go_loopw [3, 5, 8] (fun s_ _ i wr => ∃ (j : Nat) (S : ByteArray), j ≤ 8 ∧ i = .int .i64 j ∧ s_ = .string S ∧ S.size ≤ 8 ∧ Hid (S.data.toList = ltJ f j) ∧ Hid (w2.grownBy wr none)) (fun _ _ i _ => 8 - (intOf i).toNat)
  case atStart => exact ⟨0, ⟨#[]⟩, by omega, rfl, rfl, by decide, Lib.hid rfl, Lib.hid (World.grownBy.refl _ _)⟩
  case round =>
    obtain ⟨j, S, hj, rfl, rfl, hS8, hS, hG⟩ := hrel
    by_cases hlt : j < 8
    · have hc := hG.out.cell (H1.out j hlt) (by simp)
      have HB := Lib.hid (bit_vl ⟨j, hlt⟩)
      have HL := Lib.hid (ltJ_on (f := f) hlt)
      have HLL := Lib.hid (ltJ_len f (j + 1))
      obtain ⟨a0, a1⟩ := two_at (kept_at hG.out H0.out)
      have HB : Hid (vlA (bitL j) = bitF j ∧ bitF j ∈ [1, 2, 4, 8, 16, 32, 64, 128]) := HB
      generalize bitL j = c at hc HB HL
      generalize bitF j = v at HB HL
      have CV := Lib.hid (fun w => dValueG c w)
      rw [HB.out.1] at CV
      have CH := Lib.hid (fun w => dHas f v p w hf HB.out.2)
      obtain ⟨z, hz⟩ : ∃ z, decide (f / v % 2 = 1) = z := ⟨_, rfl⟩
      rw [hz] at CH
      have HZ := Lib.hid hz
      clear hz HB
      have k0 : ∀ u : Gr wr, u.W.cell? ⟨g, 0, none⟩ = some (.int .i64 f) := fun u => u.g.cell a0 (by simp)
      have k1 : ∀ u : Gr wr, u.W.cell? ⟨g, 1, none⟩ = some (.string p) := fun u => u.g.cell a1 (by simp)
      have inst : Nonempty (Gr wr) := ⟨⟨wr, World.grownBy.refl _ _⟩⟩
      clear a0 a1
      go_upto_region 5 with fail
      refine wp_region_grows (by kernel_rfl) (by kernel_rfl) ?_
      repeat (go_big_quiet_step (first
        | (go_at_call 17; refine (CV.out _).mono ?_; rintro e w9 ⟨he, g9⟩; exact ⟨he, ⟨_, (Gr.g _).trans g9⟩, rfl⟩)
        | (go_at_call 18; refine (CH.out _).mono ?_; rintro e w9 ⟨he, g9⟩; exact ⟨he, ⟨_, (Gr.g _).trans g9⟩, rfl⟩)))
      refine wpQuiet_nil ?_
      rintro _ ⟨⟨w9, g9⟩, rfl⟩
      have G9 := Lib.hid (hG.out.trans g9)
      clear k0 k1 inst g9 hc
      cases z with
      | false =>
        have HN := Lib.hid (show S.data.toList = ltJ f (j + 1) by rw [HL.out, if_neg (of_decide_eq_false HZ.out), List.append_nil]; exact hS.out)
        go_wp2
        go_roundw
        case rel => exact ⟨j + 1, S, by omega, by go_num, rfl, hS8, HN, G9⟩
        case measure => simp [intOf]; omega
      | true =>
        have HN := Lib.hid (show (S ++ ⟨#[c]⟩ : ByteArray).data.toList = ltJ f (j + 1) by rw [app_a, HL.out, if_pos (of_decide_eq_true HZ.out), hS.out])
        have hsz : (S ++ ⟨#[c]⟩ : ByteArray).size ≤ 8 := by
          have h1 := HLL.out
          rw [← HN.out] at h1
          have h2 : (S ++ ⟨#[c]⟩ : ByteArray).data.toList.length = (S ++ ⟨#[c]⟩ : ByteArray).size := by simp; rfl
          omega
        have HSZ := Lib.hid hsz
        have cv := fun w => conv_one c w
        go_wp2
        go_roundw
        case rel => exact ⟨j + 1, _, by omega, by go_num, rfl, HSZ.out, HN, Lib.hid (G9.out.trans (World.grownBy_alloc _ _ _))⟩
        case measure => simp [intOf]; omega
    · have HE := Lib.hid (show S.data.toList = ltA f by rw [hS.out, ltJ_end hlt])
      obtain ⟨a0, a1⟩ := two_at (kept_at hG.out H0.out)
      have GF := Lib.hid (HG.out.trans hG.out)
      by_cases h0 : p.size = 0
      · have e1 : ¬ 0 < p.size := by omega
        have HN := Lib.hid (n_txA h0 HE.out)
        clear h0
        go_wp2
        go_ret
        exact ⟨_, rfl, HN.out, GF.out⟩
      · have e1 : 0 < p.size := by omega
        have HN := Lib.hid (fun t => p_txA (f := f) (t := t) h0)
        clear h0
        go_wp2
        go_ret
        refine ⟨_, rfl, HN.out _ ?_, GF.out⟩
        rw [app_a, app_a, HE.out]
        rfl
end Go.Proofs.YtongclfpidnibaaDoor
