/- Effects on the targets alone leave all other files as they were, but archives of members; which names effects have. No condition on the files, the effects or the targets. -/
import Derived.Test.YtbcemenfklgnkaaGreatDoorEfLists
import Derived.Test.YtbcemenfklgnkaaGreatDoorEfApp
import Derived.Test.YtbcemenfklgnkaaGreatDoorEfLaw
import Derived.Test.YtbcemenfklgnkaaGreatDoorListL
import Derived.Test.YtbcemenfklgnkaaGreatDoorListG
import Derived.Test.YtbcemenfklgnkaaGreatDoorRMem
namespace Go.Proofs.YtbcemenfklgnkaaGreatDoor
open Go.RowKit Go.Maps
theorem own_take {es : List Ef} {tg : List ByteArray} {k : Nat} {f : Ef} (h : es[k]? = some f) : ownE (es.take (k + 1)) tg = (ownE (es.take k) tg && hasB tg f.n) := by
  unfold ownE; rw [take_snocE h, List.all_append]; simp
theorem tree_small : ∀ (l ts : List Fl), (∀ f ∈ ts, f.c.size ≤ 900) → ∀ f ∈ (ofG l ts).2, f.c.size ≤ 900
  | [], ts, h => by unfold ofG; exact h
  | x :: r, ts, h => by
    unfold ofG
    split
    · exact h
    · split
      · rename_i _ h0
        refine tree_small r _ (fun f hf => ?_)
        rcases insL_mem.1 hf with rfl | hf
        · exact putE_small h0
        · exact h f (List.mem_filter.1 hf).1
      · exact h
end Go.Proofs.YtbcemenfklgnkaaGreatDoor
namespace Go.Proofs.YtbcemenfklgnkaaGreatDoor.effectOwn
open Go.RowKit Go.Maps

set_option maxRecDepth 100000 in
set_option maxHeartbeats 8000000 in
theorem walk (v vE vT : Value) (l : List Fl) (es : List Ef) (tg : List ByteArray) (A : Nat → Addr) (w : World) (h : FRow w v l) (hR : ERow w vE es) (hT : Row w vT tg) (hE : EnvE A w) :
    Calls Tryz.prog 4 #[v, vE, vT] w fun e w' => e = .returned (.bool true) ∧ w.grownBy w' none := by
  have HR := Lib.hid h; have HE := Lib.hid hE; have ER := Lib.hid hR; have TR := Lib.hid hT
  obtain ⟨fa, fc, rfl, -, -, -⟩ := h
  obtain ⟨ea, ec, rfl⟩ := hR.slice
  obtain ⟨ta, tc, rfl, ⟨-, tno⟩, tr0⟩ := hT
  have TNO := Lib.hid (show ta = none → tg.length = 0 ∧ tc = 0 from fun e => by
    refine ⟨?_, tno e⟩
    rcases tg with _ | ⟨x, r⟩
    · rfl
    · obtain ⟨b, off, e', _⟩ := tr0 (by simp)
      rw [e] at e'; cases e')
  have TAT := Lib.hid (show ∀ q, ta = some q → ∀ j u, (cellsOf tg)[j]? = some u → w.cell? (q.add j) = some u from fun q e j u hu => by
    obtain ⟨x, hx, rfl⟩ := cells_at hu
    obtain ⟨b, off, e', hb, hc⟩ := tr0 (by intro e0; rw [e0] at hx; simp at hx)
    rw [e] at e'; cases e'
    rw [Addr.add_lit]; exact hc j x hx)
  obtain ⟨i0, hi, hz0, hz1, hz2⟩ := info_parts infoStr
  have I := Lib.hid hi; have Z0 := Lib.hid hz0; have Z1 := Lib.hid hz1; have Z2 := Lib.hid hz2
  clear hE hR tno tr0 hi hz0 hz1 hz2
  go_enter Tryz.func4, Tryz.ntmps4
  go_wp2_with fail
  refine (lAliveE A _ HE.out).mono ?_
  rintro e w1 ⟨rfl, g1⟩
  have G1 := Lib.hid g1
  clear g1
  go_wp2_with fail
  refine (lLongF _ l 40 _ (HR.out.later (below_of_grown G1.out))).mono ?_
  rintro e w2 ⟨rfl, b2⟩
  have G2 := Lib.hid (G1.out.trans (grown_of_below b2))
  clear b2 G1
  cases hL : longF 40 l
  case true =>
    go_wp2
    go_ret
    exact ⟨rfl, G2.out⟩
  have LEN := Lib.hid (show l.length ≤ 60 by have := longF_len hL; omega)
  clear hL
  go_wp2_with fail
  refine (lLongE _ es 40 _ (ER.out.grown G2.out)).mono ?_
  rintro e w2b ⟨rfl, g2b⟩
  have G2 := Lib.hid (G2.out.trans g2b)
  clear g2b
  cases hL : longE 40 es
  case true =>
    go_wp2
    go_ret
    exact ⟨rfl, G2.out⟩
  obtain ⟨e40, e100⟩ := longE_len hL
  have ESZ := Lib.hid (show ∀ f ∈ es, f.n.size ≤ 100 from fun f hf => (e100 f hf).1)
  clear hL e100
  go_wp2_with fail
  refine (lLongT _ tg 30 _ (TR.out.grown G2.out)).mono ?_
  rintro e w' ⟨rfl, rfl⟩
  cases hL : longT 30 tg
  case true =>
    go_wp2
    go_ret
    exact ⟨rfl, G2.out⟩
  obtain ⟨t30, t100⟩ := shortT hL
  have TSZ := Lib.hid t100
  clear hL t100
  go_wp2
  have O0 := Lib.hid (own_new w2b w2b.heap.size (Nat.le_refl _))
  have G3 := Lib.hid (World.grownBy_alloc w2b (.cells #[] 9) none)
  generalize (w2b.alloc (.cells #[] 9)) = w3 at *
  generalize hv0 : (Value.slice (some ⟨w2b.heap.size, 0, none⟩) 0 0) = v0 at *
  clear hv0
  go_loopw [7, 8, 10, 38] (fun ow al _ i wr => ∃ k : Nat, k ≤ es.length ∧ i = .int .i64 k ∧ ow = .bool (ownE (es.take k) tg) ∧ Hid (wr.ownsRow w2b.heap.size 9 1 al k (cellsOf (namL (es.take k)))) ∧ Hid (w2b.grownBy wr none)) (fun _ _ _ i _ => es.length - (intOf i).toNat)
  case atStart => exact ⟨0, Nat.zero_le _, rfl, rfl, O0, G3⟩
  case round =>
    obtain ⟨k, hk, rfl, rfl, hO, hG⟩ := hrel
    have GW := Lib.hid (G2.out.trans hG.out)
    by_cases hlt : k < es.length
    · obtain ⟨eb, eo, ec', f, e, hf, sn, sc, heb, c0, c1, c2⟩ := (ER.out.grown GW.out).at k hlt
      cases e
      have HCF := Lib.hid (show cellsOf (namL (es.take (k + 1))) = cellsOf (namL (es.take k)) ++ [.string f.n] by rw [nam_take hf, cells_snoc])
      have HOW := Lib.hid (own_take (tg := tg) hf)
      have HH := Lib.hid (fun W (hW : w.grownBy W none) => lHas _ tg f.n W (TR.out.grown hW))
      have GX := Lib.hid (World.grownBy_alloc wr (.cells #[.int .i64 f.k, .string f.n, .string f.c] 46) none)
      clear hf sn sc
      generalize ownE (es.take k) tg = ow at *
      generalize hasB tg f.n = hb at *
      cases ow
      all_goals
        go_wp2_with (first
          | (go_at_call 20; refine (HH.out _ (GW.out.trans GX.out)).mono ?_; rintro e w' ⟨rfl, rfl⟩)
          | (at_builtin; refine wpList_append_own _ rfl _ _ 51 rfl w2b.heap.size 9 i0 _ 1 16 Tryz.underlying51 I.out Z0.out Z1.out Z2.out rfl (by decide) _ _ _ rfl ((hO.out.alloc _).alloc _) ⟨_, 0, none⟩ 1 1 [.string f.n] rfl rfl (new_str _ f.n _ _ (by simp)) (one_str f.n) (by unfold maxLen; omega) (by omega) (by have := hG.out.size; simp; omega) ?_; intro v' w5 hown' hgrow2 hnil2; have HOWN := Lib.hid hown'; have G5 := Lib.hid (((hG.out.trans GX.out).trans (World.grownBy_alloc _ (.cells #[.string f.n] 9) none)).andThen hgrow2 (fun j e => .inl (hO.out.lt j e).1)); clear hown' hgrow2 hnil2))
        go_roundw
        case rel => exact ⟨k + 1, by omega, by go_num, by rw [HOW.out]; simp, Lib.hid (by rw [HCF.out]; exact HOWN.out), G5⟩
        case measure => simp [intOf]; omega
    · obtain rfl : k = es.length := by omega
      rw [List.take_of_length_le (Nat.le_refl _)] at hO
      rw [List.take_of_length_le (Nat.le_refl _)]
      have NL := Lib.hid (show (namL es).length ≤ 40 by rw [nam_len]; exact e40)
      have SL := Lib.hid (show (sortL (uni (namL es))).length ≤ 9223372036854775807 by
        rw [sort_len]; have := uni_len (namL es); have := NL.out; omega)
      have AL := Lib.hid (row_of_owns (show wr.ownsRow w2b.heap.size 9 1 _ (namL es).length (cellsOf (namL es)) by rw [nam_len]; exact hO.out) (by have := NL.out; omega))
      clear hO O0 G3
      go_wp2_with fail
      refine (eOwn _ _ es tg _ (ER.out.grown GW.out) (TR.out.grown GW.out)).mono ?_
      rintro e w4 ⟨rfl, g4⟩
      have G4 := Lib.hid (GW.out.trans g4); have AL4 := Lib.hid (AL.out.grown g4)
      clear g4 AL GW hG
      generalize how : ownE es tg = ow at *
      have hbne : (ow != ow) = false := by cases ow <;> rfl
      go_wp2_with fail
      refine (eNames _ es _ (ER.out.grown G4.out) e40 ESZ.out).mono ?_
      rintro e w5 ⟨v5, rfl, r5, g5⟩
      have R5 := Lib.hid r5; have G5 := Lib.hid (G4.out.trans g5); have AL5 := Lib.hid (AL4.out.grown g5)
      clear r5 g5 AL4 G4
      go_wp2_with fail
      refine (rSorted _ (namL es) _ AL5.out NL.out).mono ?_
      rintro e w6 ⟨v6, rfl, o6, b6⟩
      have R6 := Lib.hid (row_of_owns o6 SL.out); have G6 := Lib.hid (G5.out.trans (grown_of_below b6)); have R56 := Lib.hid (R5.out.later b6)
      clear o6 b6 AL5 G5 R5
      go_wp2_with fail
      refine (lSame _ _ _ _ R56.out R6.out).mono ?_
      rintro e w7 ⟨rfl, n7, hw7⟩
      have G7 := Lib.hid (show w.grownBy w7 none by rw [hw7]; exact grown_drewN G6.out n7)
      clear hw7 R6 R56 G6 NL SL
      go_wp2_with fail
      refine (tOf _ l A _ (HR.out.later (below_of_grown G7.out)) (HE.out.grown G7.out).env.five).mono ?_
      intro e w8 hof
      rcases hof with ⟨kk, hkk, -, rfl, g8⟩ | ⟨h0, rfl, t8, g8⟩
      · have G8 := Lib.hid (G7.out.trans g8)
        clear g8 hkk G7
        cases ow
        all_goals
          go_wp2
          go_ret
          exact ⟨rfl, G8.out⟩
      have G8 := Lib.hid (G7.out.trans g8)
      have lb := G7.out.size
      have hofg : ofG l [] = (0, (ofG l []).2) := by rw [← h0]
      have SM := Lib.hid (tree_small l [] (by simp))
      generalize (ofG l []).2 = ts at hofg t8 SM
      generalize hp : w7.heap.size + 1 = p at t8 ⊢
      generalize hb : w7.heap.size = b at t8 lb
      have T8 := Lib.hid t8
      have LB := Lib.hid lb
      have FIND := Lib.hid (show ow = true → ∀ f ∈ l, hasB (tg ++ libsL tg) f.n = false → (appE 5 es 0 ts).2.2.find? (isN f.n) = some f from fun ho f hf hh => by
        rw [ho] at how
        rw [own_stays how hh]
        exact (ofG_facts l [] ts hofg).1 f hf)
      clear t8 g8 lb hp hb h0 hofg how G7
      cases ow
      · go_wp2
        go_ret
        exact ⟨rfl, G8.out⟩
      have HAP := Lib.hid (fun (W : World) (hW : IsTree W p b ts) (hg : w.grownBy W none) => eApply p b ts 5 _ es A w W hW HE.out ER.out hg LB.out SM.out)
      generalize appE 5 es 0 ts = r at *
      obtain ⟨n, kk, t2⟩ := r
      simp only at HAP FIND
      go_wp2_with fail
      refine (HAP.out _ T8.out G8.out).mono ?_
      rintro e w9 ⟨rfl, t9, g9⟩
      have T9 := Lib.hid t9; have G9 := Lib.hid (grown_none G8.out g9 LB.out)
      clear t9 g9 HAP T8 G8 SM LB
      have O9 := Lib.hid (own_new w9 w9.heap.size (Nat.le_refl _))
      go_wp2_with (at_builtin; refine wpList_append_src _ rfl _ _ 51 rfl w9.heap.size 9 i0 _ 1 16 Tryz.underlying51 I.out Z0.out Z1.out Z2.out rfl (by decide) _ 0 [] rfl O9.out ta tg.length tc (cellsOf tg) rfl TNO.out (by unfold cellsOf; simp) (fun q e j u hu => cell_al (G9.out.cell (TAT.out q e j u hu) (by simp)) _) (cells_one tg) (by unfold maxLen; omega) (by omega) (by simp) ?_; intro v10 w10 hown hgrow; have OL := Lib.hid (show w10.ownsRow w9.heap.size 9 1 v10 (tg ++ libsL (tg.take 0)).length (cellsOf (tg ++ libsL (tg.take 0))) by simpa [libsL] using hown); have G10 := Lib.hid ((World.grownBy_alloc w9 (.cells #[] 9) none).andThen hgrow (fun j e => .inl (O9.out.lt j e).1)); clear hown hgrow O9)
      clear TAT TNO
      go_loopw [13, 15, 16, 17, 18, 96] (fun libs _ _ _ _ i wr => ∃ k : Nat, k ≤ tg.length ∧ i = .int .i64 k ∧ Hid (wr.ownsRow w9.heap.size 9 1 libs (tg ++ libsL (tg.take k)).length (cellsOf (tg ++ libsL (tg.take k)))) ∧ Hid (w9.grownBy wr none)) (fun _ _ _ _ _ i _ => tg.length - (intOf i).toNat)
      case atStart => exact ⟨0, Nat.zero_le _, rfl, OL, G10⟩
      case round =>
        obtain ⟨k, hk, rfl, hO, hG⟩ := hrel
        by_cases hlt : k < tg.length
        · obtain ⟨s, hs⟩ := get_of tg k hlt
          obtain ⟨a', c', e', -, hr⟩ := TR.out.grown (G9.out.trans hG.out)
          cases e'
          obtain ⟨tb, tof, rfl, htb, htc⟩ := hr (by intro e; rw [e] at hlt; simp at hlt)
          have tcell := htc k s hs
          have HM := Lib.hid (fun W => rMemL (s := s) W (by have := TSZ.out s (List.mem_of_getElem? hs); unfold maxLen; omega))
          have HLS := Lib.hid (libs_snoc hs)
          have LL60 := Lib.hid (show (tg ++ libsL (tg.take k)).length ≤ 60 by
            have := libs_len (tg.take k)
            rw [List.length_take] at this
            rw [List.length_append]; omega)
          clear hr htc hs
          cases hm : memB s
          · rw [hm] at HM
            have HL2 := Lib.hid (show libsL (tg.take (k + 1)) = libsL (tg.take k) by rw [HLS.out, hm]; simp)
            clear hm
            go_wp2_with (go_at_call 25; refine (HM.out _).mono ?_; rintro e w11 ⟨x, y, rfl, -, g11⟩; have O11 := Lib.hid (owns_kept hO.out g11); have G11 := Lib.hid (hG.out.trans g11); clear g11)
            go_roundw
            case rel => exact ⟨k + 1, by omega, by go_num, Lib.hid (by rw [HL2.out]; exact O11.out), G11⟩
            case measure => simp [intOf]; omega
          · rw [hm] at HM
            have HL2 := Lib.hid (show cellsOf (tg ++ libsL (tg.take (k + 1))) = cellsOf (tg ++ libsL (tg.take k)) ++ [.string (libB s)] by rw [HLS.out, hm, if_pos rfl, ← List.append_assoc, cells_snoc])
            have HL3 := Lib.hid (show (tg ++ libsL (tg.take (k + 1))).length = (tg ++ libsL (tg.take k)).length + 1 by rw [HLS.out, hm, if_pos rfl, ← List.append_assoc, List.length_append, List.length_singleton])
            clear hm HLS
            generalize libB s = lb at *
            have l60 := LL60.out
            go_wp2_with (first
              | (go_at_call 25; refine (HM.out _).mono ?_; rintro e w11 ⟨x, y, rfl, hx, g11⟩; obtain rfl := hx rfl; have O11 := Lib.hid (owns_kept hO.out g11); have G11 := Lib.hid (hG.out.trans g11); clear g11)
              | (at_builtin; refine wpList_append_own _ rfl _ _ 51 rfl w9.heap.size 9 i0 _ 1 16 Tryz.underlying51 I.out Z0.out Z1.out Z2.out rfl (by decide) _ _ _ rfl (O11.out.alloc _) ⟨_, 0, none⟩ 1 1 [.string _] rfl rfl (new_str _ _ _ _ (by simp)) (one_str _) (by unfold maxLen; omega) (by omega) (by have := G11.out.size; simp; omega) ?_; intro v' w12 hown' hgrow2 hnil2; have HOWN := Lib.hid hown'; have G12 := Lib.hid ((G11.out.trans (World.grownBy_alloc _ (.cells #[.string _] 9) none)).andThen hgrow2 (fun j e => .inl (O11.out.lt j e).1)); clear hown' hgrow2 hnil2))
            go_roundw
            case rel => exact ⟨k + 1, by omega, by go_num, Lib.hid (by rw [HL2.out, HL3.out]; exact HOWN.out), G12⟩
            case measure => simp [intOf]; omega
        · obtain rfl : k = tg.length := by omega
          rw [List.take_of_length_le (Nat.le_refl _)] at hO
          have LL60 := Lib.hid (show (tg ++ libsL tg).length ≤ 60 by
            have := libs_len tg
            rw [List.length_append]; omega)
          have LR := Lib.hid (row_of_owns hO.out (by have := LL60.out; omega))
          have G11 := Lib.hid (G9.out.trans hG.out); have T11 := Lib.hid (T9.out.grown hG.out)
          clear hO hG OL G10 LL60 T9 G9
          generalize tg ++ libsL tg = LL at *
          obtain ⟨la, lc, rfl, -, -⟩ := LR.out
          have FT := Lib.hid (FIND.out trivial)
          clear FIND
          go_wp2
          obtain ⟨wl, hwl⟩ : ∃ wl, wl = wr := ⟨wr, rfl⟩
          subst hwl
          go_loopw [20, 21, 22, 114] (fun _ _ _ i wz => ∃ k : Nat, k ≤ l.length ∧ i = .int .i64 k ∧ Hid (wl.grownBy wz none)) (fun _ _ _ i _ => l.length - (intOf i).toNat)
          case atStart => exact ⟨0, Nat.zero_le _, rfl, Lib.hid (World.grownBy.refl _ _)⟩
          case round =>
            obtain ⟨k, hk, rfl, hG⟩ := hrel
            have len60 := LEN.out
            by_cases hlt : k < l.length
            · obtain ⟨fb, off, c', f, e, hf, sn, sc, hb, c0, c1, c2⟩ := (HR.out.later (below_of_grown (G11.out.trans hG.out))).at k hlt
              cases e
              have HGET := Lib.hid (fun W (hW : IsTree W p b t2) => tGet p b t2 f.n W hW sn)
              have HHAS := Lib.hid (fun W (hW : wl.grownBy W none) => lHas _ LL f.n W (LR.out.grown hW))
              have GX := Lib.hid (World.grownBy_alloc wr (.cells #[.string f.n, .string f.c, .int .i64 f.t] 61) none)
              have BX := Lib.hid (box_newF wr f)
              have HFT := Lib.hid (FT.out f (List.mem_of_getElem? hf))
              have hnq := fun W => neqF f f W
              rw [eqFl_self] at hnq
              have hgd := guardF
              unfold valF at HGET
              clear hf sn sc
              cases hq : hasB LL f.n
              · obtain ⟨e1, e2⟩ := getL_some (HFT.out hq)
                rw [e1, e2] at HGET
                rw [hq] at HHAS
                clear hq e1 e2
                go_wp2_with (first
                  | (go_at_call 26; refine (HGET.out _ (T11.out.grown (hG.out.trans GX.out))).mono ?_; rintro e w12 ⟨rfl, g12⟩; have G12 := Lib.hid (hG.out.trans (GX.out.trans g12)); have d1 := box_al (box_later BX.out g12); clear g12)
                  | (go_at_call 20; refine (HHAS.out _ (G12.out.trans (World.grownBy_alloc _ _ _))).mono ?_; rintro e w' ⟨rfl, rfl⟩))
                go_roundw
                case rel => exact ⟨k + 1, by omega, by go_num, Lib.hid (G12.out.trans (World.grownBy_alloc _ _ _))⟩
                case measure => simp [intOf]; omega
              · generalize getL t2 f.n = g at *
                generalize hasL t2 f.n = gh at *
                rw [hq] at HHAS
                clear hq
                go_wp2_with (first
                  | (go_at_call 26; refine (HGET.out _ (T11.out.grown (hG.out.trans GX.out))).mono ?_; rintro e w12 ⟨rfl, g12⟩; have G12 := Lib.hid (hG.out.trans (GX.out.trans g12)); have d1 := box_al (box_later BX.out g12); clear g12)
                  | (go_at_call 20; refine (HHAS.out _ (G12.out.trans (World.grownBy_alloc _ _ _))).mono ?_; rintro e w' ⟨rfl, rfl⟩))
                go_roundw
                case rel => exact ⟨k + 1, by omega, by go_num, Lib.hid (G12.out.trans (World.grownBy_alloc _ _ _))⟩
                case measure => simp [intOf]; omega
            · go_wp2
              go_ret
              exact ⟨rfl, G11.out.trans hG.out⟩
end Go.Proofs.YtbcemenfklgnkaaGreatDoor.effectOwn
