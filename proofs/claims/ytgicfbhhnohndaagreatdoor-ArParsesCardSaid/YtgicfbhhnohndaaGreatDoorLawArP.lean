/- Which texts are archives, of which members; these make just that text; what is found in it. No condition on the texts. -/
import Derived.Test.YtgicfbhhnohndaaGreatDoorArW
import Derived.Test.YtgicfbhhnohndaaGreatDoorArV
namespace Go.Proofs.YtgicfbhhnohndaaGreatDoor.arParses
open Go.RowKit

theorem rParse_no {s : ByteArray} {w : World} (hs : s.size ≤ maxLen) (h : archOf s = none) :
    Calls Tryz.prog 14 #[.string s] w fun e w' => ∃ v, e = .returned (.tuple #[v, .bool false]) ∧ w.grownBy w' none :=
  (rParse s w hs).mono fun e w' hp => by
    rcases hp with ⟨_, v, acc, h1, _, h3⟩ | ⟨v, acc, h1, _⟩
    · exact ⟨v, h1, h3⟩
    · rw [h] at h1; cases h1
theorem rParse_yes {s : ByteArray} {w : World} (hs : s.size ≤ maxLen) {l : List Mb} (h : archOf s = some l) :
    Calls Tryz.prog 14 #[.string s] w fun e w' => ∃ v, e = .returned (.tuple #[v, .bool true]) ∧ OwnM w' w.heap.size 45 v l ∧ w.grownBy w' none :=
  (rParse s w hs).mono fun e w' hp => by
    rcases hp with ⟨h1, _⟩ | ⟨v, acc, h1, h2, h3, h4⟩
    · rw [h] at h1; cases h1
    · rw [h] at h1; obtain rfl := Option.some.inj h1; exact ⟨v, h2, h3, h4⟩
theorem aFind' {s nm : ByteArray} {A : Nat → Addr} {w : World} (hE : Env A w) (hs : s.size ≤ maxLen) {o : Option Mb} (h : foundM s nm = o) :
    Calls Tryz.prog 15 #[.string s, .string nm] w fun e w' => e = .returned (.tuple #[valM (o.getD nilM), .bool o.isSome]) ∧ w.grownBy w' none := by
  cases o with
  | none => exact aFind_no hE hs h
  | some m => exact aFind_yes hE hs h
def nmB (nm : ByteArray) (m : Mb) : Bool := m.n.toList == nm.toList
theorem found_any {s nm : ByteArray} {acc : List Mb} (h : archOf s = some acc) : (foundM s nm).isSome = acc.any (nmB nm) := by
  have e : (findI acc nm).isSome = acc.any (nmB nm) := by unfold findI; rw [List.findIdx?_isSome]; rfl
  rw [← e]
  cases hi : findI acc nm with
  | none => rw [found_miss h hi]; rfl
  | some i =>
    obtain ⟨m, hm, _⟩ := findI_get hi
    rw [found_hit h hi hm]; rfl
theorem found_at {s nm : ByteArray} {acc : List Mb} (h : archOf s = some acc) {k : Nat} {m : Mb} (hk : acc[k]? = some m) (hn : (m.n.toList == nm.toList) = true) : foundM s nm = some m := by
  have hn := eq_of_toList.1 hn
  have hnd := ((makeE_zero acc).1 (archOf_get h).1).2.2.1
  cases hi : findI acc nm with
  | none => exact absurd hn (findI_none hi m (List.mem_of_getElem? hk))
  | some i =>
    obtain ⟨m', hm, hn'⟩ := findI_get hi
    have hik : i = k := by
      have h1 : (acc.map Mb.n)[i]? = some nm := by rw [List.getElem?_map, hm]; simp [hn']
      have h2 : (acc.map Mb.n)[k]? = some nm := by rw [List.getElem?_map, hk]; simp [hn]
      exact (List.getElem?_inj (List.getElem?_eq_some_iff.1 h1).1 hnd).1 (h1.trans h2.symm)
    subst hik
    rw [hk] at hm; cases hm
    exact found_hit h hi hk
theorem any_next {acc : List Mb} {k : Nat} {m : Mb} (h : acc[k]? = some m) (p : Mb → Bool) : (acc.take (k + 1)).any p = ((acc.take k).any p || p m) := by
  rw [take_snocM h, List.any_append]; simp

set_option maxRecDepth 100000 in
set_option maxHeartbeats 4000000 in
theorem walk (s nm : ByteArray) (hs : s.size ≤ maxLen) (A : Nat → Addr) (w : World) (hE : Env A w) :
    Calls Tryz.prog 4 #[.string s, .string nm] w fun e w' => e = .returned (.bool true) ∧ Below w.heap.size w w' := by
  have HE := Lib.hid hE
  have HS := Lib.hid hs
  unfold maxLen at hs
  clear hE
  go_enter Tryz.func4, Tryz.ntmps4
  go_wp2_with fail
  refine (lAliveA A w HE.out).mono ?_
  rintro e w1 ⟨rfl, g1⟩
  have G1 := Lib.hid g1
  clear g1
  by_cases z1 : (1200 : Int) < (s.size : Int)
  · go_wp2
    go_ret
    exact ⟨rfl, below_of_grown G1.out⟩
  have hd1 : decide ((1200 : Int) < (s.size : Int)) = false := decide_eq_false z1
  by_cases z2 : (100 : Int) < (nm.size : Int)
  · go_wp2
    go_ret
    exact ⟨rfl, below_of_grown G1.out⟩
  have hd2 : decide ((100 : Int) < (nm.size : Int)) = false := decide_eq_false z2
  cases ha : archOf s with
  | none =>
    have HP := Lib.hid (fun (W : World) (hW : Env A W) => aParse_no (w := W) hW HS.out ha)
    have HQ := Lib.hid (fun (W : World) => rParse_no (w := W) HS.out ha)
    have HF := Lib.hid (fun (W : World) (hW : Env A W) => aFind_no (w := W) hW HS.out (found_none (nm := nm) ha))
    have HI := Lib.hid (show ∀ W, Env A W → Calls Tryz.prog 16 #[.string s] W fun e w' => e = .returned (.bool false) ∧ W.grownBy w' none from fun W hW => by
      have := aIs s A W hW HS.out
      rw [ha] at this; exact this)
    clear ha
    go_wp2_with fail
    refine (HP.out _ (HE.out.grown G1.out)).mono ?_
    rintro e w2 ⟨rfl, g2⟩
    have G2 := Lib.hid (G1.out.trans g2)
    clear g2
    go_wp2_with fail
    refine (HQ.out _).mono ?_
    rintro e w3 ⟨v, rfl, g3⟩
    have G3 := Lib.hid (G2.out.trans g3)
    clear g3
    go_wp2_with fail
    refine (HF.out _ (HE.out.grown G3.out)).mono ?_
    rintro e w4 ⟨rfl, g4⟩
    have G4 := Lib.hid (G3.out.trans g4)
    clear g4
    have BX := Lib.hid (box_new w4 nilM)
    have G5 := Lib.hid (G4.out.trans (World.grownBy_alloc w4 (.cells #[.string nilM.n, .int .i64 nilM.t, .string nilM.c] 35) none))
    unfold valM
    go_wp2_with fail
    generalize (w4.alloc (.cells #[.string nilM.n, .int .i64 nilM.t, .string nilM.c] 35)) = w5 at *
    generalize w4.heap.size = p at *
    refine (HI.out _ (HE.out.grown G5.out)).mono ?_
    rintro e w6 ⟨rfl, g6⟩
    have G6 := Lib.hid (G5.out.trans g6)
    obtain ⟨c0, c1, c2, -, -, -⟩ := (BX.out.kept g6).cells
    have HN := Lib.hid (lNum A 3 (by decide) (by decide) w6 (HE.out.grown G6.out).err)
    have heq := fun W => eqlM nilM nilM W
    rw [eqMb_self] at heq
    have hgd := guardM
    unfold nilM at heq c0 c1 c2
    simp only at heq c0 c1 c2
    clear g6 G5 HI HF HP HQ
    go_wp2_with (go_at_call 11; refine (HN.out).mono ?_; rintro e w7 ⟨rfl, g7⟩; have G7 := Lib.hid (G6.out.trans g7); clear g7)
    go_ret
    exact ⟨rfl, below_of_grown G7.out⟩
  | some acc =>
    have AM := Lib.hid (archOf_get ha)
    obtain ⟨o, ho⟩ : ∃ o, foundM s nm = o := ⟨_, rfl⟩
    have FA := Lib.hid (show ∀ k m, acc[k]? = some m → (m.n.toList == nm.toList) = true → o = some m from fun k m h1 h2 => by rw [← ho]; exact found_at ha h1 h2)
    have FS := Lib.hid (show o.isSome = acc.any (nmB nm) by rw [← ho]; exact found_any ha)
    have HP := Lib.hid (fun (W : World) (hW : Env A W) => aParse_yes (w := W) hW HS.out ha)
    have HQ := Lib.hid (fun (W : World) => rParse_yes (w := W) HS.out ha)
    have HF := Lib.hid (fun (W : World) (hW : Env A W) => aFind' (w := W) hW HS.out ho)
    have HI := Lib.hid (show ∀ W, Env A W → Calls Tryz.prog 16 #[.string s] W fun e w' => e = .returned (.bool true) ∧ W.grownBy w' none from fun W hW => by
      have := aIs s A W hW HS.out
      rw [ha] at this; exact this)
    clear ha ho
    go_wp2_with fail
    refine (HP.out _ (HE.out.grown G1.out)).mono ?_
    rintro e w2 ⟨v1, rfl, o1, g2⟩
    have G2 := Lib.hid (G1.out.trans g2); have O1 := Lib.hid o1
    clear g2 o1
    go_wp2_with fail
    refine (HQ.out _).mono ?_
    rintro e w3 ⟨v2, rfl, o2, g3⟩
    have G3 := Lib.hid (G2.out.trans g3); have O1' := Lib.hid (O1.out.kept g3); have O2 := Lib.hid o2
    clear g3 o2 O1
    go_wp2_with fail
    refine (HF.out _ (HE.out.grown G3.out)).mono ?_
    rintro e w4 ⟨rfl, g4⟩
    have G4 := Lib.hid (G3.out.trans g4); have R1 := Lib.hid (O1'.out.kept g4).row; have R2 := Lib.hid (O2.out.kept g4).row
    clear g4
    obtain ⟨a1, c1, rfl, -, -⟩ := O1'.out.cap
    obtain ⟨a2, c2, rfl, -, -⟩ := O2.out.cap
    have hlen := O1'.out.len
    clear O1' O2
    generalize hmv : o.getD nilM = mv at *
    have MV := Lib.hid hmv
    clear hmv
    have BX := Lib.hid (box_new w4 mv)
    have GX := Lib.hid (World.grownBy_alloc w4 (.cells #[.string mv.n, .int .i64 mv.t, .string mv.c] 35) none)
    unfold valM
    go_wp2_with fail
    have R1' := Lib.hid (R1.out.grown GX.out); have R2' := Lib.hid (R2.out.grown GX.out); have G5 := Lib.hid (G4.out.trans GX.out)
    clear R1 R2 GX
    generalize (w4.alloc (.cells #[.string mv.n, .int .i64 mv.t, .string mv.c] 35)) = w5 at *
    generalize w4.heap.size = p at *
    refine (HI.out _ (HE.out.grown G5.out)).mono ?_
    rintro e w6 ⟨rfl, g6⟩
    have G6 := Lib.hid (G5.out.trans g6); have B6 := Lib.hid (BX.out.kept g6); have R16 := Lib.hid (R1'.out.grown g6); have R26 := Lib.hid (R2'.out.grown g6)
    clear g6 G5 BX R1' R2' HI HF HP HQ
    go_wp2
    go_loopw [11, 12, 13, 75] (fun q _ _ i wr => ∃ k : Nat, k ≤ acc.length ∧ i = .int .i64 k ∧ q = .bool ((acc.take k).any (nmB nm)) ∧ Hid (w6.grownBy wr none)) (fun _ _ _ i _ => acc.length - (intOf i).toNat)
    case atStart => exact ⟨0, Nat.zero_le _, rfl, rfl, Lib.hid (World.grownBy.refl _ _)⟩
    case round =>
      obtain ⟨k, hk, rfl, rfl, hG⟩ := hrel
      by_cases hlt : k < acc.length
      · obtain ⟨b, off, cc, m, e, hm, -, -, hb, c0, c1', c2'⟩ := (R16.out.grown hG.out).at k hlt
        cases e
        obtain ⟨b2, off2, cc2, m2, e, hm2, -, -, hb2, d0, d1, d2⟩ := (R26.out.grown (hG.out.trans (World.grownBy_alloc wr (.cells #[.string m.n, .int .i64 m.t, .string m.c] 35) none))).at k hlt
        cases e
        obtain rfl : m = m2 := by rw [hm] at hm2; exact Option.some.inj hm2
        have Hm := Lib.hid hm
        have AN := Lib.hid (any_next hm (nmB nm))
        have hi0 : (0 : Int) ≤ (k : Int) := Int.natCast_nonneg _
        have hi1 : (k : Int) < (acc.length : Int) := by omega
        have hnq := fun W => neqN m m W
        rw [eqMb_self] at hnq
        have hgd := guardN
        have GW := Lib.hid (hG.out.trans (World.grownBy_alloc wr (.cells #[.string m.n, .int .i64 m.t, .string m.c] 35) none))
        have BW := Lib.hid (box_new wr m)
        have hdec : decide ((acc.length : Int) ≤ (k : Int)) = false := decide_eq_false (by omega)
        have hdec2 : decide ((k : Int) < (acc.length : Int)) = true := decide_eq_true (by omega)
        have B9 := Lib.hid (B6.out.kept GW.out)
        rw [Bool.not_true] at hnq
        clear hm hm2 hb hb2 c0 c1' c2'
        obtain ⟨c0, c1', c2'⟩ : wr.cell? ⟨b, off + k * 3, none⟩ = some (.string m.n) ∧ wr.cell? ⟨b, off + k * 3 + 1, none⟩ = some (.int .i64 m.t) ∧ wr.cell? ⟨b, off + k * 3 + 2, none⟩ = some (.string m.c) := by
          obtain ⟨b', off', cc', m', e, hm', -, -, -, q0, q1, q2⟩ := (R16.out.grown hG.out).at k hlt
          cases e
          obtain rfl : m = m' := by rw [Hm.out] at hm'; exact Option.some.inj hm'
          exact ⟨q0, q1, q2⟩
        go_wp2
        generalize (wr.alloc (.cells #[.string m.n, .int .i64 m.t, .string m.c] 35)) = wx at *
        generalize wr.heap.size = px at *
        obtain ⟨x0, x1, x2, -, -, -⟩ := BW.out.cells
        obtain ⟨y0, y1, y2, -, -, -⟩ := B9.out.cells
        clear c0 c1' c2' hG
        go_quiet (fail)
        have GQ := Lib.hid (grown_drewN GW.out nq)
        cases hq : (m.n.toList == nm.toList)
        · have HA := Lib.hid (show (acc.take k).any (nmB nm) = (acc.take (k + 1)).any (nmB nm) by rw [AN.out, show nmB nm m = false from hq, Bool.or_false])
          clear AN
          go_wp2
          go_roundw
          case rel => exact ⟨k + 1, by omega, by go_num, by rw [HA.out], GQ⟩
          case measure => simp [intOf]; omega
        · have HA := Lib.hid (show true = (acc.take (k + 1)).any (nmB nm) by rw [AN.out, show nmB nm m = true from hq, Bool.or_true])
          have hmm : mv = m := by rw [← MV.out, FA.out k m Hm.out hq]; rfl
          subst hmm
          have hnq2 := fun W => neqM mv mv W
          rw [eqMb_self, Bool.not_true] at hnq2
          have hgd2 := guardM
          clear AN hnq hgd
          go_wp2
          go_roundw
          case rel => exact ⟨k + 1, by omega, by go_num, by rw [← HA.out], GQ⟩
          case measure => simp [intOf]; omega
      · obtain rfl : k = acc.length := by omega
        have HK := Lib.hid (show (acc.take acc.length).any (nmB nm) = o.isSome by rw [List.take_of_length_le (Nat.le_refl _), FS.out])
        have GF := Lib.hid (G6.out.trans hG.out)
        have HM := Lib.hid (aMake_yes _ acc A wr (R16.out.grown hG.out) (HE.out.grown GF.out) AM.out.1 AM.out.2)
        rw [HK.out]
        clear hG
        generalize o.isSome = ob at *
        go_wp2_with (go_at_call 8; refine (HM.out).mono ?_; rintro e w7 ⟨rfl, g7⟩; have G7 := Lib.hid (GF.out.trans g7); clear g7)
        go_ret
        exact ⟨rfl, below_of_grown G7.out⟩
end Go.Proofs.YtgicfbhhnohndaaGreatDoor.arParses
