/- The archive of all members is the document's, and is parsed as they were. No condition on the members. -/
import Derived.Test.YtgicfbhhnohndaaGreatDoorArW
import Derived.Test.YtgicfbhhnohndaaGreatDoorArT
namespace Go.Proofs.YtgicfbhhnohndaaGreatDoor
open Go.RowKit

theorem infoMemberR2 : (Tryz.prog.info? 45).map (fun i => (i.zero, i.size, i.bytes)) = some (some (.agg #[.string ByteArray.empty, .int .i64 0, .string ByteArray.empty]), 3, 40) := by kernel_rfl
theorem own_newR2 (w : World) (base : Nat) (hb : base ≤ w.heap.size) : OwnM (w.alloc (.cells #[] 45)) base 45 (.slice (some ⟨w.heap.size, 0, none⟩) 0 0) [] :=
  ⟨⟨rfl, .inr ⟨w.heap.size, 0, #[], rfl, hb, heap_alloc_new w _, Nat.le_refl _, Nat.zero_le _, rfl, rfl⟩⟩, by simp⟩

set_option maxRecDepth 100000 in
set_option maxHeartbeats 1000000 in
theorem lOfA (v : Value) (l : List Mb) (w : World) (h : MRow w v l) (hl : l.length ≤ 30) :
    Calls Tryz.prog 10 #[v] w fun e w' => ∃ v', e = .returned v' ∧ OwnM w' w.heap.size 45 v' l ∧ w.grownBy w' none := by
  have HR := Lib.hid h
  obtain ⟨i0, hi, hz0, hz1, hz2⟩ := info_parts infoMemberR2
  have I := Lib.hid hi; have Z0 := Lib.hid hz0; have Z1 := Lib.hid hz1; have Z2 := Lib.hid hz2
  clear hi hz0 hz1 hz2
  obtain ⟨a, c, rfl, hn, HS, -⟩ := h
  have SIZES := Lib.hid HS
  have ST := Lib.hid (own_newR2 w w.heap.size (Nat.le_refl _))
  have GST := Lib.hid (World.grownBy_alloc w (.cells #[] 45) none)
  clear HS
  go_enter Tryz.func10, Tryz.ntmps10
  go_wp2
  generalize (w.alloc (.cells #[] 45)) = w1 at *
  go_loopw [3, 5, 9] (fun out _ i wr => ∃ k : Nat, k ≤ l.length ∧ i = .int .i64 k ∧ Hid (OwnM wr w.heap.size 45 out (l.take k)) ∧ Hid (w.grownBy wr none)) (fun _ _ i _ => l.length - (intOf i).toNat)
  case atStart => exact ⟨0, Nat.zero_le _, rfl, ST, GST⟩
  case round =>
    obtain ⟨k, hk, rfl, hrow, hG⟩ := hrel
    by_cases hlt : k < l.length
    · obtain ⟨b, off, c', m, e, hm, sn, sc, hb, c0, c1, c2⟩ := (HR.out.grown hG.out).at k hlt
      cases e
      have HT := Lib.hid (take_snocM hm)
      have MS := Lib.hid (show m.n.size ≤ maxLen ∧ m.c.size ≤ maxLen from ⟨sn, sc⟩)
      have HB := Lib.hid hG.out.size
      have LT := Lib.hid (show (l.take k).length ≤ 30 by rw [List.length_take]; omega)
      have LT' : (l.take k).length ≤ 30 := LT.out
      clear hm sn sc
      go_wp2_with (at_builtin; refine wpList_append_own _ rfl _ _ 31 rfl w.heap.size 45 i0 _ 3 40 Tryz.underlying31 I.out Z0.out Z1.out Z2.out rfl (by decide) _ _ _ rfl ((hrow.out.1.alloc _).alloc _) ⟨_, 0, none⟩ 1 1 [.string m.n, .int .i64 m.t, .string m.c] rfl rfl (newsAtM _ m _ _ (by simp)) (oneM m) (by unfold maxLen; omega) (by omega) (by have := HB.out; simp; omega) ?_; intro v' w2 hown' hgrow2 hnil2; have O3 := Lib.hid (OwnM.snoc hrow.out.2 MS.out.1 MS.out.2 hown' rfl rfl); have G3 := Lib.hid (((hG.out.trans (World.grownBy_alloc wr (.cells #[.string m.n, .int .i64 m.t, .string m.c] 35) none)).trans (World.grownBy_alloc _ (.cells #[.string m.n, .int .i64 m.t, .string m.c] 45) none)).andThen hgrow2 (fun j e => .inl (hrow.out.1.lt j e).1)); clear hown' hgrow2 hnil2)
      go_roundw
      case rel => exact ⟨k + 1, by omega, by go_num, Lib.hid (by rw [HT.out]; exact O3.out), G3⟩
      case measure => simp [intOf]; omega
    · obtain rfl : k = l.length := by omega
      have hrow' := hrow.out
      rw [List.take_of_length_le (Nat.le_refl _)] at hrow'
      have HROW := Lib.hid hrow'
      clear hrow' hrow
      go_wp2
      go_ret
      exact ⟨_, rfl, HROW.out, hG.out⟩

/-- what comes of both Makes -/
theorem aMakeV (v : Value) (l : List Mb) (A : Nat → Addr) (hs : sumM l ≤ 10000000) :
    ∃ x : ByteArray, (makeE l = 0 → x.data.toList = makeL l) ∧
      (∀ W, MRow W v l → Env A W → Calls Tryz.prog 8 #[v] W fun e w' => e = .returned (.tuple #[.string x, errV A (makeE l)]) ∧ W.grownBy w' none) ∧
      (∀ W base v', OwnM W base 45 v' l → (∀ m ∈ l, m.c.size ≤ 100000) → Calls Tryz.prog 9 #[v'] W fun e w' => e = .returned (.tuple #[.string x, .int .i64 (makeE l)]) ∧ W.grownBy w' none) := by
  by_cases hk : makeE l = 0
  · obtain ⟨x, hx, -⟩ := some_ba (makeL l)
    refine ⟨x, fun _ => hx, fun W hW hE => ?_, fun W base v' hO hc => (rMake v' l base W hO hc).mono fun e w' hp => ?_⟩
    · rw [hk, errV_zero]; exact aMake_yes v l A W hW hE hk hx
    · obtain ⟨y, rfl, h, hg⟩ := hp
      rcases h with ⟨h, -⟩ | ⟨-, h⟩
      · exact absurd hk h
      · obtain rfl : y = x := ba_ext (h.trans hx.symm)
        exact ⟨rfl, hg⟩
  · refine ⟨⟨#[]⟩, fun h => absurd h hk, fun W hW hE => ?_, fun W base v' hO hc => (rMake v' l base W hO hc).mono fun e w' hp => ?_⟩
    · rw [errV_ne hk]; exact aMake_no v l A W hW hE hs hk
    · obtain ⟨y, rfl, h, hg⟩ := hp
      rcases h with ⟨-, rfl⟩ | ⟨h, -⟩
      · exact ⟨rfl, hg⟩
      · exact absurd h hk
end Go.Proofs.YtgicfbhhnohndaaGreatDoor
namespace Go.Proofs.YtgicfbhhnohndaaGreatDoor.arMakes
open Go.RowKit

set_option maxRecDepth 100000 in
set_option maxHeartbeats 4000000 in
theorem walk (v : Value) (l : List Mb) (A : Nat → Addr) (w : World) (hR : MRow w v l) (hE : Env A w) :
    Calls Tryz.prog 3 #[v] w fun e w' => e = .returned (.bool true) ∧ Below w.heap.size w w' := by
  have HE := Lib.hid hE
  have HR := Lib.hid hR
  obtain ⟨a, c, rfl, hn, -, -⟩ := hR
  clear hE
  have HLG := Lib.hid (show ∀ W, MRow W (.slice a l.length c) l → Calls Tryz.prog 7 #[.slice a l.length c, .int .i64 30] W fun e w' => e = .returned (.bool (longM 30 l)) ∧ W.grownBy w' none from fun W hW => lLongA _ l 30 W hW)
  go_enter Tryz.func3, Tryz.ntmps3
  go_wp2_with fail
  refine (lAliveA A w HE.out).mono ?_
  rintro e w1 ⟨rfl, g1⟩
  have G1 := Lib.hid g1
  clear g1
  go_wp2_with fail
  refine (HLG.out _ (HR.out.grown G1.out)).mono ?_
  rintro e w2 ⟨rfl, g2⟩
  have G2 := Lib.hid (G1.out.trans g2)
  clear g2 HLG G1
  cases hL : longM 30 l
  case true =>
    go_wp2
    go_ret
    exact ⟨rfl, below_of_grown G2.out⟩
  have SH := Lib.hid (longM_short hL)
  have hl30 : l.length ≤ 30 := SH.out.1
  have HC := Lib.hid (show ∀ m ∈ l, m.c.size ≤ 100000 from fun m hm => by have := (SH.out.2 m hm).2; omega)
  obtain ⟨x, hx, hM, hMR⟩ := aMakeV (.slice a l.length c) l A (by have := sumM_bound hl30 (fun m hm => (SH.out.2 m hm).2); omega)
  have HX := Lib.hid hx; have HM := Lib.hid hM; have HMR := Lib.hid hMR
  have hk18 := makeE_le l
  clear hx hM hMR hL
  obtain ⟨k, hk⟩ : ∃ k, makeE l = k := ⟨_, rfl⟩
  have HK := Lib.hid hk
  rw [hk] at HM HMR hk18
  clear hk
  go_wp2_with fail
  refine (HM.out _ (HR.out.grown G2.out) (HE.out.grown G2.out)).mono ?_
  rintro e w3 ⟨rfl, g3⟩
  have G3 := Lib.hid (G2.out.trans g3)
  clear g3 G2 HM
  go_wp2_with fail
  refine (lOfA _ l _ (HR.out.grown G3.out) hl30).mono ?_
  rintro e w4 ⟨v4, rfl, o4, g4⟩
  have G4 := Lib.hid (G3.out.trans g4); have O4 := Lib.hid o4
  clear g4 G3 o4
  go_wp2_with fail
  refine (HMR.out _ _ _ O4.out HC.out).mono ?_
  rintro e w5 ⟨rfl, g5⟩
  have G5 := Lib.hid (G4.out.trans g5)
  clear g5 G4 HMR O4
  generalize hev : errV A k = ev
  have HN := Lib.hid (show ∀ W, Env A W → Calls Tryz.prog 11 #[ev] W fun e w' => e = .returned (.int .i64 k) ∧ W.grownBy w' none from fun W hW => by rw [← hev]; exact lNumV A k hk18 W hW.err)
  clear hev
  go_wp2_with fail
  refine (HN.out _ (HE.out.grown G5.out)).mono ?_
  rintro e w6 ⟨rfl, g6⟩
  have G6 := Lib.hid (G5.out.trans g6)
  clear g6 G5 HN
  have AR := Lib.hid (show k = 0 → archOf x = some l from fun h => archOf_some ⟨HK.out.trans h, HX.out (HK.out.trans h)⟩)
  clear HX HC HK
  go_wp2
  go_loopw [8, 38] (fun _ i wr => ∃ j : Nat, j ≤ l.length ∧ i = .int .i64 j ∧ Hid (w.grownBy wr none)) (fun _ i _ => l.length - (intOf i).toNat)
  case atStart => exact ⟨0, Nat.zero_le _, rfl, G6⟩
  case round =>
    obtain ⟨j, hj, rfl, hG⟩ := hrel
    by_cases hlt : j < l.length
    · obtain ⟨b, off, c', m, e, hm, sn, sc, hb, c0, c1, c2⟩ := (HR.out.grown hG.out).at j hlt
      cases e
      have MS := (SH.out.2 m (List.mem_of_getElem? hm)).2
      have BX := Lib.hid (box_new wr m)
      have GX := Lib.hid (hG.out.trans (World.grownBy_alloc wr (.cells #[.string m.n, .int .i64 m.t, .string m.c] 35) none))
      clear hm sn sc
      go_wp2
      generalize (wr.alloc (.cells #[.string m.n, .int .i64 m.t, .string m.c] 35)) = wx at *
      generalize wr.heap.size = p at *
      clear c0 c1 c2 hb hG
      have k0 : ∀ u : Gr wx, u.W.cell? ⟨p, 0, none⟩ = some (.string m.n) := fun u => (BX.out.kept u.g).cells.1
      have k1 : ∀ u : Gr wx, u.W.cell? ⟨p, 1, none⟩ = some (.int .i64 m.t) := fun u => (BX.out.kept u.g).cells.2.1
      have k2 : ∀ u : Gr wx, u.W.cell? ⟨p, 2, none⟩ = some (.string m.c) := fun u => (BX.out.kept u.g).cells.2.2.1
      have hcs : ∀ u : Gr wx, Calls Tryz.prog 12 #[.agg #[.string m.n, .int .i64 m.t, .string m.c]] u.W fun e w' => e = .returned (.int .i64 (60 + (m.c.size : Int) + (m.c.size : Int) % 2)) ∧ u.W.grownBy w' none := fun u => by
        have := aSize m u.W (by omega)
        have e : ((sizeM m : Nat) : Int) = 60 + (m.c.size : Int) + (m.c.size : Int) % 2 := by unfold sizeM; omega
        rw [e] at this; exact this
      have HCS := Lib.hid hcs
      have inst : Nonempty (Gr wx) := ⟨⟨_, World.grownBy.refl _ _⟩⟩
      clear hcs
      refine wp_region_grows (by kernel_rfl) (by kernel_rfl) ?_
      repeat (go_big_quiet_step (first | (go_at_call 12; (with_reducible refine (HCS.out _).mono ?_); rintro e w9 ⟨he, g9⟩; exact ⟨he, ⟨_, (Gr.g _).trans g9⟩, rfl⟩)))
      refine wpQuiet_nil ?_
      rintro w9 ⟨⟨_, g9⟩, rfl⟩
      have G9 := Lib.hid (GX.out.trans g9)
      clear g9 HCS inst k0 k1 k2
      go_wp2
      go_roundw
      case rel => exact ⟨j + 1, by omega, by go_num, G9⟩
      case measure => simp [intOf]; omega
    · obtain rfl : j = l.length := by omega
      by_cases hk0 : k = 0
      case neg =>
        have hz : ((k : Int) == 0) = false := by rw [beq_eq_false_iff_ne]; omega
        go_wp2
        go_ret
        exact ⟨rfl, below_of_grown hG.out⟩
      subst hk0
      have GS := hG
      clear hG G6
      go_wp2_with fail
      refine (aParse_yes (HE.out.grown GS.out) (by have := arch_len (archOf_get (AR.out trivial)); unfold maxLen; omega) (AR.out trivial)).mono ?_
      rintro e w7 ⟨v1, rfl, o7, g7⟩
      have G7 := Lib.hid (GS.out.trans g7); have R7 := Lib.hid o7.row
      obtain ⟨a1, c1, rfl, -, -⟩ := o7.cap
      clear o7 g7 GS
      go_wp2
      go_loopw [10, 11, 73] (fun _ _ i wr => ∃ j : Nat, j ≤ l.length ∧ i = .int .i64 j ∧ Hid (w7.grownBy wr none)) (fun _ _ i _ => l.length - (intOf i).toNat)
      case atStart => exact ⟨0, Nat.zero_le _, rfl, Lib.hid (World.grownBy.refl _ _)⟩
      case round =>
        obtain ⟨j, hj, rfl, hG⟩ := hrel
        have GA := Lib.hid (G7.out.trans hG.out)
        by_cases hlt : j < l.length
        · obtain ⟨b, off, cc, m, e, hm, -, -, hb, c0, c1', c2'⟩ := (HR.out.grown GA.out).at j hlt
          cases e
          have GW := Lib.hid (hG.out.trans (World.grownBy_alloc wr (.cells #[.string m.n, .int .i64 m.t, .string m.c] 35) none))
          obtain ⟨b2, off2, cc2, m2, e, hm2, -, -, hb2, d0, d1, d2⟩ := (R7.out.grown GW.out).at j hlt
          cases e
          obtain rfl : m = m2 := by rw [hm] at hm2; exact Option.some.inj hm2
          have hi0 : (0 : Int) ≤ (j : Int) := Int.natCast_nonneg _
          have hi1 : (j : Int) < (l.length : Int) := by omega
          have hnq := fun W => neqM m m W
          rw [eqMb_self, Bool.not_true] at hnq
          have hgd := guardM
          have BW := Lib.hid (box_new wr m)
          have hdec : decide ((l.length : Int) ≤ (j : Int)) = false := decide_eq_false (by omega)
          have hdec2 : decide ((j : Int) < (l.length : Int)) = true := decide_eq_true (by omega)
          clear hm hm2 hb2
          go_wp2
          generalize (wr.alloc (.cells #[.string m.n, .int .i64 m.t, .string m.c] 35)) = wx at *
          generalize wr.heap.size = px at *
          obtain ⟨x0, x1, x2, -, -, -⟩ := BW.out.cells
          clear c0 c1' c2' hG hb
          go_quiet (fail)
          have GQ := Lib.hid (grown_drewN GW.out nq)
          go_wp2
          go_roundw
          case rel => exact ⟨j + 1, by omega, by go_num, GQ⟩
          case measure => simp [intOf]; omega
        · go_wp2
          go_ret
          exact ⟨rfl, below_of_grown GA.out⟩
end Go.Proofs.YtgicfbhhnohndaaGreatDoor.arMakes
