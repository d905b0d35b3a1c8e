/- The walk of package lines' Split; what the laws are told of the package. -/
import Derived.Test.YtigjmaicolgalaaDoorLnAt
import Derived.Test.YtigjmaicolgalaaDoorLnWhere
import Derived.Test.YtigjmaicolgalaaDoorLaidLn
namespace Go.Proofs.YtigjmaicolgalaaDoor
open Go.RowKit

theorem infoLnP : (Tryd.prog.info? 33).map (fun i => (i.zero, i.size, i.bytes)) = some (some (.agg #[.string ⟨#[]⟩, .int .i64 0, .bool false]), 3, 32) := by kernel_rfl
/-- what Split reads: the two errors, and that the library's variable holds a number -/
def TwoM (A : Nat → Addr) (w : World) : Prop := TwoE A w ∧ MaxI w
theorem TwoM.grown {A : Nat → Addr} {w w' : World} (h : TwoM A w) (hg : w.grownBy w' none) : TwoM A w' := ⟨h.1.grown hg, h.2.grown hg⟩
theorem tot_drop : ∀ (r : List (List UInt8)) (n : Nat), totQ (r.drop n) ≤ totQ r
  | r, 0 => Nat.le_refl _
  | [], n + 1 => Nat.le_refl _
  | s :: r, n + 1 => by rw [List.drop_succ_cons, totQ_cons]; have := tot_drop r n; omega
theorem ln_nil (w : World) (base : Nat) (T : TypeId) : w.ownsRow base T 3 (.slice none 0 0) 0 (lnV []) := ⟨rfl, .inl ⟨rfl, rfl⟩⟩
set_option maxRecDepth 100000 in
set_option maxHeartbeats 4000000 in
theorem pSplitLn (A : Nat → Addr) (s : ByteArray) (w : World) (hE : TwoM A w) (hs : s.size ≤ 5000) : Calls Tryd.prog 8 #[.string s] w (PLns s.data.toList A w) := by
  have hlen : s.data.toList.length = s.size := by simp
  obtain ⟨iu, hiu, hu0, hu1, hu2⟩ := info_parts infoLnP
  have IU := Lib.hid hiu; have ZU0 := Lib.hid hu0; have ZU1 := Lib.hid hu1; have ZU2 := Lib.hid hu2
  clear hiu hu0 hu1 hu2
  have HE := Lib.hid hE
  by_cases hl : 4000 < s.size
  · have e1 : decide ((s.size : Int) > 4000) = true := by simp; omega
    have HS := Lib.hid (show spL s.data.toList = .error (2, 0) by unfold spL; rw [if_pos (by omega)])
    have H2 : w.cell? ⟨0, 0, none⟩ = some (.iface 141 (.pointer (some (A 2)))) := hE.1.long
    clear hl hlen hE
    go_enter Tryd.func8, Tryd.ntmps8
    go_wp2
    go_region
    go_wp2
    go_ret2
    refine ⟨grown_drew (World.grownBy_alloc _ _ _), ?_⟩
    rw [HS.out]
    exact ⟨none, 0, w.heap.size, rfl, heap_alloc_new w _⟩
  · have e1 : decide ((s.size : Int) > 4000) = false := by simp; omega
    have HZ := Lib.hid (show spL s.data.toList = spA 0 [] [] 0 (linQ s.data.toList) by unfold spL; rw [if_neg (by omega)])
    have HLL := Lib.hid (show (linQ s.data.toList).length ≤ 4000 by have := linQ_len s.data.toList; omega)
    have HLT := Lib.hid (show totQ (linQ s.data.toList) ≤ 5001 by have := linQ_tot s.data.toList; omega)
    have CP := Lib.hid (pPhysical s w hE.2 hs)
    clear hl hlen hE
    go_enter Tryd.func8, Tryd.ntmps8
    go_upto_region 3 with fail
    go_wp2_with fail
    refine CP.out.mono ?_
    rintro e w1 ⟨g1, v, P, rfl, hP, hPL⟩
    have G1 := Lib.hid g1
    have HP := Lib.hid hP
    have HPL := Lib.hid hPL
    obtain ⟨va, vc, rfl, -, -⟩ := hP
    have hPl : P.length ≤ 4000 := by have := HLL.out; rw [← hPL] at this; simpa using this
    rw [← hPL] at HZ HLT
    clear g1 hPL CP
    obtain ⟨base, hbase⟩ : ∃ base, base = w1.heap.size := ⟨_, rfl⟩
    have HBL := Lib.hid (show w1.heap.size = base from hbase.symm)
    have E1 := Lib.hid (HE.out.grown G1.out)
    clear hbase
    go_wp2
    go_loopw [5, 6] (fun out i wr => ∃ (k : Nat) (O : List Lb) (va2 : Option Addr) (vc2 : Nat), k ≤ P.length ∧ i = .int .i64 k ∧ out = .slice va2 O.length vc2 ∧ O.length ≤ k ∧ Hid (spL s.data.toList = spA 0 [] (lnQ O) k ((txL P).drop k)) ∧ Hid (totQ ((txL P).drop k) ≤ 5001) ∧ Hid (wr.ownsRow base 33 3 (.slice va2 O.length vc2) O.length (lnV O)) ∧ Hid (w1.grownBy wr none)) (fun _ i _ => P.length - (intOf i).toNat)
    case atStart => exact ⟨0, [], none, 0, Nat.zero_le _, rfl, rfl, Nat.le_refl _, Lib.hid (by have := HZ.out; simpa using this), Lib.hid (by have := HLT.out; simpa using this), Lib.hid (ln_nil _ _ _), Lib.hid (World.grownBy.refl _ _)⟩
    case round =>
      obtain ⟨k, O, va2, vc2, hk, rfl, rfl, hO, hF, hT, hR, hG⟩ := hrel
      by_cases hlt : k < P.length
      · have E2 := Lib.hid (E1.out.grown hG.out)
        have CL := Lib.hid (pLineAt A va vc P k wr (HP.out.grown hG.out) hlt hT.out E2.out.1.long E2.out.1.quote)
        go_wp2_with fail
        refine CL.out.mono ?_
        rintro e w3 ⟨g3, hout⟩
        have G3 := Lib.hid (hG.out.trans g3)
        have R3 := Lib.hid (own_keep hR.out g3)
        clear CL g3
        rcases hout with ⟨q, bad, line, rfl, hf, hs⟩ | ⟨x, n, rfl, hkn, hnl, hs⟩
        · have HF := Lib.hid hf
          have HS := Lib.hid (show spL s.data.toList = .error (bad, line) by rw [hF.out, hs])
          clear hf hs hF
          go_wp2
          go_ret2
          have g5 := World.grownBy_alloc w3 (.cells #[.string ⟨#[]⟩, .int .i64 0, .bool false] 33) none
          refine ⟨(G1.out.trans G3.out).trans g5, ?_⟩
          rw [HS.out]
          exact ⟨none, 0, q, rfl, HF.out.grown g5⟩
        · have HS := Lib.hid (show spL s.data.toList = spA 0 [] (lnQ (O ++ [x])) n ((txL P).drop n) by rw [hF.out, hs]; simp [lnQ])
          have hnP : n ≤ P.length := by rw [List.length_map] at hnl; exact hnl
          have HTN := Lib.hid (show totQ ((txL P).drop n) ≤ 5001 by
            have e : (txL P).drop n = ((txL P).drop k).drop (n - k) := by rw [List.drop_drop]; congr 1; omega
            rw [e]; exact Nat.le_trans (tot_drop _ _) hT.out)
          clear hs hF hT hnl
          go_upto_region 10 with fail
          have g4 := World.grownBy_alloc w3 (.cells #[.string x.t, .int .i64 x.n, .bool x.r] 33) none
          have B4 := Lib.hid (heap_alloc_new w3 (.cells #[.string x.t, .int .i64 x.n, .bool x.r] 33))
          have G4 := Lib.hid (G3.out.trans g4)
          have R4 := Lib.hid (own_keep R3.out g4)
          generalize w3.alloc _ = w4 at B4 G4 R4 ⊢
          clear g4 hR R3
          obtain ⟨c0, c1, c2⟩ := three_ln B4.out
          go_wp2_with (at_builtin; refine wpList_append_own _ rfl _ _ 23 rfl base 33 iu _ 3 32 Tryd.underlying23 IU.out ZU0.out ZU1.out ZU2.out rfl (by decide) _ _ _ rfl (R4.out.alloc _) ⟨_, 0, none⟩ 1 1 [.string x.t, .int .i64 x.n, .bool x.r] rfl rfl (ln_new _ x _ _ (by simp)) (ln_one x) (by unfold maxLen; omega) (by omega) (by have := G4.out.size; have := HBL.out; simp; omega) ?_; intro v9 w9 hown9 hgrow9 _; have G9 := Lib.hid ((G4.out.trans (World.grownBy_alloc _ _ _)).andThen hgrow9 (fun k hk => .inl (by have := (R4.out.lt k hk).1; have := HBL.out; omega))); have O9 := Lib.hid hown9; clear hown9 hgrow9)
          obtain ⟨va9, vc9, rfl⟩ := tx_shape O9.out
          have HL2 := Lib.hid (show (O ++ [x]).length = O.length + 1 by simp)
          have OA := Lib.hid (show w9.ownsRow base 33 3 (.slice va9 (O ++ [x]).length vc9) (O ++ [x]).length (lnV (O ++ [x])) by rw [HL2.out, lnV_snoc]; exact O9.out)
          go_wp2
          go_roundw
          case rel => exact ⟨n, O ++ [x], va9, vc9, hnP, by go_num, by rw [HL2.out], by rw [HL2.out]; omega, HS, HTN, OA, G9⟩
          case measure => simp [intOf]; omega
      · have HS := Lib.hid (show spL s.data.toList = .ok (lnQ O) by
          have e : (txL P).drop k = [] := List.drop_of_length_le (by rw [List.length_map]; omega)
          rw [hF.out, e]; rfl)
        go_wp2
        go_ret2
        refine ⟨G1.out.trans hG.out, ?_⟩
        rw [HS.out]
        exact ⟨_, O, rfl, ln_row hR.out rfl (by omega), rfl⟩
theorem lnProg (A : Nat → Addr) : LnC A (TwoM A) where
  gr := fun _ _ h hg => h.grown hg
  count := fun s w _ hs => (pCount s w hs).mono fun _ _ ⟨h1, h2⟩ => ⟨h1, h2 ▸ World.grownBy.refl _ _⟩
  comment := fun s w _ hs => pComment s w hs
  split := fun s w hE hs => pSplitLn A s w hE hs
end Go.Proofs.YtigjmaicolgalaaDoor
