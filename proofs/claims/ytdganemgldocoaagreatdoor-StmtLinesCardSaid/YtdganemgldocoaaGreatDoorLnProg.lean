/- The walk of the line that begins at a physical line; a line that is handed back out of its variable. The walk of package lines' Split; what the laws are told of the package. -/
import Derived.Test.YtdganemgldocoaaGreatDoorLnLog
import Derived.Test.YtdganemgldocoaaGreatDoorLnWhere
import Derived.Test.YtdganemgldocoaaGreatDoorLaidLn
namespace Go.Proofs.YtdganemgldocoaaGreatDoor
open Go.RowKit

theorem three_ln {w : World} {b : Nat} {v0 v1 v2 : Value} {t : TypeId} (h : w.heap[b]? = some (.cells #[v0, v1, v2] t (0, 0))) :
    w.cell? ⟨b, 0, none⟩ = some v0 ∧ w.cell? ⟨b, 1, none⟩ = some v1 ∧ w.cell? ⟨b, 2, none⟩ = some v2 := by
  refine ⟨?_, ?_, ?_⟩ <;> (unfold World.cell?; rw [h]; rfl)
theorem set_ln {w : World} {b : Nat} {a0 a1 a2 : Value} {t : TypeId} (h : w.heap[b]? = some (.cells #[a0, a1, a2] t (0, 0))) (v0 v1 v2 : Value) :
    (((w.setCell ⟨b, 0, none⟩ v0).setCell ⟨b, 1, none⟩ v1).setCell ⟨b, 2, none⟩ v2).heap[b]? = some (.cells #[v0, v1, v2] t (0, 0)) :=
  heap_setCell_same _ b 2 _ _ v2 (heap_setCell_same _ b 1 _ _ v1 (heap_setCell_same _ b 0 _ _ v0 h))
abbrev lnA (x : Lb) : Value := .agg #[.string x.t, .int .i64 x.n, .bool x.r]
theorem sizeLn : (Tryz.prog.info? 36).map (·.size) = some 3 := by kernel_rfl
theorem back_ln {fn : Func} {p q r : Tmp} {w : World} {g : Nat} {a0 a1 a2 u v : Value} {tmps : Array Value} (hf : fn.results = #[.cell p 36, .tmp q, .tmp r])
    (hp : tmps.getD p undef = .pointer (some ⟨g, 0, none⟩)) (hq : tmps.getD q undef = u) (hr : tmps.getD r undef = v) (hg : w.heap[g]? = some (.cells #[a0, a1, a2] 36 (0, 0))) :
    (results fn tmps).run Tryz.prog w = .ok (.tuple #[.agg #[a0, a1, a2], u, v]) w := by
  have hp' : tmps[p]?.getD undef = .pointer (some ⟨g, 0, none⟩) := by simpa using hp
  have hq' : tmps[q]?.getD undef = u := by simpa using hq
  have hr' : tmps[r]?.getD undef = v := by simpa using hr
  have hl := run_loadVar_row (P := Tryz.prog) w g 36 36 _ (0, 0) _ hg Tryz.underlying36 rfl sizeLn
  simp [results, hf, hp', hq', hr', asAddr, hl]
/-- what comes of the line that begins at place k -/
def PLat (A : Nat → Addr) (L : List (List UInt8)) (k : Nat) (w : World) (e : Ending) (w' : World) : Prop :=
  w.grownBy w' none ∧
  ((∃ q bad line : Nat, e = .returned (.tuple #[.agg #[.string ⟨#[]⟩, .int .i64 0, .bool false], .int .i64 0, fltV q]) ∧ FltAt w' q line (errV A bad) ∧ ∀ O, spA 0 [] O k (L.drop k) = .error (bad, line)) ∨
   (∃ (x : Lb) (n : Nat), e = .returned (.tuple #[lnA x, .int .i64 n, .nilIface]) ∧ k < n ∧ n ≤ L.length ∧ ∀ O, spA 0 [] O k (L.drop k) = spA 0 [] (O ++ [x.q]) n (L.drop n)))
theorem toList_tail {x : ByteArray} : (x.extract 1 x.size).data.toList = x.data.toList.tail := by
  rw [toList_cut, ← List.drop_one]
  congr 1
  rw [List.take_of_length_le]; simp
theorem rec_pos {x : ByteArray} (h : recQ x.data.toList = true) : 1 ≤ x.size := by
  rcases Nat.eq_zero_or_pos x.size with h0 | h0
  · rw [no_bytes h0] at h; cases h
  · exact h0
theorem grown_cell1 {w w1 : World} (h : w.grownBy w1 none) {b : Nat} (o : Nat) (v : Value) (hb : w.heap.size ≤ b) : w.grownBy (w1.setCell ⟨b, o, none⟩ v) none :=
  grown_of_below ((below_of_grown h).setCell hb v)
theorem flt_set1 {w : World} {g q : Nat} (hne : q ≠ g) {line : Int} {v : Value} (o : Nat) (u : Value) (h : FltAt w q line v) : FltAt (w.setCell ⟨g, o, none⟩ u) q line v := by
  unfold FltAt at h ⊢
  rw [Below.heap_setCell _ _ _ _ (fun e => hne (by first | exact e | exact e.symm))]; exact h
theorem flt_set {w : World} {g q : Nat} (hne : q ≠ g) {line : Int} {v : Value} (v0 v1 v2 : Value) (h : FltAt w q line v) : FltAt (((w.setCell ⟨g, 0, none⟩ v0).setCell ⟨g, 1, none⟩ v1).setCell ⟨g, 2, none⟩ v2) q line v :=
  flt_set1 hne _ _ (flt_set1 hne _ _ (flt_set1 hne _ _ h))
theorem flt_new3 (w : World) (g : Nat) (v0 v1 v2 : Value) (line : Int) (v : Value) : FltAt ((((w.setCell ⟨g, 0, none⟩ v0).setCell ⟨g, 1, none⟩ v1).setCell ⟨g, 2, none⟩ v2).alloc (.cells #[.int .i64 line, v] 67)) w.heap.size line v := by
  have h := heap_alloc_new (((w.setCell ⟨g, 0, none⟩ v0).setCell ⟨g, 1, none⟩ v1).setCell ⟨g, 2, none⟩ v2) (.cells #[.int .i64 line, v] 67)
  have e : (((w.setCell ⟨g, 0, none⟩ v0).setCell ⟨g, 1, none⟩ v1).setCell ⟨g, 2, none⟩ v2).heap.size = w.heap.size := by simp [World.setCell]
  rw [e] at h; exact h
set_option maxRecDepth 100000 in
set_option maxHeartbeats 4000000 in
theorem pLineAt (A : Nat → Addr) (va : Option Addr) (vc : Nat) (P : List ByteArray) (k : Nat) (w : World) (hP : TxRow w (.slice va P.length vc) P) (hk : k < P.length) (hT : totQ ((txL P).drop k) ≤ 5001)
    (hL : w.cell? ⟨0, 0, none⟩ = some (.iface 202 (.pointer (some (A 2)))))
    (hE : w.cell? ⟨5, 0, none⟩ = some (.iface 202 (.pointer (some (A 5))))) :
    Calls Tryz.prog 27 #[.slice va P.length vc, .int .i64 k] w (PLat A (txL P) k w) := by
  have HP := Lib.hid hP; have HT := Lib.hid hT; have HE := Lib.hid hE
  obtain ⟨x, hx⟩ := tx_get P k hk
  obtain ⟨a', c', ea, ⟨hPm, -⟩, hrow⟩ := hP
  injection ea with ea1 ea2 ea3
  subst ea1 ea3
  obtain ⟨rb, ro, rfl, hrb, hrc⟩ := hrow (by intro e; rw [e] at hk; simp at hk)
  have HX := Lib.hid (hrc k x hx)
  have HD := Lib.hid (tx_drop hx)
  have HLG := Lib.hid hL
  have B0 := Lib.hid (heap_alloc_new w (.cells #[.string ⟨#[]⟩, .int .i64 0, .bool false] 36))
  have G0 := Lib.hid (World.grownBy_alloc w (.cells #[.string ⟨#[]⟩, .int .i64 0, .bool false] 36) none)
  have hgr : 0 < w.heap.size := cell_block hL
  clear hrow hrc hx hL hE hT
  go_enter Tryz.func27, Tryz.ntmps27
  go_upto_region 1 with fail
  generalize w.alloc _ = w1 at B0 G0 ⊢
  obtain ⟨g, eg⟩ : ∃ g, w.heap.size = g := ⟨_, rfl⟩
  rw [eg] at B0 hgr hrb ⊢
  have HG := Lib.hid eg
  clear eg
  obtain ⟨c0, c1, c2⟩ := three_ln B0.out
  have fr := four_free B0.out
  go_upto_region 2 with fail
  have hgs : w.heap.size ≤ g := by have := HG.out; omega
  have B1 := Lib.hid (set_ln B0.out (.string ⟨#[]⟩) (.int .i64 ((k : Int) + 1)) (.bool false))
  have G1 := Lib.hid (grown_cell1 (grown_cell1 (grown_cell1 G0.out 0 (.string ⟨#[]⟩) hgs) 1 (.int .i64 ((k : Int) + 1)) hgs) 2 (.bool false) hgs)
  generalize ((w1.setCell _ _).setCell _ _).setCell _ _ = w2 at B1 G1 ⊢
  clear c0 c1 c2 fr B0 G0
  have CR := Lib.hid (fun w => pRecipe x w)
  have hcell : w2.cell? ⟨rb, ro + k, none⟩ = some (.string x) := G1.out.cell HX.out (by simp)
  cases hrec : recQ x.data.toList
  · rw [hrec] at CR
    have HB1 := Lib.hid (show ∀ O, spA 0 [] O k ((txL P).drop k) = spA (k + 1) [] O k ((txL P).drop k) from fun O => by rw [HD.out, spA_begin hrec])
    have CL := Lib.hid (pLogical A (some ⟨rb, ro, none⟩) vc P k w2 (HP.out.later (below_of_grown G1.out)) hk HT.out (G1.out.cell HE.out (by simp)))
    obtain ⟨c0, c1, c2⟩ := three_ln B1.out
    have fr := four_free B1.out
    clear hrec
    go_upto_region 4 with (go_at_call 49; (with_reducible refine (CR.out _).mono ?_); rintro e w3 ⟨rfl, rfl⟩)
    go_wp2_with fail
    refine CL.out.mono ?_
    rintro e w4 ⟨g4, hout⟩
    have B4 := Lib.hid (heap_grown g4 B1.out)
    have G4 := Lib.hid (G1.out.trans g4)
    clear c0 c1 c2 fr B1 G1 CL CR hcell g4
    obtain ⟨c0, c1, c2⟩ := three_ln B4.out
    have fr := four_free B4.out
    rcases hout with ⟨q, line, rfl, hf, hs⟩ | ⟨y, n, rfl, hkn, hnl, hys, hs⟩
    · have HF := Lib.hid hf; have HS := Lib.hid hs
      have hqg : q ≠ g := by
        rintro rfl
        have h1 := hf
        unfold FltAt at h1
        rw [B4.out] at h1
        simp at h1
      clear hf hs
      go_wp2
      have B5 := Lib.hid (show (w4.setCell ⟨g, 0, none⟩ (.string ⟨#[]⟩)).heap[g]? = some (.cells #[.string ⟨#[]⟩, .int .i64 ((k : Int) + 1), .bool false] 36 (0, 0)) from heap_setCell_same _ g 0 _ _ (.string ⟨#[]⟩) B4.out)
      refine bodyPost_ret (back_ln (a0 := .string ⟨#[]⟩) (a1 := .int .i64 0) (a2 := .bool false) Tryz.results27 rfl rfl rfl (set_ln B5.out _ _ _)) rfl ?_
      have g5 := grown_cell1 (grown_cell1 (grown_cell1 (grown_cell1 G4.out 0 (.string ⟨#[]⟩) hgs) 0 (.string ⟨#[]⟩) hgs) 1 (.int .i64 0) hgs) 2 (.bool false) hgs
      exact ⟨g5, .inl ⟨q, 5, line, rfl, flt_set hqg _ _ _ (flt_set1 hqg _ _ HF.out), fun O => by rw [HB1.out, HS.out]⟩⟩
    · have HN := Lib.hid (show ∀ O, spA 0 [] O k ((txL P).drop k) = if 400 < y.size then .error (2, k + 1) else spA 0 [] (O ++ [⟨y.data.toList, k + 1, false⟩]) n ((txL P).drop n) from fun O => by
        rw [HB1.out, hs]; simp)
      have hnP : n ≤ P.length := by rw [List.length_map] at hnl; exact hnl
      clear hs hnl
      go_upto_region 5 with fail
      have B3 := Lib.hid (show (w4.setCell ⟨g, 0, none⟩ (.string y)).heap[g]? = some (.cells #[.string y, .int .i64 ((k : Int) + 1), .bool false] 36 (0, 0)) from heap_setCell_same _ g 0 _ _ (.string y) B4.out)
      have G3 := Lib.hid (grown_cell1 G4.out 0 (.string y) hgs)
      generalize w4.setCell _ _ = w3 at B3 G3 ⊢
      clear c0 c1 c2 fr B4 G4
      have G4 := Lib.hid (G3.out)
      obtain ⟨c0, c1, c2⟩ := three_ln B3.out
      have fr := four_free B3.out
      by_cases hl : 400 < y.size
      · have e1 : decide ((y.size : Int) > 400) = true := by simp; omega
        have H2 : w3.cell? ⟨0, 0, none⟩ = some (.iface 202 (.pointer (some (A 2)))) := G4.out.cell HLG.out (by simp)
        have HN2 := Lib.hid (show ∀ O, spA 0 [] O k ((txL P).drop k) = .error (2, k + 1) from fun O => by rw [HN.out, if_pos hl])
        have hgr2 : ¬g = 0 := by omega
        have hgr3 : ¬0 = g := by omega
        have B5 := Lib.hid (heap_grown (World.grownBy_alloc w3 (.cells #[.int .i64 ((k : Int) + 1), .iface 202 (.pointer (some (A 2)))] 67) none) B3.out)
        obtain ⟨d0, d1, d2⟩ := three_ln B5.out
        have fd := four_free B5.out
        have hqg : w3.heap.size ≠ g := by have := (Array.getElem?_eq_some_iff.1 B3.out).1; omega
        have F1 := Lib.hid (flt_new3 w3 g (.string ⟨#[]⟩) (.int .i64 0) (.bool false) ((k : Int) + 1) (.iface 202 (.pointer (some (A 2)))))
        have F2 := Lib.hid (flt_set hqg (.string ⟨#[]⟩) (.int .i64 0) (.bool false) (show FltAt (w3.alloc (.cells #[.int .i64 ((k : Int) + 1), .iface 202 (.pointer (some (A 2)))] 67)) w3.heap.size ((k : Int) + 1) (.iface 202 (.pointer (some (A 2)))) from heap_alloc_new w3 _))
        have L1 := Lib.hid (heap_grown (World.grownBy_alloc _ (.cells #[.int .i64 ((k : Int) + 1), .iface 202 (.pointer (some (A 2)))] 67) none) (set_ln B3.out (.string ⟨#[]⟩) (.int .i64 0) (.bool false)))
        have L2 := Lib.hid (set_ln B5.out (.string ⟨#[]⟩) (.int .i64 0) (.bool false))
        have K1 := Lib.hid (grown_drew ((grown_cell1 (grown_cell1 (grown_cell1 G4.out 0 (.string ⟨#[]⟩) hgs) 1 (.int .i64 0) hgs) 2 (.bool false) hgs).trans (World.grownBy_alloc _ (.cells #[.int .i64 ((k : Int) + 1), .iface 202 (.pointer (some (A 2)))] 67) none)))
        have K2 := Lib.hid (grown_drew (grown_cell1 (grown_cell1 (grown_cell1 (G4.out.trans (World.grownBy_alloc w3 (.cells #[.int .i64 ((k : Int) + 1), .iface 202 (.pointer (some (A 2)))] 67) none)) 0 (.string ⟨#[]⟩) hgs) 1 (.int .i64 0) hgs) 2 (.bool false) hgs))
        clear hl HN
        go_wp2
        go_region
        all_goals
          go_wp2
          first
            | exact bodyPost_ret (back_ln (a0 := .string ⟨#[]⟩) (a1 := .int .i64 0) (a2 := .bool false) Tryz.results27 rfl rfl rfl L1.out) rfl ⟨K1.out, .inl ⟨w3.heap.size, 2, k + 1, rfl, F1.out, HN2.out⟩⟩
            | exact bodyPost_ret (back_ln (a0 := .string ⟨#[]⟩) (a1 := .int .i64 0) (a2 := .bool false) Tryz.results27 rfl rfl rfl L2.out) rfl ⟨K2.out, .inl ⟨w3.heap.size, 2, k + 1, rfl, F2.out, HN2.out⟩⟩
      · have e1 : decide ((y.size : Int) > 400) = false := by simp; omega
        have HN2 := Lib.hid (show ∀ O, spA 0 [] O k ((txL P).drop k) = spA 0 [] (O ++ [⟨y.data.toList, k + 1, false⟩]) n ((txL P).drop n) from fun O => by rw [HN.out, if_neg hl])
        clear hl HN
        go_wp2
        refine bodyPost_ret (back_ln (a0 := .string y) (a1 := .int .i64 ((k : Int) + 1)) (a2 := .bool false) Tryz.results27 rfl rfl rfl (set_ln B3.out _ _ _)) rfl ?_
        refine ⟨grown_cell1 (grown_cell1 (grown_cell1 G4.out 0 _ hgs) 1 _ hgs) 2 _ hgs, .inr ⟨⟨y, k + 1, false⟩, n, rfl, by omega, by rw [List.length_map]; omega, HN2.out⟩⟩
  · rw [hrec] at CR
    have hx1 := rec_pos hrec
    obtain ⟨y, hy⟩ : ∃ y, x.extract 1 x.size = y := ⟨_, rfl⟩
    have hyz : y.size = x.size - 1 := by rw [← hy]; simp
    have HN := Lib.hid (show ∀ O, spA 0 [] O k ((txL P).drop k) = if 400 < y.size then .error (2, k + 1) else spA 0 [] (O ++ [⟨y.data.toList, k + 1, true⟩]) (k + 1) ((txL P).drop (k + 1)) from fun O => by
      rw [HD.out, spA_recipe hrec, hyz, ← hy, toList_tail]; simp)
    have HY := Lib.hid hy
    obtain ⟨c0, c1, c2⟩ := three_ln B1.out
    have fr := four_free B1.out
    have hne : rb ≠ g := by have := hrb; omega
    clear hrec hy hyz
    go_upto_region 5 with (go_at_call 49; (with_reducible refine (CR.out _).mono ?_); rintro e w3 ⟨rfl, rfl⟩)
    rw [HY.out]
    have B3 := Lib.hid (show ((w3.setCell ⟨g, 0, none⟩ (.string y)).setCell ⟨g, 2, none⟩ (.bool true)).heap[g]? = some (.cells #[.string y, .int .i64 ((k : Int) + 1), .bool true] 36 (0, 0)) from heap_setCell_same _ g 2 _ _ (.bool true) (heap_setCell_same _ g 0 _ _ (.string y) B1.out))
    have G3 := Lib.hid (grown_cell1 (grown_cell1 G1.out 0 (.string y) hgs) 2 (.bool true) hgs)
    obtain ⟨wo, rfl⟩ : ∃ wo : World, wo = w3 := ⟨_, rfl⟩
    generalize (wo.setCell _ _).setCell _ _ = w3 at B3 G3 ⊢
    clear c0 c1 c2 fr B1 G1 CR hcell
    have G4 := Lib.hid (G3.out)
    obtain ⟨c0, c1, c2⟩ := three_ln B3.out
    have fr := four_free B3.out
    by_cases hl : 400 < y.size
    · have e1 : decide ((y.size : Int) > 400) = true := by simp; omega
      have H2 : w3.cell? ⟨0, 0, none⟩ = some (.iface 202 (.pointer (some (A 2)))) := G4.out.cell HLG.out (by simp)
      have HN2 := Lib.hid (show ∀ O, spA 0 [] O k ((txL P).drop k) = .error (2, k + 1) from fun O => by rw [HN.out, if_pos hl])
      have hgr2 : ¬g = 0 := by omega
      have hgr3 : ¬0 = g := by omega
      have B5 := Lib.hid (heap_grown (World.grownBy_alloc w3 (.cells #[.int .i64 ((k : Int) + 1), .iface 202 (.pointer (some (A 2)))] 67) none) B3.out)
      obtain ⟨d0, d1, d2⟩ := three_ln B5.out
      have fd := four_free B5.out
      have hqg : w3.heap.size ≠ g := by have := (Array.getElem?_eq_some_iff.1 B3.out).1; omega
      have F1 := Lib.hid (flt_new3 w3 g (.string ⟨#[]⟩) (.int .i64 0) (.bool false) ((k : Int) + 1) (.iface 202 (.pointer (some (A 2)))))
      have F2 := Lib.hid (flt_set hqg (.string ⟨#[]⟩) (.int .i64 0) (.bool false) (show FltAt (w3.alloc (.cells #[.int .i64 ((k : Int) + 1), .iface 202 (.pointer (some (A 2)))] 67)) w3.heap.size ((k : Int) + 1) (.iface 202 (.pointer (some (A 2)))) from heap_alloc_new w3 _))
      have L1 := Lib.hid (heap_grown (World.grownBy_alloc _ (.cells #[.int .i64 ((k : Int) + 1), .iface 202 (.pointer (some (A 2)))] 67) none) (set_ln B3.out (.string ⟨#[]⟩) (.int .i64 0) (.bool false)))
      have L2 := Lib.hid (set_ln B5.out (.string ⟨#[]⟩) (.int .i64 0) (.bool false))
      have K1 := Lib.hid (grown_drew ((grown_cell1 (grown_cell1 (grown_cell1 G4.out 0 (.string ⟨#[]⟩) hgs) 1 (.int .i64 0) hgs) 2 (.bool false) hgs).trans (World.grownBy_alloc _ (.cells #[.int .i64 ((k : Int) + 1), .iface 202 (.pointer (some (A 2)))] 67) none)))
      have K2 := Lib.hid (grown_drew (grown_cell1 (grown_cell1 (grown_cell1 (G4.out.trans (World.grownBy_alloc w3 (.cells #[.int .i64 ((k : Int) + 1), .iface 202 (.pointer (some (A 2)))] 67) none)) 0 (.string ⟨#[]⟩) hgs) 1 (.int .i64 0) hgs) 2 (.bool false) hgs))
      clear hl HN
      go_wp2
      go_region
      all_goals
        go_wp2
        first
          | exact bodyPost_ret (back_ln (a0 := .string ⟨#[]⟩) (a1 := .int .i64 0) (a2 := .bool false) Tryz.results27 rfl rfl rfl L1.out) rfl ⟨K1.out, .inl ⟨w3.heap.size, 2, k + 1, rfl, F1.out, HN2.out⟩⟩
          | exact bodyPost_ret (back_ln (a0 := .string ⟨#[]⟩) (a1 := .int .i64 0) (a2 := .bool false) Tryz.results27 rfl rfl rfl L2.out) rfl ⟨K2.out, .inl ⟨w3.heap.size, 2, k + 1, rfl, F2.out, HN2.out⟩⟩
    · have e1 : decide ((y.size : Int) > 400) = false := by simp; omega
      have HN2 := Lib.hid (show ∀ O, spA 0 [] O k ((txL P).drop k) = spA 0 [] (O ++ [⟨y.data.toList, k + 1, true⟩]) (k + 1) ((txL P).drop (k + 1)) from fun O => by rw [HN.out, if_neg hl])
      clear hl HN
      go_wp2
      refine bodyPost_ret (back_ln (a0 := .string y) (a1 := .int .i64 ((k : Int) + 1)) (a2 := .bool true) Tryz.results27 rfl rfl rfl (set_ln B3.out _ _ _)) rfl ?_
      refine ⟨grown_cell1 (grown_cell1 (grown_cell1 G4.out 0 _ hgs) 1 _ hgs) 2 _ hgs, .inr ⟨⟨y, k + 1, true⟩, (k + 1), rfl, by omega, by rw [List.length_map]; omega, HN2.out⟩⟩
end Go.Proofs.YtdganemgldocoaaGreatDoor

namespace Go.Proofs.YtdganemgldocoaaGreatDoor
open Go.RowKit

theorem infoLnP : (Tryz.prog.info? 36).map (fun i => (i.zero, i.size, i.bytes)) = some (some (.agg #[.string ⟨#[]⟩, .int .i64 0, .bool false]), 3, 32) := by kernel_rfl
/-- what Split reads: the two errors, and that the library's variable holds a number -/
def TwoM (A : Nat → Addr) (w : World) : Prop := TwoE A w ∧ MaxI w
theorem TwoM.grown {A : Nat → Addr} {w w' : World} (h : TwoM A w) (hg : w.grownBy w' none) : TwoM A w' := ⟨h.1.grown hg, h.2.grown hg⟩
theorem tot_drop : ∀ (r : List (List UInt8)) (n : Nat), totQ (r.drop n) ≤ totQ r
  | r, 0 => Nat.le_refl _
  | [], n + 1 => Nat.le_refl _
  | s :: r, n + 1 => by rw [List.drop_succ_cons, totQ_cons]; have := tot_drop r n; omega
theorem ln_nil (w : World) (base : Nat) (T : TypeId) : w.ownsRow base T 3 (.slice none 0 0) 0 (lnV []) := ⟨rfl, .inl ⟨rfl, rfl⟩⟩
set_option maxRecDepth 100000 in
set_option maxHeartbeats 4000000 in
theorem pSplitLn (A : Nat → Addr) (s : ByteArray) (w : World) (hE : TwoM A w) (hs : s.size ≤ 5000) : Calls Tryz.prog 14 #[.string s] w (PLns s.data.toList A w) := by
  have hlen : s.data.toList.length = s.size := by simp
  obtain ⟨iu, hiu, hu0, hu1, hu2⟩ := info_parts infoLnP
  have IU := Lib.hid hiu; have ZU0 := Lib.hid hu0; have ZU1 := Lib.hid hu1; have ZU2 := Lib.hid hu2
  clear hiu hu0 hu1 hu2
  have HE := Lib.hid hE
  by_cases hl : 4000 < s.size
  · have e1 : decide ((s.size : Int) > 4000) = true := by simp; omega
    have HS := Lib.hid (show spL s.data.toList = .error (2, 0) by unfold spL; rw [if_pos (by omega)])
    have H2 : w.cell? ⟨0, 0, none⟩ = some (.iface 202 (.pointer (some (A 2)))) := hE.1.long
    clear hl hlen hE
    go_enter Tryz.func14, Tryz.ntmps14
    go_wp2
    go_region
    go_wp2
    go_ret2
    refine ⟨grown_drew (World.grownBy_alloc _ _ _), ?_⟩
    rw [HS.out]
    exact ⟨none, 0, w.heap.size, rfl, heap_alloc_new w _⟩
  · have e1 : decide ((s.size : Int) > 4000) = false := by simp; omega
    have HZ := Lib.hid (show spL s.data.toList = spA 0 [] [] 0 (linQ s.data.toList) by unfold spL; rw [if_neg (by omega)])
    have HLL := Lib.hid (show (linQ s.data.toList).length ≤ 4000 by have := linQ_len s.data.toList; omega)
    have HLT := Lib.hid (show totQ (linQ s.data.toList) ≤ 5001 by have := linQ_tot s.data.toList; omega)
    have CP := Lib.hid (pPhysical s w hE.2 hs)
    clear hl hlen hE
    go_enter Tryz.func14, Tryz.ntmps14
    go_upto_region 3 with fail
    go_wp2_with fail
    refine CP.out.mono ?_
    rintro e w1 ⟨g1, v, P, rfl, hP, hPL⟩
    have G1 := Lib.hid g1
    have HP := Lib.hid hP
    have HPL := Lib.hid hPL
    obtain ⟨va, vc, rfl, -, -⟩ := hP
    have hPl : P.length ≤ 4000 := by have := HLL.out; rw [← hPL] at this; simpa using this
    rw [← hPL] at HZ HLT
    clear g1 hPL CP
    obtain ⟨base, hbase⟩ : ∃ base, base = w1.heap.size := ⟨_, rfl⟩
    have HBL := Lib.hid (show w1.heap.size = base from hbase.symm)
    have E1 := Lib.hid (HE.out.grown G1.out)
    clear hbase
    go_wp2
    go_loopw [5, 6] (fun out i wr => ∃ (k : Nat) (O : List Lb) (va2 : Option Addr) (vc2 : Nat), k ≤ P.length ∧ i = .int .i64 k ∧ out = .slice va2 O.length vc2 ∧ O.length ≤ k ∧ Hid (spL s.data.toList = spA 0 [] (lnQ O) k ((txL P).drop k)) ∧ Hid (totQ ((txL P).drop k) ≤ 5001) ∧ Hid (wr.ownsRow base 36 3 (.slice va2 O.length vc2) O.length (lnV O)) ∧ Hid (w1.grownBy wr none)) (fun _ i _ => P.length - (intOf i).toNat)
    case atStart => exact ⟨0, [], none, 0, Nat.zero_le _, rfl, rfl, Nat.le_refl _, Lib.hid (by have := HZ.out; simpa using this), Lib.hid (by have := HLT.out; simpa using this), Lib.hid (ln_nil _ _ _), Lib.hid (World.grownBy.refl _ _)⟩
    case round =>
      obtain ⟨k, O, va2, vc2, hk, rfl, rfl, hO, hF, hT, hR, hG⟩ := hrel
      by_cases hlt : k < P.length
      · have E2 := Lib.hid (E1.out.grown hG.out)
        have CL := Lib.hid (pLineAt A va vc P k wr (HP.out.grown hG.out) hlt hT.out E2.out.1.long E2.out.1.quote)
        go_wp2_with fail
        refine CL.out.mono ?_
        rintro e w3 ⟨g3, hout⟩
        have G3 := Lib.hid (hG.out.trans g3)
        have R3 := Lib.hid (own_keep hR.out g3)
        clear CL g3
        rcases hout with ⟨q, bad, line, rfl, hf, hs⟩ | ⟨x, n, rfl, hkn, hnl, hs⟩
        · have HF := Lib.hid hf
          have HS := Lib.hid (show spL s.data.toList = .error (bad, line) by rw [hF.out, hs])
          clear hf hs hF
          go_wp2
          go_ret2
          have g5 := World.grownBy_alloc w3 (.cells #[.string ⟨#[]⟩, .int .i64 0, .bool false] 36) none
          refine ⟨(G1.out.trans G3.out).trans g5, ?_⟩
          rw [HS.out]
          exact ⟨none, 0, q, rfl, HF.out.grown g5⟩
        · have HS := Lib.hid (show spL s.data.toList = spA 0 [] (lnQ (O ++ [x])) n ((txL P).drop n) by rw [hF.out, hs]; simp [lnQ])
          have hnP : n ≤ P.length := by rw [List.length_map] at hnl; exact hnl
          have HTN := Lib.hid (show totQ ((txL P).drop n) ≤ 5001 by
            have e : (txL P).drop n = ((txL P).drop k).drop (n - k) := by rw [List.drop_drop]; congr 1; omega
            rw [e]; exact Nat.le_trans (tot_drop _ _) hT.out)
          clear hs hF hT hnl
          go_upto_region 10 with fail
          have g4 := World.grownBy_alloc w3 (.cells #[.string x.t, .int .i64 x.n, .bool x.r] 36) none
          have B4 := Lib.hid (heap_alloc_new w3 (.cells #[.string x.t, .int .i64 x.n, .bool x.r] 36))
          have G4 := Lib.hid (G3.out.trans g4)
          have R4 := Lib.hid (own_keep R3.out g4)
          generalize w3.alloc _ = w4 at B4 G4 R4 ⊢
          clear g4 hR R3
          obtain ⟨c0, c1, c2⟩ := three_ln B4.out
          go_wp2_with (at_builtin; refine wpList_append_own _ rfl _ _ 33 rfl base 36 iu _ 3 32 Tryz.underlying33 IU.out ZU0.out ZU1.out ZU2.out rfl (by decide) _ _ _ rfl (R4.out.alloc _) ⟨_, 0, none⟩ 1 1 [.string x.t, .int .i64 x.n, .bool x.r] rfl rfl (ln_new _ x _ _ (by simp)) (ln_one x) (by unfold maxLen; omega) (by omega) (by have := G4.out.size; have := HBL.out; simp; omega) ?_; intro v9 w9 hown9 hgrow9 _; have G9 := Lib.hid ((G4.out.trans (World.grownBy_alloc _ _ _)).andThen hgrow9 (fun k hk => .inl (by have := (R4.out.lt k hk).1; have := HBL.out; omega))); have O9 := Lib.hid hown9; clear hown9 hgrow9)
          obtain ⟨va9, vc9, rfl⟩ := tx_shape O9.out
          have HL2 := Lib.hid (show (O ++ [x]).length = O.length + 1 by simp)
          have OA := Lib.hid (show w9.ownsRow base 36 3 (.slice va9 (O ++ [x]).length vc9) (O ++ [x]).length (lnV (O ++ [x])) by rw [HL2.out, lnV_snoc]; exact O9.out)
          go_wp2
          go_roundw
          case rel => exact ⟨n, O ++ [x], va9, vc9, hnP, by go_num, by rw [HL2.out], by rw [HL2.out]; omega, HS, HTN, OA, G9⟩
          case measure => simp [intOf]; omega
      · have HS := Lib.hid (show spL s.data.toList = .ok (lnQ O) by
          have e : (txL P).drop k = [] := List.drop_of_length_le (by rw [List.length_map]; omega)
          rw [hF.out, e]; rfl)
        go_wp2
        go_ret2
        refine ⟨G1.out.trans hG.out, ?_⟩
        rw [HS.out]
        exact ⟨_, O, rfl, ln_row hR.out rfl (by omega), rfl⟩
end Go.Proofs.YtdganemgldocoaaGreatDoor
