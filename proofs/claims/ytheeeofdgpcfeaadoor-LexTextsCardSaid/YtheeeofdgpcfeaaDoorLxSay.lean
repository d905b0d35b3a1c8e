/- Walks of package lex: a piece's text, a word's text, what a word says. -/
import Derived.Test.YtheeeofdgpcfeaaDoorLxPc
import Derived.Test.YtheeeofdgpcfeaaDoorLxQd
import Derived.Test.YtheeeofdgpcfeaaDoorLxOut
import Derived.Test.YtheeeofdgpcfeaaDoorQtBld
namespace Go.Proofs.YtheeeofdgpcfeaaDoor
open Go.RowKit

def smPb (x : Pb) : Prop := x.t.size ≤ 1200 ∧ x.f.size ≤ 1200 ∧ x.o.size ≤ 1200
theorem two_le (l : List UInt8) : (twoQ l).length ≤ 2 * l.length := by
  unfold twoQ
  induction l with
  | nil => simp
  | cons b l ih =>
    rw [List.flatMap_cons, List.length_append]
    split
    · simp only [List.length_cons, List.length_nil]; omega
    · simp only [List.length_cons, List.length_nil]; omega
set_option maxRecDepth 100000 in
set_option maxHeartbeats 4000000 in
theorem xPieceText {M : World → Prop} (L : LbX M) (x : Pb) (w : World) (hM : M w) (hx : smPb x) :
    Calls Tryd.prog 17 #[pcA x] w fun e w' => (∃ t : ByteArray, e = .returned (.string t) ∧ t.data.toList = txP x.q ∧ t.size ≤ 5000) ∧ w.grownBy w' none := by
  obtain ⟨x1, x2, x3⟩ := hx
  have HM := Lib.hid hM
  clear hM
  have g4 := World.grownBy_alloc w (.cells #[.int .i64 x.k, .string x.t, .string x.f, .string x.o] 27) none
  have B4 := Lib.hid (heap_alloc_new w (.cells #[.int .i64 x.k, .string x.t, .string x.f, .string x.o] 27))
  have G4 := Lib.hid g4
  obtain ⟨t, ht, htl, htz⟩ := un_text (twoQ x.t.data.toList)
  have htz2 : t.size ≤ 2400 := by
    have := two_le x.t.data.toList
    have h2 : x.t.data.toList.length = x.t.size := by simp
    omega
  have CR := Lib.hid (show ∀ W, w.grownBy W none → Calls Tryd.prog 23 #[.string x.t, .string ⟨#[39]⟩, .string ⟨#[39, 39]⟩] W fun e w' => e = .returned (.string t) ∧ W.grownBy w' none from fun W hg => by
    have := L.twice x.t W (L.gr _ _ HM.out hg) (by omega); rwa [ht] at this)
  have HT := Lib.hid htl
  have TA := Lib.hid (fun a b => toList_app a b)
  clear g4 ht htl htz
  go_enter Tryd.func17, Tryd.ntmps17
  go_upto_region 1 with fail
  generalize w.alloc _ = w4 at B4 G4 ⊢
  obtain ⟨c0, c1, c2, c3⟩ := four_px B4.out
  have l1 : (⟨#[36, 123]⟩ : ByteArray).size = 2 := rfl
  have l2 : (⟨#[96, 123]⟩ : ByteArray).size = 2 := rfl
  have l3 : (⟨#[125]⟩ : ByteArray).size = 1 := rfl
  have l4 : (⟨#[58]⟩ : ByteArray).size = 1 := rfl
  have l5 : (⟨#[61]⟩ : ByteArray).size = 1 := rfl
  have l6 : (⟨#[39]⟩ : ByteArray).size = 1 := rfl
  by_cases hk : x.k = 0
  · have e0 : (x.k == 0) = true := by rw [hk]; rfl
    have HN := Lib.hid (show x.t.data.toList = txP x.q by unfold txP Pb.q; simp [hk])
    clear hk
    go_wp2
    go_ret
    exact ⟨⟨_, rfl, HN.out, by omega⟩, G4.out⟩
  have e0 : (x.k == 0) = false := by simpa using hk
  by_cases hk1 : x.k = 1
  · have e1 : (x.k == 1) = true := by rw [hk1]; rfl
    have HN := Lib.hid (show (⟨#[39]⟩ ++ t ++ ⟨#[39]⟩ : ByteArray).data.toList = txP x.q by
      rw [TA.out, TA.out, HT.out]; unfold txP Pb.q; simp [hk1])
    clear hk hk1
    go_wp2_with (go_at_call 23; (with_reducible refine (CR.out _ G4.out).mono ?_); rintro e w5 ⟨rfl, g5⟩; have G5 := Lib.hid (G4.out.trans g5); clear g5)
    go_ret
    exact ⟨⟨_, rfl, HN.out, by simp only [ByteArray.size_append]; omega⟩, G5.out⟩
  have e1 : (x.k == 1) = false := by simpa using hk1
  by_cases hk2 : x.k = 2
  · have e2 : (x.k == 2) = true := by rw [hk2]; rfl
    have HN := Lib.hid (show (⟨#[36, 123]⟩ ++ x.t ++ ⟨#[125]⟩ : ByteArray).data.toList = txP x.q by
      rw [TA.out, TA.out]; unfold txP Pb.q; simp [hk2])
    clear hk hk1 hk2
    go_wp2
    go_ret
    exact ⟨⟨_, rfl, HN.out, by simp only [ByteArray.size_append]; omega⟩, G4.out⟩
  have e2 : (x.k == 2) = false := by simpa using hk2
  by_cases hk3 : x.k = 3
  · have e3 : (x.k == 3) = true := by rw [hk3]; rfl
    have HN := Lib.hid (show (⟨#[36, 123]⟩ ++ x.t ++ ⟨#[58]⟩ ++ x.f ++ ⟨#[61]⟩ ++ x.o ++ ⟨#[125]⟩ : ByteArray).data.toList = txP x.q by
      rw [TA.out, TA.out, TA.out, TA.out, TA.out, TA.out]; unfold txP Pb.q; simp [hk3])
    clear hk hk1 hk2 hk3
    go_wp2
    go_ret
    exact ⟨⟨_, rfl, HN.out, by simp only [ByteArray.size_append]; omega⟩, G4.out⟩
  have e3 : (x.k == 3) = false := by simpa using hk3
  by_cases hk4 : x.k = 4
  · have e4 : (x.k == 4) = true := by rw [hk4]; rfl
    have HN := Lib.hid (show (⟨#[96, 123]⟩ ++ x.t ++ ⟨#[125]⟩ : ByteArray).data.toList = txP x.q by
      rw [TA.out, TA.out]; unfold txP Pb.q; simp [hk4])
    clear hk hk1 hk2 hk3 hk4
    go_wp2
    go_ret
    exact ⟨⟨_, rfl, HN.out, by simp only [ByteArray.size_append]; omega⟩, G4.out⟩
  have e4 : (x.k == 4) = false := by simpa using hk4
  have HN := Lib.hid (show ([] : List UInt8) = txP x.q by unfold txP Pb.q; simp [hk, hk1, hk2, hk3, hk4])
  clear hk hk1 hk2 hk3 hk4
  go_wp2
  go_ret
  exact ⟨⟨⟨#[]⟩, rfl, HN.out, Nat.zero_le _⟩, G4.out⟩

theorem pc_snoc {l : List Pb} {j : Nat} {x : Pb} (h : l[j]? = some x) : pcL (l.take (j + 1)) = pcL (l.take j) ++ [x.q] := by rw [List.take_add_one, h, pcL, List.map_append]; rfl
theorem txW_take_le (l : List Pb) (j : Nat) : (txW (pcL (l.take j))).length ≤ (txW (pcL l)).length := by
  have e : pcL l = pcL (l.take j) ++ pcL (l.drop j) := by rw [pcL, pcL, pcL, ← List.map_append, List.take_append_drop]
  rw [e]; unfold txW; rw [List.flatMap_append, List.length_append]; omega
set_option maxRecDepth 100000 in
set_option maxHeartbeats 4000000 in
theorem xText {M : World → Prop} (L : LbX M) (v : Value) (l : List Pb) (w : World) (hM : M w) (hR : PRow w v l) (hs : ∀ x ∈ l, smPb x) (hT : (txW (pcL l)).length ≤ 5000) :
    Calls Tryd.prog 8 #[v] w (PTxw l w) := by
  obtain ⟨va, vc, rfl, hm⟩ := hR.shape
  have HR := Lib.hid hR; have HS := Lib.hid hs; have HM := Lib.hid hM; have HT := Lib.hid hT
  have BD := Lib.hid (Lib.fresh_isBuilder 46 5 w)
  have BL := Lib.hid ((Below.refl w.heap.size w).alloc (Nat.le_refl _) (.cells #[.pointer none, .slice none 0 0] 46))
  clear hR hs hM hT
  go_enter Tryd.func8, Tryd.ntmps8
  go_wp2
  generalize w.alloc (.cells #[.pointer none, .slice none 0 0] 46) = wb at *
  obtain ⟨b, hb⟩ : ∃ b, w.heap.size = b := ⟨_, rfl⟩
  rw [hb] at BD BL ⊢
  have HB := Lib.hid hb
  clear hb
  go_loopw [8] (fun i wr => ∃ j : Nat, j ≤ l.length ∧ i = .int .i64 j ∧ Hid (BldQ b (txW (pcL (l.take j))) wr) ∧ Hid (Below b w wr)) (fun i _ => l.length - (intOf i).toNat)
  case atStart => exact ⟨0, Nat.zero_le _, rfl, BD, BL⟩
  case round =>
    obtain ⟨j, hj, rfl, hBD, hBL⟩ := hrel
    have GR := Lib.hid (show w.grownBy wr none from grown_of_below (by rw [HB.out]; exact hBL.out))
    have hbs : b ≤ wr.heap.size := by have := hBL.out.size; have := HB.out; omega
    by_cases hlt : j < l.length
    · obtain ⟨pb, off, c, x, ev, hx, hpb, c0, c1, c2, c3⟩ := (HR.out.grown GR.out).at j hlt
      injection ev with ev1 ev2 ev3
      subst ev1 ev3
      have HSX := HS.out x (List.mem_of_getElem? hx)
      have g4 := World.grownBy_alloc wr (.cells #[.int .i64 x.k, .string x.t, .string x.f, .string x.o] 27) none
      have B4 := Lib.hid (heap_alloc_new wr (.cells #[.int .i64 x.k, .string x.t, .string x.f, .string x.o] 27))
      have G4 := Lib.hid g4
      have HX := Lib.hid hx
      have HTL := Lib.hid (show (txW (pcL (l.take (j + 1)))).length ≤ 5000 from Nat.le_trans (txW_take_le l (j + 1)) HT.out)
      clear hx hpb g4
      go_upto_region 5 with fail
      generalize wr.alloc _ = w4 at B4 G4 ⊢
      obtain ⟨d0, d1, d2, d3⟩ := four_px B4.out
      clear c0 c1 c2 c3
      have CP := Lib.hid (xPieceText L x w4 (L.gr _ _ HM.out (GR.out.trans G4.out)) HSX)
      go_wp2_with fail
      refine CP.out.mono ?_
      rintro e w5 ⟨⟨t, rfl, ht, htz⟩, g5⟩
      have G5 := Lib.hid (G4.out.trans g5)
      have HW := Lib.hid (show txW (pcL (l.take j)) ++ t.data.toList = txW (pcL (l.take (j + 1))) by rw [pc_snoc HX.out, txW_snoc, ht])
      have CT := Lib.hid (show Calls Tryd.prog 15 #[.pointer (some ⟨b, 0, none⟩), .string t] w5 fun e w' => e = .returned (.tuple #[.int .i64 t.size, .nilIface]) ∧ BldQ b (txW (pcL (l.take (j + 1)))) w' ∧ Below b w w' by
        have h2 : t.data.toList.length = t.size := by simp
        have h3 := congrArg List.length HW.out
        rw [List.length_append, h2] at h3
        have := HTL.out
        refine (bText b (txW (pcL (l.take j))) t w5 (hBD.out.kept G5.out) (by omega) (by have := G5.out.size; omega)).mono fun e w' ⟨h1, h2, h3⟩ => ⟨h1, by rw [← HW.out]; exact h2, ?_⟩
        exact (hBL.out.trans ((below_of_grown G5.out).mono hbs)).trans h3)
      clear CP g5 ht htz
      go_wp2_with (go_at_call 15; (with_reducible refine CT.out.mono ?_); rintro e w6 ⟨rfl, b6, l6⟩; have B6 := Lib.hid b6; have L6 := Lib.hid l6; clear b6 l6)
      go_roundw
      case rel => exact ⟨j + 1, hlt, by go_num, B6, L6⟩
      case measure => simp [intOf]; omega
    · obtain rfl : j = l.length := by omega
      obtain ⟨t, ht, hl, -⟩ := un_text (txW (pcL l))
      have CS := Lib.hid (show Calls Tryd.prog 16 #[.pointer (some ⟨b, 0, none⟩)] wr fun e w' => e = .returned (.string t) ∧ w.grownBy w' none by
        have h9 := hBD.out
        rw [List.take_length] at h9
        refine (bSaid b _ wr h9 hbs).mono fun e w' ⟨h1, h2⟩ => ⟨by rw [h1, ht], ?_⟩
        exact grown_of_below (by rw [HB.out]; exact hBL.out.trans h2))
      have HL := Lib.hid hl
      clear ht hl
      go_wp2_with (go_at_call 16; (with_reducible refine CS.out.mono ?_); rintro e w6 ⟨rfl, g6⟩; have G6 := Lib.hid g6; clear g6)
      go_ret
      exact ⟨⟨t, rfl, HL.out⟩, G6.out⟩

def sayQ (w : List Pq) : List UInt8 := w.flatMap (·.t)
set_option maxRecDepth 100000 in
set_option maxHeartbeats 4000000 in
theorem xLiteral (v : Value) (l : List Pb) (w : World) (hR : PRow w v l) (h12 : l.length ≤ 12) (hs : ∀ x ∈ l, Shp x) :
    Calls Tryd.prog 7 #[v] w (PLit l w) := by
  obtain ⟨va, vc, rfl, hm⟩ := hR.shape
  have HR := Lib.hid hR; have HS := Lib.hid hs
  have BD := Lib.hid (Lib.fresh_isBuilder 46 5 w)
  have BL := Lib.hid ((Below.refl w.heap.size w).alloc (Nat.le_refl _) (.cells #[.pointer none, .slice none 0 0] 46))
  clear hR hs
  go_enter Tryd.func7, Tryd.ntmps7
  go_wp2
  generalize w.alloc (.cells #[.pointer none, .slice none 0 0] 46) = wb at *
  obtain ⟨b, hb⟩ : ∃ b, w.heap.size = b := ⟨_, rfl⟩
  rw [hb] at BD BL ⊢
  have HB := Lib.hid hb
  clear hb
  go_loopw [9] (fun i wr => ∃ j : Nat, j ≤ l.length ∧ i = .int .i64 j ∧ Hid ((pcL (l.take j)).all litB = true ∧ (sayQ (pcL (l.take j))).length ≤ 100 * j) ∧ Hid (BldQ b (sayQ (pcL (l.take j))) wr) ∧ Hid (Below b w wr)) (fun i _ => l.length - (intOf i).toNat)
  case atStart => exact ⟨0, Nat.zero_le _, rfl, Lib.hid ⟨rfl, Nat.le_refl _⟩, BD, BL⟩
  case round =>
    obtain ⟨j, hj, rfl, hA, hBD, hBL⟩ := hrel
    have GR := Lib.hid (show w.grownBy wr none from grown_of_below (by rw [HB.out]; exact hBL.out))
    have hbs : b ≤ wr.heap.size := by have := hBL.out.size; have := HB.out; omega
    by_cases hlt : j < l.length
    · obtain ⟨pb, off, c, x, ev, hx, hpb, c0, c1, c2, c3⟩ := (HR.out.grown GR.out).at j hlt
      injection ev with ev1 ev2 ev3
      subst ev1 ev3
      have HSX := HS.out x (List.mem_of_getElem? hx)
      have g4 := World.grownBy_alloc wr (.cells #[.int .i64 x.k, .string x.t, .string x.f, .string x.o] 27) none
      have B4 := Lib.hid (heap_alloc_new wr (.cells #[.int .i64 x.k, .string x.t, .string x.f, .string x.o] 27))
      have G4 := Lib.hid g4
      have HX := Lib.hid hx
      clear hx hpb g4
      go_upto_region 5 with fail
      generalize wr.alloc _ = w4 at B4 G4 ⊢
      obtain ⟨d0, d1, d2, d3⟩ := four_px B4.out
      clear c0 c1 c2 c3
      have key : (x.k = 0 ∨ x.k = 1) → Hid ((pcL (l.take (j + 1))).all litB = true ∧ (sayQ (pcL (l.take (j + 1)))).length ≤ 100 * (j + 1)) ∧ Hid (Calls Tryd.prog 15 #[.pointer (some ⟨b, 0, none⟩), .string x.t] w4 fun e w' => e = .returned (.tuple #[.int .i64 x.t.size, .nilIface]) ∧ BldQ b (sayQ (pcL (l.take (j + 1)))) w' ∧ Below b w w') := fun hk => by
        have hW : sayQ (pcL (l.take (j + 1))) = sayQ (pcL (l.take j)) ++ x.t.data.toList := by rw [pc_snoc HX.out]; unfold sayQ; rw [List.flatMap_append]; simp [Pb.q]
        have h2 : x.t.data.toList.length = x.t.size := by simp
        have h3 := HSX.1
        have h4 := hA.out.2
        refine ⟨Lib.hid ⟨?_, by rw [hW, List.length_append, h2]; omega⟩, Lib.hid ?_⟩
        · rw [pc_snoc HX.out, List.all_append, hA.out.1]
          unfold litB Pb.q
          rcases hk with h | h <;> simp [h]
        · rw [hW]
          refine (bText b (sayQ (pcL (l.take j))) x.t w4 (hBD.out.kept G4.out) (by omega) (by have := G4.out.size; omega)).mono fun e w' ⟨h1, h2, h3⟩ => ⟨h1, h2, ?_⟩
          exact (hBL.out.trans ((below_of_grown G4.out).mono hbs)).trans h3
      by_cases hk : x.k = 0
      · obtain ⟨HA, CT⟩ := key (.inl hk)
        have e0 : (x.k != 0) = false := by rw [hk]; rfl
        clear hk key
        go_wp2_with (go_at_call 15; (with_reducible refine CT.out.mono ?_); rintro e w6 ⟨rfl, b6, l6⟩; have B6 := Lib.hid b6; have L6 := Lib.hid l6; clear b6 l6)
        go_roundw
        case rel => exact ⟨j + 1, hlt, by go_num, HA, B6, L6⟩
        case measure => simp [intOf]; omega
      have e0 : (x.k != 0) = true := by simpa using hk
      by_cases hk1 : x.k = 1
      · obtain ⟨HA, CT⟩ := key (.inr hk1)
        have e1 : (x.k != 1) = false := by rw [hk1]; rfl
        clear hk hk1 key
        go_wp2_with (go_at_call 15; (with_reducible refine CT.out.mono ?_); rintro e w6 ⟨rfl, b6, l6⟩; have B6 := Lib.hid b6; have L6 := Lib.hid l6; clear b6 l6)
        go_roundw
        case rel => exact ⟨j + 1, hlt, by go_num, HA, B6, L6⟩
        case measure => simp [intOf]; omega
      have e1 : (x.k != 1) = true := by simpa using hk1
      have HN := Lib.hid (show (pcL l).all litB = false by
        rw [List.all_eq_false]
        refine ⟨x.q, List.mem_map.2 ⟨x, List.mem_of_getElem? HX.out, rfl⟩, ?_⟩
        unfold litB Pb.q; simp [hk, hk1])
      clear hk hk1 key
      go_wp2
      go_ret2
      refine ⟨⟨⟨#[]⟩, by rw [HN.out]; rfl, by unfold litQ; rw [HN.out]; rfl⟩, GR.out.trans G4.out⟩
    · obtain rfl : j = l.length := by omega
      have HN := Lib.hid (show (pcL l).all litB = true by have := hA.out.1; rwa [List.take_length] at this)
      obtain ⟨t, ht, hl, -⟩ := un_text (sayQ (pcL l))
      have CS := Lib.hid (show Calls Tryd.prog 16 #[.pointer (some ⟨b, 0, none⟩)] wr fun e w' => e = .returned (.string t) ∧ w.grownBy w' none by
        have h9 := hBD.out
        rw [List.take_length] at h9
        refine (bSaid b _ wr h9 hbs).mono fun e w' ⟨h1, h2⟩ => ⟨by rw [h1, ht], ?_⟩
        exact grown_of_below (by rw [HB.out]; exact hBL.out.trans h2))
      have HL := Lib.hid hl
      clear ht hl
      go_wp2_with (go_at_call 16; (with_reducible refine CS.out.mono ?_); rintro e w6 ⟨rfl, g6⟩; have G6 := Lib.hid g6; clear g6)
      go_ret2
      refine ⟨⟨t, by rw [HN.out]; rfl, by rw [HL.out]; unfold litQ; rw [HN.out]; rfl⟩, G6.out⟩
end Go.Proofs.YtheeeofdgpcfeaaDoor
