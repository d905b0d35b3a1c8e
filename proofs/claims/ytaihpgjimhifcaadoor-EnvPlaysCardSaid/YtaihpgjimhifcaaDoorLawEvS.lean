/- The chapter's example of layer 14; the law EnvStays, walked. -/
import Derived.Test.YtaihpgjimhifcaaDoorEvOut
namespace Go.Proofs.YtaihpgjimhifcaaDoor
open Go.RowKit

theorem isB_iff {s : ByteArray} {x : Vb} : isB s x = true ↔ x.n = s := by unfold isB; simp
theorem find_filter_name {l : List Vb} {s : ByteArray} {q : Vb → Bool} {c : Bool} (h : ∀ x : Vb, x.n = s → q x = c) : (l.filter q).find? (isB s) = if c then l.find? (isB s) else none := by
  induction l with
  | nil => cases c <;> rfl
  | cons a l ih =>
    by_cases ha : a.n = s
    · have hq := h a ha
      have hi : isB s a = true := isB_iff.2 ha
      cases c
      · rw [List.filter_cons_of_neg (by simp [hq]), ih]; rfl
      · rw [List.filter_cons_of_pos hq, List.find?_cons_of_pos hi, if_pos rfl, List.find?_cons_of_pos hi]
    · have hi : ¬isB s a = true := fun e => ha (isB_iff.1 e)
      by_cases hq : q a = true
      · rw [List.filter_cons_of_pos hq, List.find?_cons_of_neg hi, List.find?_cons_of_neg hi]; exact ih
      · rw [List.filter_cons_of_neg hq, List.find?_cons_of_neg hi]; exact ih
theorem find_set {l : List Vb} {v : Vb} {s : ByteArray} (hne : v.n ≠ s) : (setB l v).find? (isB s) = l.find? (isB s) := by
  have hv : ¬isB s v = true := fun e => hne (isB_iff.1 e)
  unfold setB
  rw [List.find?_append, List.find?_cons_of_neg hv,
    find_filter_name (c := Go.Op.bytesLess s.toList v.n.toList) (fun x hx => by rw [hx]),
    find_filter_name (c := !(Go.Op.bytesLess s.toList v.n.toList || s.toList == v.n.toList)) (fun x hx => by rw [hx])]
  rw [str_ne (fun e => hne e.symm)]
  cases Go.Op.bytesLess s.toList v.n.toList <;> simp
/-- who has a greater level stays -/
theorem put_stays {l : List Vb} {x y : Vb} {s : ByteArray} (h : l.find? (isB s) = some y) (hx : x.lv < y.lv ∨ x.n ≠ s) : (putB l x).2.find? (isB s) = some y := by
  unfold putB
  split
  · exact h
  · split
    · rename_i z hz
      split
      · exact h
      · rename_i hlv
        by_cases hn : x.n = s
        · rw [hn, h] at hz
          cases hz
          rcases hx with hx | hx
          · exact (hlv hx).elim
          · exact (hx hn).elim
        · simp only; rw [find_set hn]; exact h
    · rename_i hz
      split
      · exact h
      · have hn : x.n ≠ s := by rintro rfl; rw [h] at hz; cases hz
        simp only; rw [find_set hn]; exact h
theorem put_new {x : Vb} (hc : chkV x = 0) : putB [] x = (0, [x]) := by
  unfold putB
  rw [if_neg (by rw [hc]; simp)]
  rfl
theorem one_text (w : World) (t : ByteArray) (F : Nat → Prop) (T : TypeId) (hF : ∀ b, F b → b < w.heap.size) : TxG (w.alloc (.cells #[.string t] T)) (fun b => ¬F b) (.slice (some ⟨w.heap.size, 0, none⟩) 1 1) [t] := by
  refine ⟨⟨_, 1, rfl, ⟨by simp, fun e => by cases e⟩, fun _ => ⟨w.heap.size, 0, rfl, by simp, fun j x hj => ?_⟩⟩, fun _ b hb => ?_⟩
  · match j, hj with
    | 0, hj =>
      obtain rfl : t = x := by simpa using hj
      have h := heap_alloc_new w (.cells #[.string t] T)
      unfold World.cell?; rw [h]; rfl
    | j + 1, hj => simp at hj
  · have : w.heap.size = b := by simpa [Value.ownBlock] using hb
    subst this
    exact ⟨fun h => Nat.lt_irrefl _ (hF _ h), by simp⟩
set_option maxRecDepth 100000 in
set_option maxHeartbeats 4000000 in
theorem lAliveV {A : Nat → Addr} {E : World → Prop} {I : World → Nat → (Nat → Prop) → List Vb → Prop} (C : EvC A E I) (w : World) (hE : E w) : Calls Tryd.prog 5 #[] w fun e w' => e = .returned (.bool true) ∧ w.grownBy w' none := by
  have HC := Lib.hid C; have HE := Lib.hid hE
  clear C hE
  go_enter Tryd.func5, Tryd.ntmps5
  go_wp2_with fail
  refine (HC.out.new w HE.out).mono ?_
  rintro e w1 ⟨g1, p, F, rfl, hI, hF⟩
  have G1 := Lib.hid g1
  have T2 := Lib.hid (one_text w1 ⟨#[97]⟩ F 9 (HC.out.lt _ _ _ _ hI))
  have g2 := World.grownBy_alloc w1 (.cells #[.string ⟨#[97]⟩] 9) none
  have I2 := Lib.hid (HC.out.keep _ _ _ _ _ hI (KeepG.grown g2))
  have G2 := Lib.hid (G1.out.trans g2)
  have HF := Lib.hid hF
  have hv : chkV (⟨⟨#[120]⟩, [⟨#[97]⟩], 2, false⟩ : Vb) = 0 := by decide
  have CS := Lib.hid (HC.out.set _ p F [] ⟨⟨#[120]⟩, [⟨#[97]⟩], 2, false, .slice (some ⟨w1.heap.size, 0, none⟩) 1 1⟩ (HC.out.gr _ _ HE.out G2.out) I2.out T2.out (show 1 ≤ 100 by decide) (show 1 ≤ 100 by decide))
  rw [show putB [] (⟨⟨#[120]⟩, [⟨#[97]⟩], 2, false, .slice (some ⟨w1.heap.size, 0, none⟩) 1 1⟩ : Vz).b = (0, [⟨⟨#[120]⟩, [⟨#[97]⟩], 2, false⟩]) from put_new hv] at CS
  clear g1 hI hF g2 hv T2 I2
  go_wp2_with fail
  refine CS.out.mono ?_
  rintro e w3 ⟨rfl, o3, F3, i3, f3⟩
  have G3 := Lib.hid (o3.grown G2.out HF.out)
  have HF3 := Lib.hid (show ∀ b, F3 b → w.heap.size ≤ b from fun b hb => by
    rcases f3 b hb with h | h
    · exact HF.out b h
    · have := G2.out.size; omega)
  have T4 := Lib.hid (one_text w3 ⟨#[98]⟩ F3 9 (HC.out.lt _ _ _ _ i3))
  have g4 := World.grownBy_alloc w3 (.cells #[.string ⟨#[98]⟩] 9) none
  have I4 := Lib.hid (HC.out.keep _ _ _ _ _ i3 (KeepG.grown g4))
  have G4 := Lib.hid (G3.out.trans g4)
  have CS2 := Lib.hid (HC.out.set _ p F3 _ ⟨⟨#[120]⟩, [⟨#[98]⟩], 1, false, .slice (some ⟨w3.heap.size, 0, none⟩) 1 1⟩ (HC.out.gr _ _ HE.out G4.out) I4.out T4.out (show 1 ≤ 100 by decide) (show 1 ≤ 100 by decide))
  have hp : putB [(⟨⟨#[120]⟩, [⟨#[97]⟩], 2, false⟩ : Vb)] (⟨⟨#[120]⟩, [⟨#[98]⟩], 1, false, .slice (some ⟨w3.heap.size, 0, none⟩) 1 1⟩ : Vz).b = (0, [⟨⟨#[120]⟩, [⟨#[97]⟩], 2, false⟩]) := by
    have hv2 : chkV (⟨⟨#[120]⟩, [⟨#[98]⟩], 1, false⟩ : Vb) = 0 := by decide
    have hf : [(⟨⟨#[120]⟩, [⟨#[97]⟩], 2, false⟩ : Vb)].find? (isB ⟨#[120]⟩) = some ⟨⟨#[120]⟩, [⟨#[97]⟩], 2, false⟩ := by rfl
    unfold putB
    rw [if_neg (by rw [show (⟨⟨#[120]⟩, [⟨#[98]⟩], 1, false, .slice (some ⟨w3.heap.size, 0, none⟩) 1 1⟩ : Vz).b = ⟨⟨#[120]⟩, [⟨#[98]⟩], 1, false⟩ from rfl, hv2]; simp)]
    rw [show (⟨⟨#[120]⟩, [⟨#[98]⟩], 1, false, .slice (some ⟨w3.heap.size, 0, none⟩) 1 1⟩ : Vz).b.n = ⟨#[120]⟩ from rfl, hf]
    rfl
  rw [hp] at CS2
  clear o3 i3 f3 CS hp g4 T4 I4
  rw [errV_zero]
  go_wp2_with fail
  refine CS2.out.mono ?_
  rintro e w5 ⟨rfl, o5, F5, i5, f5⟩
  rw [errV_zero]
  have G5 := Lib.hid (o5.grown G4.out HF3.out)
  have CG := Lib.hid (HC.out.get _ p F5 _ ⟨#[120]⟩ (HC.out.gr _ _ HE.out G5.out) i5 (by decide))
  rw [show ((([(⟨⟨#[120]⟩, [⟨#[97]⟩], 2, false⟩ : Vb)].find? (isB ⟨#[120]⟩)).map Vb.ws).getD []) = [⟨#[97]⟩] by rfl] at CG
  clear CS2 o5 i5 f5
  go_wp2_with fail
  refine CG.out.mono ?_
  rintro e w6 ⟨g6, u, rfl, a, c, rfl, -, hr⟩
  obtain ⟨b, off, rfl, hb, hc⟩ := hr (by simp)
  have c0 := hc 0 ⟨#[97]⟩ rfl
  have G6 := Lib.hid (G5.out.trans g6)
  have c1 : w6.cell? ⟨b, off, none⟩ = some (.string ⟨#[97]⟩) := c0
  clear hr hc g6 CG c0
  go_wp2
  go_ret
  exact ⟨rfl, G6.out⟩
theorem one_act (w : World) (x : Vz) (T : TypeId) (ht : TxRow w x.u x.ws) (hb : x.ws ≠ [] → ∀ b, x.u.ownBlock = some b → b < w.heap.size) : ARow (w.alloc (.cells #[.int .i64 0, .string x.n, x.u, .int .i64 x.lv, .bool x.hd] T)) (.slice (some ⟨w.heap.size, 0, none⟩) 1 1) [⟨0, x⟩] := by
  have g := World.grownBy_alloc w (.cells #[.int .i64 0, .string x.n, x.u, .int .i64 x.lv, .bool x.hd] T) none
  refine ⟨_, 1, rfl, by simp, fun y hy => ?_, fun _ => ⟨w.heap.size, 0, rfl, by simp, fun j y hj => ?_⟩⟩
  · obtain rfl : y = ⟨0, x⟩ := by simpa using hy
    exact ⟨ht.later (below_of_grown g), fun hl b h => Nat.lt_of_lt_of_le (hb hl b h) g.size⟩
  · match j, hj with
    | 0, hj =>
      obtain rfl : (⟨0, x⟩ : Ac) = y := by simpa using hj
      exact five_ac (heap_alloc_new w _)
    | j + 1, hj => simp at hj
theorem set_two {w : World} {b : Nat} {v0 v1 v2 v3 : Value} {t : TypeId} (h : w.heap[b]? = some (.cells #[v0, v1, v2, v3] t (0, 0))) (v : Value) : (w.setCell ⟨b, 2, none⟩ v).heap[b]? = some (.cells #[v0, v1, v, v3] t (0, 0)) :=
  heap_setCell_same _ b 2 _ _ v h
theorem grown_setAtV (w : World) (b o : Nat) (v : Value) : w.grownBy (w.setCell ⟨b, o, none⟩ v) (some b) :=
  ⟨rfl, rfl, rfl, by simp [World.setCell], fun k _ hk => Below.heap_setCell _ _ _ _ (fun e => hk (by simp [e]))⟩
theorem grown_two {w w1 : World} (h : w.grownBy w1 none) {b : Nat} (o : Nat) (v : Value) (hb : w.heap.size ≤ b) : w.grownBy (w1.setCell ⟨b, o, none⟩ v) none :=
  grown_of_below ((below_of_grown h).setCell hb v)
set_option maxRecDepth 100000 in
set_option maxHeartbeats 8000000 in
theorem lEnvStays {A : Nat → Addr} {E : World → Prop} {I : World → Nat → (Nat → Prop) → List Vb → Prop} (C : EvC A E I) (x : Vz) (vl : Value) (L : List Ac) (w : World) (hE : E w) (hx : TxRow w x.u x.ws) (hA : ARow w vl L) :
    Calls Tryd.prog 4 #[vzA x, vl] w fun e w' => e = .returned (.bool true) ∧ w.grownBy w' none := by
  obtain ⟨n, ws, lv, hd, u⟩ := x
  have hxb := tx_lt hx
  obtain ⟨xa, xc, hu, -⟩ := id hx
  simp only at hu hx hxb
  subst hu
  obtain ⟨va, vc, rfl, hm⟩ := hA.shape
  have HC := Lib.hid C; have HE := Lib.hid hE; have HA := Lib.hid hA; have HX := Lib.hid hx; have HXB := Lib.hid hxb
  have HOWN := Lib.hid (show ∀ y ∈ L, y.v.ws ≠ [] → ∀ b, y.v.u.ownBlock = some b → b < w.heap.size from by
    obtain ⟨_, _, _, _, h, -⟩ := hA
    exact fun y hy => (h y hy).2)
  have G0 := Lib.hid (World.grownBy_alloc w (.cells #[.string n, .slice xa ws.length xc, .int .i64 lv, .bool hd] 33) none)
  have B0 := Lib.hid (heap_alloc_new w (.cells #[.string n, .slice xa ws.length xc, .int .i64 lv, .bool hd] 33))
  clear C hE hA hx hxb
  unfold vzA
  go_enter Tryd.func4, Tryd.ntmps4
  go_upto_region 1 with fail
  generalize w.alloc _ = w0 at B0 G0 ⊢
  obtain ⟨bv, hbv⟩ : ∃ bv, w.heap.size = bv := ⟨_, rfl⟩
  rw [hbv] at B0 ⊢
  have HBV := Lib.hid hbv
  clear hbv
  go_wp2_with fail
  refine (lAliveV HC.out w0 (HC.out.gr _ _ HE.out G0.out)).mono ?_
  rintro e w1 ⟨rfl, g1⟩
  have G1 := Lib.hid (G0.out.trans g1)
  have B1 := Lib.hid (heap_grown g1 B0.out)
  clear g1 B0 G0
  go_wp2_with fail
  refine (show Calls Tryd.prog 6 #[.slice va L.length vc, .int .i64 60] w1 (PLga 60 L w1) from lLongA _ L 60 w1 (HA.out.grown G1.out)).mono ?_
  rintro e w2 ⟨⟨z1, rfl, hz1⟩, g2⟩
  have G2 := Lib.hid (G1.out.trans g2)
  have B2 := Lib.hid (heap_grown g2 B1.out)
  clear g2 B1 G1
  cases z1
  case true =>
    clear hz1
    go_wp2
    go_ret
    exact ⟨rfl, G2.out⟩
  obtain ⟨hL60, hLs⟩ := hz1 rfl
  have HLS := Lib.hid hLs
  clear hz1 hLs
  obtain ⟨d0, d1, d2, d3⟩ := four_vz B2.out
  have A3 := Lib.hid (one_act w2 ⟨n, ws, lv, hd, .slice xa ws.length xc⟩ 35 (HX.out.later (below_of_grown G2.out)) (fun hl b h => Nat.lt_of_lt_of_le (HXB.out hl b h) G2.out.size))
  have g3 := World.grownBy_alloc w2 (.cells #[.int .i64 0, .string n, .slice xa ws.length xc, .int .i64 lv, .bool hd] 35) none
  have G3 := Lib.hid (G2.out.trans g3)
  have B3 := Lib.hid (heap_grown g3 B2.out)
  clear g3
  go_wp2_with fail
  refine (show Calls Tryd.prog 6 #[.slice (some ⟨w2.heap.size, 0, none⟩) 1 1, .int .i64 1] _ (PLga 1 [⟨0, ⟨n, ws, lv, hd, .slice xa ws.length xc⟩⟩] _) from lLongA _ _ 1 _ A3.out).mono ?_
  rintro e w4 ⟨⟨z2, rfl, hz2⟩, g4⟩
  have G4 := Lib.hid (G3.out.trans g4)
  have B4 := Lib.hid (heap_grown g4 B3.out)
  clear g4 B3 G3 A3 d0 d1 d2 d3
  cases z2
  case true =>
    clear hz2
    go_wp2
    go_ret
    exact ⟨rfl, G4.out⟩
  obtain ⟨hn60, hws60, -⟩ := (hz2 rfl).2 _ (List.mem_singleton.2 rfl)
  simp only at hn60 hws60
  clear hz2
  go_wp2_with fail
  refine (HC.out.new w4 (HC.out.gr _ _ HE.out G4.out)).mono ?_
  rintro e w5 ⟨g5, p, F, rfl, hI, hF⟩
  have G5 := Lib.hid (G4.out.trans g5)
  have B5 := Lib.hid (heap_grown g5 B4.out)
  have hbv4 : bv < w4.heap.size := (Array.getElem?_eq_some_iff.1 B4.out).1
  have hFb : ∀ b, F b → w.heap.size ≤ b ∧ b ≠ bv := fun b hb => by have := hF b hb; have := HBV.out; exact ⟨by omega, by omega⟩
  have HF := Lib.hid hFb
  have I6 := Lib.hid (HC.out.keep _ (w5.setCell ⟨bv, 2, none⟩ (.int .i64 2)) _ _ _ hI (KeepG.but (grown_setAtV w5 bv 2 _) (fun h => (hFb _ h).2 rfl)))
  have B6 := Lib.hid (set_two B5.out (.int .i64 2))
  have G6 := Lib.hid (grown_two G5.out 2 (.int .i64 2) (show w.heap.size ≤ bv by have := HBV.out; omega))
  obtain ⟨d0, d1, d2, d3⟩ := four_vz B5.out
  have fr := four_free B5.out
  clear g5 hI hF hFb
  go_upto_region 7 with fail
  generalize w5.setCell _ _ = w6 at I6 B6 G6 ⊢
  clear d0 d1 d2 d3 fr B5 G5 B4 G4
  obtain ⟨d0, d1, d2, d3⟩ := four_vz B6.out
  have X6 := Lib.hid (show TxG w6 (fun b => ¬F b) (.slice xa ws.length xc) ws from ⟨HX.out.later (below_of_grown G6.out), fun hl b h => ⟨fun hf => by have := (HF.out b hf).1; have := HXB.out hl b h; omega, Nat.lt_of_lt_of_le (HXB.out hl b h) G6.out.size⟩⟩)
  have CS := Lib.hid (HC.out.set w6 p F [] ⟨n, ws, 2, hd, .slice xa ws.length xc⟩ (HC.out.gr _ _ HE.out G6.out) I6.out X6.out (by simp only; omega) (by simp only; omega))
  by_cases hk : chkV (⟨n, ws, 2, hd⟩ : Vb) = 0
  case neg =>
    have hp : (putB [] (⟨n, ws, 2, hd, .slice xa ws.length xc⟩ : Vz).b).1 = chkV (⟨n, ws, 2, hd⟩ : Vb) := by
      unfold putB
      rw [if_pos (show chkV (⟨n, ws, 2, hd, .slice xa ws.length xc⟩ : Vz).b ≠ 0 from hk)]; rfl
    rw [hp, errV_ne hk] at CS
    go_wp2_with fail
    refine CS.out.mono ?_
    rintro e w7 ⟨rfl, o7, -⟩
    have G7 := Lib.hid (o7.grown G6.out (fun b hb => (HF.out b hb).1))
    have B7 := Lib.hid ((o7.block bv (Array.getElem?_eq_some_iff.1 B6.out).1 (fun h => (HF.out _ h).2 rfl)).trans B6.out)
    clear d0 d1 d2 d3 o7
    obtain ⟨d0, d1, d2, d3⟩ := four_vz B7.out
    have CK := Lib.hid (HC.out.check w7 ⟨n, ws, 2, hd, .slice xa ws.length xc⟩ (HC.out.gr _ _ HE.out G7.out) (HX.out.later (below_of_grown G7.out)) (by simp only; omega) (by simp only; omega))
    rw [show chkV (⟨n, ws, 2, hd, .slice xa ws.length xc⟩ : Vz).b = chkV (⟨n, ws, 2, hd⟩ : Vb) from rfl, errV_ne hk] at CK
    go_wp2_with fail
    refine CK.out.mono ?_
    rintro e w8 ⟨rfl, g8⟩
    have G8 := Lib.hid (G7.out.trans g8)
    clear g8
    go_wp2
    go_ret
    exact ⟨rfl, G8.out⟩
  rw [show (⟨n, ws, 2, hd, .slice xa ws.length xc⟩ : Vz).b = ⟨n, ws, 2, hd⟩ from rfl, put_new hk] at CS
  go_wp2_with fail
  refine CS.out.mono ?_
  rintro e w7 ⟨rfl, o7, F7, i7, f7⟩
  rw [errV_zero]
  have G7 := Lib.hid (o7.grown G6.out (fun b hb => (HF.out b hb).1))
  have B7 := Lib.hid ((o7.block bv (Array.getElem?_eq_some_iff.1 B6.out).1 (fun h => (HF.out _ h).2 rfl)).trans B6.out)
  have hbv6 : bv < w6.heap.size := (Array.getElem?_eq_some_iff.1 B6.out).1
  have F7H := Lib.hid (show ∀ b, F7 b → w.heap.size ≤ b ∧ b ≠ bv from fun b hb => by
    rcases f7 b hb with h | h
    · exact HF.out b h
    · have := G6.out.size; have := HBV.out; exact ⟨by omega, by omega⟩)
  have I7 := Lib.hid i7
  clear d0 d1 d2 d3 o7 i7 f7 CS
  go_wp2
  go_loopw [32] (fun i wr => ∃ (j : Nat) (F : Nat → Prop) (l : List Vb), j ≤ L.length ∧ i = .int .i64 j ∧ Hid (I wr p F l) ∧ Hid (l.find? (isB n) = some ⟨n, ws, 2, hd⟩) ∧ Hid (∀ b, F b → w.heap.size ≤ b ∧ b ≠ bv) ∧ Hid (wr.heap[bv]? = some (.cells #[.string n, .slice xa ws.length xc, .int .i64 2, .bool hd] 33 (0, 0))) ∧ Hid (w.grownBy wr none)) (fun i _ => L.length - (intOf i).toNat)
  case atStart => exact ⟨0, F7, _, Nat.zero_le _, rfl, I7, Lib.hid (List.find?_cons_of_pos (l := []) (a := (⟨n, ws, 2, hd⟩ : Vb)) (isB_iff.2 rfl)), F7H, B7, G7⟩
  case round =>
    obtain ⟨j, F, l, hj, rfl, hI, hf, hF, hB, hG⟩ := hrel
    by_cases hlt : j < L.length
    · obtain ⟨b, off, c, y, ev, hy, ht, -, c0, c1, c2, c3, c4⟩ := (HA.out.grown hG.out).at j hlt
      injection ev with ev1 ev2 ev3
      subst ev1 ev3
      obtain ⟨k, n2, ws2, lv2, hd2, u2⟩ := y
      obtain ⟨a2, cc2, hu2, -⟩ := id ht
      simp only at hu2 ht c0 c1 c2 c3 c4
      subst hu2
      obtain ⟨hn2, hws2, -⟩ := HLS.out _ (List.mem_of_getElem? hy)
      simp only at hn2 hws2
      have hown := HOWN.out _ (List.mem_of_getElem? hy)
      simp only at hown
      obtain ⟨H1, H2, g2⟩ := heap2 wr (.cells #[.int .i64 k, .string n2, .slice a2 ws2.length cc2, .int .i64 lv2, .bool hd2] 35) (.cells #[.string n2, .slice a2 ws2.length cc2, .int .i64 lv2, .bool hd2] 33)
      have BA := Lib.hid H1; have BX := Lib.hid H2
      have GA := Lib.hid (hG.out.trans g2)
      have IA := Lib.hid (HC.out.keep _ _ _ _ _ hI.out (KeepG.grown g2))
      have BV := Lib.hid (heap_grown g2 hB.out)
      have TA := Lib.hid (show TxG ((wr.alloc (.cells #[.int .i64 k, .string n2, .slice a2 ws2.length cc2, .int .i64 lv2, .bool hd2] 35)).alloc (.cells #[.string n2, .slice a2 ws2.length cc2, .int .i64 lv2, .bool hd2] 33)) (fun b => ¬F b) (.slice a2 ws2.length cc2) ws2 from ⟨ht.later (below_of_grown g2), fun hl b h => ⟨fun hf => by have := (hF.out b hf).1; have := hown hl b h; omega, Nat.lt_of_lt_of_le (hown hl b h) GA.out.size⟩⟩)
      clear H1 H2 g2 hy ht hown hI hB
      go_upto_region 13 with fail
      generalize (wr.alloc _).alloc _ = wa at BA BX GA IA BV TA ⊢
      clear c0 c1 c2 c3 c4
      obtain ⟨d0, d1, d2, d3⟩ := four_vz BX.out
      by_cases hlv : lv2 < 2
      case' pos =>
        have e1 : decide (lv2 < 2) = true := decide_eq_true hlv
        have CS := Lib.hid (HC.out.set wa p F l ⟨n2, ws2, lv2, hd2, .slice a2 ws2.length cc2⟩ (HC.out.gr _ _ HE.out GA.out) IA.out TA.out (by simp only; omega) (by simp only; omega))
        have hst := put_stays (x := (⟨n2, ws2, lv2, hd2, .slice a2 ws2.length cc2⟩ : Vz).b) hf.out (.inl hlv)
        have HST := Lib.hid hst
        go_wp2_with fail
        refine CS.out.mono ?_
        rintro e w8 ⟨rfl, o8, F8, i8, f8⟩
        have G8 := Lib.hid (o8.grown GA.out (fun b hb => (hF.out b hb).1))
        have B8 := Lib.hid ((o8.block bv (Array.getElem?_eq_some_iff.1 BV.out).1 (fun h => (hF.out _ h).2 rfl)).trans BV.out)
        have hbva : bv < wa.heap.size := (Array.getElem?_eq_some_iff.1 BV.out).1
        have F8H := Lib.hid (show ∀ b, F8 b → w.heap.size ≤ b ∧ b ≠ bv from fun b hb => by
          rcases f8 b hb with h | h
          · exact hF.out b h
          · have := GA.out.size; have := HBV.out; exact ⟨by omega, by omega⟩)
        have I8 := Lib.hid i8
        clear d0 d1 d2 d3 o8 i8 f8 CS hst hlv e1
        generalize (putB l (⟨n2, ws2, lv2, hd2, .slice a2 ws2.length cc2⟩ : Vz).b).2 = l8 at I8 HST
      case' neg =>
        have e1 : decide (lv2 < 2) = false := decide_eq_false hlv
        have HST := hf; have G8 := GA; have B8 := BV; have F8H := hF; have I8 := IA
        obtain ⟨w8, hw8⟩ : ∃ w8, wa = w8 := ⟨_, rfl⟩
        rw [hw8] at G8 B8 I8 d0 d1 d2 d3 ⊢
        obtain ⟨F8, hF8⟩ : ∃ F8, F = F8 := ⟨_, rfl⟩
        rw [hF8] at F8H I8
        obtain ⟨l8, hl8⟩ : ∃ l8, l = l8 := ⟨_, rfl⟩
        rw [hl8] at HST I8
        clear hw8 hF8 hl8 hlv
        go_upto_region 15 with fail
        clear d0 d1 d2 d3 e1
      all_goals
        obtain ⟨d0, d1, d2, d3⟩ := four_vz B8.out
        have CF := Lib.hid (HC.out.find w8 p F8 l8 n (HC.out.gr _ _ HE.out G8.out) I8.out (by omega))
        rw [HST.out] at CF
        go_wp2_with fail
        refine CF.out.mono ?_
        rintro e w9 ⟨g9, z, rfl, tz, hz⟩
        have hzb := hz _ rfl
        obtain ⟨zn, zws, zlv, zhd, zu⟩ := z
        obtain ⟨za, zc, hzu, -⟩ := id tz
        simp only at hzu tz
        subst hzu
        have G9 := Lib.hid (G8.out.trans g9)
        have B9 := Lib.hid (heap_grown g9 B8.out)
        have g10 := World.grownBy_alloc w9 (.cells #[.string zn, .slice za zws.length zc, .int .i64 zlv, .bool zhd] 33) none
        have G10 := Lib.hid (G9.out.trans g10)
        have B10 := Lib.hid (heap_grown g10 B9.out)
        have Z10 := Lib.hid (heap_alloc_new w9 (.cells #[.string zn, .slice za zws.length zc, .int .i64 zlv, .bool zhd] 33))
        have I10 := Lib.hid (HC.out.keep _ _ _ _ _ (HC.out.keep _ _ _ _ _ I8.out (KeepG.grown g9)) (KeepG.grown g10))
        have T10 := Lib.hid (tz.later (below_of_grown g10))
        clear d0 d1 d2 d3 CF g9 tz hz g10
        have CM := Lib.hid (dSameV ⟨zn, zws, zlv, zhd, .slice za zws.length zc⟩ ⟨n, ws, 2, hd, .slice xa ws.length xc⟩ _ hzb T10.out (HX.out.later (below_of_grown G10.out)))
        clear hzb
        go_upto_region 16 with fail
        generalize w9.alloc _ = w10 at G10 B10 Z10 I10 T10 CM ⊢
        obtain ⟨d0, d1, d2, d3⟩ := four_vz B10.out
        obtain ⟨f0, f1, f2, f3⟩ := four_vz Z10.out
        go_wp2_with fail
        refine CM.out.mono ?_
        rintro e w11 ⟨rfl, g11⟩
        have G11 := Lib.hid (G10.out.trans g11)
        have B11 := Lib.hid (heap_grown g11 B10.out)
        have I11 := Lib.hid (HC.out.keep _ _ _ _ _ I10.out (KeepG.grown g11))
        clear d0 d1 d2 d3 f0 f1 f2 f3 g11 CM
        go_wp2
        go_roundw
        case rel => exact ⟨j + 1, F8, l8, hlt, by go_num, I11, HST, F8H, B11, G11⟩
        case measure => simp [intOf]; omega
    · go_wp2
      go_ret
      exact ⟨rfl, hG.out⟩
end Go.Proofs.YtaihpgjimhifcaaDoor
