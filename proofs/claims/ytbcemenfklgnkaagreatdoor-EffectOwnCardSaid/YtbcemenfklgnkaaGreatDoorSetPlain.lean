/- The law's turning of files into the document's; the document's Of. What an attempt to set a file does to a row of files. -/
import Derived.Test.YtbcemenfklgnkaaGreatDoorRefC
import Derived.Test.YtbcemenfklgnkaaGreatDoorTreeJ
import Derived.Test.YtbcemenfklgnkaaGreatDoorTreeC
namespace Go.Proofs.YtbcemenfklgnkaaGreatDoor
open Go.RowKit Go.Maps

theorem insL_rising {x : Fl} : ∀ {l : List Fl}, Rising l → (∀ y ∈ l, y.n ≠ x.n) → Rising (insL x l)
  | [], _, _ => by simp [insL, Rising]
  | a :: r, h, hne => by
    obtain ⟨ha, hr⟩ := List.pairwise_cons.1 h
    have e : insL x (a :: r) = if (keyS x.n).before (keyS a.n) = true then x :: a :: r else a :: insL x r := rfl
    rw [e, keyS_before]
    by_cases hb : bytesBefore x.n.data.toList a.n.data.toList = true
    · rw [if_pos hb]
      refine List.pairwise_cons.2 ⟨fun y hy => ?_, h⟩
      rcases List.mem_cons.1 hy with rfl | hy
      · exact hb
      · exact Go.WideShapes.bytes_trans _ _ _ hb (ha y hy)
    · rw [if_neg hb]
      refine List.pairwise_cons.2 ⟨fun y hy => ?_, insL_rising hr (fun y hy => hne y (by simp [hy]))⟩
      rcases insL_mem.1 hy with rfl | hy
      · rcases WideAt.bytes_total y.n.data.toList a.n.data.toList (bytes_ne (fun e => hne a (by simp) e.symm)) with h1 | h1
        · exact absurd h1 hb
        · exact h1
      · exact ha y hy
theorem putL_rising {l : List Fl} (f : Fl) (h : Rising l) : Rising (putL l f) :=
  insL_rising (List.Pairwise.filter _ h) (fun y hy e => by
    have := delL_none l f.n y hy
    rw [isN_iff.2 e] at this; cases this)
theorem delL_rising {l : List Fl} (s : ByteArray) (h : Rising l) : Rising (delL l s) := List.Pairwise.filter _ h

set_option maxRecDepth 100000 in
set_option maxHeartbeats 1000000 in
theorem lOfFn (v : Value) (l : List Fl) (w : World) (h : FRow w v l) (h60 : l.length ≤ 60) :
    Calls Tryz.prog 11 #[v] w fun e w' => ∃ a c, e = .returned (.slice a l.length c) ∧ FRow w' (.slice a l.length c) l ∧ w.grownBy w' none := by
  have HR := Lib.hid h
  obtain ⟨i0, hi, hz0, hz1, hz2⟩ := info_parts infoFileR
  have I := Lib.hid hi; have Z0 := Lib.hid hz0; have Z1 := Lib.hid hz1; have Z2 := Lib.hid hz2
  clear hi hz0 hz1 hz2
  obtain ⟨a, c, rfl, hn, HS, -⟩ := h
  have SIZES := Lib.hid HS
  have ST := Lib.hid (own_newF w _ (Nat.le_refl _))
  clear HS
  go_enter Tryz.func11, Tryz.ntmps11
  go_wp2
  go_loopw [3, 5, 9] (fun out _ i wr => ∃ k : Nat, k ≤ l.length ∧ i = .int .i64 k ∧ Hid (wr.ownsRow w.heap.size 76 3 out k (cellsF (l.take k))) ∧ Hid (Below w.heap.size w wr)) (fun _ _ i _ => l.length - (intOf i).toNat)
  case atStart => exact ⟨0, Nat.zero_le _, rfl, ST, Lib.hid ((Below.refl _ _).alloc (Nat.le_refl _) _)⟩
  case round =>
    obtain ⟨k, hk, rfl, hrow, hB⟩ := hrel
    by_cases hlt : k < l.length
    · obtain ⟨b, off, c', f, e, hf, sn, sc, hb, c0, c1, c2⟩ := (HR.out.later hB.out).at k hlt
      cases e
      have HCF := Lib.hid (cellsF_take hf)
      have SZ := Lib.hid hB.out.size
      clear hf sn sc
      go_wp2_with (at_builtin; refine wpList_append_own _ rfl _ _ 35 rfl w.heap.size 76 i0 _ 3 40 Tryz.underlying35 I.out Z0.out Z1.out Z2.out rfl (by decide) _ _ _ rfl ((hrow.out.alloc _).alloc _) ⟨_, 0, none⟩ 1 1 [.string f.n, .string f.c, .int .i64 f.t] rfl rfl (newsAt _ f _ _ (by simp)) (oneF f) (by unfold maxLen; omega) (by omega) (by have := SZ.out; simp; omega) ?_; intro v' w2 hown' hgrow2 hnil2)
      have HOWN := Lib.hid hown'
      have HB2 := Lib.hid (((hB.out.alloc hB.out.size (.cells #[.string f.n, .string f.c, .int .i64 f.t] 61)).alloc (by have := SZ.out; simp; omega) (.cells #[.string f.n, .string f.c, .int .i64 f.t] 76)).grown hgrow2 (by have := SZ.out; simp; omega) (fun j e => (hrow.out.lt j e).1))
      clear hown' hgrow2 hnil2
      go_roundw
      case rel => exact ⟨k + 1, by omega, by go_num, Lib.hid (by rw [HCF.out]; exact HOWN.out), HB2⟩
      case measure => simp [intOf]; omega
    · have hkl : k = l.length := by omega
      subst hkl
      have hrow' := hrow.out
      rw [List.take_of_length_le (Nat.le_refl _)] at hrow'
      have HROW := Lib.hid hrow'
      clear hrow' hrow
      go_wp2
      go_ret
      obtain ⟨a', c', rfl⟩ := slice_of_owns HROW.out
      exact ⟨a', c', rfl, (fc_of_owns HROW.out (by omega)).frow SIZES.out, grown_of_below hB.out⟩

/-- what the document's Of answers -/
def RefPost (l : List Fl) (w : World) (e : Ending) (w' : World) : Prop :=
  (∃ k : Nat, k ≠ 0 ∧ (ofG l []).1 = k ∧ e = .returned (.tuple #[.pointer none, .int .i64 k]) ∧ w.grownBy w' none) ∨
  (∃ p, (ofG l []).1 = 0 ∧ e = .returned (.tuple #[.pointer (some ⟨p, 0, none⟩), .int .i64 0]) ∧ RTree w' p (ofG l []).2 ∧ w.grownBy w' none ∧ w.heap.size ≤ p ∧ Rising (ofG l []).2)
/-- how the loop of the document's Of stands behind k files -/
def RofSt (l : List Fl) (w : World) (k : Nat) (ts : List Fl) (wr : World) : Prop :=
  RTree wr w.heap.size ts ∧ Rising ts ∧ w.grownBy wr none ∧ ofG l [] = ofG (l.drop k) ts
theorem rtree_new (w : World) (t : TypeId) : RTree (w.alloc (.cells #[.slice none 0 0] t)) w.heap.size [] := by
  refine ⟨none, 0, by go_simp, by go_simp, ⟨none, 0, rfl, by simp, by simp, fun h => absurd rfl h⟩, by simp, by simp, ⟨fun _ => rfl, fun x h => by cases h⟩, by simp⟩

set_option maxRecDepth 100000 in
set_option maxHeartbeats 2000000 in
theorem rOf (v : Value) (l : List Fl) (w : World) (h : FRow w v l) :
    Calls Tryz.prog 10 #[v] w fun e w' => RefPost l w e w' := by
  have HR := Lib.hid h
  obtain ⟨a, c, rfl, hn, -, -⟩ := h
  have ST := Lib.hid (show RofSt l w 0 [] (w.alloc (.cells #[.slice none 0 0] 75)) from ⟨rtree_new w _, List.Pairwise.nil, World.grownBy_alloc _ _ _, rfl⟩)
  go_enter Tryz.func10, Tryz.ntmps10
  go_wp2
  go_loopw [6, 7, 12] (fun _ _ i wr => ∃ k : Nat, k ≤ l.length ∧ i = .int .i64 k ∧ ∃ ts, Hid (RofSt l w k ts wr)) (fun _ _ i _ => l.length - (intOf i).toNat)
  case atStart => exact ⟨0, Nat.zero_le _, rfl, [], ST⟩
  case round =>
    obtain ⟨k, hk, rfl, ts, hst⟩ := hrel
    by_cases hlt : k < l.length
    · obtain ⟨b, off, c', f, e, hf, sn, sc, hb, c0, c1, c2⟩ := (HR.out.later (below_of_grown hst.out.2.2.1)).at k hlt
      cases e
      have Hf := Lib.hid hf
      have SN := Lib.hid sn; have SC := Lib.hid sc
      have gx := World.grownBy_alloc wr (.cells #[.string f.n, .string f.c, .int .i64 f.t] 76) none
      have GX := Lib.hid gx
      have XB := Lib.hid (box_newT wr f 76)
      have hat := fun (W : World) (hW : RTree W w.heap.size ts) => rAt w.heap.size ts f.n W hW
      clear hf sn sc gx
      rcases at_cases ts f.n with ⟨hq, hi⟩ | ⟨j, _, _, _, _, hi, _, hq⟩
      · rw [hi] at hat
        have HAT := Lib.hid hat
        clear hat hi
        by_cases hp : putE ts f = 0
        · have HE := Lib.hid (hst.out.2.2.2.trans (ofG_next Hf.out hq hp))
          have hput := fun (W : World) (hW : RTree W w.heap.size ts) => rPut_ok w.heap.size ts f W hW SN.out SC.out hp hst.out.2.1
          unfold valF at hput
          have HPUT := Lib.hid hput
          clear hp hq hput
          go_wp2_with (first
            | (go_at_call 32; refine (HAT.out _ (hst.out.1.grown GX.out)).mono ?_; rintro e w2 ⟨rfl, g2⟩; have G2 := Lib.hid (GX.out.trans g2); have x2 := XB.out.kept g2 (by simp); have x0 := x2.1; have x1 := x2.2.1; have x3 := x2.2.2; clear g2 x2)
            | (go_at_call 33; refine (HPUT.out _ (hst.out.1.grown G2.out)).mono ?_; rintro e w3 ⟨rfl, t3, g3⟩; have T3 := Lib.hid t3; have G3 := Lib.hid g3; clear t3 g3))
          go_roundw
          case rel => exact ⟨k + 1, by omega, by go_num, _, Lib.hid ⟨T3.out, putL_rising f hst.out.2.1, grown_none (hst.out.2.2.1.trans G2.out) G3.out (Nat.le_refl _), HE.out⟩⟩
          case measure => simp [intOf]; omega
        · have HE := Lib.hid (hst.out.2.2.2.symm ▸ ofG_bad Hf.out hq hp : (ofG l []).1 = putE ts f)
          have HP := Lib.hid hp
          have hput := fun (W : World) (hW : RTree W w.heap.size ts) => rPut_bad w.heap.size ts f W hW SN.out SC.out hp
          unfold valF at hput
          have hz : ((putE ts f : Int) == 0) = false := by simpa using hp
          obtain ⟨pe, hpe⟩ : ∃ pe, pe = putE ts f := ⟨_, rfl⟩
          rw [← hpe] at hput HE HP hz
          have HPUT := Lib.hid hput
          clear hp hq hput hpe
          go_wp2_with (first
            | (go_at_call 32; refine (HAT.out _ (hst.out.1.grown GX.out)).mono ?_; rintro e w2 ⟨rfl, g2⟩; have G2 := Lib.hid (GX.out.trans g2); have x2 := XB.out.kept g2 (by simp); have x0 := x2.1; have x1 := x2.2.1; have x3 := x2.2.2; clear g2 x2)
            | (go_at_call 33; refine (HPUT.out _ (hst.out.1.grown G2.out)).mono ?_; rintro e w3 ⟨rfl, g3⟩; have G3 := Lib.hid g3; clear g3))
          go_ret2
          exact .inl ⟨pe, HP.out, HE.out, rfl, (hst.out.2.2.1.trans G2.out).trans G3.out⟩
      · rw [hi] at hat
        have HAT := Lib.hid hat
        have HE := Lib.hid (hst.out.2.2.2.symm ▸ ofG_dup Hf.out hq : (ofG l []).1 = 9)
        clear hat hi hq
        go_wp2_with (go_at_call 32; refine (HAT.out _ (hst.out.1.grown GX.out)).mono ?_; rintro e w2 ⟨rfl, g2⟩; have G2 := Lib.hid (GX.out.trans g2); clear g2)
        go_ret2
        exact .inl ⟨9, by decide, HE.out, rfl, hst.out.2.2.1.trans G2.out⟩
    · have HE := Lib.hid (hst.out.2.2.2.trans (ofG_done (by omega)))
      go_wp2
      go_ret2
      exact .inr ⟨_, by rw [HE.out], rfl, by rw [HE.out]; exact hst.out.1, hst.out.2.2.1, Nat.le_refl _, by rw [HE.out]; exact hst.out.2.1⟩
end Go.Proofs.YtbcemenfklgnkaaGreatDoor

namespace Go.Proofs.YtbcemenfklgnkaaGreatDoor
open Go.RowKit Go.Maps

theorem touE_putE {l : List Fl} {n : ByteArray} {t : Int} (h : ∀ f ∈ l, f.c.size ≤ 900) : touE l n t = putE l (touF l n t) := by
  have hc : (touF l n t).c.size ≤ 900 := by
    unfold touF
    rcases at_cases l n with ⟨h7, _⟩ | ⟨k, f, _, hf, _, _, hg, _⟩
    · rw [getL_not h7]; exact (by decide : (0 : Nat) ≤ 900)
    · rw [hg]; exact h f (List.mem_of_getElem? hf)
  unfold touE putE
  have hn : (touF l n t).n = n := rfl
  rw [hn, if_neg (show ¬ 900 < (touF l n t).c.size by omega)]
theorem putE_le (l : List Fl) (f : Fl) : putE l f ≤ 18 := by
  rcases putE_cases l f with ⟨e, _⟩ | ⟨e, _⟩ | ⟨e, _⟩ | ⟨e, _⟩ | ⟨e, _⟩ <;> rw [e] <;> decide
theorem setL_rising {l : List Fl} (k : Nat) (f : Fl) (h : Rising l) : Rising (setL k l f) := by
  unfold setL; split
  · exact putL_rising f h
  · exact h
theorem setL_small {l : List Fl} {k : Nat} {f : Fl} (h : ∀ x ∈ l, x.c.size ≤ 900) (hk : k = 0 → f.c.size ≤ 900) : ∀ x ∈ setL k l f, x.c.size ≤ 900 := by
  unfold setL; split
  · intro x hx
    rcases insL_mem.1 hx with rfl | hx
    · exact hk ‹_›
    · exact h x (List.mem_filter.1 hx).1
  · exact h
theorem putE_small {l : List Fl} {f : Fl} (h : putE l f = 0) : f.c.size ≤ 900 := by
  rcases putE_cases l f with ⟨e, _⟩ | ⟨e, _⟩ | ⟨e, _⟩ | ⟨e, _⟩ | ⟨_, _, h1, _⟩
  · rw [h] at e; cases e
  · rw [h] at e; cases e
  · rw [h] at e; cases e
  · rw [h] at e; cases e
  · exact h1
end Go.Proofs.YtbcemenfklgnkaaGreatDoor
