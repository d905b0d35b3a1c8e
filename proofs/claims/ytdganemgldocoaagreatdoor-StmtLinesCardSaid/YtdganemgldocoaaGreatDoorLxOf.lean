/- What the laws of layer 13 do to rows of pieces: copies of the document's type, and whether there are too many. What package lex's functions answer, as the laws are told of it; the chapter's example. -/
import Derived.Test.YtdganemgldocoaaGreatDoorLxRef
import Derived.Test.YtdganemgldocoaaGreatDoorQtRow
namespace Go.Proofs.YtdganemgldocoaaGreatDoor
open Go.RowKit

theorem infoPd : (Tryz.prog.info? 107).map (fun i => (i.zero, i.size, i.bytes)) = some (some (.agg #[.int .i64 0, .string ⟨#[]⟩, .string ⟨#[]⟩, .string ⟨#[]⟩]), 4, 56) := by kernel_rfl
theorem infoPds : (Tryz.prog.info? 106).map (fun i => (i.zero, i.size, i.bytes)) = some (some (.slice none 0 0), 1, 24) := by kernel_rfl
theorem own_zero (w : World) (T : TypeId) (s : Nat) (base : Nat) (hb : base ≤ w.heap.size) : (w.alloc (.cells #[] T)).ownsRow base T s (.slice (some ⟨w.heap.size, 0, none⟩) 0 0) 0 [] :=
  ⟨by simp, .inr ⟨w.heap.size, 0, _, rfl, hb, heap_alloc_new w _, Nat.le_refl _, by simp, by simp⟩⟩
theorem own_kept {w w' : World} {base s n : Nat} {e : TypeId} {v : Value} {xs : List Value} (h : w.ownsRow base e s v n xs) (hg : w.grownBy w' none) : w'.ownsRow base e s v n xs :=
  h.kept hg (by rcases h.2 with ⟨rfl, _⟩ | ⟨g, cap, cur, rfl, _⟩ <;> simp [Value.ownBlock])
theorem own_up {w : World} {base base' s n : Nat} {e : TypeId} {v : Value} {xs : List Value} (h : w.ownsRow base e s v n xs) (hb : base' ≤ base) : w.ownsRow base' e s v n xs := by
  refine ⟨h.1, ?_⟩
  rcases h.2 with h0 | ⟨g, cap, cur, e1, e2, e3⟩
  · exact .inl h0
  · exact .inr ⟨g, cap, cur, e1, Nat.le_trans hb e2, e3⟩
theorem sl_new (w : World) (u : Value) (T : TypeId) (m : Nat) (hm : m = w.heap.size) : ∀ j x, ([u] : List Value)[j]? = some x → (w.alloc (.cells #[u] T)).cell? ((⟨m, 0, none⟩ : Addr).add j) = some x := by
  subst hm
  exact World.news_of_block (cs := #[u]) (t := T) (fr := (0, 0)) (heap_alloc_new w _)
set_option maxRecDepth 100000 in
set_option maxHeartbeats 4000000 in
theorem lWordX (v : Value) (l : List Pb) (w : World) (hR : PRow w v l) (hl : l.length ≤ 5001) :
    Calls Tryz.prog 57 #[v] w fun e w' => (∃ u, e = .returned u ∧ w'.ownsRow w.heap.size 107 4 u l.length (pcV l)) ∧ w.grownBy w' none := by
  obtain ⟨va, vc, rfl, -⟩ := hR.shape
  obtain ⟨iu, hiu, hu0, hu1, hu2⟩ := info_parts infoPd
  have IU := Lib.hid hiu; have ZU0 := Lib.hid hu0; have ZU1 := Lib.hid hu1; have ZU2 := Lib.hid hu2
  have HR := Lib.hid hR
  have O1 := Lib.hid (own_zero w 107 4 w.heap.size (Nat.le_refl _))
  have G1 := Lib.hid (World.grownBy_alloc w (.cells #[] 107) none)
  clear hiu hu0 hu1 hu2 hR
  go_enter Tryz.func57, Tryz.ntmps57
  go_upto_region 2 with fail
  generalize w.alloc _ = w1 at O1 G1 ⊢
  obtain ⟨base, hbase⟩ : ∃ base, base = w.heap.size := ⟨_, rfl⟩
  rw [← hbase] at O1 ⊢
  have HBL := Lib.hid (show w.heap.size = base from hbase.symm)
  clear hbase
  go_wp2
  go_loopw [3, 9] (fun o i wr => ∃ (j : Nat) (ua : Option Addr) (uc : Nat), j ≤ l.length ∧ i = .int .i64 j ∧ o = .slice ua j uc ∧ Hid (wr.ownsRow base 107 4 (.slice ua j uc) j (pcV (l.take j))) ∧ Hid (w.grownBy wr none)) (fun _ i _ => l.length - (intOf i).toNat)
  case atStart => exact ⟨0, _, _, Nat.zero_le _, rfl, rfl, O1, G1⟩
  case round =>
    obtain ⟨j, ua, uc, hj, rfl, rfl, hO, hG⟩ := hrel
    by_cases hlt : j < l.length
    · obtain ⟨b, off, c, x, ev, hx, hb, c0, c1, c2, c3⟩ := (HR.out.grown hG.out).at j hlt
      injection ev with ev1 ev2 ev3
      subst ev1 ev3
      have HT := Lib.hid (show l.take (j + 1) = l.take j ++ [x] by rw [List.take_add_one, hx]; rfl)
      have g4 := World.grownBy_alloc wr (.cells #[.int .i64 x.k, .string x.t, .string x.f, .string x.o] 105) none
      have B4 := Lib.hid (heap_alloc_new wr (.cells #[.int .i64 x.k, .string x.t, .string x.f, .string x.o] 105))
      have G4 := Lib.hid (hG.out.trans g4)
      have R4 := Lib.hid (own_kept hO.out g4)
      clear hx hb hG hO g4
      go_upto_region 5 with fail
      generalize wr.alloc _ = w4 at B4 G4 R4 ⊢
      obtain ⟨d0, d1, d2, d3⟩ := four_px B4.out
      clear c0 c1 c2 c3
      go_wp2_with (at_builtin; refine wpList_append_own _ rfl _ _ 106 rfl base 107 iu _ 4 56 Tryz.underlying106 IU.out ZU0.out ZU1.out ZU2.out rfl (by decide) _ _ _ rfl (R4.out.alloc _) ⟨_, 0, none⟩ 1 1 [.int .i64 x.k, .string x.t, .string x.f, .string x.o] rfl rfl (pc_new _ x _ _ (by simp)) (pc_one x) (by unfold maxLen; omega) (by omega) (by have := G4.out.size; have := HBL.out; simp; omega) ?_; intro v9 w9 hown9 hgrow9 _; have G9 := Lib.hid ((G4.out.trans (World.grownBy_alloc _ _ _)).andThen hgrow9 (fun k hk => .inl (by have := (R4.out.lt k hk).1; have := HBL.out; omega))); have O9 := Lib.hid hown9; clear hown9 hgrow9)
      obtain ⟨va9, vc9, rfl⟩ := tx_shape O9.out
      have OA := Lib.hid (show w9.ownsRow base 107 4 (.slice va9 (j + 1) vc9) (j + 1) (pcV (l.take (j + 1))) by rw [HT.out, pcV_snoc]; exact O9.out)
      go_wp2
      go_roundw
      case rel => exact ⟨j + 1, va9, vc9, hlt, by go_num, rfl, OA, G9⟩
      case measure => simp [intOf]; omega
    · obtain rfl : j = l.length := by omega
      have OA := Lib.hid (show wr.ownsRow base 107 4 (.slice ua l.length uc) l.length (pcV l) by have := hO.out; rw [List.take_length] at this; exact this)
      go_wp2
      go_ret
      exact ⟨⟨_, rfl, by rw [HBL.out]; exact OA.out⟩, hG.out⟩
set_option maxRecDepth 100000 in
set_option maxHeartbeats 4000000 in
theorem lOfX (v : Value) (L : List (List Pb)) (w : World) (hR : RRow w v L) (hl : L.length ≤ 5001) (hs : ∀ l ∈ L, l.length ≤ 5001) :
    Calls Tryz.prog 34 #[v] w fun e w' => (∃ u, e = .returned u ∧ OwnRR w' w.heap.size 107 106 u L) ∧ w.grownBy w' none := by
  obtain ⟨va, vc, rfl, -⟩ := hR.shape
  obtain ⟨iu, hiu, hu0, hu1, hu2⟩ := info_parts infoPds
  have IU := Lib.hid hiu; have ZU0 := Lib.hid hu0; have ZU1 := Lib.hid hu1; have ZU2 := Lib.hid hu2
  have HR := Lib.hid hR; have HS := Lib.hid hs
  have O1 := Lib.hid (own_zero w 106 1 w.heap.size (Nat.le_refl _))
  have G1 := Lib.hid (World.grownBy_alloc w (.cells #[] 106) none)
  clear hiu hu0 hu1 hu2 hR hs
  go_enter Tryz.func34, Tryz.ntmps34
  go_upto_region 2 with fail
  generalize w.alloc _ = w1 at O1 G1 ⊢
  obtain ⟨base, hbase⟩ : ∃ base, base = w.heap.size := ⟨_, rfl⟩
  rw [← hbase] at O1 ⊢
  have HBL := Lib.hid (show w.heap.size = base from hbase.symm)
  clear hbase
  go_wp2
  go_loopw [3, 9] (fun o i wr => ∃ (j : Nat) (ua : Option Addr) (uc : Nat) (vs : List Value), j ≤ L.length ∧ i = .int .i64 j ∧ o = .slice ua j uc ∧ Hid (vs.length = j) ∧ Hid (wr.ownsRow base 106 1 (.slice ua j uc) j vs) ∧ Hid (∀ (m : Nat) (u : Value) (l : List Pb), vs[m]? = some u → L[m]? = some l → wr.ownsRow base 107 4 u l.length (pcV l)) ∧ Hid (w.grownBy wr none)) (fun _ i _ => L.length - (intOf i).toNat)
  case atStart => exact ⟨0, _, _, [], Nat.zero_le _, rfl, rfl, Lib.hid rfl, O1, Lib.hid (fun m u l hu _ => by simp at hu), G1⟩
  case round =>
    obtain ⟨j, ua, uc, vs, hj, rfl, rfl, hV, hO, hI, hG⟩ := hrel
    by_cases hlt : j < L.length
    · obtain ⟨b, off, c, l, u, ev, hx, hb, c0, hp⟩ := (HR.out.grown hG.out).at j hlt
      injection ev with ev1 ev2 ev3
      subst ev1 ev3
      obtain ⟨pa, pc, rfl, -⟩ := hp.shape
      have hl12 := HS.out l (List.mem_of_getElem? hx)
      have CW := Lib.hid (lWordX _ l wr hp hl12)
      have HX := Lib.hid hx
      clear hx hb hp
      go_upto_region 5 with fail
      go_wp2_with fail
      refine CW.out.mono ?_
      rintro e w3 ⟨⟨u3, rfl, o3⟩, g3⟩
      obtain ⟨ra, rc, rfl⟩ := tx_shape o3
      have G3 := Lib.hid (hG.out.trans g3)
      have O3 := Lib.hid (own_up o3 (show base ≤ wr.heap.size by have := hG.out.size; have := HBL.out; omega))
      have R3 := Lib.hid (own_kept hO.out g3)
      have I3 := Lib.hid (fun (m : Nat) (u : Value) (l : List Pb) (h1 : vs[m]? = some u) (h2 : L[m]? = some l) => own_kept (hI.out m u l h1 h2) g3)
      clear o3 g3 CW c0
      go_wp2_with (at_builtin; refine wpList_append_own _ rfl _ _ 49 rfl base 106 iu (.slice none 0 0) 1 24 Tryz.underlying49 IU.out ZU0.out ZU1.out ZU2.out rfl (by decide) (.slice ua j uc) j vs rfl (R3.out.alloc _) ⟨w3.heap.size, 0, none⟩ 1 1 [.slice ra l.length rc] rfl rfl (sl_new _ _ _ _ (by simp)) (by intro u hu; simp at hu; subst hu; rfl) (by unfold maxLen; omega) (by omega) (by have := G3.out.size; have := HBL.out; simp; omega) ?_; intro v9 w9 hown9 hgrow9 _; have G9 := Lib.hid ((G3.out.trans (World.grownBy_alloc _ _ _)).andThen hgrow9 (fun k hk => .inl (by have := (R3.out.lt k hk).1; have := HBL.out; omega))); have O9 := Lib.hid hown9; have P9 := Lib.hid ((O3.out.alloc _).kept hgrow9 (tx_apart O3.out R3.out (by decide))); have I9 := Lib.hid (fun (m : Nat) (u : Value) (l : List Pb) (h1 : vs[m]? = some u) (h2 : L[m]? = some l) => ((I3.out m u l h1 h2).alloc _).kept hgrow9 (tx_apart (I3.out m u l h1 h2) R3.out (by decide))); clear hown9 hgrow9)
      obtain ⟨va9, vc9, rfl⟩ := tx_shape O9.out
      have HV := Lib.hid (show (vs ++ [Value.slice ra l.length rc]).length = j + 1 by rw [List.length_append, hV.out]; rfl)
      have HI := Lib.hid (show ∀ (m : Nat) (u : Value) (l' : List Pb), (vs ++ [Value.slice ra l.length rc])[m]? = some u → L[m]? = some l' → w9.ownsRow base 107 4 u l'.length (pcV l') by
        intro m u l' h1 h2
        rcases Nat.lt_or_ge m vs.length with hm | hm
        · rw [List.getElem?_append_left hm] at h1; exact I9.out m u l' h1 h2
        · rw [List.getElem?_append_right hm] at h1
          have hm0 : m - vs.length = 0 := by have := (List.getElem?_eq_some_iff.1 h1).1; simp at this; omega
          rw [hm0] at h1
          obtain rfl : m = j := by have := hV.out; omega
          obtain rfl : l = l' := Option.some.inj (HX.out.symm.trans h2)
          cases h1
          exact P9.out)
      go_wp2
      go_roundw
      case rel => exact ⟨j + 1, va9, vc9, _, hlt, by go_num, rfl, HV, O9, HI, G9⟩
      case measure => simp [intOf]; omega
    · obtain rfl : j = L.length := by omega
      have HF := Lib.hid (show OwnRR wr base 107 106 (.slice ua L.length uc) L from ⟨vs, hV.out, hO.out, fun m u l h1 h2 => ⟨by have := HS.out l (List.mem_of_getElem? h2); omega, hI.out m u l h1 h2⟩⟩)
      go_wp2
      go_ret
      exact ⟨⟨_, rfl, by rw [HBL.out]; exact HF.out⟩, hG.out⟩
/-- whether it is too much, and that it is little otherwise -/
def PLg (L : List (List Pb)) (w : World) (e : Ending) (w' : World) : Prop :=
  (∃ z, e = .returned (.bool z) ∧ (z = false → L.length ≤ 12 ∧ ∀ l ∈ L, l.length ≤ 12 ∧ ∀ x ∈ l, Shp x)) ∧ w.grownBy w' none
end Go.Proofs.YtdganemgldocoaaGreatDoor

namespace Go.Proofs.YtdganemgldocoaaGreatDoor
open Go.RowKit

/-- words, or none and an error -/
def PWds (l : List UInt8) (A : Nat → Addr) (w : World) (e : Ending) (w' : World) : Prop :=
  w.grownBy w' none ∧ match wdQ [] [] l with
    | .ok L => ∃ v LB, e = .returned (.tuple #[v, .nilIface]) ∧ RRow w' v LB ∧ pcLL LB = L
    | .error bad => ∃ a c, e = .returned (.tuple #[.slice a 0 c, errV A bad])
/-- words that a call makes, or none and an error -/
def PWdo (l : List UInt8) (A : Nat → Addr) (w : World) (e : Ending) (w' : World) : Prop :=
  w.grownBy w' none ∧ match wdQ [] [] l with
    | .ok L => ∃ v LB, e = .returned (.tuple #[v, .nilIface]) ∧ OwnRR w' w.heap.size 105 102 v LB ∧ LB.length ≤ 5000 ∧ pcLL LB = L
    | .error bad => ∃ a c, e = .returned (.tuple #[.slice a 0 c, errV A bad])
theorem PWdo.row {l : List UInt8} {A : Nat → Addr} {w : World} {e : Ending} {w' : World} (h : PWdo l A w e w') : PWds l A w e w' := by
  obtain ⟨g, h⟩ := h
  refine ⟨g, ?_⟩
  cases hw : wdQ [] [] l with
  | ok L =>
    rw [hw] at h
    obtain ⟨v, LB, he, ho, hl, hp⟩ := h
    exact ⟨v, LB, he, rr_row ho (by omega), hp⟩
  | error k => rw [hw] at h; exact h
/-- a word's text -/
def PTxw (l : List Pb) (w : World) (e : Ending) (w' : World) : Prop := (∃ t : ByteArray, e = .returned (.string t) ∧ t.data.toList = txW (pcL l)) ∧ w.grownBy w' none
/-- whether rows are the same -/
def PSmw (La Lb : List (List Pb)) (w : World) (e : Ending) (w' : World) : Prop := (∃ z, e = .returned (.bool z) ∧ (z = true ↔ La = Lb)) ∧ w.grownBy w' none
/-- what a word says -/
def PLit (l : List Pb) (w : World) (e : Ending) (w' : World) : Prop := (∃ t : ByteArray, e = .returned (.tuple #[.string t, .bool ((pcL l).all litB)]) ∧ t.data.toList = litQ (pcL l)) ∧ w.grownBy w' none
theorem wd_alive : wdQ [] [] [97, 36, 120, 39, 98, 32, 99, 39, 32, 100] = .ok [[⟨0, [97], [], []⟩, ⟨2, [120], [], []⟩, ⟨1, [98, 32, 99], [], []⟩], [⟨0, [100], [], []⟩]] := by
  have h1 : onQ [97, 36, 120, 39, 98, 32, 99, 39, 32, 100] = .ok (⟨0, [97], [], []⟩, [36, 120, 39, 98, 32, 99, 39, 32, 100]) := by rfl
  have h2 : onQ [36, 120, 39, 98, 32, 99, 39, 32, 100] = .ok (⟨2, [120], [], []⟩, [39, 98, 32, 99, 39, 32, 100]) := by rfl
  have h3 : onQ [39, 98, 32, 99, 39, 32, 100] = .ok (⟨1, [98, 32, 99], [], []⟩, [32, 100]) := by rfl
  have h4 : onQ [100] = .ok (⟨0, [100], [], []⟩, []) := by rfl
  have b1 : ¬ blkQ 97 = true := by decide
  have b2 : ¬ blkQ 36 = true := by decide
  have b3 : ¬ blkQ 39 = true := by decide
  have b4 : ¬ blkQ 100 = true := by decide
  have b5 : blkQ 32 = true := by decide
  rw [wdQ, if_neg b1, h1]
  simp only
  rw [if_pos (by decide), wdQ, if_neg b2, h2]
  simp only
  rw [if_pos (by decide), wdQ, if_neg b3, h3]
  simp only
  rw [if_pos (by decide), wdQ, if_pos b5, wdQ, if_neg b4, h4]
  simp only
  rw [if_pos (by decide), wdQ]
  rfl
theorem len_two {α : Type} {l : List α} (h : l.length = 2) : ∃ a b, l = [a, b] := by
  match l, h with
  | [a, b], _ => exact ⟨a, b, rfl⟩
theorem len_three {α : Type} {l : List α} (h : l.length = 3) : ∃ a b c, l = [a, b, c] := by
  match l, h with
  | [a, b, c], _ => exact ⟨a, b, c, rfl⟩
theorem pc_one_of {x : Pb} {k : Int} {t : List UInt8} (h : x.q = ⟨k, t, [], []⟩) : x.k = k ∧ x.t.data.toList = t := by
  unfold Pb.q at h
  simp only [Pq.mk.injEq] at h
  exact ⟨h.1, h.2.1⟩
end Go.Proofs.YtdganemgldocoaaGreatDoor
