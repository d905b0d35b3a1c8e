/- Walks of package tree: Copy. -/
import Derived.Test.YtpedamncnimgpaaDoorKeyInv
import Derived.Maps.Ext
import Derived.Deep.RegionWith
namespace Go.Proofs.YtpedamncnimgpaaDoor
open Go.RowKit Go.Maps

set_option maxRecDepth 100000 in
set_option maxHeartbeats 1000000 in
theorem tMapsCopy (bd bs : Nat) (l : List Fl) (w : World) (hd : MapIs w bd []) (hs : MapIs w bs l) (hne : bd ≠ bs) (h40 : l.length ≤ 40) :
    Calls Tryd.prog 27 #[.map (some bd), .map (some bs)] w fun e w' => e = .returned (.tuple #[]) ∧ MapIs w' bd l ∧ w.grownBy w' (some bd) := by
  have hbd := hd.lt
  have hbs := hs.lt
  have HS := Lib.hid (World.ownsMap.canon hs lawS)
  have hsz : Maps.size (toD l) ≤ 40 := by rw [toD_size]; exact h40
  go_enter Tryd.func27, Tryd.ntmps27
  go_wp2_with (first
    | (at_range; refine wpList_range_own _ rfl _ 60 rfl 9 31 lawS Tryd.underlying60 fileElem bs l.length (toD l) rfl hs ?_; intro w0 hrg0 hg0 hs0)
    | go_in)
  go_frame
  go_loopw [8] (fun _ wr => ∃ (left : Lit → Bool) (cnt : Nat) (Dout : DataW Unit), wr.ranges Tryd.prog 9 fileElem bs w.heap.size l.length (toD l) left cnt ∧ cnt ≤ Maps.size (toD l) ∧
      wr.ownsMap Tryd.prog 9 fileElem bd (Maps.size (toD l) - cnt) Dout ∧ Agree Dout (toD l) left ∧ w.grownBy wr (some bd))
    (fun _ wr => wr.rangeLeft bs w.heap.size)
  case atStart =>
    exact ⟨_, _, _, hrg0, Nat.le_refl _, (World.ownsMap.kept hd hg0 (by simp)).mono (by simp), agree_start _, hg0.but _⟩
  case round =>
    obtain ⟨left, cnt, Dout, hrg, hcs, hout, hA, hgw⟩ := hrel
    go_wp2_with (first
      | (at_next; refine wpList_next_ranges _ rfl _ rfl 9 lawS fileElem (fun s : ByteArray => Value.string s) valF (fun key kl hk => ?c1) (fun v y hv => ?c2) bs w.heap.size l.length _ _ _ rfl hrg ?_ ?_)
      | go_in)
    case c1 =>
      obtain ⟨s, rfl, _⟩ := keyOf_inv hk
      exact ⟨s, rfl⟩
    case c2 =>
      obtain ⟨f, rfl, _⟩ := fileElem_inv hv
      exact ⟨f, rfl⟩
    · -- nothing is left
      intro hc0 hl0
      go_wp2
      go_end0
      subst hc0
      have e := agree_end hA hl0 (hout.canon lawS) HS.out
      subst e
      exact ⟨rfl, mapIs_of hout, hgw⟩
    · -- an entry has come
      intro x f kl yd yp w1 cnt1 hkey hlx hv hat hrg1 hlt hg1 hs1 hen
      have hout1 := hout.kept hg1 (fun e => by have := Option.some.inj e; omega)
      have HKEY := Lib.hid hkey; have HV := Lib.hid hv
      have HAT := Lib.hid hat
      have HRG1 := Lib.hid hrg1; have HRG := Lib.hid hrg
      have HA' := Lib.hid hA; have HGW := Lib.hid hgw; have HG1 := Lib.hid hg1
      have hbw : bd < w1.heap.size := hout1.lt
      clear hkey hv hat hrg1 hrg hA hgw hg1 hlx hrg0 hg0 hs hd
      unfold valF at hen HV ⊢
      go_wp2_with (first
        | (at_mapUpdate; refine wpList_mapUpdate_own _ rfl _ _ _ 60 rfl 9 31 lawS Tryd.underlying60 fileElem bd _ _ rfl (hout1.alloc _) (by unfold maxLen; omega) _ _ _ rfl rfl HKEY.out yd yp HV.out ?_; intro w2 hout2 hg2; go_frame)
        | go_in)
      have hg2' := (World.grownBy_alloc w1 (.cells #[.string f.n, .string f.c, .int .i64 f.t] 31) (some bd)).trans hg2
      have hrg2 := HRG1.out.kept hg2' (fun e => hne (Option.some.inj e).symm) (fun e => by have := Option.some.inj e; omega)
      go_roundw
      case rel =>
        exact ⟨_, cnt1, _, hrg2, by omega, hout2.mono (by omega), agree_step HA'.out hout.isMap (lawS.key HKEY.out) HAT.out, (HGW.out.andThen HG1.out (fun j hj => .inl (by cases hj; exact Nat.le_refl _))).andThen hg2' (fun j hj => .inr hj)⟩
      case measure => rw [hrg2.left_eq, HRG.out.left_eq]; exact hlt

set_option maxRecDepth 100000 in
set_option maxHeartbeats 1000000 in
theorem tCopy (p b : Nat) (l : List Fl) (w : World) (h : IsTree w p b l) :
    Calls Tryd.prog 8 #[.pointer (some ⟨p, 0, none⟩)] w fun e w' => e = .returned (.pointer (some ⟨w.heap.size + 1, 0, none⟩)) ∧ IsTree w' (w.heap.size + 1) w.heap.size l ∧ w.grownBy w' none := by
  have HT := Lib.hid h
  have hb := h.2.1.lt
  have hp := h.lt.1
  clear h
  go_enter Tryd.func8, Tryd.ntmps8
  go_wp2_with fail
  refine (tNew _).mono ?_
  rintro e w1 ⟨rfl, t1, g1⟩
  have T0 := Lib.hid (HT.out.kept g1 (by simp) (by simp))
  have T1 := Lib.hid t1; have G1 := Lib.hid g1
  have hc1 := t1.1
  have hc0 := T0.out.1
  clear t1 g1
  go_wp2_with fail
  go_region_held3 (fun w' => w'.cell? ⟨w.heap.size + 1, 0, none⟩ = some (.map (some w.heap.size)) ∧ w'.cell? ⟨p, 0, none⟩ = some (.map (some b)))
    (first
      | (go_split_ands; refine ⟨by go_keep, by go_keep⟩)
      | (go_split_ands; exact ⟨G2.out.cell T1.out.1 (blk_ne (show w.heap.size + 1 ≠ w.heap.size by omega)), G2.out.cell T0.out.1 (blk_ne (show p ≠ w.heap.size by omega))⟩))
    (first
      | (go_at_call 28; refine (tAll p b _ ?_).mono ?_; (simp [*]); rintro e w' ⟨rfl, rfl⟩)
      | (go_at_call 27; refine (tMapsCopy w.heap.size b l _ T1.out.2.1.drew T0.out.2.1.drew (by omega) HT.out.2.2).mono ?_; rintro e w2 ⟨rfl, m2, g2⟩; have M2 := Lib.hid m2; have G2 := Lib.hid g2; clear m2 g2))
  all_goals
    go_wp2
    go_ret
    have gg := (grown_drew (G1.out.but (some w.heap.size))).trans G2.out
    exact ⟨rfl, ⟨G2.out.cell T1.out.1 (blk_ne (show w.heap.size + 1 ≠ w.heap.size by omega)), M2.out, HT.out.2.2⟩,
      ⟨gg.os, gg.tape, gg.output, gg.size, fun i hi _ => gg.block i hi (fun e => by have := Option.some.inj e; omega)⟩⟩
end Go.Proofs.YtpedamncnimgpaaDoor
