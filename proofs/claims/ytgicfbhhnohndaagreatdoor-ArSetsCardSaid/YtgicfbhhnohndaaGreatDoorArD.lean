/- Walks of package ar: Make. -/
import Derived.Test.YtgicfbhhnohndaaGreatDoorArC
import Derived.Lib.Builder
namespace Go.Proofs.YtgicfbhhnohndaaGreatDoor
open Go.RowKit

theorem makeL_zero : makeL [] = magL := by unfold makeL; simp
theorem makeL_take {l : List Mb} {k : Nat} {m : Mb} (h : l[k]? = some m) : makeL (l.take (k + 1)) = makeL (l.take k) ++ oneL m := by
  rw [take_snocM h]; unfold makeL; rw [List.flatMap_append, List.append_assoc]; simp
theorem makeL_len {l : List Mb} (h : makeE l = 0) (k : Nat) : (makeL (l.take k)).length ≤ 900 := by
  have hf : ∀ m ∈ l, Fits m := fun m hm => (good_of h hm).fits
  rw [make_len (fun m hm => hf m (List.mem_of_mem_take hm))]
  have := sumM_take_le l k
  have := ((makeE_zero l).1 h).2.2.2
  omega

/-- strings.Builder's WriteString, by the laying of strings.Repeat, which calls it: its own laying falls at this translation -/
theorem bWrite (B b : Nat) (bs : List Value) (s : ByteArray) (w : World) (h : Lib.IsBuilder 53 5 B b bs w) (hlen : bs.length + s.size ≤ 140737488355328) (hBw : B ≤ w.heap.size) :
    Calls Tryz.prog 20 #[.pointer (some ⟨b, 0, none⟩), .string s] w fun e w' => e = .returned (.tuple #[.int .i64 s.size, .nilIface]) ∧ (Lib.BuilderAt 53 5 B b (.pointer (some ⟨b, 0, none⟩)) (bs ++ Lib.strCells s) w' ∧ Below B w w') :=
  Any.Builder_WriteString { Tryz.lays105 with } Tryz.Builder_Extra_105 B b bs s w h hlen hBw
theorem bsize {b : Nat} {w w' : World} (hb : w.heap.size = b) (h : Below b w w') : b ≤ w'.heap.size := hb ▸ h.size
theorem builder_kept {T e : TypeId} {B b : Nat} {bs : List Value} {w w' : World} (h : Lib.IsBuilder T e B b bs w) (hg : w.grownBy w' none) : Lib.IsBuilder T e B b bs w' := by
  have one : ∀ p, Lib.BuilderAt T e B b p bs w → Lib.BuilderAt T e B b p bs w' := by
    rintro p ⟨hB, v, hb, ho, hn⟩
    exact ⟨hB, v, (hg.block b (Array.getElem?_eq_some_iff.1 hb).1 (by simp)).trans hb, ho.kept hg (by cases hq : v.ownBlock; exact .inl rfl; exact .inr (by simp)), hn⟩
  rcases h with h | h
  · exact .inl (one _ h)
  · exact .inr (one _ h)

set_option maxRecDepth 100000 in
set_option maxHeartbeats 1000000 in
theorem aMake_no (v : Value) (l : List Mb) (A : Nat → Addr) (w : World) (h : MRow w v l) (hE : Env A w) (hs : sumM l ≤ 10000000) (hk : makeE l ≠ 0) :
    Calls Tryz.prog 8 #[v] w fun e w' => e = .returned (.tuple #[.string ⟨#[]⟩, .iface 146 (.pointer (some (A (makeE l))))]) ∧ w.grownBy w' none := by
  have hcon := aFault v l A w h hE hs
  rw [errV_ne hk] at hcon
  generalize makeE l = k at hcon ⊢
  have HC := Lib.hid hcon
  clear hcon hE h
  go_enter Tryz.func8, Tryz.ntmps8
  go_wp2_with (go_at_call 19; refine (HC.out).mono ?_; rintro e w' ⟨rfl, hg⟩; have G := Lib.hid hg; clear hg)
  go_ret2
  exact ⟨rfl, G.out⟩

set_option maxRecDepth 100000 in
set_option maxHeartbeats 1000000 in
theorem aMake_yes (v : Value) (l : List Mb) (A : Nat → Addr) (w : World) (h : MRow w v l) (hE : Env A w) (hk : makeE l = 0) {x : ByteArray} (hx : x.data.toList = makeL l) :
    Calls Tryz.prog 8 #[v] w fun e w' => e = .returned (.tuple #[.string x, .nilIface]) ∧ w.grownBy w' none := by
  have hs : sumM l ≤ 10000000 := by have := ((makeE_zero l).1 hk).2.2.2; omega
  have hcon := aFault v l A w h hE hs
  rw [hk, errV_zero] at hcon
  have HC := Lib.hid hcon
  have HR := Lib.hid h; have HE := Lib.hid hE; have HK := Lib.hid hk; have HX := Lib.hid hx
  obtain ⟨a, c, rfl, hn, -, -⟩ := h
  clear hcon hE hk hs hx
  go_enter Tryz.func8, Tryz.ntmps8
  go_wp2_with (go_at_call 19; refine (HC.out).mono ?_; rintro e w1 ⟨rfl, hg⟩; have G := Lib.hid hg; clear hg)
  have sz := G.out.size
  have BD := Lib.hid (Lib.fresh_isBuilder 53 5 w1)
  have BL := Lib.hid ((Below.refl w1.heap.size w1).alloc (Nat.le_refl _) (.cells #[.pointer none, .slice none 0 0] 53))
  generalize hwb : w1.alloc (.cells #[.pointer none, .slice none 0 0] 53) = wb at *
  clear hwb
  refine (bWrite w1.heap.size w1.heap.size [] ⟨#[33, 60, 97, 114, 99, 104, 62, 10]⟩ wb BD.out (by decide) BL.out.size).mono ?_
  rintro e w2 ⟨rfl, hb2, hbl2⟩
  have BD2 := Lib.hid (show Lib.IsBuilder 53 5 w1.heap.size w1.heap.size (Lib.byteCells (makeL (l.take 0))) w2 from by
    rw [List.take_zero, makeL_zero]; exact .inr hb2)
  have BL2 := Lib.hid (BL.out.trans hbl2)
  clear hb2 hbl2 BD BL
  generalize hbb : w1.heap.size = b at *
  have HB := Lib.hid hbb
  clear hbb
  go_wp2
  go_loopw [7, 16] (fun _ i wr => ∃ k : Nat, k ≤ l.length ∧ i = .int .i64 k ∧ Hid (Lib.IsBuilder 53 5 b b (Lib.byteCells (makeL (l.take k))) wr) ∧ Hid (Below b w1 wr)) (fun _ i _ => l.length - (intOf i).toNat)
  case atStart => exact ⟨0, Nat.zero_le _, rfl, BD2, BL2⟩
  case round =>
    obtain ⟨k, hk, rfl, hBD, hBL⟩ := hrel
    have GW := Lib.hid (G.out.trans (grown_of_below (by rw [HB.out]; exact hBL.out)))
    by_cases hlt : k < l.length
    · obtain ⟨mb, off, c', m, e, hm, sn, sc, hb, c0, c1, c2⟩ := (HR.out.grown GW.out).at k hlt
      cases e
      have Hm := Lib.hid (makeL_take hm)
      have HG := Lib.hid (good_of HK.out (List.mem_of_getElem? hm))
      have HL := Lib.hid (makeL_len HK.out (k + 1))
      clear hm sn sc
      have G3 := Lib.hid (GW.out.trans (World.grownBy_alloc wr (.cells #[.string m.n, .int .i64 m.t, .string m.c] 35) none))
      have BD3 := Lib.hid (builder_kept hBD.out (World.grownBy_alloc wr (.cells #[.string m.n, .int .i64 m.t, .string m.c] 35) none))
      have BL3 := Lib.hid (hBL.out.alloc (bsize HB.out hBL.out) (.cells #[.string m.n, .int .i64 m.t, .string m.c] 35))
      have ht := (time_iff _).1 HG.out.2.1
      have hcon := fun (W : World) (hW : w.grownBy W none) => aWritten m A W (HE.out.grown hW) HG.out.fits (by omega) (by omega) (by have := HG.out.2.2; omega)
      unfold valM at hcon
      have HCW := Lib.hid hcon
      clear hcon ht
      go_wp2_with fail
      generalize (wr.alloc (.cells #[.string m.n, .int .i64 m.t, .string m.c] 35)) = wx at *
      refine (HCW.out wx G3.out).mono ?_
      rintro e w4 ⟨y, rfl, hy, hg4⟩
      have BD4 := Lib.hid (builder_kept BD3.out hg4)
      have BL4 := Lib.hid (BL3.out.trans ((below_of_grown hg4).mono (bsize HB.out BL3.out)))
      have HY := Lib.hid hy
      clear hy hg4 BD3 BL3 G3 hBD hBL
      go_wp2_with fail
      refine (bWrite b b _ y w4 BD4.out (by rw [Lib.byteCells_length, ← bytes_len y, HY.out]; have := HL.out; rw [Hm.out, List.length_append] at this; omega) (bsize HB.out BL4.out)).mono ?_
      rintro e w5 ⟨rfl, hb5, hbl5⟩
      have BD5 := Lib.hid (show Lib.IsBuilder 53 5 b b (Lib.byteCells (makeL (l.take (k + 1)))) w5 from by
        rw [Hm.out, Lib.byteCells_append, ← HY.out]; exact .inr hb5)
      have BL5 := Lib.hid (BL4.out.trans hbl5)
      clear hb5 hbl5 BD4 BL4
      go_wp2
      go_roundw
      case rel => exact ⟨k + 1, by omega, by go_num, BD5, BL5⟩
      case measure => simp [intOf]; omega
    · obtain rfl : k = l.length := by omega
      have HX2 := Lib.hid (show x = ⟨(makeL l).toArray⟩ from ba_ext (by rw [HX.out]))
      have BDE := hBD
      rw [List.take_of_length_le (Nat.le_refl _)] at BDE
      clear hBD
      go_wp2_with fail
      refine (Tryz.Builder_String_any b b _ wr BDE.out (bsize HB.out hBL.out)).mono ?_
      rintro e w5 ⟨rfl, hbl5⟩
      have BL5 := Lib.hid (hBL.out.trans hbl5)
      clear hbl5
      go_wp2
      go_ret2
      exact ⟨by rw [HX2.out]; rfl, G.out.trans (grown_of_below (by rw [HB.out]; exact BL5.out))⟩
end Go.Proofs.YtgicfbhhnohndaaGreatDoor
