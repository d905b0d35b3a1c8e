/- Walks of the document's layer 3: Make. -/
import Derived.Test.YtgicfbhhnohndaaGreatDoorArS
namespace Go.Proofs.YtgicfbhhnohndaaGreatDoor
open Go.RowKit

theorem fits_of {m : Mb} (h1 : nameB m.n = true) (h2 : timeB m.t = true) (h3 : m.c.size ≤ 100000) : Fits m := by
  rw [time_iff] at h2
  refine ⟨by have := (name_lo h1).2.1; omega, itoa_len (k := 11) (by omega) (by omega), itoa_len (k := 9) (by omega) ?_⟩
  have : (10 : Nat) ^ (9 + 1) = 10000000000 := by decide
  rw [this]; omega
theorem makeL_take' {l : List Mb} {k : Nat} {m : Mb} (h : l[k]? = some m) : makeL (l.take (k + 1)) = makeL (l.take k) ++ oneL m := by
  rw [take_snocM h]; unfold makeL; rw [List.flatMap_append, List.append_assoc]; simp
/-- what the document's Make answers -/
def RMakePost (l : List Mb) (w : World) (e : Ending) (w' : World) : Prop :=
  ∃ x : ByteArray, e = .returned (.tuple #[.string x, .int .i64 (makeE l)]) ∧ ((makeE l ≠ 0 ∧ x = ⟨#[]⟩) ∨ (makeE l = 0 ∧ x.data.toList = makeL l)) ∧ w.grownBy w' none
theorem rmake_no {l : List Mb} {w w' : World} {k : Nat} (h : makeE l = k) (hk : k ≠ 0) (hg : w.grownBy w' none) : RMakePost l w (.returned (.tuple #[.string ⟨#[]⟩, .int .i64 k])) w' :=
  ⟨⟨#[]⟩, by rw [h], .inl ⟨by omega, rfl⟩, hg⟩

set_option maxRecDepth 100000 in
set_option maxHeartbeats 4000000 in
theorem rMake (v : Value) (l : List Mb) (base : Nat) (w : World) (h : OwnM w base 45 v l) (hcs : ∀ m ∈ l, m.c.size ≤ 100000) :
    Calls Tryz.prog 9 #[v] w (RMakePost l w) := by
  have HR := Lib.hid h.row
  obtain ⟨a, c, rfl, hlc, hcm⟩ := h.cap
  have HCS := Lib.hid hcs
  clear h hcs
  go_enter Tryz.func9, Tryz.ntmps9
  go_wp2
  go_loopw [5, 17] (fun _ i wr => ∃ k : Nat, k ≤ l.length ∧ i = .int .i64 k ∧ Hid ((l.take k).all (fun m => nameB m.n) = true) ∧ Hid (w.grownBy wr none)) (fun _ i _ => l.length - (intOf i).toNat)
  case atStart => exact ⟨0, Nat.zero_le _, rfl, Lib.hid rfl, Lib.hid (World.grownBy.refl _ _)⟩
  case round =>
    obtain ⟨k, hk, rfl, ha, hG⟩ := hrel
    by_cases hlt : k < l.length
    · obtain ⟨b, off, c', m, e, hm, sn, sc, hb, c0, c1, c2⟩ := (HR.out.grown hG.out).at k hlt
      cases e
      have Hm := Lib.hid hm
      have HS := Lib.hid sn
      clear hm sn sc
      cases hq : nameB m.n
      · have HQ := Lib.hid (makeE_name (all_badM (p := fun m => nameB m.n) Hm.out hq))
        go_wp2_with (go_at_call 18; refine (rNamed _ _ HS.out).mono ?_; rintro e w' ⟨rfl, rfl⟩)
        go_ret2
        exact rmake_no HQ.out (by decide) (hG.out.trans (World.grownBy_alloc _ _ _))
      · have HQ := Lib.hid (all_snocM (p := fun m => nameB m.n) Hm.out ha.out hq)
        go_wp2_with (go_at_call 18; refine (rNamed _ _ HS.out).mono ?_; rintro e w' ⟨rfl, rfl⟩)
        go_roundw
        case rel => exact ⟨k + 1, by omega, by go_num, HQ, Lib.hid (hG.out.trans (World.grownBy_alloc _ _ _))⟩
        case measure => simp [intOf]; omega
    · have N1 := Lib.hid (all_endM (k := k) (by omega) (fun m => nameB m.n) ha.out)
      have GS := hG
      clear ha hG
      obtain rfl : k = l.length := by omega
      go_wp2
      obtain ⟨wo, rfl⟩ : ∃ wo : World, wo = wr := ⟨_, rfl⟩
      go_loopw [7, 28] (fun _ i wr => ∃ k : Nat, k ≤ l.length ∧ i = .int .i64 k ∧ Hid ((l.take k).all (fun m => timeB m.t) = true) ∧ Hid (w.grownBy wr none)) (fun _ i _ => l.length - (intOf i).toNat)
      case atStart => exact ⟨0, Nat.zero_le _, rfl, Lib.hid rfl, GS⟩
      case round =>
        obtain ⟨k, hk, rfl, ha, hG⟩ := hrel
        by_cases hlt : k < l.length
        · obtain ⟨b, off, c', m, e, hm, sn, sc, hb, c0, c1, c2⟩ := (HR.out.grown hG.out).at k hlt
          cases e
          have Hm := Lib.hid hm
          clear hm sn sc
          by_cases h1 : m.t < 1
          · have HQ := Lib.hid (makeE_time N1.out (all_badM (p := fun m => timeB m.t) Hm.out ((time_not m.t).2 (.inl h1))))
            go_wp2
            go_ret2
            exact rmake_no HQ.out (by decide) (hG.out.trans (World.grownBy_alloc _ _ _))
          · by_cases h2 : 549755813888 < m.t
            · have HQ := Lib.hid (makeE_time N1.out (all_badM (p := fun m => timeB m.t) Hm.out ((time_not m.t).2 (.inr h2))))
              go_wp2
              go_ret2
              exact rmake_no HQ.out (by decide) (hG.out.trans (World.grownBy_alloc _ _ _))
            · have HQ := Lib.hid (all_snocM (p := fun m => timeB m.t) Hm.out ha.out ((time_iff m.t).2 (by omega)))
              go_wp2
              go_roundw
              case rel => exact ⟨k + 1, by omega, by go_num, HQ, Lib.hid (hG.out.trans (World.grownBy_alloc _ _ _))⟩
              case measure => simp [intOf]; omega
        · have N2 := Lib.hid (all_endM (k := k) (by omega) (fun m => timeB m.t) ha.out)
          have GS3 := hG
          clear ha hG GS
          obtain rfl : k = l.length := by omega
          go_wp2
          obtain ⟨wq, rfl⟩ : ∃ wq : World, wq = wr := ⟨_, rfl⟩
          go_loopw [8, 9, 11, 43, 52] (fun _ _ _ i _ wr => ∃ k : Nat, k ≤ l.length ∧ i = .int .i64 k ∧ Hid (uniqB (l.take k) = true) ∧ Hid (w.grownBy wr none)) (fun _ _ _ i _ _ => l.length - (intOf i).toNat)
          case atStart => exact ⟨0, Nat.zero_le _, rfl, Lib.hid rfl, GS3⟩
          case round =>
            obtain ⟨k, hk, rfl, ha, hG⟩ := hrel
            by_cases hlt : k < l.length
            · obtain ⟨b, off, c', m, e, hm, sn, sc, hb, c0, c1, c2⟩ := (HR.out.grown hG.out).at k hlt
              cases e
              have Hm := Lib.hid hm
              have BX := Lib.hid (boxR_new wr m)
              have GX := Lib.hid (hG.out.trans (World.grownBy_alloc wr (.cells #[.string m.n, .int .i64 m.t, .string m.c] 45) none))
              have hkc : (k : Int) ≤ (c : Int) := by omega
              have hk0 : (0 : Int) ≤ (k : Int) := by omega
              have hdk : decide ((k : Int) < (l.length : Int)) = true := decide_eq_true (by omega)
              clear hm sn sc
              go_wp2
              generalize (wr.alloc (.cells #[.string m.n, .int .i64 m.t, .string m.c] 45)) = wx at *
              generalize wr.heap.size = p at *
              clear c0 c1 c2 hb hG
              go_loopw [11, 52] (fun _ i wi => ∃ j : Nat, j ≤ k ∧ i = .int .i64 j ∧ Hid (hasB (namesM (l.take j)) m.n = false) ∧ Hid (wx.grownBy wi none)) (fun _ i _ => k - (intOf i).toNat)
              case atStart => exact ⟨0, Nat.zero_le _, rfl, Lib.hid rfl, Lib.hid (World.grownBy.refl _ _)⟩
              case round =>
                obtain ⟨j, hj, rfl, hn, hGi⟩ := hrel
                have GI := Lib.hid (GX.out.trans hGi.out)
                obtain ⟨p0, -, -⟩ := (BX.out.kept hGi.out).cells
                have hpw := cell_block p0
                by_cases hjk : j < k
                · obtain ⟨b', off', c'', mj, e, hmj, -, -, hb, c0, c1, c2⟩ := (HR.out.grown GI.out).at j (by omega)
                  cases e
                  have Hj := Lib.hid hmj
                  have p1 := cell_al p0
                  have HNE := Lib.hid (Nat.ne_of_lt hpw)
                  clear hmj
                  cases hq : (m.n.toList == mj.n.toList)
                  · have HA := Lib.hid (show hasB (namesM (l.take (j + 1))) m.n = false by
                      rw [has_false]
                      intro hm2
                      unfold namesM at hm2
                      rw [take_snocM Hj.out, List.map_append, List.mem_append] at hm2
                      rcases hm2 with h | h
                      · exact (has_false _ _).1 hn.out h
                      · simp at h; exact ne_of_toList.1 hq h)
                    go_wp2
                    go_roundw
                    case rel => exact ⟨j + 1, by omega, by go_num, HA, Lib.hid (hGi.out.trans (World.grownBy_alloc _ _ _))⟩
                    case measure => simp [intOf]; omega
                  · have HQ := Lib.hid (makeE_dup N1.out N2.out (uniq_hit Hm.out ((has_iff _ _).2 (by
                      have e := eq_of_toList.1 hq
                      rw [e]; unfold namesM
                      refine List.mem_map.2 ⟨mj, ?_, rfl⟩
                      have : (l.take k)[j]? = some mj := by rw [List.getElem?_take_of_lt hjk]; exact Hj.out
                      exact List.mem_of_getElem? this))))
                    go_wp2
                    go_ret2
                    exact rmake_no HQ.out (by decide) (GI.out.trans (World.grownBy_alloc _ _ _))
                · obtain rfl : j = k := by omega
                  have HU := Lib.hid (uniq_snoc Hm.out ha.out hn.out)
                  go_wp2
                  go_roundw
                  case rel => exact ⟨j + 1, by omega, by go_num, HU, GI⟩
                  case measure => simp [intOf]; omega
            · have N3 := Lib.hid (uniq_end (k := k) (by omega) ha.out)
              have GS5 := hG
              clear ha hG
              obtain rfl : k = l.length := by omega
              go_wp2
              obtain ⟨wz, rfl⟩ : ∃ wz : World, wz = wr := ⟨_, rfl⟩
              have FT := Lib.hid (show ∀ m ∈ l, Fits m ∧ 0 ≤ m.t ∧ m.t ≤ 9223372036854775807 ∧ m.c.size ≤ 100000 from fun m hm => by
                have n1 := List.all_eq_true.1 N1.out m hm
                have n2 := List.all_eq_true.1 N2.out m hm
                have n3 := (time_iff _).1 n2
                exact ⟨fits_of n1 n2 (HCS.out m hm), by omega, by omega, HCS.out m hm⟩)
              have HEND := Lib.hid (makeE_end N1.out N2.out N3.out)
              clear N1 N2 N3 HCS
              go_loopw [12, 14, 65] (fun z _ i wr => ∃ (k : Nat) (y : ByteArray), k ≤ l.length ∧ i = .int .i64 k ∧ z = .string y ∧ Hid (y.data.toList = makeL (l.take k)) ∧ y.size ≤ 900 ∧ Hid (w.grownBy wr none)) (fun _ _ i _ => l.length - (intOf i).toNat)
              case atStart => exact ⟨0, _, Nat.zero_le _, rfl, rfl, Lib.hid rfl, by decide, GS5⟩
              case round =>
                obtain ⟨k, y, hk, rfl, rfl, hy, hys, hG⟩ := hrel
                have hfit : ∀ j, ∀ m ∈ l.take j, Fits m := fun j m hm => (FT.out m (List.mem_of_mem_take hm)).1
                by_cases hlt : k < l.length
                · obtain ⟨b, off, c', m, e, hm, sn, sc, hb, c0, c1, c2⟩ := (HR.out.grown hG.out).at k hlt
                  cases e
                  obtain ⟨q1, q2, q3, q4⟩ := FT.out m (List.mem_of_getElem? hm)
                  have hcon := fun (W : World) => rOne m W q1 q2 q3 q4
                  unfold valM at hcon
                  have HC := Lib.hid hcon
                  have HM := Lib.hid (makeL_take' hm)
                  have HLEN := Lib.hid (make_len (hfit (k + 1)))
                  have HLE := Lib.hid (sumM_take_le l (k + 1))
                  clear hm sn sc hcon q1 q2 q3 q4 hfit
                  go_wp2_with fail
                  refine (HC.out _).mono ?_
                  rintro e w5 ⟨x, rfl, hx, hxs, hg⟩
                  have G5 := Lib.hid ((hG.out.trans (World.grownBy_alloc _ _ _)).trans hg)
                  have HY := Lib.hid (show (y ++ x).data.toList = makeL (l.take (k + 1)) by rw [ba_app, hy.out, hx, HM.out])
                  have hsz : (y ++ x).size = y.size + x.size := ByteArray.size_append
                  have HSZ := Lib.hid (show y.size + x.size = 8 + sumM (l.take (k + 1)) by rw [← hsz, ← bytes_len, HY.out, HLEN.out])
                  clear hx hg hy hsz
                  by_cases h9 : 900 < y.size + x.size
                  · have HQ := Lib.hid (show makeE l = 2 by rw [HEND.out, if_pos (by have := HSZ.out; have := HLE.out; omega)])
                    have h9' : (900 : Int) < (y.size : Int) + (x.size : Int) := by omega
                    go_wp2
                    go_ret2
                    exact rmake_no HQ.out (by decide) G5.out
                  · have h9' : ¬ (900 : Int) < (y.size : Int) + (x.size : Int) := by omega
                    go_wp2
                    go_roundw
                    case rel => exact ⟨k + 1, _, by omega, by go_num, rfl, HY, by rw [ByteArray.size_append]; omega, G5⟩
                    case measure => simp [intOf]; omega
                · obtain rfl : k = l.length := by omega
                  have HL := Lib.hid (make_len (hfit l.length))
                  have HY := hy
                  rw [List.take_of_length_le (Nat.le_refl _)] at HL HY
                  have HQ := Lib.hid (show makeE l = 0 by rw [HEND.out, if_neg (by rw [← HL.out, ← HY.out, bytes_len]; omega)])
                  clear hy hfit
                  go_wp2
                  go_ret2
                  exact ⟨y, by rw [HQ.out]; rfl, .inr ⟨HQ.out, HY.out⟩, hG.out⟩
end Go.Proofs.YtgicfbhhnohndaaGreatDoor
