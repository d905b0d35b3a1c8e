/- Walks of package ar: the first of Make's errors. -/
import Derived.Test.YtgicfbhhnohndaaGreatDoorArB
import Derived.Test.YtgicfbhhnohndaaGreatDoorListPlain
import Derived.StringKeys
namespace Go.Proofs.YtgicfbhhnohndaaGreatDoor
open Go.RowKit Go.Maps

theorem Env.e1 {A : Nat → Addr} {w : World} (h : Env A w) : w.cell? ⟨2, 0, none⟩ = some (.iface 146 (.pointer (some (A 1)))) := (h.err.1 (allSn[0]'(by decide)) (List.getElem_mem _)).1
theorem Env.e2 {A : Nat → Addr} {w : World} (h : Env A w) : w.cell? ⟨4, 0, none⟩ = some (.iface 146 (.pointer (some (A 2)))) := (h.err.1 (allSn[1]'(by decide)) (List.getElem_mem _)).1
theorem Env.e3 {A : Nat → Addr} {w : World} (h : Env A w) : w.cell? ⟨0, 0, none⟩ = some (.iface 146 (.pointer (some (A 3)))) := (h.err.1 (allSn[2]'(by decide)) (List.getElem_mem _)).1
theorem Env.e4 {A : Nat → Addr} {w : World} (h : Env A w) : w.cell? ⟨1, 0, none⟩ = some (.iface 146 (.pointer (some (A 4)))) := (h.err.1 (allSn[3]'(by decide)) (List.getElem_mem _)).1
theorem Env.e9 {A : Nat → Addr} {w : World} (h : Env A w) : w.cell? ⟨3, 0, none⟩ = some (.iface 146 (.pointer (some (A 9)))) := (h.err.1 (allSn[8]'(by decide)) (List.getElem_mem _)).1

theorem lawMb : Keyed Tryz.prog 9 := string_keyed Tryz.underlying9
theorem keyMb {s : ByteArray} (h : s.size ≤ maxLen) : keyOf Tryz.prog 9 (.string s) = some (.string s.data.toList) := Go.WideMaps.keyOf_string_mk Tryz.underlying9 h
theorem zeroMb (w : World) : (zeroValue 4).run Tryz.prog w = .ok (.bool false) w := by kernel_rfl

/-- the names that have been seen -/
def namesM (l : List Mb) : List ByteArray := l.map Mb.n
theorem uniq_hit {l : List Mb} {k : Nat} {m : Mb} (h : l[k]? = some m) (hs : hasB (namesM (l.take k)) m.n = true) : uniqB l = false := by
  unfold uniqB
  refine decide_eq_false fun hn => ?_
  have hm := (has_iff _ _).1 hs
  have e : l.map Mb.n = namesM (l.take k) ++ m.n :: (l.drop (k + 1)).map Mb.n := by
    unfold namesM
    rw [← List.map_cons, ← List.map_append]
    congr 1
    obtain ⟨hk, rfl⟩ := List.getElem?_eq_some_iff.1 h
    rw [← List.drop_eq_getElem_cons hk, List.take_append_drop]
  rw [e, List.nodup_append] at hn
  exact hn.2.2 _ hm _ (List.mem_cons_self ..) rfl
theorem uniq_snoc {l : List Mb} {k : Nat} {m : Mb} (h : l[k]? = some m) (hu : uniqB (l.take k) = true) (hs : hasB (namesM (l.take k)) m.n = false) : uniqB (l.take (k + 1)) = true := by
  unfold uniqB at *
  have hu := of_decide_eq_true hu
  refine decide_eq_true ?_
  rw [take_snocM h, List.map_append, List.map_singleton, List.nodup_append]
  refine ⟨hu, by simp, fun a ha b hb e => ?_⟩
  rw [List.mem_singleton] at hb
  subst hb; subst e
  exact (has_false _ _).1 hs ha
theorem uniq_end {l : List Mb} {k : Nat} (hk : l.length ≤ k) (h : uniqB (l.take k) = true) : uniqB l = true := by rwa [List.take_of_length_le hk] at h
theorem names_snoc {l : List Mb} {k : Nat} {m : Mb} (h : l[k]? = some m) : strSet (namesM (l.take (k + 1))) = (strSet (namesM (l.take k))).put (Lit.string m.n.data.toList) (.lit (.bool true)) := by
  rw [take_snocM h]; unfold namesM; rw [List.map_append, List.map_singleton, strSet_snoc]
theorem names_len {l : List Mb} {k : Nat} (hk : k ≤ l.length) : (namesM (l.take k)).length = k := by unfold namesM; simp; omega
theorem sum_takeM {l : List Mb} {k : Nat} {m : Mb} (h : l[k]? = some m) : sumM (l.take (k + 1)) = sumM (l.take k) + sizeM m := by rw [take_snocM h, sumM_snoc]
theorem size_atM {l : List Mb} {k : Nat} {m : Mb} (h : l[k]? = some m) : sizeM m ≤ sumM l := sizeM_mem (List.mem_of_getElem? h)

set_option maxRecDepth 100000 in
set_option maxHeartbeats 4000000 in
theorem aFault (v : Value) (l : List Mb) (A : Nat → Addr) (w : World) (h : MRow w v l) (hE : Env A w) (hs : sumM l ≤ 10000000) :
    Calls Tryz.prog 19 #[v] w fun e w' => e = .returned (errV A (makeE l)) ∧ w.grownBy w' none := by
  have HR := Lib.hid h; have HE := Lib.hid hE
  obtain ⟨a, c, rfl, hn, -, -⟩ := h
  clear hE
  go_enter Tryz.func19, Tryz.ntmps19
  go_wp2
  go_loopw [4, 15] (fun _ i wr => ∃ k : Nat, k ≤ l.length ∧ i = .int .i64 k ∧ Hid ((l.take k).all (fun m => nameB m.n) = true) ∧ Hid (w.grownBy wr none)) (fun _ i _ => l.length - (intOf i).toNat)
  case atStart => exact ⟨0, Nat.zero_le _, rfl, Lib.hid rfl, Lib.hid (World.grownBy.refl _ _)⟩
  case round =>
    obtain ⟨k, hk, rfl, ha, hG⟩ := hrel
    by_cases hlt : k < l.length
    · obtain ⟨b, off, c', m, e, hm, sn, sc, hb, c0, c1, c2⟩ := (HR.out.grown hG.out).at k hlt
      cases e
      have Hm := Lib.hid hm
      have HS := Lib.hid sn
      clear hm sn sc
      cases hq : nameB m.n
      · have HQ := Lib.hid (makeE_name (all_badM (p := fun m => nameB m.n) Hm.out hq))
        go_wp2_with (go_at_call 30; refine (aRight _ _ HS.out).mono ?_; rintro e w' ⟨rfl, hg⟩; have G2 := Lib.hid ((hG.out.trans (World.grownBy_alloc _ _ _)).trans hg); have he := (HE.out.grown G2.out).e4; clear hg)
        go_ret
        exact ⟨by rw [HQ.out]; rfl, G2.out⟩
      · have HQ := Lib.hid (all_snocM (p := fun m => nameB m.n) Hm.out ha.out hq)
        go_wp2_with (go_at_call 30; refine (aRight _ _ HS.out).mono ?_; rintro e w' ⟨rfl, hg⟩; have G2 := Lib.hid ((hG.out.trans (World.grownBy_alloc _ _ _)).trans hg); clear hg)
        go_roundw
        case rel => exact ⟨k + 1, by omega, by go_num, HQ, G2⟩
        case measure => simp [intOf]; omega
    · have N1 := Lib.hid (all_endM (k := k) (by omega) (fun m => nameB m.n) ha.out)
      have GS := hG
      clear ha hG
      obtain rfl : k = l.length := by omega
      go_wp2
      obtain ⟨wo, rfl⟩ : ∃ wo : World, wo = wr := ⟨_, rfl⟩
      go_loopw [6, 27] (fun _ i wr => ∃ k : Nat, k ≤ l.length ∧ i = .int .i64 k ∧ Hid ((l.take k).all (fun m => timeB m.t) = true) ∧ Hid (w.grownBy wr none)) (fun _ i _ => l.length - (intOf i).toNat)
      case atStart => exact ⟨0, Nat.zero_le _, rfl, Lib.hid rfl, GS⟩
      case round =>
        obtain ⟨k, hk, rfl, ha, hG⟩ := hrel
        by_cases hlt : k < l.length
        · obtain ⟨b, off, c', m, e, hm, sn, sc, hb, c0, c1, c2⟩ := (HR.out.grown hG.out).at k hlt
          cases e
          have Hm := Lib.hid hm
          clear hm sn sc
          by_cases h1 : m.t < 1
          · have HQ := Lib.hid (makeE_time N1.out (all_badM (p := fun m => timeB m.t) Hm.out ((time_not m.t).2 (.inl h1))))
            have he := cell_al (HE.out.grown hG.out).e1
            go_wp2
            go_ret
            exact ⟨by rw [HQ.out]; rfl, hG.out.trans (World.grownBy_alloc _ _ _)⟩
          · by_cases h2 : 549755813888 < m.t
            · have HQ := Lib.hid (makeE_time N1.out (all_badM (p := fun m => timeB m.t) Hm.out ((time_not m.t).2 (.inr h2))))
              have he := cell_al (HE.out.grown hG.out).e1
              go_wp2
              go_ret
              exact ⟨by rw [HQ.out]; rfl, hG.out.trans (World.grownBy_alloc _ _ _)⟩
            · have HQ := Lib.hid (all_snocM (p := fun m => timeB m.t) Hm.out ha.out ((time_iff m.t).2 (by omega)))
              go_wp2
              go_roundw
              case rel => exact ⟨k + 1, by omega, by go_num, HQ, Lib.hid (hG.out.trans (World.grownBy_alloc _ _ _))⟩
              case measure => simp [intOf]; omega
        · have N2 := Lib.hid (all_endM (k := k) (by omega) (fun m => timeB m.t) ha.out)
          have GS3 := hG
          clear ha hG GS
          obtain rfl : k = l.length := by omega
          have hmm := @run_makeMap Tryz.prog
          go_wp2
          obtain ⟨wq, rfl⟩ : ∃ wq : World, wq = wr := ⟨_, rfl⟩
          have OWN := Lib.hid (World.ownsMap_made wq Tryz.prog 9 (plainElem (H := Unit) Tryz.prog 4))
          have GS4 := Lib.hid (GS3.out.trans (World.grownBy_alloc wq (.map #[] 0) none))
          have BB := Lib.hid GS3.out.size
          have BL := Lib.hid (show wq.heap.size < (wq.alloc (.map #[] 0)).heap.size by simp)
          generalize wq.alloc (.map #[] 0) = wm at OWN GS4 BL ⊢
          generalize wq.heap.size = mb at OWN BB BL ⊢
          clear hmm GS3
          go_loopw [9, 44] (fun _ i wr => ∃ k : Nat, k ≤ l.length ∧ i = .int .i64 k ∧ Hid (uniqB (l.take k) = true) ∧ Hid (wr.ownsMap Tryz.prog 9 (plainElem Tryz.prog 4) mb k (strSet (namesM (l.take k)))) ∧ Hid (w.grownBy wr none)) (fun _ i _ => l.length - (intOf i).toNat)
          case atStart => exact ⟨0, Nat.zero_le _, rfl, Lib.hid rfl, OWN, GS4⟩
          case round =>
            obtain ⟨k, hk, rfl, ha, hO, hG⟩ := hrel
            by_cases hlt : k < l.length
            · obtain ⟨b, off, c', m, e, hm, sn, sc, hb, c0, c1, c2⟩ := (HR.out.grown hG.out).at k hlt
              cases e
              have Hm := Lib.hid hm
              have HK := Lib.hid (keyMb sn)
              clear hm sn sc
              unfold maxLen at *
              cases hq : hasB (namesM (l.take k)) m.n
              · have HQ := Lib.hid (uniq_snoc Hm.out ha.out hq)
                have HN := Lib.hid (names_snoc Hm.out)
                go_wp2_with (first
                  | (at_lookup; refine look_set _ rfl _ _ 67 rfl 9 4 lawMb Tryz.underlying67 Tryz.underlying4 (zeroMb _) mb k (namesM (l.take k)) rfl (hO.out.alloc _) m.n rfl HK.out ?_; rw [hq])
                  | (at_mapUpdate; refine wpList_mapUpdate_own _ rfl _ _ _ 67 rfl 9 4 lawMb Tryz.underlying67 (plainElem Tryz.prog 4) mb k _ rfl (hO.out.alloc _) (by unfold maxLen; omega) _ _ _ rfl rfl HK.out _ [] (plainElem_bool Tryz.underlying4 true) ?_; intro w1 hown1 hgrow1))
                go_roundw
                case rel => exact ⟨k + 1, by omega, by go_num, HQ, Lib.hid (by rw [HN.out]; exact hown1), Lib.hid (grown_none (hG.out.trans (World.grownBy_alloc _ _ _)) hgrow1 BB.out)⟩
                case measure => simp [intOf]; omega
              · have HQ := Lib.hid (makeE_dup N1.out N2.out (uniq_hit Hm.out hq))
                have he := cell_al (HE.out.grown hG.out).e9
                go_wp2_with (at_lookup; refine look_set _ rfl _ _ 67 rfl 9 4 lawMb Tryz.underlying67 Tryz.underlying4 (zeroMb _) mb k (namesM (l.take k)) rfl (hO.out.alloc _) m.n rfl HK.out ?_; rw [hq])
                go_ret
                exact ⟨by rw [HQ.out]; rfl, hG.out.trans (World.grownBy_alloc _ _ _)⟩
            · have N3 := Lib.hid (uniq_end (k := k) (by omega) ha.out)
              have GS5 := hG
              clear ha hG hO GS4 OWN
              obtain rfl : k = l.length := by omega
              go_wp2
              obtain ⟨wz, rfl⟩ : ∃ wz : World, wz = wr := ⟨_, rfl⟩
              go_loopw [10, 12, 59] (fun z _ i wr => ∃ k : Nat, k ≤ l.length ∧ i = .int .i64 k ∧ z = .int .i64 (8 + sumM (l.take k) : Nat) ∧ Hid (w.grownBy wr none)) (fun _ _ i _ => l.length - (intOf i).toNat)
              case atStart => exact ⟨0, Nat.zero_le _, rfl, rfl, GS5⟩
              case round =>
                obtain ⟨k, hk, rfl, rfl, hG⟩ := hrel
                have hle := sumM_take_le l k
                by_cases hlt : k < l.length
                · obtain ⟨b, off, c', m, e, hm, sn, sc, hb, c0, c1, c2⟩ := (HR.out.grown hG.out).at k hlt
                  cases e
                  have hsz := size_atM hm
                  have hst := sum_takeM hm
                  have hle2 := sumM_take_le l (k + 1)
                  have HST := Lib.hid hst
                  have hb1 : sumM (l.take k) + sizeM m ≤ 10000000 := by omega
                  clear hm sn sc hst hle2 hsz
                  have hcon := fun (W : World) => aSize m W (by unfold sizeM at hb1; omega)
                  unfold valM at hcon
                  have HC := Lib.hid hcon
                  clear hcon
                  generalize sumM (l.take k) = q at *
                  generalize sizeM m = z at *
                  go_wp2_with (go_at_call 12; refine (HC.out _).mono ?_; rintro e w' ⟨rfl, hg⟩; have G2 := Lib.hid ((hG.out.trans (World.grownBy_alloc _ _ _)).trans hg); clear hg)
                  go_roundw
                  case rel => exact ⟨k + 1, by omega, by go_num, by rw [HST.out]; congr 1; omega, G2⟩
                  case measure => simp [intOf]; omega
                · obtain rfl : k = l.length := by omega
                  have HQ := Lib.hid (makeE_end N1.out N2.out N3.out)
                  have he := (HE.out.grown hG.out).e2
                  rw [List.take_of_length_le (Nat.le_refl _)]
                  clear hle
                  by_cases hz : 900 < 8 + sumM l
                  · rw [if_pos hz] at HQ
                    generalize sumM l = q at *
                    go_wp2
                    go_ret
                    exact ⟨by rw [HQ.out]; rfl, hG.out⟩
                  · rw [if_neg hz] at HQ
                    generalize sumM l = q at *
                    go_wp2
                    go_ret
                    exact ⟨by rw [HQ.out]; rfl, hG.out⟩
end Go.Proofs.YtgicfbhhnohndaaGreatDoor
