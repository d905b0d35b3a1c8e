/- The document's own answers on regular expressions: the set of a byte; rows of signs: how many open, where one closes. -/
import Derived.Test.YtonbcldhbinmeaaDoorRexPlain
import Derived.Test.YtonbcldhbinmeaaDoorClsROf
namespace Go.Proofs.YtonbcldhbinmeaaDoor
open Go.RowKit

theorem infoArr7 : (Tryd.prog.info? 80).map (fun i => (i.zero, i.size)) = some (some (.agg (arrV fun _ => false)), 256) := by kernel_rfl
theorem mkS_one (b : Nat) : mkS (fun j => j == b) = one b := inn_ext fun j hj => by
  rw [inn_mkS _ j hj, inn_one b j hj, Bool.eq_iff_iff]; simp

set_option maxRecDepth 100000 in
set_option maxHeartbeats 1000000 in
theorem cSingle (b : Nat) (w : World) (hb : b < 256) :
    Calls Tryd.prog 37 #[.int .u8 b] w fun e w' => e = .returned (setV (one b)) ∧ w.grownBy w' none := by
  obtain ⟨hz, hs⟩ := zero_of_info infoArr7
  have hZs := arr_size (fun _ => false)
  have hZ1 := arr_one (fun _ => false)
  have HX := Lib.hid (arr_set (fun _ => false) (fun j => j == b) b (fun j _ => by simp))
  have c0' := Lib.hid (arr_get (fun _ => false) b hb)
  generalize (arrV fun _ => false) = Z at hz hZs hZ1 HX c0'
  obtain ⟨b1, b2, g⟩ := heap2 w (.cells #[.int .u64 0, .int .u64 0, .int .u64 0, .int .u64 0] 24) (.cells Z 80)
  have s2 := store_same (P := Tryd.prog) b2 (by rw [hZs]; exact hs) hZ1
  have B1 := Lib.hid b1; have B2 := Lib.hid b2; have G := Lib.hid g
  clear b1 b2 g hs hZ1
  go_enter Tryd.func37, Tryd.ntmps37
  go_upto_region 2 with fail
  obtain ⟨r, er⟩ : ∃ r, r = w.heap.size := ⟨_, rfl⟩
  obtain ⟨p, ep⟩ : ∃ p, p = w.heap.size + 1 := ⟨_, rfl⟩
  have HP := Lib.hid (show w.heap.size ≤ p by omega)
  have HR := Lib.hid (show w.heap.size ≤ r by omega)
  have hne : r ≠ p := by omega
  rw [← ep] at B2 ⊢
  rw [← er] at B1 ⊢
  generalize ((w.alloc _).alloc _) = w1 at B1 B2 G s2 ⊢
  clear s2 er ep hz hZs
  have c0 := (cell_of_row w1 p b _ _ _ B2.out).trans c0'.out
  have f0 := four_free B2.out b
  go_upto_region 3 with fail
  have B1' := Lib.hid ((heap_setCell_other w1 ⟨p, b, none⟩ r (.bool true) hne).trans B1.out)
  have B2' := Lib.hid (show (w1.setCell ⟨p, b, none⟩ (.bool true)).heap[p]? = some (.cells (arrV fun j => j == b) 80 (0, 0)) by rw [← HX.out]; exact heap_setCell_same w1 p b _ _ _ B2.out)
  have G' := Lib.hid (grown_set G.out b (.bool true) HP.out)
  generalize w1.setCell _ _ = w2 at B1' B2' G' ⊢
  have HI := Lib.hid (show (Tryd.prog.info? 80).map (·.size) = some (arrV fun j => j == b).size by rw [arr_size]; exact (zero_of_info infoArr7).2)
  have C := Lib.hid (fun w => mkS_one b ▸ cROf (fun j => j == b) w)
  generalize (arrV fun j => j == b) = X at B2' HI C
  clear B1 B2 G HX c0' c0 f0
  go_wp2_with (first
    | (refine wpList_load_row rfl 80 (.tmp 3) rfl p rfl 80 X (0, 0) _ B2'.out Tryd.underlying80 rfl HI.out ?_)
    | (go_at_call 39; refine (C.out _).mono ?_; rintro e w3 ⟨rfl, g3⟩; have B3 := Lib.hid (heap_grown g3 B1'.out); have G3 := Lib.hid (G'.out.trans g3); clear g3; obtain ⟨r0, r1, r2, r3⟩ := four_cells B3.out; have fr := four_free B3.out))
  refine bodyPost_ret (v := setV (one b)) (back_setT 24 Tryd.underlying24 (by kernel_rfl) Tryd.results37 rfl (set_four B3.out _ _ _ _)) rfl ⟨rfl, ?_⟩
  exact grown_set (grown_set (grown_set (grown_set G3.out _ _ HR.out) _ _ HR.out) _ _ HR.out) _ _ HR.out

/-- a slice of signs that lies in memory -/
def SgRow (w : World) (v : Value) (l : List Sg) : Prop :=
  ∃ a c, v = .slice a l.length c ∧ (l.length ≤ 100 ∧ ∀ x ∈ l, x.m < 256) ∧ (l ≠ [] → ∃ b off, a = some ⟨b, off, none⟩ ∧ b < w.heap.size ∧ ∀ k x, l[k]? = some x →
    w.cell? ⟨b, off + k * 5, none⟩ = some (.int .u8 x.m) ∧ w.cell? ⟨b, off + k * 5 + 1, none⟩ = some (.int .u64 (wd x.s 0)) ∧ w.cell? ⟨b, off + k * 5 + 2, none⟩ = some (.int .u64 (wd x.s 1)) ∧ w.cell? ⟨b, off + k * 5 + 3, none⟩ = some (.int .u64 (wd x.s 2)) ∧ w.cell? ⟨b, off + k * 5 + 4, none⟩ = some (.int .u64 (wd x.s 3)))
theorem SgRow.grown {w w' : World} {v : Value} {l : List Sg} (h : SgRow w v l) (g : w.grownBy w' none) : SgRow w' v l := by
  obtain ⟨a, c, hv, hl, hr⟩ := h
  refine ⟨a, c, hv, hl, fun hn => ?_⟩
  obtain ⟨b, off, ha, hb, hc⟩ := hr hn
  refine ⟨b, off, ha, Nat.lt_of_lt_of_le hb g.size, fun k x hx => ?_⟩
  obtain ⟨h0, h1, h2, h3, h4⟩ := hc k x hx
  exact ⟨g.cell h0 (by simp), g.cell h1 (by simp), g.cell h2 (by simp), g.cell h3 (by simp), g.cell h4 (by simp)⟩
def opnC (l : List Sg) : Nat := l.countP (fun x => x.m == 40)
theorem opn_take {l : List Sg} {k : Nat} {x : Sg} (h : l[k]? = some x) : opnC (l.take (k + 1)) = opnC (l.take k) + if x.m = 40 then 1 else 0 := by
  obtain ⟨hk, e⟩ := List.getElem?_eq_some_iff.1 h
  unfold opnC
  rw [List.take_succ_eq_append_getElem hk, e, List.countP_append]
  by_cases hx : x.m = 40 <;> simp [hx]
theorem opn_le (l : List Sg) : opnC l ≤ l.length := List.countP_le_length

set_option maxRecDepth 100000 in
set_option maxHeartbeats 1000000 in
theorem cOpened (v : Value) (l : List Sg) (w : World) (h : SgRow w v l) :
    Calls Tryd.prog 23 #[v] w fun e w' => e = .returned (.int .i64 (opnC l)) ∧ w.grownBy w' none := by
  have H := Lib.hid h
  obtain ⟨a, c, rfl, ⟨hn, -⟩, -⟩ := h
  go_enter Tryd.func23, Tryd.ntmps23
  go_wp2
  go_loopw [3, 5, 8] (fun n _ i wr => ∃ k : Nat, k ≤ l.length ∧ i = .int .i64 k ∧ n = .int .i64 (opnC (l.take k)) ∧ Hid (w.grownBy wr none)) (fun _ _ i _ => l.length - (intOf i).toNat)
  case atStart => exact ⟨0, Nat.zero_le _, rfl, rfl, Lib.hid (World.grownBy.refl _ _)⟩
  case round =>
    obtain ⟨k, hk, rfl, rfl, hG⟩ := hrel
    by_cases hlt : k < l.length
    · obtain ⟨x, hx⟩ : ∃ x, l[k]? = some x := ⟨_, List.getElem?_eq_getElem hlt⟩
      have OT := Lib.hid (opn_take hx)
      have OL := opn_le (l.take k)
      have OL2 : (l.take k).length ≤ k := List.length_take_le _ _
      obtain ⟨a', c', e, ⟨-, hm⟩, hr⟩ := H.out.grown hG.out
      have hxm := hm x (List.mem_of_getElem? hx)
      cases e
      obtain ⟨b, off, rfl, hb, hc⟩ := hr (by intro e; rw [e] at hlt; simp at hlt)
      obtain ⟨c0, c1, c2, c3, c4⟩ := hc k x hx
      clear hc hx hr hm
      obtain ⟨m, em⟩ : ∃ m, m = opnC (l.take k) := ⟨_, rfl⟩
      rw [← em] at OT OL ⊢
      clear em
      by_cases h40 : x.m = 40
      all_goals
        have GX := Lib.hid (hG.out.trans (World.grownBy_alloc wr (.cells #[.int .u8 x.m, .int .u64 (wd x.s 0), .int .u64 (wd x.s 1), .int .u64 (wd x.s 2), .int .u64 (wd x.s 3)] 77) none))
      · have e40 : ((x.m : Int) == 40) = true := by rw [h40]; rfl
        have H40 := Lib.hid h40
        clear h40
        go_wp2
        go_roundw
        case rel => exact ⟨k + 1, by omega, by go_num, by rw [OT.out, if_pos H40.out]; go_num, GX⟩
        case measure => simp [intOf]; omega
      · have e40 : ((x.m : Int) == 40) = false := by simp; omega
        go_wp2
        go_roundw
        case rel => exact ⟨k + 1, by omega, by go_num, by rw [OT.out, if_neg h40]; rfl, GX⟩
        case measure => simp [intOf]; omega
    · obtain rfl : k = l.length := by omega
      rw [List.take_length]
      go_wp2
      go_ret
      exact ⟨rfl, hG.out⟩

/-- where the bracket closes that is open, seen from a place, at a depth -/
def cloF (l : List Sg) (i : Nat) (d : Int) : Int :=
  if h : i < l.length then
    let d1 := if l[i].m = 40 then d + 1 else if l[i].m = 41 then d - 1 else d
    if d1 = 0 then i else cloF l (i + 1) d1
  else -1
termination_by l.length - i

theorem clo_end {l : List Sg} {i : Nat} (d : Int) (h : ¬ i < l.length) : cloF l i d = -1 := by rw [cloF, dif_neg h]
def deepF (x : Sg) (d : Int) : Int := if x.m = 40 then d + 1 else if x.m = 41 then d - 1 else d
theorem clo_hit {l : List Sg} {i : Nat} {x : Sg} {d : Int} (h : l[i]? = some x) (hd : deepF x d = 0) : cloF l i d = i := by
  obtain ⟨hi, e⟩ := List.getElem?_eq_some_iff.1 h
  rw [cloF, dif_pos hi, e]
  unfold deepF at hd
  simp only [hd, if_true]
theorem clo_on {l : List Sg} {i : Nat} {x : Sg} {d : Int} (h : l[i]? = some x) (hd : deepF x d ≠ 0) : cloF l i d = cloF l (i + 1) (deepF x d) := by
  obtain ⟨hi, e⟩ := List.getElem?_eq_some_iff.1 h
  rw [cloF, dif_pos hi, e]
  unfold deepF at hd ⊢
  simp only [hd, if_false]

set_option maxRecDepth 100000 in
set_option maxHeartbeats 2000000 in
theorem cClosing (v : Value) (l : List Sg) (at_ : Nat) (hat : at_ ≤ l.length) (w : World) (h : SgRow w v l) :
    Calls Tryd.prog 48 #[v, .int .i64 at_] w fun e w' => e = .returned (.int .i64 (cloF l at_ 0)) ∧ w = w' := by
  have H := Lib.hid h
  obtain ⟨a, c, rfl, ⟨hn, hm⟩, -⟩ := h
  have HM := Lib.hid hm
  clear hm
  go_enter Tryd.func48, Tryd.ntmps48
  go_wp2
  go_loop [5, 6] (fun n i => ∃ (k : Nat) (d : Int), at_ ≤ k ∧ k ≤ l.length ∧ i = .int .i64 k ∧ n = .int .i64 d ∧ -(k : Int) ≤ d ∧ d ≤ k ∧ Hid (cloF l at_ 0 = cloF l k d)) (fun _ i => l.length - (intOf i).toNat)
  case atStart => exact ⟨at_, 0, Nat.le_refl _, hat, rfl, rfl, by omega, by omega, Lib.hid rfl⟩
  case round =>
    obtain ⟨k, d, hk0, hk, rfl, rfl, hd1, hd2, hF⟩ := hrel
    by_cases hlt : k < l.length
    · obtain ⟨x, hx⟩ : ∃ x, l[k]? = some x := ⟨_, List.getElem?_eq_getElem hlt⟩
      have hxm := HM.out x (List.mem_of_getElem? hx)
      obtain ⟨a', c', e, -, hr⟩ := H.out
      cases e
      obtain ⟨b, off, rfl, hb, hc⟩ := hr (by intro e; rw [e] at hlt; simp at hlt)
      obtain ⟨c0, -⟩ := hc k x hx
      have HX := Lib.hid hx
      clear hc hr hx
      have key : (x.m = 40 ∨ x.m = 41 ∨ (x.m ≠ 40 ∧ x.m ≠ 41)) := by omega
      rcases key with h40 | h41 | ⟨h40, h41⟩
      · have e40 : ((x.m : Int) == 40) = true := by rw [h40]; rfl
        have e41 : ((x.m : Int) == 41) = false := by rw [h40]; rfl
        have D : deepF x d = d + 1 := by unfold deepF; rw [if_pos h40]
        by_cases h0 : d + 1 = 0
        · have E := Lib.hid (hF.out.trans (clo_hit HX.out (by rw [D]; exact h0)))
          have d0 : (d + 1 == 0) = true := by rw [h0]; rfl
          clear h40 D h0
          go_wp2
          go_ret
          exact ⟨ret_int E.out.symm, rfl⟩
        · have E := Lib.hid (hF.out.trans (clo_on HX.out (by rw [D]; exact h0)))
          rw [D] at E
          have d0 : (d + 1 == 0) = false := by simpa using h0
          clear h40 D h0
          go_wp2
          go_round
          case rel => exact ⟨k + 1, d + 1, by omega, by omega, by go_num, rfl, by omega, by omega, E⟩
          case measure => simp [intOf]; omega
      · have e40 : ((x.m : Int) == 40) = false := by rw [h41]; rfl
        have e41 : ((x.m : Int) == 41) = true := by rw [h41]; rfl
        have D : deepF x d = d - 1 := by unfold deepF; rw [if_neg (by omega), if_pos h41]
        by_cases h0 : d - 1 = 0
        · have E := Lib.hid (hF.out.trans (clo_hit HX.out (by rw [D]; exact h0)))
          have d0 : (d - 1 == 0) = true := by rw [h0]; rfl
          clear h41 D h0
          go_wp2
          go_ret
          exact ⟨ret_int E.out.symm, rfl⟩
        · have E := Lib.hid (hF.out.trans (clo_on HX.out (by rw [D]; exact h0)))
          rw [D] at E
          have d0 : (d - 1 == 0) = false := by simpa using h0
          clear h41 D h0
          go_wp2
          go_round
          case rel => exact ⟨k + 1, d - 1, by omega, by omega, by go_num, rfl, by omega, by omega, E⟩
          case measure => simp [intOf]; omega
      · have e40 : ((x.m : Int) == 40) = false := by simp; omega
        have e41 : ((x.m : Int) == 41) = false := by simp; omega
        have D : deepF x d = d := by unfold deepF; rw [if_neg h40, if_neg h41]
        by_cases h0 : d = 0
        · have E := Lib.hid (hF.out.trans (clo_hit HX.out (by rw [D]; exact h0)))
          have d0 : (d == 0) = true := by rw [h0]; rfl
          clear h40 h41 D h0
          go_wp2
          go_ret
          exact ⟨ret_int E.out.symm, rfl⟩
        · have E := Lib.hid (hF.out.trans (clo_on HX.out (by rw [D]; exact h0)))
          rw [D] at E
          have d0 : (d == 0) = false := by simpa using h0
          clear h40 h41 D h0
          go_wp2
          go_round
          case rel => exact ⟨k + 1, d, by omega, by omega, by go_num, rfl, by omega, by omega, E⟩
          case measure => simp [intOf]; omega
    · have E := Lib.hid (hF.out.trans (clo_end d hlt))
      go_wp2
      go_ret
      exact ⟨ret_int E.out.symm, rfl⟩
end Go.Proofs.YtonbcldhbinmeaaDoor
