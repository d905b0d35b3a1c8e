/- Walks of package tree: set. -/
import Derived.Test.YtbcemenfklgnkaaGreatDoorTreeA
import Derived.StillTailTactics
namespace Go.Proofs.YtbcemenfklgnkaaGreatDoor
open Go.RowKit Go.Maps

set_option maxRecDepth 100000 in
set_option maxHeartbeats 1000000 in
theorem tSet_range (p : Nat) (f : Fl) (A : Nat → Addr) (w : World) (hS : Sents L5 A w) (ht : f.t < 1 ∨ 549755813888 < f.t) :
    Calls Tryz.prog 56 #[.pointer (some ⟨p, 0, none⟩), valF f] w fun e w' => e = .returned (errV A 1) ∧ w.grownBy w' none := by
  have h1 := hS (1, 5) (by simp [L5])
  simp only at h1
  have h1a := cell_al h1
  clear hS
  obtain ⟨fn, fc, ft⟩ := f
  unfold valF errV
  simp only at ht ⊢
  rcases ht with ht | ht
  all_goals
    go_enter Tryz.func56, Tryz.ntmps56
    go_wp2
    go_ret
    exact ⟨by simp, World.grownBy_alloc _ _ _⟩

set_option maxRecDepth 100000 in
set_option maxHeartbeats 1000000 in
theorem tSet_full (p b : Nat) (l : List Fl) (f : Fl) (A : Nat → Addr) (w : World) (h : IsTree w p b l) (hS : Sents L5 A w) (hn : f.n.size ≤ maxLen) (t1 : 1 ≤ f.t) (t2 : f.t ≤ 549755813888) (hno : hasL l f.n = false) (hf : 40 ≤ l.length) :
    Calls Tryz.prog 56 #[.pointer (some ⟨p, 0, none⟩), valF f] w fun e w' => e = .returned (errV A 10) ∧ w.grownBy w' none := by
  have h1 := hS (10, 10) (by simp [L5])
  simp only at h1
  have hc := h.1
  have hm := h.2.1
  obtain ⟨fn, fc, ft⟩ := f
  unfold valF errV
  simp only at t1 t2 hn hno ⊢
  have hl := fun (x : World) (hx : MapIs x b l) => hx.look_ok hn
  rw [hno, getL_not hno] at hl
  have HL := Lib.hid hl
  clear hl hS h
  have hne := World.new_ne w _ hc
  go_enter Tryz.func56, Tryz.ntmps56
  go_wp2
  go_region_held3 (fun w' => w'.cell? ⟨p, 0, none⟩ = some (.map (some b)) ∧ w'.cell? ⟨w.heap.size, 0, none⟩ = some (.string fn) ∧
      (Instr.lookup 70 (.map (some b)) (.string fn) true).run Tryz.prog w' = .ok (.tuple #[.agg #[.string nilF.n, .string nilF.c, .int .i64 nilF.t], .bool false]) w')
    (first
      | (go_split_ands
         refine ⟨by go_keep, by go_keep, ?_⟩
         refine HL.out _ ?_
         repeat (first | exact hm | apply MapIs.alloc | apply MapIs.drew)))
    (fail)
  all_goals
    have hl2 := fun ty => (((hm.alloc (.cells #[.string fn, .string fc, .int .i64 ft] 61)).alloc (.cells #[.string nilF.n, .string nilF.c, .int .i64 nilF.t] 61)).drew).len_run ty
    have h1a := cell_al2 h1
    go_wp2
    go_ret
    exact ⟨by simp, grown_drew ((World.grownBy_alloc _ _ _).trans (World.grownBy_alloc _ _ _))⟩

set_option maxRecDepth 100000 in
set_option maxHeartbeats 1000000 in
theorem tSet_old (p b : Nat) (l : List Fl) (f : Fl) (w : World) (h : IsTree w p b l) (hn : f.n.size ≤ maxLen) (t1 : 1 ≤ f.t) (t2 : f.t ≤ 549755813888) (hq : hasL l f.n = true) :
    Calls Tryz.prog 56 #[.pointer (some ⟨p, 0, none⟩), valF f] w fun e w' => e = .returned .nilIface ∧ IsTree w' p b (putL l f) ∧ w.grownBy w' (some b) := by
  have hc := h.1
  have hm := h.2.1
  have h40 := h.2.2
  have HLEN := Lib.hid (show (putL l f).length ≤ 40 by
    exact Nat.le_trans (putL_len_has hq) h40
    )
  have HPUT := Lib.hid (fun (w' : World) n (hx : w'.ownsMap Tryz.prog 9 fileElem b n ((toD l).put (keyS f.n) (datF f))) => MapIs.put hx)
  have HV := Lib.hid (fileElem_mk f)
  have HK := Lib.hid (keyIs hn)
  have hl := fun (x : World) (hx : MapIs x b l) => hx.look_ok hn
  rw [hq] at hl
  obtain ⟨fn, fc, ft⟩ := f
  unfold valF at HV ⊢
  simp only at t1 t2 hn hl hq
  obtain ⟨g, hg⟩ : ∃ g, g = getL l fn := ⟨_, rfl⟩
  rw [← hg] at hl
  have HL := Lib.hid hl
  have hne := World.new_ne w _ hc
  have hnb := Lib.hid h.ne
  have hbl := Lib.hid h.lt
  clear hl h hg hq
  go_enter Tryz.func56, Tryz.ntmps56
  go_wp2
  go_region_held3 (fun w' => w'.cell? ⟨p, 0, none⟩ = some (.map (some b)) ∧ w'.cell? ⟨w.heap.size, 0, none⟩ = some (.string fn) ∧
      (Instr.lookup 70 (.map (some b)) (.string fn) true).run Tryz.prog w' = .ok (.tuple #[.agg #[.string g.n, .string g.c, .int .i64 g.t], .bool true]) w')
    (first
      | (go_split_ands
         refine ⟨by go_keep, by go_keep, ?_⟩
         refine HL.out _ ?_
         repeat (first | exact hm | apply MapIs.alloc | apply MapIs.drew)))
    (fail)
  all_goals
    have hm2 := ((hm.alloc (.cells #[.string fn, .string fc, .int .i64 ft] 61)).alloc (.cells #[.string g.n, .string g.c, .int .i64 g.t] 61)).drew
    have hcp : ((w.alloc (.cells #[.string fn, .string fc, .int .i64 ft] 61)).alloc (.cells #[.string g.n, .string g.c, .int .i64 g.t] 61)).drew.cell? ⟨p, 0, none⟩ = some (.map (some b)) := cell_al2 hc _ _
    have hb0 : ((w.alloc (.cells #[.string fn, .string fc, .int .i64 ft] 61)).alloc (.cells #[.string g.n, .string g.c, .int .i64 g.t] 61)).drew.cell? ⟨w.heap.size, 0, none⟩ = some (.string fn) := by go_simp
    have hb1 : ((w.alloc (.cells #[.string fn, .string fc, .int .i64 ft] 61)).alloc (.cells #[.string g.n, .string g.c, .int .i64 g.t] 61)).drew.cell? ⟨w.heap.size, 1, none⟩ = some (.string fc) := by go_simp
    have hb2 : ((w.alloc (.cells #[.string fn, .string fc, .int .i64 ft] 61)).alloc (.cells #[.string g.n, .string g.c, .int .i64 g.t] 61)).drew.cell? ⟨w.heap.size, 2, none⟩ = some (.int .i64 ft) := by go_simp
    have hg2 := (grown_drew ((World.grownBy_alloc w (.cells #[.string fn, .string fc, .int .i64 ft] 61) (some b)).trans (World.grownBy_alloc _ (.cells #[.string g.n, .string g.c, .int .i64 g.t] 61) (some b))))
    generalize ((w.alloc (.cells #[.string fn, .string fc, .int .i64 ft] 61)).alloc (.cells #[.string g.n, .string g.c, .int .i64 g.t] 61)).drew = W at hm2 hcp hb0 hb1 hb2 hg2 ⊢
    have HG2 := Lib.hid hg2
    clear hg2
    obtain ⟨w2, hrun, hmap2, hgr⟩ := World.ownsMap.update hm2.drew lawS Tryz.underlying70 (by unfold maxLen; omega) HK.out HV.out
    have hbn : some w.heap.size ≠ some b := fun e => by have := Option.some.inj e; have := hbl.out.2; omega
    have hpn : some p ≠ some b := fun e => hnb.out (Option.some.inj e)
    have KEEP := Lib.hid (show w2.cell? ⟨p, 0, none⟩ = some (.map (some b)) ∧ w2.cell? ⟨w.heap.size, 0, none⟩ = some (.string fn) ∧ w2.cell? ⟨w.heap.size, 1, none⟩ = some (.string fc) ∧ w2.cell? ⟨w.heap.size, 2, none⟩ = some (.int .i64 ft) from
      ⟨hgr.cell hcp hpn, hgr.cell hb0 hbn, hgr.cell hb1 hbn, hgr.cell hb2 hbn⟩)
    have HM2 := Lib.hid hmap2; have HGR := Lib.hid hgr
    clear hmap2 hgr hbn hpn
    have hl2 := fun ty => hm2.len_run ty
    have hnm := mapNil
    go_wp2
    go_region_held3 (fun w' => w'.cell? ⟨p, 0, none⟩ = some (.map (some b)) ∧ w'.cell? ⟨w.heap.size, 0, none⟩ = some (.string fn) ∧ w'.cell? ⟨w.heap.size, 1, none⟩ = some (.string fc) ∧ w'.cell? ⟨w.heap.size, 2, none⟩ = some (.int .i64 ft))
      (first | exact KEEP.out | (go_split_ands; refine ⟨by go_keep, by go_keep, by go_keep, by go_keep⟩))
      (fail)
    go_wp2
    go_ret
    exact ⟨rfl, ⟨KEEP.out.1, HPUT.out _ _ HM2.out, HLEN.out⟩, (grown_drew HG2.out).trans HGR.out⟩

set_option maxRecDepth 100000 in
set_option maxHeartbeats 1000000 in
theorem tSet_new (p b : Nat) (l : List Fl) (f : Fl) (w : World) (h : IsTree w p b l) (hn : f.n.size ≤ maxLen) (t1 : 1 ≤ f.t) (t2 : f.t ≤ 549755813888) (hq : hasL l f.n = false) (hroom : l.length < 40) :
    Calls Tryz.prog 56 #[.pointer (some ⟨p, 0, none⟩), valF f] w fun e w' => e = .returned .nilIface ∧ IsTree w' p b (putL l f) ∧ w.grownBy w' (some b) := by
  have hc := h.1
  have hm := h.2.1
  have h40 := h.2.2
  have HLEN := Lib.hid (show (putL l f).length ≤ 40 by
    have := putL_len_le l f; omega
    )
  have HPUT := Lib.hid (fun (w' : World) n (hx : w'.ownsMap Tryz.prog 9 fileElem b n ((toD l).put (keyS f.n) (datF f))) => MapIs.put hx)
  have HV := Lib.hid (fileElem_mk f)
  have HK := Lib.hid (keyIs hn)
  have hl := fun (x : World) (hx : MapIs x b l) => hx.look_ok hn
  rw [hq] at hl
  obtain ⟨fn, fc, ft⟩ := f
  unfold valF at HV ⊢
  simp only at t1 t2 hn hl hq
  obtain ⟨g, hg⟩ : ∃ g, g = getL l fn := ⟨_, rfl⟩
  rw [← hg] at hl
  have HL := Lib.hid hl
  have hne := World.new_ne w _ hc
  have hnb := Lib.hid h.ne
  have hbl := Lib.hid h.lt
  clear hl h hg hq
  go_enter Tryz.func56, Tryz.ntmps56
  go_wp2
  go_region_held3 (fun w' => w'.cell? ⟨p, 0, none⟩ = some (.map (some b)) ∧ w'.cell? ⟨w.heap.size, 0, none⟩ = some (.string fn) ∧
      (Instr.lookup 70 (.map (some b)) (.string fn) true).run Tryz.prog w' = .ok (.tuple #[.agg #[.string g.n, .string g.c, .int .i64 g.t], .bool false]) w')
    (first
      | (go_split_ands
         refine ⟨by go_keep, by go_keep, ?_⟩
         refine HL.out _ ?_
         repeat (first | exact hm | apply MapIs.alloc | apply MapIs.drew)))
    (fail)
  all_goals
    have hm2 := ((hm.alloc (.cells #[.string fn, .string fc, .int .i64 ft] 61)).alloc (.cells #[.string g.n, .string g.c, .int .i64 g.t] 61)).drew
    have hcp : ((w.alloc (.cells #[.string fn, .string fc, .int .i64 ft] 61)).alloc (.cells #[.string g.n, .string g.c, .int .i64 g.t] 61)).drew.cell? ⟨p, 0, none⟩ = some (.map (some b)) := cell_al2 hc _ _
    have hb0 : ((w.alloc (.cells #[.string fn, .string fc, .int .i64 ft] 61)).alloc (.cells #[.string g.n, .string g.c, .int .i64 g.t] 61)).drew.cell? ⟨w.heap.size, 0, none⟩ = some (.string fn) := by go_simp
    have hb1 : ((w.alloc (.cells #[.string fn, .string fc, .int .i64 ft] 61)).alloc (.cells #[.string g.n, .string g.c, .int .i64 g.t] 61)).drew.cell? ⟨w.heap.size, 1, none⟩ = some (.string fc) := by go_simp
    have hb2 : ((w.alloc (.cells #[.string fn, .string fc, .int .i64 ft] 61)).alloc (.cells #[.string g.n, .string g.c, .int .i64 g.t] 61)).drew.cell? ⟨w.heap.size, 2, none⟩ = some (.int .i64 ft) := by go_simp
    have hg2 := (grown_drew ((World.grownBy_alloc w (.cells #[.string fn, .string fc, .int .i64 ft] 61) (some b)).trans (World.grownBy_alloc _ (.cells #[.string g.n, .string g.c, .int .i64 g.t] 61) (some b))))
    generalize ((w.alloc (.cells #[.string fn, .string fc, .int .i64 ft] 61)).alloc (.cells #[.string g.n, .string g.c, .int .i64 g.t] 61)).drew = W at hm2 hcp hb0 hb1 hb2 hg2 ⊢
    have HG2 := Lib.hid hg2
    clear hg2
    obtain ⟨w2, hrun, hmap2, hgr⟩ := World.ownsMap.update hm2.drew lawS Tryz.underlying70 (by unfold maxLen; omega) HK.out HV.out
    have hbn : some w.heap.size ≠ some b := fun e => by have := Option.some.inj e; have := hbl.out.2; omega
    have hpn : some p ≠ some b := fun e => hnb.out (Option.some.inj e)
    have KEEP := Lib.hid (show w2.cell? ⟨p, 0, none⟩ = some (.map (some b)) ∧ w2.cell? ⟨w.heap.size, 0, none⟩ = some (.string fn) ∧ w2.cell? ⟨w.heap.size, 1, none⟩ = some (.string fc) ∧ w2.cell? ⟨w.heap.size, 2, none⟩ = some (.int .i64 ft) from
      ⟨hgr.cell hcp hpn, hgr.cell hb0 hbn, hgr.cell hb1 hbn, hgr.cell hb2 hbn⟩)
    have HM2 := Lib.hid hmap2; have HGR := Lib.hid hgr
    clear hmap2 hgr hbn hpn
    have hl2 := fun ty => hm2.len_run ty
    have hnm := mapNil
    go_wp2
    go_region_held3 (fun w' => w'.cell? ⟨p, 0, none⟩ = some (.map (some b)) ∧ w'.cell? ⟨w.heap.size, 0, none⟩ = some (.string fn) ∧ w'.cell? ⟨w.heap.size, 1, none⟩ = some (.string fc) ∧ w'.cell? ⟨w.heap.size, 2, none⟩ = some (.int .i64 ft))
      (first | exact KEEP.out | (go_split_ands; refine ⟨by go_keep, by go_keep, by go_keep, by go_keep⟩))
      (fail)
    go_wp2
    go_ret
    exact ⟨rfl, ⟨KEEP.out.1, HPUT.out _ _ HM2.out, HLEN.out⟩, (grown_drew HG2.out).trans HGR.out⟩

end Go.Proofs.YtbcemenfklgnkaaGreatDoor
