/- Walks of package tree: Of. -/
import Derived.Test.YtpedamncnimgpaaDoorTreeC
import Derived.Test.YtpedamncnimgpaaDoorTreeF
import Derived.Deep.QuietTactic
import Derived.BigQuiet
namespace Go.Proofs.YtpedamncnimgpaaDoor
open Go.RowKit Go.Maps

/-- files that are put, one behind the other: the number of the first error, and the tree -/
def ofG : List Fl → List Fl → Nat × List Fl
  | [], ts => (0, ts)
  | f :: r, ts => if hasL ts f.n = true then (9, ts) else if putE ts f = 0 then ofG r (putL ts f) else (putE ts f, ts)
theorem ofG_dup {l : List Fl} {k : Nat} {f : Fl} {ts : List Fl} (h : l[k]? = some f) (hh : hasL ts f.n = true) : (ofG (l.drop k) ts).1 = 9 := by
  obtain ⟨hk, e⟩ := List.getElem?_eq_some_iff.1 h
  rw [List.drop_eq_getElem_cons hk, e]
  unfold ofG
  rw [if_pos hh]
theorem ofG_bad {l : List Fl} {k : Nat} {f : Fl} {ts : List Fl} (h : l[k]? = some f) (hh : hasL ts f.n = false) (hp : putE ts f ≠ 0) : (ofG (l.drop k) ts).1 = putE ts f := by
  obtain ⟨hk, e⟩ := List.getElem?_eq_some_iff.1 h
  rw [List.drop_eq_getElem_cons hk, e]
  unfold ofG
  rw [if_neg (by rw [hh]; simp), if_neg hp]
theorem ofG_next {l : List Fl} {k : Nat} {f : Fl} {ts : List Fl} (h : l[k]? = some f) (hh : hasL ts f.n = false) (hp : putE ts f = 0) : ofG (l.drop k) ts = ofG (l.drop (k + 1)) (putL ts f) := by
  obtain ⟨hk, e⟩ := List.getElem?_eq_some_iff.1 h
  rw [List.drop_eq_getElem_cons hk, e, ofG]
  rw [if_neg (by rw [hh]; simp), if_pos hp]
theorem ofG_done {l : List Fl} {k : Nat} {ts : List Fl} (hk : l.length ≤ k) : ofG (l.drop k) ts = (0, ts) := by
  rw [List.drop_eq_nil_of_le hk]; rfl

/-- what Of answers -/
def OfPost (l : List Fl) (A : Nat → Addr) (w : World) (e : Ending) (w' : World) : Prop :=
  (∃ k, k ≠ 0 ∧ (ofG l []).1 = k ∧ e = .returned (.tuple #[.pointer none, .iface 117 (.pointer (some (A k)))]) ∧ w.grownBy w' none) ∨
  ((ofG l []).1 = 0 ∧ e = .returned (.tuple #[.pointer (some ⟨w.heap.size + 1, 0, none⟩), .nilIface]) ∧ IsTree w' (w.heap.size + 1) w.heap.size (ofG l []).2 ∧ w.grownBy w' none)
/-- how the loop of Of stands behind k files -/
def OfSt (l : List Fl) (A : Nat → Addr) (v : Value) (w : World) (k : Nat) (ts : List Fl) (wr : World) : Prop :=
  IsTree wr (w.heap.size + 1) w.heap.size ts ∧ FRow wr v l ∧ Sents L5 A wr ∧ w.grownBy wr none ∧ ofG l [] = ofG (l.drop k) ts

set_option maxRecDepth 100000 in
set_option maxHeartbeats 2000000 in
theorem tOf (v : Value) (l : List Fl) (A : Nat → Addr) (w : World) (h : FRow w v l) (hS : Sents L5 A w) :
    Calls Tryd.prog 22 #[v] w fun e w' => OfPost l A w e w' := by
  have HR := Lib.hid h; have HS := Lib.hid hS
  obtain ⟨a, c, rfl, hn, -, -⟩ := h
  clear hS
  go_enter Tryd.func22, Tryd.ntmps22
  go_wp2_with fail
  refine (tNew _).mono ?_
  rintro e w1 ⟨rfl, t1, g1⟩
  have ST := Lib.hid (show OfSt l A (.slice a l.length c) w 0 [] w1 from ⟨t1, HR.out.later (below_of_grown g1), HS.out.grown g1, g1, rfl⟩)
  clear t1 g1
  go_wp2
  go_loopw [6, 13] (fun _ i wr => ∃ k : Nat, k ≤ l.length ∧ i = .int .i64 k ∧ ∃ ts, Hid (OfSt l A (.slice a l.length c) w k ts wr)) (fun _ i _ => l.length - (intOf i).toNat)
  case atStart => exact ⟨0, Nat.zero_le _, rfl, [], ST⟩
  case round =>
    obtain ⟨k, hk, rfl, ts, hst⟩ := hrel
    by_cases hlt : k < l.length
    · obtain ⟨b, off, c', f, e, hf, sn, sc, hb, c0, c1, c2⟩ := hst.out.2.1.at k hlt
      cases e
      have Hf := Lib.hid hf
      have hcp := hst.out.1.1
      have hm := hst.out.1.2.1
      have SN := Lib.hid sn; have SC := Lib.hid sc
      obtain ⟨fn, fc, ft⟩ := f
      simp only at c0 c1 c2 sn sc
      have hl := fun (x : World) (hx : MapIs x w.heap.size ts) => hx.look_ok sn
      obtain ⟨g, hg⟩ : ∃ g, g = getL ts fn := ⟨_, rfl⟩
      rw [← hg] at hl
      have hne := World.new_ne wr _ hcp
      clear hf hg
      by_cases hq : hasL ts fn = true
      · rw [hq] at hl
        have HL := Lib.hid hl
        have HE := Lib.hid (hst.out.2.2.2.2.symm ▸ ofG_dup Hf.out hq : (ofG l []).1 = 9)
        have h9 := hst.out.2.2.1 (9, 3) (by simp [L5])
        simp only at h9
        clear hl sn sc
        go_wp2
        go_region_held3 (fun w' => w'.cell? ⟨w.heap.size + 1, 0, none⟩ = some (.map (some w.heap.size)) ∧ w'.cell? ⟨wr.heap.size, 0, none⟩ = some (.string fn) ∧
            (Instr.lookup 60 (.map (some w.heap.size)) (.string fn) true).run Tryd.prog w' = .ok (.tuple #[.agg #[.string g.n, .string g.c, .int .i64 g.t], .bool true]) w')
          (first
            | (go_split_ands
               refine ⟨by go_keep, by go_keep, ?_⟩
               refine HL.out _ ?_
               repeat (first | exact hm | apply MapIs.alloc | apply MapIs.drew)))
          (fail)
        all_goals
          have h9a := cell_al2 h9
          go_wp2
          go_quiet (fail)
          go_wp2
          go_ret2
          exact .inl ⟨9, by decide, HE.out, rfl, hst.out.2.2.2.1.trans (grown_drewN (grown_drew ((World.grownBy_alloc wr _ none).trans (World.grownBy_alloc _ _ none))) _)⟩
      have hq' : hasL ts fn = false := by simpa using hq
      clear hq
      rw [hq'] at hl
      have HL := Lib.hid hl
      have hcon := tPut (w.heap.size + 1) w.heap.size ts ⟨fn, fc, ft⟩ A
      simp only at hcon
      clear hl sn sc
      by_cases hp : putE ts ⟨fn, fc, ft⟩ = 0
      · have HE := Lib.hid (hst.out.2.2.2.2.trans (ofG_next Hf.out hq' hp))
        rw [hp, errV_zero, show setL 0 ts ⟨fn, fc, ft⟩ = putL ts ⟨fn, fc, ft⟩ from rfl] at hcon
        clear hp
        go_wp2
        go_region_held3 (fun w' => w'.cell? ⟨w.heap.size + 1, 0, none⟩ = some (.map (some w.heap.size)) ∧ w'.cell? ⟨wr.heap.size, 0, none⟩ = some (.string fn) ∧
            (Instr.lookup 60 (.map (some w.heap.size)) (.string fn) true).run Tryd.prog w' = .ok (.tuple #[.agg #[.string g.n, .string g.c, .int .i64 g.t], .bool false]) w')
          (first
            | (go_split_ands
               refine ⟨by go_keep, by go_keep, ?_⟩
               refine HL.out _ ?_
               repeat (first | exact hm | apply MapIs.alloc | apply MapIs.drew)))
          (fail)
        all_goals
          have gW := grown_drew ((World.grownBy_alloc wr (.cells #[.string fn, .string fc, .int .i64 ft] 31) none).trans (World.grownBy_alloc _ (.cells #[.string g.n, .string g.c, .int .i64 g.t] 31) none))
          have tW := hst.out.1.kept gW (by simp) (by simp)
          have b0 : ((wr.alloc (.cells #[.string fn, .string fc, .int .i64 ft] 31)).alloc (.cells #[.string g.n, .string g.c, .int .i64 g.t] 31)).drew.cell? ⟨wr.heap.size, 0, none⟩ = some (.string fn) := by go_simp
          have b1 : ((wr.alloc (.cells #[.string fn, .string fc, .int .i64 ft] 31)).alloc (.cells #[.string g.n, .string g.c, .int .i64 g.t] 31)).drew.cell? ⟨wr.heap.size, 1, none⟩ = some (.string fc) := by go_simp
          have b2 : ((wr.alloc (.cells #[.string fn, .string fc, .int .i64 ft] 31)).alloc (.cells #[.string g.n, .string g.c, .int .i64 g.t] 31)).drew.cell? ⟨wr.heap.size, 2, none⟩ = some (.int .i64 ft) := by go_simp
          generalize ((wr.alloc (.cells #[.string fn, .string fc, .int .i64 ft] 31)).alloc (.cells #[.string g.n, .string g.c, .int .i64 g.t] 31)).drew = W at gW tW b0 b1 b2 ⊢
          have GW := Lib.hid gW; have TW := Lib.hid tW
          have SW := Lib.hid (hst.out.2.2.1.grown gW); have RW := Lib.hid (hst.out.2.1.later (below_of_grown gW))
          clear gW tW hcp hm
          go_wp2_with (first | (go_at_call 10; refine (hcon _ TW.out SW.out SN.out SC.out).mono ?_; rintro e w2 ⟨rfl, t2, g2⟩; have T2 := Lib.hid t2; have G2 := Lib.hid g2; clear t2 g2) | go_in)
          go_roundw
          case rel =>
            have gg := grown_none (hst.out.2.2.2.1.trans GW.out) G2.out (Nat.le_refl _)
            exact ⟨k + 1, by omega, by go_num, _, Lib.hid ⟨T2.out, RW.out.kept_map G2.out TW.out.2.1, SW.out.kept_map G2.out TW.out.2.1, gg, HE.out⟩⟩
          case measure => simp [intOf]; omega
      · have HE := Lib.hid (hst.out.2.2.2.2.symm ▸ ofG_bad Hf.out hq' hp : (ofG l []).1 = putE ts ⟨fn, fc, ft⟩)
        have HP := Lib.hid hp
        rw [errV_ne hp] at hcon
        clear hp
        go_wp2
        go_region_held3 (fun w' => w'.cell? ⟨w.heap.size + 1, 0, none⟩ = some (.map (some w.heap.size)) ∧ w'.cell? ⟨wr.heap.size, 0, none⟩ = some (.string fn) ∧
            (Instr.lookup 60 (.map (some w.heap.size)) (.string fn) true).run Tryd.prog w' = .ok (.tuple #[.agg #[.string g.n, .string g.c, .int .i64 g.t], .bool false]) w')
          (first
            | (go_split_ands
               refine ⟨by go_keep, by go_keep, ?_⟩
               refine HL.out _ ?_
               repeat (first | exact hm | apply MapIs.alloc | apply MapIs.drew)))
          (fail)
        all_goals
          have gW := grown_drew ((World.grownBy_alloc wr (.cells #[.string fn, .string fc, .int .i64 ft] 31) none).trans (World.grownBy_alloc _ (.cells #[.string g.n, .string g.c, .int .i64 g.t] 31) none))
          have tW := hst.out.1.kept gW (by simp) (by simp)
          have b0 : ((wr.alloc (.cells #[.string fn, .string fc, .int .i64 ft] 31)).alloc (.cells #[.string g.n, .string g.c, .int .i64 g.t] 31)).drew.cell? ⟨wr.heap.size, 0, none⟩ = some (.string fn) := by go_simp
          have b1 : ((wr.alloc (.cells #[.string fn, .string fc, .int .i64 ft] 31)).alloc (.cells #[.string g.n, .string g.c, .int .i64 g.t] 31)).drew.cell? ⟨wr.heap.size, 1, none⟩ = some (.string fc) := by go_simp
          have b2 : ((wr.alloc (.cells #[.string fn, .string fc, .int .i64 ft] 31)).alloc (.cells #[.string g.n, .string g.c, .int .i64 g.t] 31)).drew.cell? ⟨wr.heap.size, 2, none⟩ = some (.int .i64 ft) := by go_simp
          generalize ((wr.alloc (.cells #[.string fn, .string fc, .int .i64 ft] 31)).alloc (.cells #[.string g.n, .string g.c, .int .i64 g.t] 31)).drew = W at gW tW b0 b1 b2 ⊢
          have GW := Lib.hid gW; have TW := Lib.hid tW
          have SW := Lib.hid (hst.out.2.2.1.grown gW); have RW := Lib.hid (hst.out.2.1.later (below_of_grown gW))
          clear gW tW hcp hm
          go_wp2_with (first | (go_at_call 10; refine (hcon _ TW.out SW.out SN.out SC.out).mono ?_; rintro e w2 ⟨rfl, t2, g2⟩; have T2 := Lib.hid t2; have G2 := Lib.hid g2; clear t2 g2) | go_in)
          go_ret2
          exact .inl ⟨_, HP.out, HE.out, rfl, grown_none (hst.out.2.2.2.1.trans GW.out) G2.out (Nat.le_refl _)⟩
    · have HE := Lib.hid (hst.out.2.2.2.2.trans (ofG_done (by omega)))
      go_wp2
      go_ret2
      exact .inr ⟨by rw [HE.out], rfl, by rw [HE.out]; exact hst.out.1, hst.out.2.2.2.1⟩
end Go.Proofs.YtpedamncnimgpaaDoor
