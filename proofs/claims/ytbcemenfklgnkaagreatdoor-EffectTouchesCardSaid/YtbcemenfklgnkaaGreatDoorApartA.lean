/- Walks of package tree: Of. What is done to one file leaves all others: the plain part. -/
import Derived.Test.YtbcemenfklgnkaaGreatDoorTreeC
import Derived.Test.YtbcemenfklgnkaaGreatDoorTreeF
import Derived.Deep.QuietTactic
import Derived.BigQuiet
namespace Go.Proofs.YtbcemenfklgnkaaGreatDoor
open Go.RowKit Go.Maps

/-- files that are put, one behind the other: the number of the first error, and the tree -/
def ofG : List Fl → List Fl → Nat × List Fl
  | [], ts => (0, ts)
  | f :: r, ts => if hasL ts f.n = true then (9, ts) else if putE ts f = 0 then ofG r (putL ts f) else (putE ts f, ts)
theorem ofG_dup {l : List Fl} {k : Nat} {f : Fl} {ts : List Fl} (h : l[k]? = some f) (hh : hasL ts f.n = true) : (ofG (l.drop k) ts).1 = 9 := by
  obtain ⟨hk, e⟩ := List.getElem?_eq_some_iff.1 h
  rw [List.drop_eq_getElem_cons hk, e]
  unfold ofG
  rw [if_pos hh]
theorem ofG_bad {l : List Fl} {k : Nat} {f : Fl} {ts : List Fl} (h : l[k]? = some f) (hh : hasL ts f.n = false) (hp : putE ts f ≠ 0) : (ofG (l.drop k) ts).1 = putE ts f := by
  obtain ⟨hk, e⟩ := List.getElem?_eq_some_iff.1 h
  rw [List.drop_eq_getElem_cons hk, e]
  unfold ofG
  rw [if_neg (by rw [hh]; simp), if_neg hp]
theorem ofG_next {l : List Fl} {k : Nat} {f : Fl} {ts : List Fl} (h : l[k]? = some f) (hh : hasL ts f.n = false) (hp : putE ts f = 0) : ofG (l.drop k) ts = ofG (l.drop (k + 1)) (putL ts f) := by
  obtain ⟨hk, e⟩ := List.getElem?_eq_some_iff.1 h
  rw [List.drop_eq_getElem_cons hk, e, ofG]
  rw [if_neg (by rw [hh]; simp), if_pos hp]
theorem ofG_done {l : List Fl} {k : Nat} {ts : List Fl} (hk : l.length ≤ k) : ofG (l.drop k) ts = (0, ts) := by
  rw [List.drop_eq_nil_of_le hk]; rfl

/-- what Of answers -/
def OfPost (l : List Fl) (A : Nat → Addr) (w : World) (e : Ending) (w' : World) : Prop :=
  (∃ k, k ≠ 0 ∧ (ofG l []).1 = k ∧ e = .returned (.tuple #[.pointer none, .iface 236 (.pointer (some (A k)))]) ∧ w.grownBy w' none) ∨
  ((ofG l []).1 = 0 ∧ e = .returned (.tuple #[.pointer (some ⟨w.heap.size + 1, 0, none⟩), .nilIface]) ∧ IsTree w' (w.heap.size + 1) w.heap.size (ofG l []).2 ∧ w.grownBy w' none)
/-- how the loop of Of stands behind k files -/
def OfSt (l : List Fl) (A : Nat → Addr) (v : Value) (w : World) (k : Nat) (ts : List Fl) (wr : World) : Prop :=
  IsTree wr (w.heap.size + 1) w.heap.size ts ∧ FRow wr v l ∧ Sents L5 A wr ∧ w.grownBy wr none ∧ ofG l [] = ofG (l.drop k) ts

set_option maxRecDepth 100000 in
set_option maxHeartbeats 2000000 in
theorem tOf (v : Value) (l : List Fl) (A : Nat → Addr) (w : World) (h : FRow w v l) (hS : Sents L5 A w) :
    Calls Tryz.prog 9 #[v] w fun e w' => OfPost l A w e w' := by
  have HR := Lib.hid h; have HS := Lib.hid hS
  obtain ⟨a, c, rfl, hn, -, -⟩ := h
  clear hS
  go_enter Tryz.func9, Tryz.ntmps9
  go_wp2_with fail
  refine (tNew _).mono ?_
  rintro e w1 ⟨rfl, t1, g1⟩
  have ST := Lib.hid (show OfSt l A (.slice a l.length c) w 0 [] w1 from ⟨t1, HR.out.later (below_of_grown g1), HS.out.grown g1, g1, rfl⟩)
  clear t1 g1
  go_wp2
  go_loopw [6, 13] (fun _ i wr => ∃ k : Nat, k ≤ l.length ∧ i = .int .i64 k ∧ ∃ ts, Hid (OfSt l A (.slice a l.length c) w k ts wr)) (fun _ i _ => l.length - (intOf i).toNat)
  case atStart => exact ⟨0, Nat.zero_le _, rfl, [], ST⟩
  case round =>
    obtain ⟨k, hk, rfl, ts, hst⟩ := hrel
    by_cases hlt : k < l.length
    · obtain ⟨b, off, c', f, e, hf, sn, sc, hb, c0, c1, c2⟩ := hst.out.2.1.at k hlt
      cases e
      have Hf := Lib.hid hf
      have hcp := hst.out.1.1
      have hm := hst.out.1.2.1
      have SN := Lib.hid sn; have SC := Lib.hid sc
      obtain ⟨fn, fc, ft⟩ := f
      simp only at c0 c1 c2 sn sc
      have hl := fun (x : World) (hx : MapIs x w.heap.size ts) => hx.look_ok sn
      obtain ⟨g, hg⟩ : ∃ g, g = getL ts fn := ⟨_, rfl⟩
      rw [← hg] at hl
      have hne := World.new_ne wr _ hcp
      clear hf hg
      by_cases hq : hasL ts fn = true
      · rw [hq] at hl
        have HL := Lib.hid hl
        have HE := Lib.hid (hst.out.2.2.2.2.symm ▸ ofG_dup Hf.out hq : (ofG l []).1 = 9)
        have h9 := hst.out.2.2.1 (9, 0) (by simp [L5])
        simp only at h9
        clear hl sn sc
        go_wp2
        go_region_held3 (fun w' => w'.cell? ⟨w.heap.size + 1, 0, none⟩ = some (.map (some w.heap.size)) ∧ w'.cell? ⟨wr.heap.size, 0, none⟩ = some (.string fn) ∧
            (Instr.lookup 70 (.map (some w.heap.size)) (.string fn) true).run Tryz.prog w' = .ok (.tuple #[.agg #[.string g.n, .string g.c, .int .i64 g.t], .bool true]) w')
          (first
            | (go_split_ands
               refine ⟨by go_keep, by go_keep, ?_⟩
               refine HL.out _ ?_
               repeat (first | exact hm | apply MapIs.alloc | apply MapIs.drew)))
          (fail)
        all_goals
          have h9a := cell_al2 h9
          go_wp2
          go_quiet (fail)
          go_wp2
          go_ret2
          exact .inl ⟨9, by decide, HE.out, rfl, hst.out.2.2.2.1.trans (grown_drewN (grown_drew ((World.grownBy_alloc wr _ none).trans (World.grownBy_alloc _ _ none))) _)⟩
      have hq' : hasL ts fn = false := by simpa using hq
      clear hq
      rw [hq'] at hl
      have HL := Lib.hid hl
      have hcon := tPut (w.heap.size + 1) w.heap.size ts ⟨fn, fc, ft⟩ A
      simp only at hcon
      clear hl sn sc
      by_cases hp : putE ts ⟨fn, fc, ft⟩ = 0
      · have HE := Lib.hid (hst.out.2.2.2.2.trans (ofG_next Hf.out hq' hp))
        rw [hp, errV_zero, show setL 0 ts ⟨fn, fc, ft⟩ = putL ts ⟨fn, fc, ft⟩ from rfl] at hcon
        clear hp
        go_wp2
        go_region_held3 (fun w' => w'.cell? ⟨w.heap.size + 1, 0, none⟩ = some (.map (some w.heap.size)) ∧ w'.cell? ⟨wr.heap.size, 0, none⟩ = some (.string fn) ∧
            (Instr.lookup 70 (.map (some w.heap.size)) (.string fn) true).run Tryz.prog w' = .ok (.tuple #[.agg #[.string g.n, .string g.c, .int .i64 g.t], .bool false]) w')
          (first
            | (go_split_ands
               refine ⟨by go_keep, by go_keep, ?_⟩
               refine HL.out _ ?_
               repeat (first | exact hm | apply MapIs.alloc | apply MapIs.drew)))
          (fail)
        all_goals
          have gW := grown_drew ((World.grownBy_alloc wr (.cells #[.string fn, .string fc, .int .i64 ft] 61) none).trans (World.grownBy_alloc _ (.cells #[.string g.n, .string g.c, .int .i64 g.t] 61) none))
          have tW := hst.out.1.kept gW (by simp) (by simp)
          have b0 : ((wr.alloc (.cells #[.string fn, .string fc, .int .i64 ft] 61)).alloc (.cells #[.string g.n, .string g.c, .int .i64 g.t] 61)).drew.cell? ⟨wr.heap.size, 0, none⟩ = some (.string fn) := by go_simp
          have b1 : ((wr.alloc (.cells #[.string fn, .string fc, .int .i64 ft] 61)).alloc (.cells #[.string g.n, .string g.c, .int .i64 g.t] 61)).drew.cell? ⟨wr.heap.size, 1, none⟩ = some (.string fc) := by go_simp
          have b2 : ((wr.alloc (.cells #[.string fn, .string fc, .int .i64 ft] 61)).alloc (.cells #[.string g.n, .string g.c, .int .i64 g.t] 61)).drew.cell? ⟨wr.heap.size, 2, none⟩ = some (.int .i64 ft) := by go_simp
          generalize ((wr.alloc (.cells #[.string fn, .string fc, .int .i64 ft] 61)).alloc (.cells #[.string g.n, .string g.c, .int .i64 g.t] 61)).drew = W at gW tW b0 b1 b2 ⊢
          have GW := Lib.hid gW; have TW := Lib.hid tW
          have SW := Lib.hid (hst.out.2.2.1.grown gW); have RW := Lib.hid (hst.out.2.1.later (below_of_grown gW))
          clear gW tW hcp hm
          go_wp2_with (first | (go_at_call 31; refine (hcon _ TW.out SW.out SN.out SC.out).mono ?_; rintro e w2 ⟨rfl, t2, g2⟩; have T2 := Lib.hid t2; have G2 := Lib.hid g2; clear t2 g2) | go_in)
          go_roundw
          case rel =>
            have gg := grown_none (hst.out.2.2.2.1.trans GW.out) G2.out (Nat.le_refl _)
            exact ⟨k + 1, by omega, by go_num, _, Lib.hid ⟨T2.out, RW.out.kept_map G2.out TW.out.2.1, SW.out.kept_map G2.out TW.out.2.1, gg, HE.out⟩⟩
          case measure => simp [intOf]; omega
      · have HE := Lib.hid (hst.out.2.2.2.2.symm ▸ ofG_bad Hf.out hq' hp : (ofG l []).1 = putE ts ⟨fn, fc, ft⟩)
        have HP := Lib.hid hp
        rw [errV_ne hp] at hcon
        clear hp
        go_wp2
        go_region_held3 (fun w' => w'.cell? ⟨w.heap.size + 1, 0, none⟩ = some (.map (some w.heap.size)) ∧ w'.cell? ⟨wr.heap.size, 0, none⟩ = some (.string fn) ∧
            (Instr.lookup 70 (.map (some w.heap.size)) (.string fn) true).run Tryz.prog w' = .ok (.tuple #[.agg #[.string g.n, .string g.c, .int .i64 g.t], .bool false]) w')
          (first
            | (go_split_ands
               refine ⟨by go_keep, by go_keep, ?_⟩
               refine HL.out _ ?_
               repeat (first | exact hm | apply MapIs.alloc | apply MapIs.drew)))
          (fail)
        all_goals
          have gW := grown_drew ((World.grownBy_alloc wr (.cells #[.string fn, .string fc, .int .i64 ft] 61) none).trans (World.grownBy_alloc _ (.cells #[.string g.n, .string g.c, .int .i64 g.t] 61) none))
          have tW := hst.out.1.kept gW (by simp) (by simp)
          have b0 : ((wr.alloc (.cells #[.string fn, .string fc, .int .i64 ft] 61)).alloc (.cells #[.string g.n, .string g.c, .int .i64 g.t] 61)).drew.cell? ⟨wr.heap.size, 0, none⟩ = some (.string fn) := by go_simp
          have b1 : ((wr.alloc (.cells #[.string fn, .string fc, .int .i64 ft] 61)).alloc (.cells #[.string g.n, .string g.c, .int .i64 g.t] 61)).drew.cell? ⟨wr.heap.size, 1, none⟩ = some (.string fc) := by go_simp
          have b2 : ((wr.alloc (.cells #[.string fn, .string fc, .int .i64 ft] 61)).alloc (.cells #[.string g.n, .string g.c, .int .i64 g.t] 61)).drew.cell? ⟨wr.heap.size, 2, none⟩ = some (.int .i64 ft) := by go_simp
          generalize ((wr.alloc (.cells #[.string fn, .string fc, .int .i64 ft] 61)).alloc (.cells #[.string g.n, .string g.c, .int .i64 g.t] 61)).drew = W at gW tW b0 b1 b2 ⊢
          have GW := Lib.hid gW; have TW := Lib.hid tW
          have SW := Lib.hid (hst.out.2.2.1.grown gW); have RW := Lib.hid (hst.out.2.1.later (below_of_grown gW))
          clear gW tW hcp hm
          go_wp2_with (first | (go_at_call 31; refine (hcon _ TW.out SW.out SN.out SC.out).mono ?_; rintro e w2 ⟨rfl, t2, g2⟩; have T2 := Lib.hid t2; have G2 := Lib.hid g2; clear t2 g2) | go_in)
          go_ret2
          exact .inl ⟨_, HP.out, HE.out, rfl, grown_none (hst.out.2.2.2.1.trans GW.out) G2.out (Nat.le_refl _)⟩
    · have HE := Lib.hid (hst.out.2.2.2.2.trans (ofG_done (by omega)))
      go_wp2
      go_ret2
      exact .inr ⟨by rw [HE.out], rfl, by rw [HE.out]; exact hst.out.1, hst.out.2.2.2.1⟩
end Go.Proofs.YtbcemenfklgnkaaGreatDoor

namespace Go.Proofs.YtbcemenfklgnkaaGreatDoor
open Go.RowKit Go.Maps

theorem ofG_facts : ∀ (l ts0 ts : List Fl), ofG l ts0 = (0, ts) →
    (∀ f ∈ l, ts.find? (isN f.n) = some f) ∧ (∀ s f, ts0.find? (isN s) = some f → ts.find? (isN s) = some f) ∧ ts.length = ts0.length + l.length
  | [], ts0, ts, h => by
    unfold ofG at h
    rw [Prod.mk.injEq] at h
    rw [← h.2]
    exact ⟨by simp, fun _ _ h => h, by simp⟩
  | f :: r, ts0, ts, h => by
    unfold ofG at h
    by_cases h1 : hasL ts0 f.n = true
    · rw [if_pos h1, Prod.mk.injEq] at h
      exact absurd h.1 (by decide)
    · rw [if_neg h1] at h
      by_cases h2 : putE ts0 f = 0
      · rw [if_pos h2] at h
        obtain ⟨a, b, c⟩ := ofG_facts r (putL ts0 f) ts h
        have h1' : hasL ts0 f.n = false := by simpa using h1
        refine ⟨fun g hg => ?_, fun s g hg => b s g ?_, by rw [c, putL_len_new h1']; simp; omega⟩
        · rcases List.mem_cons.1 hg with rfl | hg
          · exact b _ _ (putL_find_same _ _)
          · exact a g hg
        · have hne : s ≠ f.n := by
            rintro rfl
            rw [hasL_find.2 ⟨g, hg⟩] at h1'; cases h1'
          rw [putL_find_other _ _ hne]; exact hg
      · rw [if_neg h2, Prod.mk.injEq] at h
        exact absurd h.1 h2

theorem setL_find {k : Nat} {ts : List Fl} {f : Fl} {s : ByteArray} (h : s ≠ f.n) : (setL k ts f).find? (isN s) = ts.find? (isN s) := by
  unfold setL
  by_cases hk : k = 0
  · rw [if_pos hk, putL_find_other _ _ h]
  · rw [if_neg hk]
theorem setL_len (k : Nat) (ts : List Fl) (f : Fl) : (setL k ts f).length ≤ ts.length + 1 := by
  unfold setL
  by_cases hk : k = 0
  · rw [if_pos hk]; exact putL_len_le _ _
  · rw [if_neg hk]; omega

/-- t2 holds the files l, but for that of name n, and at most one more; t1 holds them, too -/
def Apart (l : List Fl) (n : ByteArray) (t1 t2 : List Fl) : Prop :=
  (∀ f ∈ l, f.n ≠ n → t2.find? (isN f.n) = some f) ∧ (∀ f ∈ l, t1.find? (isN f.n) = some f) ∧ t2.length ≤ l.length + 1
theorem apart_of {l ts : List Fl} (h : ofG l [] = (0, ts)) (n : ByteArray) {t2 : List Fl} (h1 : ∀ s, s ≠ n → t2.find? (isN s) = ts.find? (isN s)) (h2 : t2.length ≤ ts.length + 1) : Apart l n ts t2 := by
  obtain ⟨a, -, c⟩ := ofG_facts l [] ts h
  refine ⟨fun f hf hne => by rw [h1 _ hne]; exact a f hf, a, ?_⟩
  rw [c] at h2
  simpa using h2
theorem apart_set {l ts : List Fl} (h : ofG l [] = (0, ts)) (k : Nat) (f : Fl) : Apart l f.n ts (setL k ts f) :=
  apart_of h f.n (fun _ hs => setL_find hs) (setL_len k ts f)
theorem apart_del {l ts : List Fl} (h : ofG l [] = (0, ts)) (n : ByteArray) : Apart l n ts (delL ts n) :=
  apart_of h n (fun _ hs => delL_find hs ts) (by have := delL_len ts n; omega)
theorem apart_same {l ts : List Fl} (h : ofG l [] = (0, ts)) (n : ByteArray) : Apart l n ts ts :=
  apart_of h n (fun _ _ => rfl) (by omega)

/-- how memory stands once the one file has been done -/
def ApSt (l : List Fl) (v : Value) (n : ByteArray) (p1 b1 p2 b2 : Nat) (w1 W : World) : Prop :=
  ∃ t1 t2, IsTree W p1 b1 t2 ∧ IsTree W p2 b2 t1 ∧ FRow W v l ∧ w1.grownBy W none ∧ Apart l n t1 t2
theorem ApSt.grown {l : List Fl} {v : Value} {n : ByteArray} {p1 b1 p2 b2 : Nat} {w1 W W' : World} (h : ApSt l v n p1 b1 p2 b2 w1 W) (hg : W.grownBy W' none) : ApSt l v n p1 b1 p2 b2 w1 W' := by
  obtain ⟨t1, t2, a, b, c, d, e⟩ := h
  exact ⟨t1, t2, a.kept hg (by simp) (by simp), b.kept hg (by simp) (by simp), c.later (below_of_grown hg), d.trans hg, e⟩
theorem getL_some {ts : List Fl} {f : Fl} (h : ts.find? (isN f.n) = some f) : getL ts f.n = f ∧ hasL ts f.n = true := ⟨getL_find h, hasL_find.2 ⟨f, h⟩⟩
theorem ApSt.get1 {l : List Fl} {v : Value} {n : ByteArray} {p1 b1 p2 b2 : Nat} {w1 W : World} (h : ApSt l v n p1 b1 p2 b2 w1 W) {k : Nat} {f : Fl} (hf : l[k]? = some f) (hne : f.n ≠ n) (hs : f.n.size ≤ maxLen) :
    Calls Tryz.prog 26 #[.pointer (some ⟨p1, 0, none⟩), .string f.n] W fun e w' => e = .returned (.tuple #[.agg #[.string f.n, .string f.c, .int .i64 f.t], .bool true]) ∧ W.grownBy w' none := by
  obtain ⟨t1, t2, a, b, c, d, e⟩ := h
  have := tGet p1 b1 t2 f.n W a hs
  rw [(getL_some (e.1 f (List.mem_of_getElem? hf) hne)).1, (getL_some (e.1 f (List.mem_of_getElem? hf) hne)).2] at this
  exact this
theorem ApSt.get2 {l : List Fl} {v : Value} {n : ByteArray} {p1 b1 p2 b2 : Nat} {w1 W : World} (h : ApSt l v n p1 b1 p2 b2 w1 W) {k : Nat} {f : Fl} (hf : l[k]? = some f) (hs : f.n.size ≤ maxLen) :
    Calls Tryz.prog 26 #[.pointer (some ⟨p2, 0, none⟩), .string f.n] W fun e w' => e = .returned (.tuple #[.agg #[.string f.n, .string f.c, .int .i64 f.t], .bool true]) ∧ W.grownBy w' none := by
  obtain ⟨t1, t2, a, b, c, d, e⟩ := h
  have := tGet p2 b2 t1 f.n W b hs
  rw [(getL_some (e.2.1 f (List.mem_of_getElem? hf))).1, (getL_some (e.2.1 f (List.mem_of_getElem? hf))).2] at this
  exact this
theorem kinds (q : Int) : q = 0 ∨ q = 1 ∨ q = 2 ∨ ((q == 0) = false ∧ (q == 1) = false ∧ (q == 2) = false) := by
  by_cases h0 : q = 0
  · exact .inl h0
  by_cases h1 : q = 1
  · exact .inr (.inl h1)
  by_cases h2 : q = 2
  · exact .inr (.inr (.inl h2))
  exact .inr (.inr (.inr ⟨by simpa using h0, by simpa using h1, by simpa using h2⟩))
theorem ApSt.grown1 {l : List Fl} {v : Value} {n : ByteArray} {p1 b1 p2 b2 : Nat} {w1 W : World} (h : ApSt l v n p1 b1 p2 b2 w1 W) : w1.grownBy W none := by
  obtain ⟨t1, t2, a, b, c, d, e⟩ := h; exact d
theorem ApSt.row {l : List Fl} {v : Value} {n : ByteArray} {p1 b1 p2 b2 : Nat} {w1 W : World} (h : ApSt l v n p1 b1 p2 b2 w1 W) : FRow W v l := by
  obtain ⟨t1, t2, a, b, c, d, e⟩ := h; exact c
/-- a block of three cells that holds a file -/
def Box (w : World) (b : Nat) (f : Fl) : Prop := w.cell? ⟨b, 0, none⟩ = some (.string f.n) ∧ w.cell? ⟨b, 1, none⟩ = some (.string f.c) ∧ w.cell? ⟨b, 2, none⟩ = some (.int .i64 f.t)
theorem box_newF (w : World) (f : Fl) : Box (w.alloc (.cells #[.string f.n, .string f.c, .int .i64 f.t] 61)) w.heap.size f := ⟨by go_simp, by go_simp, by go_simp⟩
theorem box_later {w w' : World} {b : Nat} {f : Fl} (h : Box w b f) (hg : w.grownBy w' none) : Box w' b f := ⟨hg.cell h.1 (by simp), hg.cell h.2.1 (by simp), hg.cell h.2.2 (by simp)⟩
theorem box_kept {w w' : World} {f : Fl} (hg : (w.alloc (.cells #[.string f.n, .string f.c, .int .i64 f.t] 61)).grownBy w' none) : Box w' w.heap.size f := box_later (box_newF w f) hg
theorem box_al {w : World} {b : Nat} {f : Fl} (h : Box w b f) : ∀ o, (w.alloc o).cell? ⟨b, 0, none⟩ = some (.string f.n) ∧ (w.alloc o).cell? ⟨b, 1, none⟩ = some (.string f.c) ∧ (w.alloc o).cell? ⟨b, 2, none⟩ = some (.int .i64 f.t) :=
  fun o => ⟨cell_al h.1 o, cell_al h.2.1 o, cell_al h.2.2 o⟩
end Go.Proofs.YtbcemenfklgnkaaGreatDoor
