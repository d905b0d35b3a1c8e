/- Package env's small functions: a variable apart, no variables, the map, and whether a variable may be. -/
import Derived.Test.YtcmfmfkpmgoieaaGreatDoorEvMap
import Derived.Test.YtcmfmfkpmgoieaaGreatDoorLxAt
import Derived.Test.YtcmfmfkpmgoieaaGreatDoorLaidEv
import Derived.Test.YtcmfmfkpmgoieaaGreatDoorShelf
import Derived.Laws.ResultCell
import Derived.WalkKit
import Derived.Carry
namespace Go.Proofs.YtcmfmfkpmgoieaaGreatDoor
open Go.RowKit

/-- a block of texts -/
def StrB (w : World) (k : Nat) : Prop := ∃ cur, w.heap[k]? = some (.cells cur 9 (0, 0))
theorem StrB.block {w w' : World} {k : Nat} (h : StrB w k) (e : w'.heap[k]? = w.heap[k]?) : StrB w' k := by obtain ⟨cur, hc⟩ := h; exact ⟨cur, e.trans hc⟩
theorem StrB.lt {w : World} {k : Nat} (h : StrB w k) : k < w.heap.size := by obtain ⟨cur, hc⟩ := h; exact (Array.getElem?_eq_some_iff.1 hc).1
/-- words in blocks of texts, not below B -/
def WdG (w : World) (B : Nat) (u : Value) (ws : List ByteArray) : Prop := TxG w (fun k => B ≤ k ∧ StrB w k) u ws
theorem WdG.tx {w : World} {B : Nat} {u : Value} {ws : List ByteArray} (h : WdG w B u ws) : TxG w (fun k => B ≤ k) u ws := h.more fun _ hk _ => hk.1
theorem WdG.old {w : World} {B C : Nat} {u : Value} {ws : List ByteArray} (h : WdG w B u ws) (hs : C ≤ B) : WdG w C u ws := h.more fun _ hk _ => ⟨Nat.le_trans hs hk.1, hk.2⟩
theorem WdG.move {w w' : World} {B : Nat} {u : Value} {ws : List ByteArray} {row : Option Nat} (h : WdG w B u ws) (g : w.grownBy w' row) (hr : ∀ k, StrB w k → some k ≠ row) : WdG w' B u ws :=
  (TxG.keep (G := fun k => B ≤ k ∧ StrB w k) h ⟨g.size, fun k hk hl => g.block k hl (hr k hk.2)⟩).more fun k hk _ => ⟨hk.1, hk.2.block (g.block k hk.2.lt (hr k hk.2))⟩
theorem WdG.grown {w w' : World} {B : Nat} {u : Value} {ws : List ByteArray} (h : WdG w B u ws) (g : w.grownBy w' none) : WdG w' B u ws := h.move g (by simp)
theorem str_row {w : World} {base n : Nat} {v : Value} {xs : List Value} (h : w.ownsRow base 67 4 v n xs) : ∀ k, StrB w k → some k ≠ v.ownBlock := by
  rintro k ⟨cur, hc⟩
  rcases h.2 with ⟨rfl, _⟩ | ⟨g, cap, cu, rfl, hb, hg, -⟩
  · simp [Value.ownBlock]
  · intro e
    have : k = g := by simpa [Value.ownBlock] using e
    subst this
    rw [hc] at hg
    simp at hg
/-- a slice copied -/
def PClo (ws : List ByteArray) (w : World) (e : Ending) (w' : World) : Prop := ∃ a c, e = .returned (.slice a ws.length c) ∧ WdG w' w.heap.size (.slice a ws.length c) ws ∧ w.grownBy w' none
theorem pClo_of {u : Value} {ws : List ByteArray} {w w' : World} {e : Ending} (he : e = .returned u) (h : WdG w' w.heap.size u ws) (g : w.grownBy w' none) : PClo ws w e w' := by
  obtain ⟨a, c, rfl, -⟩ := TxG.shape h
  exact ⟨a, c, he, h, g⟩
theorem pClone (u : Value) (ws : List ByteArray) (w : World) (h : TxRow w u ws) (hl : ws.length ≤ 100) : Calls Tryz.prog 57 #[u] w (PClo ws w) := by
  obtain ⟨a, c, rfl, ⟨hn, hac⟩, hr⟩ := h
  cases a with
  | none =>
    obtain rfl : ws = [] := Classical.byContradiction fun hne => by obtain ⟨b, off, e, -⟩ := hr hne; cases e
    refine (Tryz.slices_Clone_string_nil _ _ w).mono ?_
    rintro e w' ⟨rfl, rfl⟩
    exact ⟨none, 0, rfl, ⟨⟨none, 0, rfl, ⟨by decide, fun _ => rfl⟩, fun h => absurd rfl h⟩, fun h => absurd rfl h⟩, World.grownBy.refl _ _⟩
  | some a =>
    by_cases hne : ws = []
    · subst hne
      refine (Tryz.slices_Clone_string_zero a c w).mono ?_
      rintro e w' ⟨v', rfl, ho, -, hb⟩
      exact pClo_of rfl ⟨tx_row (O := []) ho rfl (by decide), fun h => absurd rfl h⟩ (grown_of_below hb)
    · obtain ⟨b, off, e, hlt, hc⟩ := hr hne
      cases e
      refine (Tryz.slices_Clone_string b off ws.length c ws w (Nat.le_refl _) (by omega) (fun j hj => ?_)).mono ?_
      · rw [hc j ws[j] (List.getElem?_eq_getElem hj)]; simp [List.getD, List.getElem?_eq_getElem hj]
      rintro e w' ⟨v', rfl, ho, -, hb⟩
      rw [List.take_length] at ho
      refine pClo_of rfl ⟨tx_row ho rfl hn, fun _ k hk => ?_⟩ (grown_of_below hb)
      rcases ho.2 with ⟨rfl, h0⟩ | ⟨g, cap, cur, rfl, hb, hg, -⟩
      · simp [Value.ownBlock] at hk
      · have : g = k := by simpa [Value.ownBlock] using hk
        subst this
        exact ⟨⟨hb, cur, hg⟩, (Array.getElem?_eq_some_iff.1 hg).1⟩

theorem sizeVz : (Tryz.prog.info? 67).map (·.size) = some 4 := by kernel_rfl
theorem set4V {w : World} {b : Nat} {a0 a1 a2 a3 : Value} {t : TypeId} (h : w.heap[b]? = some (.cells #[a0, a1, a2, a3] t (0, 0))) (v0 v1 v2 v3 : Value) :
    ((((w.setCell ⟨b, 0, none⟩ v0).setCell ⟨b, 1, none⟩ v1).setCell ⟨b, 2, none⟩ v2).setCell ⟨b, 3, none⟩ v3).heap[b]? = some (.cells #[v0, v1, v2, v3] t (0, 0)) :=
  heap_setCell_same _ b 3 _ _ v3 (heap_setCell_same _ b 2 _ _ v2 (heap_setCell_same _ b 1 _ _ v1 (heap_setCell_same _ b 0 _ _ v0 h)))
theorem free4V {w : World} {b : Nat} {c : Array Value} {t : TypeId} (h : w.heap[b]? = some (.cells c t (0, 0))) (i : Nat) : w.frozen? ⟨b, i, none⟩ = false := frozen_of_row w b i c t h
theorem below4V {B : Nat} {w w1 : World} (h : Below B w w1) {b : Nat} (v0 v1 v2 v3 : Value) (hb : B ≤ b) :
    Below B w ((((w1.setCell ⟨b, 0, none⟩ v0).setCell ⟨b, 1, none⟩ v1).setCell ⟨b, 2, none⟩ v2).setCell ⟨b, 3, none⟩ v3) :=
  ((((h.setCell hb v0).setCell hb v1).setCell hb v2).setCell hb v3)
theorem back1V {fn : Func} {p : Tmp} {w : World} {g : Nat} {a0 a1 a2 a3 : Value} {tmps : Array Value} (hf : fn.results = #[.cell p 67])
    (hp : tmps.getD p undef = .pointer (some ⟨g, 0, none⟩)) (hg : w.heap[g]? = some (.cells #[a0, a1, a2, a3] 67 (0, 0))) :
    (results fn tmps).run Tryz.prog w = .ok (.agg #[a0, a1, a2, a3]) w := by
  have hp' : tmps[p]?.getD undef = .pointer (some ⟨g, 0, none⟩) := by simpa using hp
  have hl := run_loadVar_row (P := Tryz.prog) w g 67 67 _ (0, 0) _ hg Tryz.underlying67 rfl sizeVz
  simp [results, hf, hp', asAddr, hl]
theorem back2V {fn : Func} {p q : Tmp} {w : World} {g : Nat} {a0 a1 a2 a3 u : Value} {tmps : Array Value} (hf : fn.results = #[.cell p 67, .tmp q])
    (hp : tmps.getD p undef = .pointer (some ⟨g, 0, none⟩)) (hq : tmps.getD q undef = u) (hg : w.heap[g]? = some (.cells #[a0, a1, a2, a3] 67 (0, 0))) :
    (results fn tmps).run Tryz.prog w = .ok (.tuple #[.agg #[a0, a1, a2, a3], u]) w := by
  have hp' : tmps[p]?.getD undef = .pointer (some ⟨g, 0, none⟩) := by simpa using hp
  have hq' : tmps[q]?.getD undef = u := by simpa using hq
  have hl := run_loadVar_row (P := Tryz.prog) w g 67 67 _ (0, 0) _ hg Tryz.underlying67 rfl sizeVz
  simp [results, hf, hp', hq', asAddr, hl]
theorem four_vx {w : World} {b : Nat} {a0 a1 a2 a3 : Value} {t : TypeId} (h : w.heap[b]? = some (.cells #[a0, a1, a2, a3] t (0, 0))) :
    w.cell? ⟨b, 0, none⟩ = some a0 ∧ w.cell? ⟨b, 1, none⟩ = some a1 ∧ w.cell? ⟨b, 2, none⟩ = some a2 ∧ w.cell? ⟨b, 3, none⟩ = some a3 := by
  refine ⟨?_, ?_, ?_, ?_⟩ <;> (unfold World.cell?; rw [h]; rfl)
theorem keepSet {G : Nat → Prop} {w w' : World} (k : KeepG G w w') {b : Nat} (h : ¬G b) (i : Nat) (v : Value) : KeepG G w (w'.setCell ⟨b, i, none⟩ v) :=
  k.trans ⟨(show Below 0 w' (w'.setCell ⟨b, i, none⟩ v) from (Below.refl 0 w').setCell (Nat.zero_le _) v).size, fun k hk _ => Below.heap_setCell _ _ _ _ (by rintro rfl; exact h hk)⟩
theorem keep4V {G : Nat → Prop} {w w' : World} (k : KeepG G w w') {b : Nat} (h : ¬G b) (v0 v1 v2 v3 : Value) :
    KeepG G w ((((w'.setCell ⟨b, 0, none⟩ v0).setCell ⟨b, 1, none⟩ v1).setCell ⟨b, 2, none⟩ v2).setCell ⟨b, 3, none⟩ v3) :=
  keepSet (keepSet (keepSet (keepSet k h _ _) h _ _) h _ _) h _ _
/-- TxG's blocks are new ones, also for an older world -/
theorem TxG.old {w w1 w2 : World} {v : Value} {l : List ByteArray} (h : TxG w2 (fun b => w1.heap.size ≤ b) v l) (hs : w.heap.size ≤ w1.heap.size) : TxG w2 (fun b => w.heap.size ≤ b) v l := h.more fun _ hb _ => Nat.le_trans hs hb
/-- a variable with words of its own -/
def PApa (n : ByteArray) (ws : List ByteArray) (lv : Int) (hd : Bool) (w : World) (e : Ending) (w' : World) : Prop :=
  ∃ a c, e = .returned (.agg #[.string n, .slice a ws.length c, .int .i64 lv, .bool hd]) ∧ WdG w' w.heap.size (.slice a ws.length c) ws ∧ w.grownBy w' none
set_option maxRecDepth 100000 in
set_option maxHeartbeats 1000000 in
theorem pApart (n : ByteArray) (ws : List ByteArray) (lv : Int) (hd : Bool) (a : Option Addr) (c : Nat) (w : World) (h : TxRow w (.slice a ws.length c) ws) (hl : ws.length ≤ 100) :
    Calls Tryz.prog 41 #[.agg #[.string n, .slice a ws.length c, .int .i64 lv, .bool hd]] w (PApa n ws lv hd w) := by
  have g1 := World.grownBy_alloc w (.cells #[.string n, .slice a ws.length c, .int .i64 lv, .bool hd] 67) none
  have b1 := heap_alloc_new w (.cells #[.string n, .slice a ws.length c, .int .i64 lv, .bool hd] 67)
  have z1 : (w.alloc (.cells #[.string n, .slice a ws.length c, .int .i64 lv, .bool hd] 67)).heap.size = w.heap.size + 1 := Array.size_push _
  have HT := Lib.hid h
  have HL := Lib.hid hl
  clear h hl
  go_enter Tryz.func41, Tryz.ntmps41
  go_upto_region 1 with fail
  generalize ew1 : w.alloc (.cells #[.string n, .slice a ws.length c, .int .i64 lv, .bool hd] 67) = w1 at g1 b1 z1 ⊢
  have g2 := World.grownBy_alloc w1 (.cells #[.string ⟨#[]⟩, .slice none 0 0, .int .i64 0, .bool false] 67) none
  have b2 := heap_alloc_new w1 (.cells #[.string ⟨#[]⟩, .slice none 0 0, .int .i64 0, .bool false] 67)
  rw [z1] at b2
  generalize w1.alloc _ = w2 at g2 b2 ⊢
  have B1 := Lib.hid (heap_grown g2 b1)
  have B2 := Lib.hid b2
  have G2 := Lib.hid (g1.trans g2)
  have T2 := Lib.hid (HT.out.later (below_of_grown G2.out))
  obtain ⟨q, eq⟩ : ∃ q, w.heap.size = q := ⟨_, rfl⟩
  rw [eq] at B1 B2 ⊢
  have EQ := Lib.hid eq
  clear g1 b1 z1 g2 b2 ew1 HT eq
  obtain ⟨c0, c1, c2, c3⟩ := four_vx B1.out
  go_upto_region 2 with (go_at_call 57; (with_reducible refine (pClone _ _ _ T2.out HL.out).mono ?_); rintro e w3 ⟨a', c', rfl, ht, g3⟩; have T3 := Lib.hid ht; have G3 := Lib.hid g3; have B3 := Lib.hid (heap_grown g3 B1.out); have B4 := Lib.hid (heap_grown g3 B2.out); have f0 := free4V B3.out; clear ht g3 c0 c1 c2 c3; obtain ⟨c0, c1, c2, c3⟩ := four_vx B3.out)
  have B5 := Lib.hid (heap_setCell_same _ q 1 _ _ (.slice a' ws.length c') B3.out)
  have B6 := Lib.hid (show (w3.setCell ⟨q, 1, none⟩ (.slice a' ws.length c')).heap[q + 1]? = _ from (Below.heap_setCell _ _ _ _ (by simp)).trans B4.out)
  have W5 := Lib.hid (show Below w.heap.size w (w3.setCell ⟨q, 1, none⟩ (.slice a' ws.length c')) from (below_of_grown (G2.out.trans G3.out)).setCell (by have := EQ.out; show w.heap.size ≤ q; omega) _)
  have T5 := Lib.hid (show WdG (w3.setCell ⟨q, 1, none⟩ (.slice a' ws.length c')) (w.heap.size + 2) (.slice a' ws.length c') ws from
    (TxG.keep (G := fun k => w2.heap.size ≤ k ∧ StrB w3 k) T3.out (keepSet (KeepG.refl _ _) (b := q) (by have := (Array.getElem?_eq_some_iff.1 B2.out).1; rintro ⟨h, -⟩; omega) 1 _)).more fun b hb _ => by
      have := (Array.getElem?_eq_some_iff.1 B2.out).1
      have := EQ.out
      exact ⟨by omega, hb.2.block (Below.heap_setCell _ _ _ _ (by show b ≠ q; omega))⟩)
  clear c0 c1 c2 c3 f0 B3 B4 T3 T2 B1 B2
  generalize w3.setCell _ _ = w5 at B5 B6 W5 T5 ⊢
  obtain ⟨c0, c1, c2, c3⟩ := four_vx B5.out
  obtain ⟨d0, d1, d2, d3⟩ := four_vx B6.out
  have f0 := free4V B6.out
  go_wp2
  refine bodyPost_ret (back1V (a0 := .string n) (a1 := .slice a' ws.length c') (a2 := .int .i64 lv) (a3 := .bool hd) Tryz.results41 rfl (set4V B6.out _ _ _ _)) rfl ?_
  have hq := EQ.out
  exact ⟨a', c', rfl, (TxG.keep (G := fun k => w.heap.size + 2 ≤ k ∧ StrB w5 k) T5.out (keep4V (KeepG.refl _ _) (by rintro ⟨h, -⟩; omega) _ _ _ _)).more fun b hb _ => ⟨by omega, hb.2.block ((keep4V (G := fun k => q + 2 ≤ k) (KeepG.refl _ w5) (by omega) _ _ _ _).2 b (by show q + 2 ≤ b; omega) hb.2.lt)⟩, grown_of_below (below4V W5.out _ _ _ _ (by omega))⟩

set_option maxHeartbeats 400000 in
theorem pAll (p b : Nat) (w : World) (h : w.cell? ⟨p, 0, none⟩ = some (.map (some b))) :
    Calls Tryz.prog 104 #[.pointer (some ⟨p, 0, none⟩)] w fun e w' => e = .returned (.map (some b)) ∧ w = w' := by
  go_enter Tryz.func104, Tryz.ntmps104
  go_wp2
  go_ret
  exact ⟨rfl, rfl⟩
set_option maxHeartbeats 400000 in
theorem pNew (w : World) : Calls Tryz.prog 27 #[] w fun e w' => w.grownBy w' none ∧ e = .returned (.pointer (some ⟨w.heap.size + 1, 0, none⟩)) ∧ EvZ w' (w.heap.size + 1) w.heap.size (fun c => c = w.heap.size + 1 ∨ c = w.heap.size) [] := by
  have hmm := @run_makeMap Tryz.prog
  go_enter Tryz.func27, Tryz.ntmps27
  go_wp2
  go_ret
  refine ⟨(World.grownBy_alloc _ _ _).trans (World.grownBy_alloc _ _ _), rfl, ?_, ?_, by simp, .inl rfl, .inr rfl, ?_, by simp, by simp⟩
  · simp [go_sem]
  · exact (mapV_new w).alloc _
  · rintro k (rfl | rfl)
    · show w.heap.size + 1 < _
      simp [go_sem]
    · exact ((mapV_new w).alloc _).lt

/-- the errors of Check and Set -/
def LV : List (Nat × Nat) := [(1, 1), (2, 2), (4, 4), (10, 0)]
theorem sentsV {A : Nat → Addr} {w : World} (h : FourE A w) : Sents LV A w := by
  intro x hx
  have e : ∃ q ∈ fourV, (q.num, q.g) = x := by
    have : x ∈ fourV.map fun q => (q.num, q.g) := by
      have e : (fourV.map fun q => (q.num, q.g)) = LV := by decide
      rw [e]; exact hx
    simpa using this
  obtain ⟨q, hq, rfl⟩ := e
  exact (h q hq).1
theorem pLong1 (s : ByteArray) (w : World) : Calls Tryz.prog 56 #[.string s] w fun e w' => e = .returned (.bool (decide (120 < s.size))) ∧ w = w' := by
  by_cases h : 120 < s.size
  · have e1 : decide ((s.size : Int) > 120) = true := by simp; omega
    rw [decide_eq_true h]
    go_enter Tryz.func56, Tryz.ntmps56
    go_wp2
    go_ret
    exact ⟨rfl, rfl⟩
  · have e1 : decide ((s.size : Int) > 120) = false := by simp; omega
    rw [decide_eq_false h]
    go_enter Tryz.func56, Tryz.ntmps56
    go_wp2
    go_ret
    exact ⟨rfl, rfl⟩
def lngV (t : ByteArray) : Bool := decide (120 < t.size)
theorem any_takeV {f : ByteArray → Bool} {l : List ByteArray} {j : Nat} {n : ByteArray} (h : l[j]? = some n) : (l.take (j + 1)).any f = ((l.take j).any f || f n) := by
  rw [List.take_add_one, h]; simp
set_option maxRecDepth 100000 in
set_option maxHeartbeats 2000000 in
theorem pIndexV (l : List ByteArray) (a : Option Addr) (c : Nat) (w : World) (h : TxRow w (.slice a l.length c) l) (hl : l.length ≤ 100) :
    Calls Tryz.prog 68 #[.slice a l.length c, .func (.func 56) #[] #[]] w fun e w' => (∃ i : Int, e = .returned (.int .i64 i) ∧ decide (i ≥ 0) = l.any lngV) ∧ w.grownBy w' none := by
  have hent : ∀ args w, (callFunc 56 args).run Tryz.prog w = .ok (.enter 56 args) w := enters_of Tryz.func56 (by kernel_rfl) rfl
  have HK := Lib.hid h
  clear h
  go_enter Tryz.func68, Tryz.ntmps68
  go_wp2
  go_loopw [5, 8] (fun _ i wr => ∃ k : Nat, k ≤ l.length ∧ i = .int .i64 k ∧ Hid ((l.take k).any lngV = false) ∧ Hid (w.grownBy wr none)) (fun _ i _ => l.length - (intOf i).toNat)
  case atStart => exact ⟨0, Nat.zero_le _, rfl, Lib.hid (by simp), Lib.hid (World.grownBy.refl _ _)⟩
  case round =>
    obtain ⟨k, hk, rfl, ha, hG⟩ := hrel
    by_cases hlt : k < l.length
    · obtain ⟨t, ht⟩ : ∃ t, l[k]? = some t := ⟨_, List.getElem?_eq_getElem hlt⟩
      obtain ⟨a', c', ev, hn, hr⟩ := HK.out.later (below_of_grown hG.out)
      obtain ⟨b, off, ea, hb, hc⟩ := hr (by intro e; rw [e] at hlt; simp at hlt)
      have c0 := hc k t ht
      injection ev with ev1 ev2 ev3
      subst ev1
      subst ea
      subst ev3
      have HN := Lib.hid ht
      have HC := Lib.hid (pLong1 t · )
      clear hc hr ht hn
      cases hq : lngV t
      · have hq' : decide (120 < t.size) = false := hq
        rw [hq'] at HC
        have HT := Lib.hid (show (l.take (k + 1)).any lngV = false by rw [any_takeV HN.out, ha.out, hq]; rfl)
        clear hq ha hq'
        go_wp2_with (refine (HC.out _).mono ?_; rintro e w1 ⟨rfl, rfl⟩)
        go_roundw
        case rel => exact ⟨k + 1, by omega, by go_num, HT, hG⟩
        case measure => simp [intOf]; omega
      · have hq' : decide (120 < t.size) = true := hq
        have HI := Lib.hid (show l.any lngV = true from List.any_eq_true.2 ⟨t, List.mem_of_getElem? HN.out, hq⟩)
        rw [hq'] at HC
        clear hq ha hq'
        go_wp2_with (refine (HC.out _).mono ?_; rintro e w1 ⟨rfl, rfl⟩)
        go_ret
        exact ⟨⟨_, rfl, by rw [HI.out]; simp⟩, hG.out⟩
    · obtain rfl : k = l.length := by omega
      have HI := Lib.hid (show l.any lngV = false by have := ha.out; rwa [List.take_length] at this)
      go_wp2
      go_ret
      exact ⟨⟨_, rfl, by rw [HI.out]; simp⟩, hG.out⟩
theorem retV {x y : Bool} (h : x = y) : Ending.returned (.bool x) = .returned (.bool y) := by rw [h]
set_option maxHeartbeats 1000000 in
theorem pContV (l : List ByteArray) (a : Option Addr) (c : Nat) (w : World) (h : TxRow w (.slice a l.length c) l) (hl : l.length ≤ 100) :
    Calls Tryz.prog 55 #[.slice a l.length c, .func (.func 56) #[] #[]] w fun e w' => e = .returned (.bool (l.any lngV)) ∧ w.grownBy w' none := by
  have HI := Lib.hid (pIndexV l a c w h hl)
  clear h
  go_enter Tryz.func55, Tryz.ntmps55
  go_wp2_with (go_at_call 68; refine (HI.out).mono ?_; rintro e w1 ⟨⟨i, rfl, hi⟩, hg⟩; have G := Lib.hid hg; have HJ := Lib.hid hi; clear hi hg)
  go_ret
  exact ⟨retV HJ.out, G.out⟩

/-- whether a variable may be -/
def PChk (A : Nat → Addr) (k : Nat) (w : World) (e : Ending) (w' : World) : Prop := e = .returned (errV A k) ∧ w.grownBy w' none
set_option maxRecDepth 100000 in
set_option maxHeartbeats 4000000 in
theorem pCheck (A : Nat → Addr) (n : ByteArray) (ws : List ByteArray) (lv : Int) (hd : Bool) (a : Option Addr) (c : Nat) (w : World) (hE : Sents LV A w) (h : TxRow w (.slice a ws.length c) ws) (hn : n.size ≤ 100) (hl : ws.length ≤ 100) :
    Calls Tryz.prog 40 #[.agg #[.string n, .slice a ws.length c, .int .i64 lv, .bool hd]] w (PChk A (chkV ⟨n, ws, lv, hd⟩) w) := by
  have g1 := World.grownBy_alloc w (.cells #[.string n, .slice a ws.length c, .int .i64 lv, .bool hd] 67) none
  have s1 := hE (1, 1) (by simp [LV])
  have s2 := hE (2, 2) (by simp [LV])
  have s4 := hE (4, 4) (by simp [LV])
  have s10 := hE (10, 0) (by simp [LV])
  simp only at s1 s2 s4 s10
  have B1 := Lib.hid (heap_alloc_new w (.cells #[.string n, .slice a ws.length c, .int .i64 lv, .bool hd] 67))
  have CN := Lib.hid (fun w => xName n w (by omega))
  have S1 := Lib.hid (g1.cell s1 (by simp)); have S2 := Lib.hid (g1.cell s2 (by simp)); have S4 := Lib.hid (g1.cell s4 (by simp)); have S10 := Lib.hid (g1.cell s10 (by simp))
  have CL := Lib.hid (pContV ws a c _ (h.later (below_of_grown g1)) hl)
  have G1 := Lib.hid g1
  clear hE h g1 s1 s2 s4 s10
  obtain ⟨k, hk⟩ : ∃ k, chkV ⟨n, ws, lv, hd⟩ = k := ⟨_, rfl⟩
  rw [hk]
  have HK := Lib.hid hk
  clear hk
  go_enter Tryz.func40, Tryz.ntmps40
  go_upto_region 1 with fail
  generalize w.alloc _ = w1 at B1 S1 S2 S4 S10 CL G1 ⊢
  generalize w.heap.size = q at B1 ⊢
  have c1 := S1.out; have c2 := S2.out; have c4 := S4.out; have c10 := S10.out
  obtain ⟨d0, d1, d2, d3⟩ := four_vx B1.out
  cases hq : namQ (nmB n)
  · have HQ := Lib.hid (show chkV ⟨n, ws, lv, hd⟩ = 4 by unfold chkV; rw [if_pos hq])
    obtain rfl := HQ.out.symm.trans HK.out
    have hq : namQ n.data.toList = false := hq
    rw [hq] at CN
    clear hq
    go_wp2_with (go_at_call 54; (with_reducible refine (CN.out _).mono ?_); rintro e w3 ⟨rfl, rfl⟩)
    go_ret
    exact ⟨rfl, G1.out⟩
  have hq' : namQ n.data.toList = true := hq
  rw [hq'] at CN
  clear hq'
  by_cases hlv : lv ≠ 0 ∧ lv ≠ 1 ∧ lv ≠ 2
  · have HQ := Lib.hid (show chkV ⟨n, ws, lv, hd⟩ = 1 by unfold chkV; rw [if_neg (by simp [hq]), if_pos hlv])
    obtain rfl := HQ.out.symm.trans HK.out
    by_cases h0 : lv < 0
    · have e1 : decide (lv < 0) = true := decide_eq_true h0
      clear hlv
      go_wp2_with (go_at_call 54; (with_reducible refine (CN.out _).mono ?_); rintro e w3 ⟨rfl, rfl⟩)
      go_ret
      exact ⟨rfl, G1.out⟩
    · have e1 : decide (lv < 0) = false := decide_eq_false h0
      have e2 : decide (lv > 2) = true := decide_eq_true (by omega)
      clear hlv
      go_wp2_with (go_at_call 54; (with_reducible refine (CN.out _).mono ?_); rintro e w3 ⟨rfl, rfl⟩)
      go_ret
      exact ⟨rfl, G1.out⟩
  have e1 : decide (lv < 0) = false := decide_eq_false (by omega)
  have e2 : decide (lv > 2) = false := decide_eq_false (by omega)
  by_cases h40 : 40 < ws.length
  · have HQ := Lib.hid (show chkV ⟨n, ws, lv, hd⟩ = 10 by unfold chkV; rw [if_neg (by simp [hq]), if_neg hlv, if_pos h40])
    obtain rfl := HQ.out.symm.trans HK.out
    have e3 : decide ((ws.length : Int) > 40) = true := by simp; omega
    clear hlv
    go_wp2_with (go_at_call 54; (with_reducible refine (CN.out _).mono ?_); rintro e w3 ⟨rfl, rfl⟩)
    go_ret
    exact ⟨rfl, G1.out⟩
  have e3 : decide ((ws.length : Int) > 40) = false := by simp; omega
  cases ha : ws.any lngV
  · have HQ := Lib.hid (show chkV ⟨n, ws, lv, hd⟩ = 0 by unfold chkV; rw [if_neg (by simp [hq]), if_neg hlv, if_neg h40, if_neg (by rw [show ws.any (fun t => decide (120 < t.size)) = false from ha]; simp)])
    obtain rfl := HQ.out.symm.trans HK.out
    rw [ha] at CL
    clear hlv ha hq
    go_wp2_with (first | (go_at_call 54; (with_reducible refine (CN.out _).mono ?_); rintro e w3 ⟨rfl, rfl⟩) | (go_at_call 55; (with_reducible refine (CL.out).mono ?_); rintro e w3 ⟨rfl, g3⟩; have G3 := Lib.hid (G1.out.trans g3); have S2b := Lib.hid (g3.cell S2.out (by simp)); clear g3 c2; have c2 := S2b.out))
    go_ret
    exact ⟨rfl, G3.out⟩
  · have HQ := Lib.hid (show chkV ⟨n, ws, lv, hd⟩ = 2 by unfold chkV; rw [if_neg (by simp [hq]), if_neg hlv, if_neg h40, if_pos (show ws.any (fun t => decide (120 < t.size)) = true from ha)])
    obtain rfl := HQ.out.symm.trans HK.out
    rw [ha] at CL
    clear hlv ha hq
    go_wp2_with (first | (go_at_call 54; (with_reducible refine (CN.out _).mono ?_); rintro e w3 ⟨rfl, rfl⟩) | (go_at_call 55; (with_reducible refine (CL.out).mono ?_); rintro e w3 ⟨rfl, g3⟩; have G3 := Lib.hid (G1.out.trans g3); have S2b := Lib.hid (g3.cell S2.out (by simp)); clear g3 c2; have c2 := S2b.out))
    go_ret
    exact ⟨rfl, G3.out⟩
end Go.Proofs.YtcmfmfkpmgoieaaGreatDoor
