/- Walks of package tree: Latest, Files. Walks of package tree: Files. Files compared. -/
import Derived.Test.YtbcemenfklgnkaaGreatDoorTreeE
import Derived.Test.YtbcemenfklgnkaaGreatDoorRefA
import Derived.Test.YtbcemenfklgnkaaGreatDoorTreeC
import Derived.Laws.StructEq
namespace Go.Proofs.YtbcemenfklgnkaaGreatDoor
open Go.RowKit Go.Maps

/-! the greatest time of those that have been met -/
theorem latL_ge (l : List Fl) : ∀ n : Int, n ≤ l.foldl (fun n f => if n < f.t then f.t else n) n ∧ ∀ f ∈ l, f.t ≤ l.foldl (fun n f => if n < f.t then f.t else n) n := by
  induction l with
  | nil => intro n; exact ⟨Int.le_refl _, by simp⟩
  | cons a r ih =>
    intro n
    rw [List.foldl_cons]
    obtain ⟨h1, h2⟩ := ih (if n < a.t then a.t else n)
    have h3 : n ≤ (if n < a.t then a.t else n) ∧ a.t ≤ (if n < a.t then a.t else n) := by split <;> omega
    exact ⟨Int.le_trans h3.1 h1, fun f hf => by
      rcases List.mem_cons.1 hf with rfl | hf
      · exact Int.le_trans h3.2 h1
      · exact h2 f hf⟩
theorem latL_in (l : List Fl) : ∀ n : Int, l.foldl (fun n f => if n < f.t then f.t else n) n = n ∨ ∃ f ∈ l, l.foldl (fun n f => if n < f.t then f.t else n) n = f.t := by
  induction l with
  | nil => intro n; exact .inl rfl
  | cons a r ih =>
    intro n
    rw [List.foldl_cons]
    rcases ih (if n < a.t then a.t else n) with h | ⟨f, hf, h⟩
    · rw [h]
      split
      · exact .inr ⟨a, by simp, rfl⟩
      · exact .inl rfl
    · exact .inr ⟨f, by simp [hf], h⟩
/-- m is the greatest time of 0 and of the files whose keys are no longer to come -/
def LatSt (l : List Fl) (left : Lit → Bool) (m : Int) : Prop := 0 ≤ m ∧ (∀ f ∈ l, left (keyS f.n) = false → f.t ≤ m) ∧ (m = 0 ∨ ∃ f ∈ l, left (keyS f.n) = false ∧ m = f.t)
theorem lat_start (l : List Fl) : LatSt l (has (toD l)) 0 := by
  refine ⟨Int.le_refl _, fun f hf h => ?_, .inl rfl⟩
  rw [toD_has] at h
  unfold hasL at h
  rw [List.any_eq_false] at h
  exact absurd (isN_self f) (h f hf)
theorem lat_end {l : List Fl} {left : Lit → Bool} {m : Int} (h : LatSt l left m) (hl : ∀ k, left k = false) : m = latL l := by
  obtain ⟨h0, h1, h2⟩ := h
  obtain ⟨g0, g1⟩ := latL_ge l 0
  have gi := latL_in l 0
  have e : latL l = l.foldl (fun n f => if n < f.t then f.t else n) 0 := rfl
  rw [e]
  rcases h2 with rfl | ⟨f, hf, _, rfl⟩
  · rcases gi with h | ⟨f, hf, h⟩
    · exact h.symm
    · have := h1 f hf (hl _); omega
  · have a1 := g1 f hf
    rcases gi with h | ⟨f', hf', h⟩
    · omega
    · have := h1 f' hf' (hl _); omega
theorem lat_step {l : List Fl} {left : Lit → Bool} {m : Int} (h : LatSt l left m) {s : ByteArray} {f : Fl} (hf : f ∈ l) (hk : ∀ g ∈ l, g.n = s → g = f) (hs : f.n = s) :
    LatSt l (fun z => left z && !z.sameKey (keyS s)) (max m f.t) := by
  obtain ⟨h0, h1, h2⟩ := h
  have same : ∀ g : Fl, (keyS g.n).sameKey (keyS s) = isN s g := fun g => rfl
  have gone : (left (keyS f.n) && !(keyS f.n).sameKey (keyS s)) = false := by rw [same, isN_iff.2 hs]; simp
  refine ⟨by omega, fun g hg hl => ?_, ?_⟩
  · simp only [same] at hl
    by_cases e : g.n = s
    · rw [hk g hg e]; omega
    · rw [isN_other e] at hl
      have := h1 g hg (by simpa using hl); omega
  · by_cases hle : f.t ≤ m
    · rw [Int.max_eq_left hle]
      rcases h2 with h | ⟨g, hg, hl, h⟩
      · exact .inl h
      · exact .inr ⟨g, hg, by simp [hl], h⟩
    · rw [Int.max_eq_right (by omega)]
      exact .inr ⟨f, hf, gone, rfl⟩

theorem datF_unique {l : List Fl} (h : Rising l) {f g : Fl} (hf : f ∈ l) (hg : g ∈ l) (e : f.n = g.n) : f = g := by
  unfold Rising at h
  obtain ⟨i, hi, rfl⟩ := List.mem_iff_getElem.1 hf
  obtain ⟨j, hj, rfl⟩ := List.mem_iff_getElem.1 hg
  rw [List.pairwise_iff_getElem] at h
  rcases Nat.lt_trichotomy i j with hij | rfl | hij
  · have := h i j hi hj hij
    rw [e, WideAt.bytes_irrefl] at this; cases this
  · rfl
  · have := h j i hj hi hij
    rw [e, WideAt.bytes_irrefl] at this; cases this
/-- an entry that comes is a file of the tree -/
theorem come_file {l : List Fl} {x : ByteArray} {f : Fl} {kl : Lit} {yd : DataW Unit} {yp : List MemPlace} (hkey : keyOf Tryz.prog 9 (.string x) = some kl) (hv : fileElem (valF f) = some (yd, yp))
    (hat : ∀ zd, (toD l).atKey kl zd = yd) : kl = keyS x ∧ f ∈ l ∧ f.n = x := by
  obtain ⟨s, e, rfl⟩ := keyOf_inv hkey
  cases e
  rw [fileElem_mk, Option.some.injEq, Prod.mk.injEq] at hv
  obtain ⟨rfl, _⟩ := hv
  have h1 := hat (datF nilF)
  rw [toD_at] at h1
  have h2 : hasL l x = true := by
    have := has_true_of_atKey hat
    rwa [toD_has] at this
  have e := datF_inj h1
  obtain ⟨g, hg⟩ := hasL_find.1 h2
  rw [getL_find hg] at e
  subst e
  exact ⟨rfl, List.mem_of_find?_eq_some hg, find_name hg⟩
theorem lat_come {w : World} {b : Nat} {l : List Fl} (hm : MapIs w b l) {left : Lit → Bool} {m : Int} (h : LatSt l left m) {x : ByteArray} {f : Fl} {kl : Lit} {yd : DataW Unit} {yp : List MemPlace}
    (hkey : keyOf Tryz.prog 9 (.string x) = some kl) (hv : fileElem (valF f) = some (yd, yp)) (hat : ∀ zd, (toD l).atKey kl zd = yd) : LatSt l (fun z => left z && !z.sameKey kl) (max m f.t) := by
  obtain ⟨rfl, hf, e⟩ := come_file hkey hv hat
  exact lat_step h hf (fun g hg eg => datF_unique (MapIs.rising hm) hg hf (by rw [eg, e])) e

set_option maxRecDepth 100000 in
set_option maxHeartbeats 1000000 in
theorem tLatest (p b : Nat) (l : List Fl) (w : World) (h : IsTree w p b l) :
    Calls Tryz.prog 38 #[.pointer (some ⟨p, 0, none⟩)] w fun e w' => e = .returned (.int .i64 (latL l)) ∧ w.grownBy w' none := by
  have hc := h.1
  have hm := h.2.1
  have hbs := hm.lt
  have HM := Lib.hid hm
  clear h
  go_enter Tryz.func38, Tryz.ntmps38
  go_wp2_with (first
    | (go_at_call 50; refine (tAll p b _ hc).mono ?_; rintro e w' ⟨rfl, rfl⟩)
    | (at_range; refine wpList_range_own _ rfl _ 70 rfl 9 61 lawS Tryz.underlying70 fileElem b l.length (toD l) rfl hm ?_; intro w0 hrg0 hg0 hs0)
    | go_in)
  go_frame
  go_loopw [3] (fun n wr => ∃ (left : Lit → Bool) (cnt : Nat) (m : Int), n = .int .i64 m ∧ wr.ranges Tryz.prog 9 fileElem b w.heap.size l.length (toD l) left cnt ∧ Hid (LatSt l left m) ∧ w.grownBy wr none)
    (fun _ wr => wr.rangeLeft b w.heap.size)
  case atStart => exact ⟨_, _, 0, rfl, hrg0, Lib.hid (lat_start l), hg0⟩
  case round =>
    obtain ⟨left, cnt, m, rfl, hrg, hL, hgw⟩ := hrel
    go_wp2_with (first
      | (at_next; refine wpList_next_ranges _ rfl _ rfl 9 lawS fileElem (fun s : ByteArray => Value.string s) valF (fun key kl hk => ?c1) (fun v y hv => ?c2) b w.heap.size l.length _ _ _ rfl hrg ?_ ?_)
      | go_in)
    case c1 =>
      obtain ⟨s, rfl, _⟩ := keyOf_inv hk
      exact ⟨s, rfl⟩
    case c2 =>
      obtain ⟨f, rfl, _⟩ := fileElem_inv hv
      exact ⟨f, rfl⟩
    · -- nothing is left
      intro hc0 hl0
      go_wp2
      go_ret
      exact ⟨ret_int' (lat_end hL.out hl0), hgw⟩
    · -- an entry has come
      intro x f kl yd yp w1 cnt1 hkey hlx hv hat hrg1 hlt hg1 hs1 hen
      have HL2 := Lib.hid (lat_come HM.out hL.out hkey hv hat)
      have HRG1 := Lib.hid hrg1; have HRG := Lib.hid hrg
      have HGW := Lib.hid hgw; have HG1 := Lib.hid hg1
      clear hkey hv hat hrg1 hrg hgw hg1 hlx hL hrg0 hg0
      unfold valF at hen ⊢
      go_wp2
      have hrg2 := HRG1.out.kept (World.grownBy_alloc w1 (.cells #[.string f.n, .string f.c, .int .i64 f.t] 61) none) (by simp) (by simp)
      go_roundw
      case rel => exact ⟨_, cnt1, _, rfl, hrg2, HL2, (HGW.out.andThen HG1.out (fun j hj => .inl (by cases hj; exact Nat.le_refl _))).trans (World.grownBy_alloc _ _ _)⟩
      case measure => rw [hrg2.left_eq, HRG.out.left_eq]; exact hlt
end Go.Proofs.YtbcemenfklgnkaaGreatDoor

namespace Go.Proofs.YtbcemenfklgnkaaGreatDoor
open Go.RowKit Go.Maps

theorem MapIs.key_size {w : World} {b : Nat} {l : List Fl} (h : MapIs w b l) {f : Fl} (hf : f ∈ l) : f.n.size ≤ maxLen := by
  obtain ⟨es, he, hk⟩ := World.ownsMap.keysOf h
  unfold toD at he
  rw [DataW.map.injEq] at he
  subst he
  obtain ⟨v, hv⟩ := hk (entF f) (List.mem_map_of_mem hf)
  obtain ⟨x, _, e, hx⟩ := Maps.keyOf_str Tryz.underlying9 hv
  have : f.n.data.toList = x := by
    have e' : keyS f.n = .string x := e
    unfold keyS at e'
    rwa [Lit.string.injEq] at e'
  rw [← this, Array.length_toList] at hx
  exact hx
theorem getL_rising {l : List Fl} (h : Rising l) {f : Fl} (hf : f ∈ l) : getL l f.n = f := by
  have hh : hasL l f.n = true := by
    unfold hasL; rw [List.any_eq_true]; exact ⟨f, hf, isN_self f⟩
  obtain ⟨g, hg⟩ := hasL_find.1 hh
  rw [getL_find hg]
  exact datF_unique h (List.mem_of_find?_eq_some hg) hf (find_name hg)
/-- the k-th name of a slice of names -/
theorem names_at {w : World} {base : Nat} {a : Option Addr} {c : Nat} {l : List Fl} (h : w.ownsRow base 9 1 (.slice a l.length c) l.length (nameVs l)) {k : Nat} {f : Fl} (hf : l[k]? = some f) :
    ∃ g, a = some ⟨g, 0, none⟩ ∧ base ≤ g ∧ g < w.heap.size ∧ w.cell? ⟨g, k, none⟩ = some (.string f.n) := by
  have hk : k < l.length := (List.getElem?_eq_some_iff.1 hf).1
  rcases h.2 with ⟨hv, h0⟩ | ⟨g, cap, cur, hv, hb, hg, h1, h2, h3, h4⟩
  · omega
  · cases hv
    refine ⟨g, rfl, hb, (Array.getElem?_eq_some_iff.1 hg).1, ?_⟩
    have := h.cells (g := g) rfl k (.string f.n) (by unfold nameVs; rw [List.getElem?_map, hf]; rfl)
    rw [Addr.add_lit] at this
    simpa using this

set_option maxRecDepth 100000 in
set_option maxHeartbeats 1000000 in
theorem tFiles (p b : Nat) (l : List Fl) (w : World) (h : IsTree w p b l) :
    Calls Tryz.prog 37 #[.pointer (some ⟨p, 0, none⟩)] w fun e w' => ∃ a c, e = .returned (.slice a l.length c) ∧ FC w' (.slice a l.length c) l ∧ w.grownBy w' none := by
  have HT := Lib.hid h
  have h40 : l.length ≤ 40 := h.2.2
  obtain ⟨i0, hi, hz0, hz1, hz2⟩ := info_parts infoFile
  have I := Lib.hid hi; have Z0 := Lib.hid hz0; have Z1 := Lib.hid hz1; have Z2 := Lib.hid hz2
  have HRI := Lib.hid (MapIs.rising h.2.1)
  clear hi hz0 hz1 hz2 h
  go_enter Tryz.func37, Tryz.ntmps37
  go_wp2_with fail
  refine (tNames p b l _ HT.out).mono ?_
  rintro e w1 ⟨a, c, rfl, ho, hb⟩
  have HO := Lib.hid ho; have HB := Lib.hid hb
  have T1 := Lib.hid (HT.out.kept (grown_of_below hb) (by simp) (by simp))
  clear ho hb
  go_wp2
  go_loopw [3, 5, 9] (fun out _ i wr => ∃ k : Nat, k ≤ l.length ∧ i = .int .i64 k ∧ Hid (wr.ownsRow w1.heap.size 61 3 out k (cellsF (l.take k))) ∧ Hid (Below w1.heap.size w1 wr)) (fun _ _ i _ => l.length - (intOf i).toNat)
  case atStart => exact ⟨0, Nat.zero_le _, rfl, Lib.hid ⟨rfl, .inl ⟨rfl, rfl⟩⟩, Lib.hid (Below.refl _ _)⟩
  case round =>
    obtain ⟨k, hk, rfl, hrow, hB⟩ := hrel
    by_cases hlt : k < l.length
    · have hf : l[k]? = some l[k] := List.getElem?_eq_getElem hlt
      obtain ⟨f, ef⟩ : ∃ f, f = l[k] := ⟨_, rfl⟩
      rw [← ef] at hf
      obtain ⟨g, rfl, -, hg, hcell⟩ := names_at HO.out hf
      have hcell2 := (hB.out.cell (p := ⟨g, k, none⟩) hg).trans hcell
      have TR := Lib.hid (T1.out.kept (grown_of_below hB.out) (by simp) (by simp))
      have hmem : f ∈ l := List.mem_of_getElem? hf
      have hl := TR.out.2.1.look (MapIs.key_size TR.out.2.1 hmem)
      rw [getL_rising HRI.out hmem] at hl
      have HCF := Lib.hid (cellsF_take hf)
      have SZ := Lib.hid hB.out.size
      clear hcell hf ef hmem hg
      go_wp2_with (first
        | (go_at_call 50; refine (tAll p b _ TR.out.1).mono ?_; rintro e w' ⟨rfl, rfl⟩)
        | (at_builtin; refine wpList_append_own _ rfl _ _ 22 rfl w1.heap.size 61 i0 _ 3 40 Tryz.underlying22 I.out Z0.out Z1.out Z2.out rfl (by decide) _ _ _ rfl (hrow.out.alloc _) ⟨wr.heap.size, 0, none⟩ 1 1 [.string f.n, .string f.c, .int .i64 f.t] rfl rfl (newsF _ _ _) (oneF f) (by unfold maxLen; omega) (by omega) (by have := SZ.out; simp; omega) ?_; intro v' w2 hown' hgrow2 hnil2))
      have HOWN := Lib.hid hown'
      have HB2 := Lib.hid ((hB.out.alloc hB.out.size (.cells #[.string f.n, .string f.c, .int .i64 f.t] 61)).grown hgrow2 (by have := SZ.out; simp; omega) (fun j e => (hrow.out.lt j e).1))
      clear hown' hgrow2 hnil2
      go_roundw
      case rel => exact ⟨k + 1, by omega, by go_num, Lib.hid (by rw [HCF.out]; exact HOWN.out), HB2⟩
      case measure => simp [intOf]; omega
    · have hkl : k = l.length := by omega
      subst hkl
      have hrow' := hrow.out
      rw [List.take_of_length_le (Nat.le_refl _)] at hrow'
      have HROW := Lib.hid hrow'
      clear hrow' hrow
      go_wp2
      go_ret
      obtain ⟨a', c', rfl⟩ := slice_of_owns HROW.out
      exact ⟨a', c', rfl, fc_of_owns HROW.out (by omega), (grown_of_below HB.out).trans (grown_of_below hB.out)⟩
end Go.Proofs.YtbcemenfklgnkaaGreatDoor

namespace Go.Proofs.YtbcemenfklgnkaaGreatDoor
open Go.RowKit Go.Maps

def eqFl (f g : Fl) : Bool := f.n.toList == g.n.toList && f.c.toList == g.c.toList && f.t == g.t
theorem eqFl_iff {f g : Fl} : eqFl f g = true ↔ f = g := by
  unfold eqFl
  rw [Bool.and_eq_true, Bool.and_eq_true, beq_iff_eq, beq_iff_eq, beq_iff_eq, ByteArray.toList_eq, ByteArray.toList_eq, ByteArray.toList_eq, ByteArray.toList_eq]
  constructor
  · rintro ⟨⟨h1, h2⟩, h3⟩
    cases f; cases g
    simp only at h1 h2 h3
    rw [bytes_ext h1, bytes_ext h2, h3]
  · rintro rfl; exact ⟨⟨rfl, rfl⟩, rfl⟩
theorem eqFl_self (f : Fl) : eqFl f f = true := eqFl_iff.2 rfl
theorem guardF (op : BinOp) (x y : Operand) (xs ys : Array Value) (w : World) : (eqGuard op 61 x y (.agg xs) (.agg ys)).run Tryz.prog w = .ok () w := run_eqGuard_agg w op _ x y xs ys (by kernel_rfl)
theorem neqF (f g : Fl) (w : World) : (binOp .neq 61 (.agg #[.string f.n, .string f.c, .int .i64 f.t]) (.agg #[.string g.n, .string g.c, .int .i64 g.t])).run Tryz.prog w = .ok (.bool (!eqFl f g)) w := by
  have hS : Tryz.prog.underlying 61 = some (.struct (Tryz.prog.fieldsOf 61)) := by kernel_rfl
  have hp : Tryz.prog.stoodInHeld 61 = false := by kernel_rfl
  have u3 := Tryz.underlying3
  have a3 := Tryz.isAgg3
  have z3 := Tryz.sizeOf3
  have u9 := Tryz.underlying9
  have a9 := Tryz.isAgg9
  have z9 := Tryz.sizeOf9
  rw [run_neq_struct, show (10000 : Nat) = 9999 + 1 from rfl, run_equalIn_agg w 9999 _ _ _ hS hp]
  simp only [Program.fieldsOf, Tryz.underlying61]
  go_simp
  unfold eqFl
  by_cases h1 : (f.n.toList == g.n.toList) = true <;> by_cases h2 : (f.c.toList == g.c.toList) = true <;> by_cases h3 : (f.t == g.t) = true <;> simp_all
end Go.Proofs.YtbcemenfklgnkaaGreatDoor
