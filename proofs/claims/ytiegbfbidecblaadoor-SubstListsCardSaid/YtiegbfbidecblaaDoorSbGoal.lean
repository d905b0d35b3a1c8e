/- Walks of package subst: a pattern that many words are put into. -/
import Derived.Test.YtiegbfbidecblaaDoorSbPro
namespace Go.Proofs.YtiegbfbidecblaaDoor
open Go.RowKit

/-- a goal, as it lies: its pattern, and that without its signs -/
def barB (tu : ByteArray) : ByteArray := ⟨(filS tu.data.toList []).toArray⟩
def goalV (tu : ByteArray) : Value := .agg #[.string tu, .string (barB tu)]
theorem barB_st (tu : ByteArray) : (barB tu).data.toList = filS tu.data.toList [] := by unfold barB; simp
theorem sizeGo : (Tryd.prog.info? 37).map (·.size) = some 2 := by kernel_rfl
theorem two_go {w : World} {b : Nat} {a0 a1 : Value} {t : TypeId} (h : w.heap[b]? = some (.cells #[a0, a1] t (0, 0))) : w.cell? ⟨b, 0, none⟩ = some a0 ∧ w.cell? ⟨b, 1, none⟩ = some a1 := by
  refine ⟨?_, ?_⟩ <;> (unfold World.cell?; rw [h]; rfl)
theorem free_go {w : World} {b : Nat} {c : Array Value} {t : TypeId} (h : w.heap[b]? = some (.cells c t (0, 0))) (i : Nat) : w.frozen? ⟨b, i, none⟩ = false := frozen_of_row w b i c t h
theorem set_go {w : World} {b : Nat} {a0 a1 : Value} {t : TypeId} (h : w.heap[b]? = some (.cells #[a0, a1] t (0, 0))) (v0 v1 : Value) :
    ((w.setCell ⟨b, 0, none⟩ v0).setCell ⟨b, 1, none⟩ v1).heap[b]? = some (.cells #[v0, v1] t (0, 0)) := heap_setCell_same _ b 1 _ _ v1 (heap_setCell_same _ b 0 _ _ v0 h)
theorem grown_go {w w1 : World} (h : w.grownBy w1 none) {b : Nat} (v0 v1 : Value) (hb : w.heap.size ≤ b) : w.grownBy ((w1.setCell ⟨b, 0, none⟩ v0).setCell ⟨b, 1, none⟩ v1) none :=
  grown_of_below (((below_of_grown h).setCell hb v0).setCell hb v1)
theorem kept_go {w w' : World} (hg : w.grownBy w' none) {b : Nat} {o : Obj} (h : w.heap[b]? = some o) : w'.heap[b]? = some o :=
  (hg.block b (Array.getElem?_eq_some_iff.1 h).1 (by simp)).trans h
set_option maxRecDepth 100000 in
theorem gGoal (tu : ByteArray) (w : World) (ht : tu.size ≤ 200) : Calls Tryd.prog 14 #[.string tu] w fun e w' => e = .returned (goalV tu) ∧ w.grownBy w' none := by
  have CF := Lib.hid (fun w => show Calls Tryd.prog 18 #[.string tu, .string ⟨#[]⟩] w fun e w' => e = .returned (.string (barB tu)) ∧ w.grownBy w' none from pFill tu ⟨#[]⟩ w ht (by decide))
  unfold goalV
  generalize barB tu = bb at CF ⊢
  have B0 := Lib.hid (heap_alloc_new w (.cells #[.string ⟨#[]⟩, .string ⟨#[]⟩] 37))
  have G0 := Lib.hid (World.grownBy_alloc w (.cells #[.string ⟨#[]⟩, .string ⟨#[]⟩] 37) none)
  go_enter Tryd.func14, Tryd.ntmps14
  go_upto_region 1 with fail
  generalize w.alloc _ = w1 at B0 G0 ⊢
  obtain ⟨g, eg⟩ : ∃ g, w.heap.size = g := ⟨_, rfl⟩
  rw [eg] at B0 ⊢
  have hgs : w.heap.size ≤ g := by omega
  clear eg
  go_wp2_with (go_at_call 18; (with_reducible refine (CF.out _).mono ?_); rintro e w2 ⟨rfl, g2⟩; have G2 := Lib.hid (G0.out.trans g2); have B2 := Lib.hid (kept_go g2 B0.out); obtain ⟨c0, c1⟩ := two_go B2.out; have fr := free_go B2.out; clear g2)
  refine bodyPost_ret (results_cell_row Tryd.results14 _ _ _ _ _ _ _ rfl (set_go B2.out _ _) Tryd.underlying37 rfl sizeGo) rfl ?_
  exact ⟨rfl, grown_go G2.out _ _ hgs⟩
theorem sum_go {b d s m : Nat} (h : b + d * s = m) (hm : m ≤ 100000) (hd : d ≤ 200) : wrap64 ((b : Int) + wrap64 (wrap64 ((b : Int) + d - b) * s)) = m := by
  have e : wrap64 ((b : Int) + d - b) * s = ((d * s : Nat) : Int) := by rw [show wrap64 ((b : Int) + d - b) = d by unfold wrap64; omega]; exact (Int.natCast_mul d s).symm
  rw [e]
  generalize d * s = q at h
  unfold wrap64
  omega
set_option maxRecDepth 100000 in
theorem gSize (tu : ByteArray) (t : ByteArray) (w : World) (ht : tu.size ≤ 200) (hs : t.size ≤ 200) : Calls Tryd.prog 16 #[goalV tu, .string t] w fun e w' => e = .returned (.int .i64 (filS tu.data.toList t.data.toList).length) ∧ w.grownBy w' none := by
  obtain ⟨h1, h2⟩ := fil_bare tu.data.toList t.data.toList
  have hm := fil_small (l := tu.data.toList) (s := t.data.toList) (by rw [← Lib.size_eq]; exact ht) (by rw [← Lib.size_eq]; exact hs)
  rw [← barB_st, ← Lib.size_eq, ← Lib.size_eq, ← Lib.size_eq] at h1
  rw [← barB_st, ← Lib.size_eq, ← Lib.size_eq] at h2
  unfold goalV
  generalize (filS tu.data.toList t.data.toList).length = m at h1 hm ⊢
  generalize barB tu = bb at h1 h2 ⊢
  obtain ⟨d, hd⟩ : ∃ d, tu.size = bb.size + d := ⟨tu.size - bb.size, by omega⟩
  rw [show tu.size - bb.size = d by omega] at h1
  have HS := Lib.hid (sum_go h1 (by omega) (by omega))
  clear h1 h2 ht hs hm
  go_enter Tryd.func16, Tryd.ntmps16
  go_wp2
  go_ret
  exact ⟨congrArg (fun x : Int => Ending.returned (Value.int .i64 x)) HS.out, World.grownBy_alloc _ _ _⟩
set_option maxRecDepth 100000 in
theorem gWith (tu t : ByteArray) (w : World) (ht : tu.size ≤ 200) (hs : t.size ≤ 200) : Calls Tryd.prog 17 #[goalV tu, .string t] w fun e w' => e = .returned (.string ⟨(filS tu.data.toList t.data.toList).toArray⟩) ∧ w.grownBy w' none := by
  have CF := Lib.hid (fun w => pFill tu t w ht hs)
  unfold goalV
  by_cases h0 : t.size = 0
  · have e0 : t.data.toList = [] := List.eq_nil_of_length_eq_zero (by rw [← Lib.size_eq]; exact h0)
    have HB := Lib.hid (show (⟨(filS tu.data.toList t.data.toList).toArray⟩ : ByteArray) = barB tu by unfold barB; rw [e0])
    have e1 : t.toList.isEmpty = true := by rw [Lib.toList_data, e0]; rfl
    rw [HB.out]
    generalize barB tu = bb
    clear CF HB e0
    go_enter Tryd.func17, Tryd.ntmps17
    go_wp2
    go_ret
    exact ⟨rfl, World.grownBy_alloc _ _ _⟩
  · have e1 : t.toList.isEmpty = false := by
      rw [Lib.toList_data]
      cases h : t.data.toList with
      | nil => exact (h0 (by rw [Lib.size_eq, h]; rfl)).elim
      | cons _ _ => rfl
    generalize filS tu.data.toList t.data.toList = F at CF ⊢
    generalize barB tu = bb
    go_enter Tryd.func17, Tryd.ntmps17
    go_wp2_with (go_at_call 18; (with_reducible refine (CF.out _).mono ?_); rintro e w1 ⟨rfl, g1⟩; have G1 := Lib.hid g1; clear g1)
    go_ret
    exact ⟨rfl, (World.grownBy_alloc _ _ _).trans G1.out⟩
end Go.Proofs.YtiegbfbidecblaaDoor
