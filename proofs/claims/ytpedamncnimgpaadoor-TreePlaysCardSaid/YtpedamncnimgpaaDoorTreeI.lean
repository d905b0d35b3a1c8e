/- Walks of package tree: Latest, Files. -/
import Derived.Test.YtpedamncnimgpaaDoorKeyInv
import Derived.Test.YtpedamncnimgpaaDoorTreeE
import Derived.Test.YtpedamncnimgpaaDoorRefA
namespace Go.Proofs.YtpedamncnimgpaaDoor
open Go.RowKit Go.Maps

/-! the greatest time of those that have been met -/
theorem latL_ge (l : List Fl) : ∀ n : Int, n ≤ l.foldl (fun n f => if n < f.t then f.t else n) n ∧ ∀ f ∈ l, f.t ≤ l.foldl (fun n f => if n < f.t then f.t else n) n := by
  induction l with
  | nil => intro n; exact ⟨Int.le_refl _, by simp⟩
  | cons a r ih =>
    intro n
    rw [List.foldl_cons]
    obtain ⟨h1, h2⟩ := ih (if n < a.t then a.t else n)
    have h3 : n ≤ (if n < a.t then a.t else n) ∧ a.t ≤ (if n < a.t then a.t else n) := by split <;> omega
    exact ⟨Int.le_trans h3.1 h1, fun f hf => by
      rcases List.mem_cons.1 hf with rfl | hf
      · exact Int.le_trans h3.2 h1
      · exact h2 f hf⟩
theorem latL_in (l : List Fl) : ∀ n : Int, l.foldl (fun n f => if n < f.t then f.t else n) n = n ∨ ∃ f ∈ l, l.foldl (fun n f => if n < f.t then f.t else n) n = f.t := by
  induction l with
  | nil => intro n; exact .inl rfl
  | cons a r ih =>
    intro n
    rw [List.foldl_cons]
    rcases ih (if n < a.t then a.t else n) with h | ⟨f, hf, h⟩
    · rw [h]
      split
      · exact .inr ⟨a, by simp, rfl⟩
      · exact .inl rfl
    · exact .inr ⟨f, by simp [hf], h⟩
/-- m is the greatest time of 0 and of the files whose keys are no longer to come -/
def LatSt (l : List Fl) (left : Lit → Bool) (m : Int) : Prop := 0 ≤ m ∧ (∀ f ∈ l, left (keyS f.n) = false → f.t ≤ m) ∧ (m = 0 ∨ ∃ f ∈ l, left (keyS f.n) = false ∧ m = f.t)
theorem lat_start (l : List Fl) : LatSt l (has (toD l)) 0 := by
  refine ⟨Int.le_refl _, fun f hf h => ?_, .inl rfl⟩
  rw [toD_has] at h
  unfold hasL at h
  rw [List.any_eq_false] at h
  exact absurd (isN_self f) (h f hf)
theorem lat_end {l : List Fl} {left : Lit → Bool} {m : Int} (h : LatSt l left m) (hl : ∀ k, left k = false) : m = latL l := by
  obtain ⟨h0, h1, h2⟩ := h
  obtain ⟨g0, g1⟩ := latL_ge l 0
  have gi := latL_in l 0
  have e : latL l = l.foldl (fun n f => if n < f.t then f.t else n) 0 := rfl
  rw [e]
  rcases h2 with rfl | ⟨f, hf, _, rfl⟩
  · rcases gi with h | ⟨f, hf, h⟩
    · exact h.symm
    · have := h1 f hf (hl _); omega
  · have a1 := g1 f hf
    rcases gi with h | ⟨f', hf', h⟩
    · omega
    · have := h1 f' hf' (hl _); omega
theorem lat_step {l : List Fl} {left : Lit → Bool} {m : Int} (h : LatSt l left m) {s : ByteArray} {f : Fl} (hf : f ∈ l) (hk : ∀ g ∈ l, g.n = s → g = f) (hs : f.n = s) :
    LatSt l (fun z => left z && !z.sameKey (keyS s)) (max m f.t) := by
  obtain ⟨h0, h1, h2⟩ := h
  have same : ∀ g : Fl, (keyS g.n).sameKey (keyS s) = isN s g := fun g => rfl
  have gone : (left (keyS f.n) && !(keyS f.n).sameKey (keyS s)) = false := by rw [same, isN_iff.2 hs]; simp
  refine ⟨by omega, fun g hg hl => ?_, ?_⟩
  · simp only [same] at hl
    by_cases e : g.n = s
    · rw [hk g hg e]; omega
    · rw [isN_other e] at hl
      have := h1 g hg (by simpa using hl); omega
  · by_cases hle : f.t ≤ m
    · rw [Int.max_eq_left hle]
      rcases h2 with h | ⟨g, hg, hl, h⟩
      · exact .inl h
      · exact .inr ⟨g, hg, by simp [hl], h⟩
    · rw [Int.max_eq_right (by omega)]
      exact .inr ⟨f, hf, gone, rfl⟩

theorem datF_unique {l : List Fl} (h : Rising l) {f g : Fl} (hf : f ∈ l) (hg : g ∈ l) (e : f.n = g.n) : f = g := by
  unfold Rising at h
  obtain ⟨i, hi, rfl⟩ := List.mem_iff_getElem.1 hf
  obtain ⟨j, hj, rfl⟩ := List.mem_iff_getElem.1 hg
  rw [List.pairwise_iff_getElem] at h
  rcases Nat.lt_trichotomy i j with hij | rfl | hij
  · have := h i j hi hj hij
    rw [e, WideAt.bytes_irrefl] at this; cases this
  · rfl
  · have := h j i hj hi hij
    rw [e, WideAt.bytes_irrefl] at this; cases this
/-- an entry that comes is a file of the tree -/
theorem come_file {l : List Fl} {x : ByteArray} {f : Fl} {kl : Lit} {yd : DataW Unit} {yp : List MemPlace} (hkey : keyOf Tryd.prog 9 (.string x) = some kl) (hv : fileElem (valF f) = some (yd, yp))
    (hat : ∀ zd, (toD l).atKey kl zd = yd) : kl = keyS x ∧ f ∈ l ∧ f.n = x := by
  obtain ⟨s, e, rfl⟩ := keyOf_inv hkey
  cases e
  rw [fileElem_mk, Option.some.injEq, Prod.mk.injEq] at hv
  obtain ⟨rfl, _⟩ := hv
  have h1 := hat (datF nilF)
  rw [toD_at] at h1
  have h2 : hasL l x = true := by
    have := has_true_of_atKey hat
    rwa [toD_has] at this
  have e := datF_inj h1
  obtain ⟨g, hg⟩ := hasL_find.1 h2
  rw [getL_find hg] at e
  subst e
  exact ⟨rfl, List.mem_of_find?_eq_some hg, find_name hg⟩
theorem lat_come {w : World} {b : Nat} {l : List Fl} (hm : MapIs w b l) {left : Lit → Bool} {m : Int} (h : LatSt l left m) {x : ByteArray} {f : Fl} {kl : Lit} {yd : DataW Unit} {yp : List MemPlace}
    (hkey : keyOf Tryd.prog 9 (.string x) = some kl) (hv : fileElem (valF f) = some (yd, yp)) (hat : ∀ zd, (toD l).atKey kl zd = yd) : LatSt l (fun z => left z && !z.sameKey kl) (max m f.t) := by
  obtain ⟨rfl, hf, e⟩ := come_file hkey hv hat
  exact lat_step h hf (fun g hg eg => datF_unique (MapIs.rising hm) hg hf (by rw [eg, e])) e

set_option maxRecDepth 100000 in
set_option maxHeartbeats 1000000 in
theorem tLatest (p b : Nat) (l : List Fl) (w : World) (h : IsTree w p b l) :
    Calls Tryd.prog 35 #[.pointer (some ⟨p, 0, none⟩)] w fun e w' => e = .returned (.int .i64 (latL l)) ∧ w.grownBy w' none := by
  have hc := h.1
  have hm := h.2.1
  have hbs := hm.lt
  have HM := Lib.hid hm
  clear h
  go_enter Tryd.func35, Tryd.ntmps35
  go_wp2_with (first
    | (go_at_call 28; refine (tAll p b _ hc).mono ?_; rintro e w' ⟨rfl, rfl⟩)
    | (at_range; refine wpList_range_own _ rfl _ 60 rfl 9 31 lawS Tryd.underlying60 fileElem b l.length (toD l) rfl hm ?_; intro w0 hrg0 hg0 hs0)
    | go_in)
  go_frame
  go_loopw [3] (fun n wr => ∃ (left : Lit → Bool) (cnt : Nat) (m : Int), n = .int .i64 m ∧ wr.ranges Tryd.prog 9 fileElem b w.heap.size l.length (toD l) left cnt ∧ Hid (LatSt l left m) ∧ w.grownBy wr none)
    (fun _ wr => wr.rangeLeft b w.heap.size)
  case atStart => exact ⟨_, _, 0, rfl, hrg0, Lib.hid (lat_start l), hg0⟩
  case round =>
    obtain ⟨left, cnt, m, rfl, hrg, hL, hgw⟩ := hrel
    go_wp2_with (first
      | (at_next; refine wpList_next_ranges _ rfl _ rfl 9 lawS fileElem (fun s : ByteArray => Value.string s) valF (fun key kl hk => ?c1) (fun v y hv => ?c2) b w.heap.size l.length _ _ _ rfl hrg ?_ ?_)
      | go_in)
    case c1 =>
      obtain ⟨s, rfl, _⟩ := keyOf_inv hk
      exact ⟨s, rfl⟩
    case c2 =>
      obtain ⟨f, rfl, _⟩ := fileElem_inv hv
      exact ⟨f, rfl⟩
    · -- nothing is left
      intro hc0 hl0
      go_wp2
      go_ret
      exact ⟨ret_int' (lat_end hL.out hl0), hgw⟩
    · -- an entry has come
      intro x f kl yd yp w1 cnt1 hkey hlx hv hat hrg1 hlt hg1 hs1 hen
      have HL2 := Lib.hid (lat_come HM.out hL.out hkey hv hat)
      have HRG1 := Lib.hid hrg1; have HRG := Lib.hid hrg
      have HGW := Lib.hid hgw; have HG1 := Lib.hid hg1
      clear hkey hv hat hrg1 hrg hgw hg1 hlx hL hrg0 hg0
      unfold valF at hen ⊢
      go_wp2
      have hrg2 := HRG1.out.kept (World.grownBy_alloc w1 (.cells #[.string f.n, .string f.c, .int .i64 f.t] 31) none) (by simp) (by simp)
      go_roundw
      case rel => exact ⟨_, cnt1, _, rfl, hrg2, HL2, (HGW.out.andThen HG1.out (fun j hj => .inl (by cases hj; exact Nat.le_refl _))).trans (World.grownBy_alloc _ _ _)⟩
      case measure => rw [hrg2.left_eq, HRG.out.left_eq]; exact hlt
end Go.Proofs.YtpedamncnimgpaaDoor
