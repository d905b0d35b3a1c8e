/- Walks of package tree: whether two trees are the same. -/
import Derived.Test.YtpedamncnimgpaaDoorTreeJ
import Derived.Test.YtpedamncnimgpaaDoorFlEq
namespace Go.Proofs.YtpedamncnimgpaaDoor
open Go.RowKit Go.Maps

def eqLs : List Fl → List Fl → Bool
  | [], [] => true
  | a :: r, b :: s => eqFl a b && eqLs r s
  | _, _ => false
theorem eqLs_iff : ∀ {a b : List Fl}, eqLs a b = true ↔ a = b
  | [], [] => by simp [eqLs]
  | [], _ :: _ => by simp [eqLs]
  | _ :: _, [] => by simp [eqLs]
  | a :: r, b :: s => by
    unfold eqLs
    rw [Bool.and_eq_true, eqFl_iff, eqLs_iff, List.cons.injEq]
theorem eqLs_false {a b : List Fl} (h : a ≠ b) : eqLs a b = false := by
  cases e : eqLs a b
  · rfl
  · exact absurd (eqLs_iff.1 e) h

theorem rising_sub : ∀ {b a : List Fl}, Rising a → Rising b → (∀ f ∈ a, f ∈ b) → a.Sublist b
  | [], a, _, _, hs => by
    cases a with
    | nil => exact List.Sublist.slnil
    | cons x r => exact absurd (hs x (by simp)) (by simp)
  | y :: s, a, ha, hb, hs => by
    cases a with
    | nil => exact List.nil_sublist _
    | cons x r =>
      obtain ⟨hx, hr⟩ := List.pairwise_cons.1 ha
      obtain ⟨hy, hs'⟩ := List.pairwise_cons.1 hb
      rcases List.mem_cons.1 (hs x (by simp)) with rfl | hxs
      · refine List.Sublist.cons_cons _ (rising_sub hr hs' fun f hf => ?_)
        rcases List.mem_cons.1 (hs f (by simp [hf])) with rfl | h
        · have := hx f hf
          rw [WideAt.bytes_irrefl] at this; cases this
        · exact h
      · refine List.Sublist.cons _ (rising_sub ha hs' fun f hf => ?_)
        rcases List.mem_cons.1 (hs f hf) with rfl | h
        · have h1 := hy x hxs
          rcases List.mem_cons.1 hf with rfl | hf
          · rw [WideAt.bytes_irrefl] at h1; cases h1
          · have h2 := Go.WideShapes.bytes_trans _ _ _ h1 (hx f hf)
            rw [WideAt.bytes_irrefl] at h2; cases h2
        · exact h
theorem rising_eq {a b : List Fl} (ha : Rising a) (hb : Rising b) (hlen : a.length = b.length) (hs : ∀ f ∈ a, f ∈ b) : a = b := (rising_sub ha hb hs).eq_of_length hlen

/-- all files whose keys are no longer to come are in the other tree -/
def InB (a b : List Fl) (left : Lit → Bool) : Prop := ∀ f ∈ a, left (keyS f.n) = false → f ∈ b
theorem inB_start (a b : List Fl) : InB a b (has (toD a)) := fun f hf h => by
  rw [toD_has] at h
  unfold hasL at h
  rw [List.any_eq_false] at h
  exact absurd (isN_self f) (h f hf)
theorem inB_step {a b : List Fl} {left : Lit → Bool} (h : InB a b left) (ha : Rising a) {f : Fl} (hf : f ∈ a) (hb : f ∈ b) : InB a b (fun z => left z && !z.sameKey (keyS f.n)) := fun g hg hl => by
  by_cases e : g.n = f.n
  · rw [datF_unique ha hg hf e]; exact hb
  · have same : (keyS g.n).sameKey (keyS f.n) = isN f.n g := rfl
    simp only [same] at hl
    rw [isN_other e] at hl
    exact h g hg (by simpa using hl)

set_option maxRecDepth 100000 in
set_option maxHeartbeats 1000000 in
theorem tMapsEqual (b1 b2 : Nat) (l1 l2 : List Fl) (w : World) (h1 : MapIs w b1 l1) (h2 : MapIs w b2 l2) :
    Calls Tryd.prog 37 #[.map (some b1), .map (some b2)] w fun e w' => e = .returned (.bool (eqLs l1 l2)) ∧ w.grownBy w' none := by
  have q1 := fun ty => h1.len_run ty
  have q2 := fun ty => h2.len_run ty
  have R1 := Lib.hid (MapIs.rising h1); have R2 := Lib.hid (MapIs.rising h2)
  have M1 := Lib.hid h1
  have hb2 := h2.lt
  have hgd := guardF
  by_cases hlen : l1.length = l2.length
  · have HLEN := Lib.hid hlen
    rw [hlen] at q1
    clear hlen
    go_enter Tryd.func37, Tryd.ntmps37
    go_wp2_with (first
      | (at_range; refine wpList_range_own _ rfl _ 60 rfl 9 31 lawS Tryd.underlying60 fileElem b1 l1.length (toD l1) rfl h1 ?_; intro w0 hrg0 hg0 hs0)
      | go_in)
    go_frame
    go_loopw [16] (fun _ wr => ∃ (left : Lit → Bool) (cnt : Nat), wr.ranges Tryd.prog 9 fileElem b1 w.heap.size l1.length (toD l1) left cnt ∧ Hid (MapIs wr b2 l2) ∧ Hid (InB l1 l2 left) ∧ w.grownBy wr none)
      (fun _ wr => wr.rangeLeft b1 w.heap.size)
    case atStart => exact ⟨_, _, hrg0, Lib.hid (h2.kept hg0 (by simp)), Lib.hid (inB_start l1 l2), hg0⟩
    case round =>
      obtain ⟨left, cnt, hrg, hm2, hI, hgw⟩ := hrel
      go_wp2_with (first
        | (at_next; refine wpList_next_ranges _ rfl _ rfl 9 lawS fileElem (fun s : ByteArray => Value.string s) valF (fun key kl hk => ?c1) (fun v y hv => ?c2) b1 w.heap.size l1.length _ _ _ rfl hrg ?_ ?_)
        | go_in)
      case c1 =>
        obtain ⟨s, rfl, _⟩ := keyOf_inv hk
        exact ⟨s, rfl⟩
      case c2 =>
        obtain ⟨f, rfl, _⟩ := fileElem_inv hv
        exact ⟨f, rfl⟩
      · -- nothing is left
        intro hc0 hl0
        go_wp2
        go_ret
        exact ⟨ret_bool' (eqLs_iff.2 (rising_eq R1.out R2.out HLEN.out (fun f hf => hI.out f hf (hl0 _)))).symm, hgw⟩
      · -- an entry has come
        intro x f kl yd yp w1 cnt1 hkey hlx hv hat hrg1 hlt hg1 hs1 hen
        obtain ⟨rfl, hf, rfl⟩ := come_file hkey hv hat
        have HF := Lib.hid hf
        have SX := Lib.hid (MapIs.key_size M1.out hf)
        have HRG1 := Lib.hid hrg1; have HRG := Lib.hid hrg
        have hgw1 := hgw.andThen hg1 (fun j hj => .inl (by cases hj; exact Nat.le_refl _))
        have HGW1 := Lib.hid hgw1
        have m2 := hm2.out.kept hg1 (fun e => by have := Option.some.inj e; omega)
        have HM2 := Lib.hid m2
        have hl := (m2.alloc (.cells #[.string f.n, .string f.c, .int .i64 f.t] 31)).look_ok SX.out
        clear hkey hv hat hrg1 hrg hgw hg1 hlx hrg0 hg0 hf m2 hgw1 q1 q2
        unfold valF at hen ⊢
        have gg := World.grownBy_alloc w1 (.cells #[.string f.n, .string f.c, .int .i64 f.t] 31) none
        have GG := Lib.hid gg
        clear gg
        by_cases hq : hasL l2 f.n = true
        · obtain ⟨g, hg⟩ := hasL_find.1 hq
          have HG := Lib.hid hg
          rw [getL_find hg, hq] at hl
          clear hq hg
          have hnq := fun W => neqF f g W
          by_cases he : eqFl f g = true
          · have e := eqFl_iff.1 he
            subst e
            rw [he] at hnq
            have HIN := Lib.hid (List.mem_of_find?_eq_some HG.out)
            clear he
            go_wp2
            have hg2 := GG.out.trans (World.grownBy_alloc _ (.cells #[.string f.n, .string f.c, .int .i64 f.t] 31) none)
            have hrg2 := HRG1.out.kept hg2 (by simp) (by simp)
            go_roundw
            case rel => exact ⟨_, cnt1, hrg2, Lib.hid (HM2.out.kept hg2 (by simp)), Lib.hid (inB_step hI.out R1.out HF.out HIN.out), HGW1.out.trans hg2⟩
            case measure => rw [hrg2.left_eq, HRG.out.left_eq]; exact hlt
          · have he' : eqFl f g = false := by simpa using he
            have HNE := Lib.hid (show l1 ≠ l2 from fun e => he (by
              have h1 : f ∈ l2 := e ▸ HF.out
              have h2 := datF_unique R2.out h1 (List.mem_of_find?_eq_some HG.out) (find_name HG.out).symm
              rw [← h2]; exact eqFl_self f))
            rw [he'] at hnq
            clear he he'
            go_wp2
            go_ret
            exact ⟨ret_bool' (eqLs_false HNE.out).symm, HGW1.out.trans (GG.out.trans (World.grownBy_alloc _ _ _))⟩
        · have hq' : hasL l2 f.n = false := by simpa using hq
          have HNE := Lib.hid (show l1 ≠ l2 from fun e => hq (by
            have h1 : f ∈ l2 := e ▸ HF.out
            unfold hasL; rw [List.any_eq_true]; exact ⟨f, h1, isN_self f⟩))
          rw [hq', getL_not hq'] at hl
          clear hq hq'
          go_wp2
          go_ret
          exact ⟨ret_bool' (eqLs_false HNE.out).symm, HGW1.out.trans (GG.out.trans (World.grownBy_alloc _ _ _))⟩
  · have HNE := Lib.hid (show l1 ≠ l2 from fun e => hlen (by rw [e]))
    have hne : ¬ ((l1.length : Int) = l2.length) := fun e => hlen (by exact_mod_cast e)
    clear hlen
    go_enter Tryd.func37, Tryd.ntmps37
    go_wp2
    go_ret
    exact ⟨ret_bool' (eqLs_false HNE.out).symm, World.grownBy.refl _ _⟩

set_option maxRecDepth 100000 in
set_option maxHeartbeats 1000000 in
theorem tSame (p1 b1 p2 b2 : Nat) (l1 l2 : List Fl) (w : World) (h1 : IsTree w p1 b1 l1) (h2 : IsTree w p2 b2 l2) :
    Calls Tryd.prog 25 #[.pointer (some ⟨p1, 0, none⟩), .pointer (some ⟨p2, 0, none⟩)] w fun e w' => e = .returned (.bool (eqLs l1 l2)) ∧ w.grownBy w' none := by
  have tok1 : True := trivial
  go_enter Tryd.func25, Tryd.ntmps25
  go_wp2_with (first
    | (go_at_call 28; have _t := tok1; refine (tAll p1 b1 _ h1.1).mono ?_; rintro e w' ⟨rfl, rfl⟩; clear tok1)
    | (go_at_call 28; refine (tAll p2 b2 _ h2.1).mono ?_; rintro e w' ⟨rfl, rfl⟩)
    | (go_at_call 37; refine (tMapsEqual b1 b2 l1 l2 _ h1.2.1 h2.2.1).mono ?_; rintro e w2 ⟨rfl, g2⟩; have G2 := Lib.hid g2; clear g2))
  go_ret
  exact ⟨rfl, G2.out⟩
end Go.Proofs.YtpedamncnimgpaaDoor
