/- What the laws of layer 3 share: the chapter's example; members that are too many or too long; members as of the document. -/
import Derived.Test.YtgicfbhhnohndaaGreatDoorArK
import Derived.Test.YtgicfbhhnohndaaGreatDoorArEq
namespace Go.Proofs.YtgicfbhhnohndaaGreatDoor
open Go.RowKit

theorem makeE_nil : makeE [] = 0 := by
  rw [makeE_zero]; exact ⟨by simp, by simp, by simp, by simp [sumM]⟩
theorem arch_start : archOf ⟨#[33, 60, 97, 114, 99, 104, 62, 10]⟩ = some [] := archOf_some ⟨makeE_nil, by simp [makeL, magL]⟩
theorem arch_no (s : ByteArray) (h : s.size < 8) : archOf s = none := archOf_none fun l hl => by
  have hf : ∀ m ∈ l, Fits m := fun m hm => (good_of hl.1 hm).fits
  have := make_len hf
  rw [← hl.2, bytes_len] at this
  omega

set_option maxRecDepth 100000 in
set_option maxHeartbeats 1000000 in
theorem lAliveA (A : Nat → Addr) (w : World) (hE : Env A w) :
    Calls Tryz.prog 6 #[] w fun e w' => e = .returned (.bool true) ∧ w.grownBy w' none := by
  have HE := Lib.hid hE
  have HM := Lib.hid (aMake_yes (.slice none 0 0) [] A w (MRow.nil w) hE makeE_nil (x := ⟨#[33, 60, 97, 114, 99, 104, 62, 10]⟩) (by simp [makeL, magL]))
  have H1 := Lib.hid (show ∀ W, Env A W → Calls Tryz.prog 16 #[.string ⟨#[33, 60, 97, 114, 99, 104, 62, 10]⟩] W fun e w' => e = .returned (.bool true) ∧ W.grownBy w' none from fun W hW => by
    have := aIs ⟨#[33, 60, 97, 114, 99, 104, 62, 10]⟩ A W hW (by decide)
    rw [arch_start] at this; exact this)
  have H2 := Lib.hid (show ∀ W, Env A W → Calls Tryz.prog 16 #[.string ⟨#[]⟩] W fun e w' => e = .returned (.bool false) ∧ W.grownBy w' none from fun W hW => by
    have := aIs ⟨#[]⟩ A W hW (by decide)
    rw [arch_no ⟨#[]⟩ (by decide)] at this; exact this)
  clear hE
  go_enter Tryz.func6, Tryz.ntmps6
  go_wp2_with fail
  refine HM.out.mono ?_
  rintro e w1 ⟨rfl, g1⟩
  have G1 := Lib.hid g1
  clear g1
  go_wp2_with fail
  refine (H1.out _ (HE.out.grown G1.out)).mono ?_
  rintro e w2 ⟨rfl, g2⟩
  have G2 := Lib.hid (G1.out.trans g2)
  clear g2
  go_wp2_with fail
  refine (H2.out _ (HE.out.grown G2.out)).mono ?_
  rintro e w3 ⟨rfl, g3⟩
  have G3 := Lib.hid (G2.out.trans g3)
  clear g3
  go_wp2
  go_ret
  exact ⟨rfl, G3.out⟩

def bigM (m : Mb) : Bool := decide (100 < m.n.size) || decide (1000 < m.c.size)
def longM (k : Nat) (l : List Mb) : Bool := decide (k < l.length) || l.any bigM
theorem longM_hit {k : Nat} {l : List Mb} {j : Nat} {m : Mb} (h : l[j]? = some m) (hb : bigM m = true) : longM k l = true := by
  unfold longM
  rw [List.any_eq_true.2 ⟨m, List.mem_of_getElem? h, hb⟩, Bool.or_true]
theorem longM_not {k : Nat} {l : List Mb} (hm : l.length ≤ k) {j : Nat} (hk : l.length ≤ j) (h : (l.take j).any bigM = false) : longM k l = false := by
  rw [List.take_of_length_le hk] at h
  unfold longM
  rw [h, decide_eq_false (by omega)]; rfl
theorem longM_short {k : Nat} {l : List Mb} (h : longM k l = false) : l.length ≤ k ∧ ∀ m ∈ l, m.n.size ≤ 100 ∧ m.c.size ≤ 1000 := by
  unfold longM at h
  rw [Bool.or_eq_false_iff] at h
  have h1 := of_decide_eq_false h.1
  refine ⟨by omega, fun m hm => ?_⟩
  have h2 := List.any_eq_false.1 h.2 m hm
  unfold bigM at h2
  simp only [Bool.or_eq_true, decide_eq_true_eq] at h2
  omega
theorem any_snocM {l : List Mb} {k : Nat} {m : Mb} (h : l[k]? = some m) (p : Mb → Bool) (ha : (l.take k).any p = false) (hb : p m = false) : (l.take (k + 1)).any p = false := by
  rw [take_snocM h, List.any_append, ha]; simp [hb]
theorem sumM_bound {k : Nat} {l : List Mb} (h : l.length ≤ k) (hc : ∀ m ∈ l, m.c.size ≤ 1000) : sumM l ≤ k * 1061 := by
  induction l generalizing k with
  | nil => simp [sumM]
  | cons a r ih =>
    rw [sumM_cons]
    rw [List.length_cons] at h
    have h1 := ih (k := k - 1) (by omega) (fun m hm => hc m (by simp [hm]))
    have h2 := hc a (by simp)
    have h3 : sizeM a ≤ 1061 := by unfold sizeM; omega
    obtain ⟨j, rfl⟩ : ∃ j, k = j + 1 := ⟨k - 1, by omega⟩
    rw [Nat.add_sub_cancel] at h1
    rw [Nat.succ_mul]; omega

set_option maxRecDepth 100000 in
set_option maxHeartbeats 1000000 in
theorem lLongA (v : Value) (l : List Mb) (k : Nat) (w : World) (h : MRow w v l) :
    Calls Tryz.prog 7 #[v, .int .i64 k] w fun e w' => e = .returned (.bool (longM k l)) ∧ w.grownBy w' none := by
  have HR := Lib.hid h
  obtain ⟨a, c, rfl, hn, -, -⟩ := h
  by_cases hm : k < l.length
  · have hL := Lib.hid (show longM k l = true by unfold longM; rw [decide_eq_true hm]; rfl)
    go_enter Tryz.func7, Tryz.ntmps7
    go_wp2
    go_ret
    exact ⟨ret_bool hL.out.symm, World.grownBy.refl _ _⟩
  have HM : l.length ≤ k := by omega
  have hdm : decide (k < l.length) = false := decide_eq_false hm
  clear hm
  go_enter Tryz.func7, Tryz.ntmps7
  go_wp2
  go_loopw [6, 13] (fun _ i wr => ∃ j : Nat, j ≤ l.length ∧ i = .int .i64 j ∧ Hid ((l.take j).any bigM = false) ∧ Hid (w.grownBy wr none)) (fun _ i _ => l.length - (intOf i).toNat)
  case atStart => exact ⟨0, Nat.zero_le _, rfl, Lib.hid rfl, Lib.hid (World.grownBy.refl _ _)⟩
  case round =>
    obtain ⟨j, hj, rfl, ha, hG⟩ := hrel
    by_cases hlt : j < l.length
    · obtain ⟨b, off, c', m, e, hm, sn, sc, hb, c0, c1, c2⟩ := (HR.out.grown hG.out).at j hlt
      cases e
      have Hm := Lib.hid hm
      unfold maxLen at sn sc
      clear hm
      by_cases h1 : (100 : Int) < m.n.size
      · have hL := Lib.hid (longM_hit (k := k) Hm.out (show bigM m = true by unfold bigM; rw [decide_eq_true (show 100 < m.n.size by omega)]; rfl))
        go_wp2
        go_ret
        exact ⟨ret_bool hL.out.symm, hG.out.trans (World.grownBy_alloc _ _ _)⟩
      by_cases h2 : (1000 : Int) < m.c.size
      · have hL := Lib.hid (longM_hit (k := k) Hm.out (show bigM m = true by unfold bigM; rw [decide_eq_true (show 1000 < m.c.size by omega)]; simp))
        go_wp2
        go_ret
        exact ⟨ret_bool hL.out.symm, hG.out.trans (World.grownBy_alloc _ _ _)⟩
      have HN := Lib.hid (show bigM m = false by unfold bigM; rw [decide_eq_false (show ¬ 1000 < m.c.size by omega), decide_eq_false (show ¬ 100 < m.n.size by omega)]; rfl)
      go_wp2
      go_roundw
      case rel => exact ⟨j + 1, by omega, by go_num, Lib.hid (any_snocM Hm.out bigM ha.out HN.out), Lib.hid (hG.out.trans (World.grownBy_alloc _ _ _))⟩
      case measure => simp [intOf]; omega
    · have hL := Lib.hid (longM_not HM (by omega) ha.out)
      go_wp2
      go_ret
      exact ⟨ret_bool hL.out.symm, hG.out⟩
end Go.Proofs.YtgicfbhhnohndaaGreatDoor
