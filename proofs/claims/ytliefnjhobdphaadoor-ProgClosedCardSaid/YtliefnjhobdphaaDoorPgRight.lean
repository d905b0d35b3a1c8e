/- Whether a node is right: the program's walk and the document's. -/
import Derived.Test.YtliefnjhobdphaaDoorPgMem
namespace Go.Proofs.YtliefnjhobdphaaDoor
open Go.RowKit

/-- what a call answers of each node -/
def AskI (fn : Nat) (f : Ni → Bool) (l : List Ni) : Prop := ∀ n ∈ l, ∀ a m k w, KidsE w (.slice a m k) n.kids → Calls Tryd.prog fn #[niV n (.slice a m k)] w fun e w' => e = .returned (.bool (f n)) ∧ w.grownBy w' none
theorem any_take {f : Ni → Bool} {l : List Ni} {j : Nat} {n : Ni} (h : l[j]? = some n) : (l.take (j + 1)).any f = ((l.take j).any f || f n) := by
  rw [List.take_add_one, h]; simp
theorem any_hit {f : Ni → Bool} {l : List Ni} {j : Nat} {n : Ni} (h : l[j]? = some n) (hf : f n = true) : l.any f = true := List.any_eq_true.2 ⟨n, List.mem_of_getElem? h, hf⟩

set_option maxRecDepth 100000 in
set_option maxHeartbeats 4000000 in
theorem cIndexI (fn : Nat) (hent : ∀ args w, (callFunc fn args).run Tryd.prog w = .ok (.enter fn args) w) (f : Ni → Bool) (l : List Ni) (hl200 : l.length ≤ 200) (hA : AskI fn f l)
    (a : Option Addr) (m c : Nat) (w : World) (hK : KidsE w (.slice a m c) l) :
    Calls Tryd.prog 49 #[.slice a m c, .func (.func fn) #[] #[]] w fun e w' => (∃ i : Int, e = .returned (.int .i64 i) ∧ decide (i ≥ 0) = l.any f) ∧ w.grownBy w' none := by
  obtain rfl := hK.len
  have HA := Lib.hid hA; have HK := Lib.hid hK
  clear hA hK
  go_enter Tryd.func49, Tryd.ntmps49
  go_wp2
  go_loopw [5, 8] (fun _ i wr => ∃ k : Nat, k ≤ l.length ∧ i = .int .i64 k ∧ Hid ((l.take k).any f = false) ∧ Hid (w.grownBy wr none)) (fun _ i _ => l.length - (intOf i).toNat)
  case atStart => exact ⟨0, Nat.zero_le _, rfl, Lib.hid (by simp), Lib.hid (World.grownBy.refl _ _)⟩
  case round =>
    obtain ⟨k, hk, rfl, ha, hG⟩ := hrel
    by_cases hlt : k < l.length
    · obtain ⟨n', hn'⟩ : ∃ n', l[k]? = some n' := ⟨_, List.getElem?_eq_getElem hlt⟩
      have HN := Lib.hid hn'
      obtain ⟨b0, off, x0, y0, z0, rfl, hc, hk'⟩ := (HK.out.grown hG.out).at hn'
      have c0 : wr.cell? ⟨b0, off + k * 7, none⟩ = some (.int .i64 n'.kind) := hc 0 _ rfl
      have c1 := hc 1 _ rfl
      have c2 := hc 2 _ rfl
      have c3 := hc 3 _ rfl
      have c4 := hc 4 _ rfl
      have c5 := hc 5 _ rfl
      have c6 := hc 6 _ rfl
      have HC := Lib.hid (HA.out n' (List.mem_of_getElem? hn') x0 y0 z0 wr hk')
      clear hc hk' hn'
      cases hq : f n'
      · rw [hq] at HC
        have HT := Lib.hid (show (l.take (k + 1)).any f = false by rw [any_take HN.out, ha.out, hq]; rfl)
        clear hq ha
        go_wp2_with (refine (HC.out).mono ?_; rintro e w1 ⟨rfl, hg⟩; have G := Lib.hid (hG.out.trans hg); clear hg)
        go_roundw
        case rel => exact ⟨k + 1, by omega, by go_num, HT, G⟩
        case measure => simp [intOf]; omega
      · have HI := Lib.hid (any_hit HN.out hq)
        rw [hq] at HC
        clear hq ha
        go_wp2_with (refine (HC.out).mono ?_; rintro e w1 ⟨rfl, hg⟩; have G := Lib.hid (hG.out.trans hg); clear hg)
        go_ret
        exact ⟨⟨_, rfl, by rw [HI.out]; simp⟩, G.out⟩
    · obtain rfl : k = l.length := by omega
      have HI := Lib.hid (show l.any f = false by have := ha.out; rwa [List.take_length] at this)
      go_wp2
      go_ret
      exact ⟨⟨_, rfl, by rw [HI.out]; simp⟩, hG.out⟩

set_option maxHeartbeats 1000000 in
theorem cContI (fn : Nat) (hent : ∀ args w, (callFunc fn args).run Tryd.prog w = .ok (.enter fn args) w) (f : Ni → Bool) (l : List Ni) (hl200 : l.length ≤ 200) (hA : AskI fn f l)
    (a : Option Addr) (m c : Nat) (w : World) (hK : KidsE w (.slice a m c) l) :
    Calls Tryd.prog 37 #[.slice a m c, .func (.func fn) #[] #[]] w fun e w' => e = .returned (.bool (l.any f)) ∧ w.grownBy w' none := by
  have HI := Lib.hid (cIndexI fn hent f l hl200 hA a m c w hK)
  clear hA hK
  go_enter Tryd.func37, Tryd.ntmps37
  go_wp2_with (go_at_call 49; refine (HI.out).mono ?_; rintro e w1 ⟨⟨i, rfl, hi⟩, hg⟩; have G := Lib.hid hg; have HJ := Lib.hid hi; clear hg hi)
  go_ret
  exact ⟨ret_bool HJ.out, G.out⟩

theorem not_rgt (l : List Ni) : l.any (fun n => !rgtN n) = !rgtL l := by
  induction l with
  | nil => simp [rgtL]
  | cons n l ih => rw [List.any_cons, ih, rgtL]; simp

set_option maxRecDepth 100000 in
set_option maxHeartbeats 4000000 in
theorem cRight : ∀ (N : Nat) (n : Ni) (a : Option Addr) (m k : Nat) (w : World), szN n ≤ N → N ≤ 200 → KidsE w (.slice a m k) n.kids →
    Calls Tryd.prog 17 #[niV n (.slice a m k)] w fun e w' => e = .returned (.bool (rgtN n)) ∧ w.grownBy w' none := by
  intro N
  induction N with
  | zero => intro n a m k w h _ _; rw [sz_eq] at h; omega
  | succ N ih =>
    intro n a m k w hN hN2 hK
    obtain rfl := hK.len
    have e1 : ∀ args w, (callFunc 33 args).run Tryd.prog w = .ok (.enter 33 args) w := enters_of Tryd.func33 (by kernel_rfl) rfl
    have hz := sz_eq n
    have hl200 : n.kids.length ≤ 200 := by have := len_le_sz n.kids; omega
    have hA : AskI 33 (fun n => !rgtN n) n.kids := by
      intro n' hn' a m k w hk
      have HC := Lib.hid (ih n' a m k · (by have := szL_mem hn'; omega) (by omega) ·)
      have ga := World.grownBy_alloc w (.cells #[.int .i64 n'.kind, .int .i64 n'.index, .int .u64 (wd n'.set 0), .int .u64 (wd n'.set 1), .int .u64 (wd n'.set 2), .int .u64 (wd n'.set 3), .slice a m k] 44) none
      have B1 := Lib.hid (heap_alloc_new w (.cells #[.int .i64 n'.kind, .int .i64 n'.index, .int .u64 (wd n'.set 0), .int .u64 (wd n'.set 1), .int .u64 (wd n'.set 2), .int .u64 (wd n'.set 3), .slice a m k] 44))
      have K1 := Lib.hid (hk.grown ga)
      have G1 := Lib.hid ga
      clear ga hk ih hz hl200 hK hN e1
      go_enter Tryd.func33, Tryd.ntmps33
      go_upto_region 1 with fail
      generalize w.alloc _ = w1 at B1 K1 G1 ⊢
      generalize w.heap.size = q at B1 ⊢
      obtain ⟨c0, c1, c2, c3, c4, c5, c6⟩ := seven_cells B1.out
      go_wp2_with (go_at_call 17; refine (HC.out _ K1.out).mono ?_; rintro e w5 ⟨rfl, g5⟩; have G5 := Lib.hid (G1.out.trans g5); clear g5)
      go_ret
      exact ⟨rfl, G5.out⟩
    have HI := Lib.hid (fun w h => cContI 33 e1 _ n.kids hl200 hA a n.kids.length k w h)
    have HR := Lib.hid (rgt_eq n)
    have HQ := Lib.hid (fun w => cRgtKids n.kind n.index n.set a n.kids.length k w)
    have HX := Lib.hid (fun w => cRgtIdx n.kind n.index n.set a n.kids.length k w)
    have HE := Lib.hid (fun w => cEmpty n.set w)
    have HN := Lib.hid (not_rgt n.kids)
    have hs : setOk n.kind n.set = ((n.kind == 1) || (n.set == emp)) := by unfold setOk; congr 1
    clear ih hz hl200 hA e1 hN
    have ga := World.grownBy_alloc w (.cells #[.int .i64 n.kind, .int .i64 n.index, .int .u64 (wd n.set 0), .int .u64 (wd n.set 1), .int .u64 (wd n.set 2), .int .u64 (wd n.set 3), .slice a n.kids.length k] 44) none
    have B1 := Lib.hid (heap_alloc_new w (.cells #[.int .i64 n.kind, .int .i64 n.index, .int .u64 (wd n.set 0), .int .u64 (wd n.set 1), .int .u64 (wd n.set 2), .int .u64 (wd n.set 3), .slice a n.kids.length k] 44))
    have K1 := Lib.hid (hK.grown ga)
    have G1 := Lib.hid ga
    clear ga hK
    rw [HN.out] at HI
    clear HN
    have H1 : ∃ b, kidsOk n.kind n.kids.length = b := ⟨_, rfl⟩
    have H2 : ∃ b, idxOk n.kind n.index = b := ⟨_, rfl⟩
    have H3 : ∃ b, (n.kind == 1) = b := ⟨_, rfl⟩
    have H4 : ∃ b, (n.set == emp) = b := ⟨_, rfl⟩
    obtain ⟨b1, h1⟩ := H1
    obtain ⟨b2, h2⟩ := H2
    obtain ⟨b3, h3⟩ := H3
    obtain ⟨b4, h4⟩ := H4
    rw [h1] at HQ HR
    rw [h2] at HX HR
    rw [hs, h3, h4] at HR
    rw [h4] at HE
    clear h1 h2 hs h4
    generalize rgtL n.kids = b5 at HI HR
    generalize rgtN n = z at HR ⊢
    cases b1 <;> cases b2 <;> cases b3 <;> cases b4
    all_goals
      go_enter Tryd.func17, Tryd.ntmps17
      go_upto_region 2 with fail
      generalize w.alloc _ = w1 at B1 K1 G1 ⊢
      generalize w.heap.size = q at B1 ⊢
      have Z1 := Lib.hid (World.grownBy.refl w1 none)
      obtain ⟨c0, c1, c2, c3, c4, c5, c6⟩ := seven_cells B1.out
      go_wp2_with ((first
        | (go_at_call 34; refine (HQ.out _).mono ?_)
        | (go_at_call 35; refine (HX.out _).mono ?_)
        | (go_at_call 36; refine (HE.out _).mono ?_)
        | (go_at_call 37; refine (HI.out _ (K1.out.grown Z1.out)).mono ?_)); rintro e w5 ⟨rfl, g5⟩; have Z5 := Lib.hid (Z1.out.trans g5); clear g5 Z1 c0 c1 c2 c3 c4 c5 c6; have Z1 := Z5; clear Z5; obtain ⟨c0, c1, c2, c3, c4, c5, c6⟩ := seven_cells (heap_grown Z1.out B1.out))
      go_ret
      exact ⟨ret_bool (by rw [HR.out]; simp), G1.out.trans Z1.out⟩
end Go.Proofs.YtliefnjhobdphaaDoor
