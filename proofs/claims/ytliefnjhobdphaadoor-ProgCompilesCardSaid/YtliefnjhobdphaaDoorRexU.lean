/- Nodes counted: Size, Groups. -/
import Derived.Test.YtliefnjhobdphaaDoorRexS
import Derived.Test.YtliefnjhobdphaaDoorRexT
namespace Go.Proofs.YtliefnjhobdphaaDoor
open Go.RowKit

theorem KidsAt.at {w : World} {p : Nat → Prop} {a : Option Addr} {m c k : Nat} {n : Nd} {l : List Nd} (h : KidsAt w p (.slice a m c) l) (hk : l[k]? = some n) :
    ∃ b off x y z, a = some ⟨b, off, none⟩ ∧ (∀ j u, (cells7 n (.slice x y z))[j]? = some u → w.cell? ⟨b, off + k * 7 + j, none⟩ = some u) ∧ KidsAt w p (.slice x y z) n.kids := by
  cases h with
  | empty => simp at hk
  | items b off c l kv hl hp hq hc hkk =>
    have h1 := hkk k n hk
    obtain ⟨x, z, e⟩ := h1.shape
    rw [e] at h1
    refine ⟨b, off, x, _, z, rfl, fun j u hu => hc k n hk j u ?_, h1⟩
    rw [e]; exact hu
/-- kids, wherever they lie -/
abbrev Kids (w : World) (v : Value) (l : List Nd) : Prop := KidsAt w (fun _ => True) v l
theorem KidsAt.any {w : World} {p : Nat → Prop} {v : Value} {l : List Nd} (h : KidsAt w p v l) : Kids w v l := h.weak fun _ _ _ => trivial
theorem KidsAt.len {w : World} {p : Nat → Prop} {a : Option Addr} {m c : Nat} {l : List Nd} (h : KidsAt w p (.slice a m c) l) : m = l.length := by
  obtain ⟨a', c', e⟩ := h.shape; cases e; rfl

set_option maxRecDepth 100000 in
set_option maxHeartbeats 4000000 in
theorem cCountN (f : Nat → Bool) (fn : Nat) (hent : ∀ args w, (callFunc fn args).run Tryd.prog w = .ok (.enter fn args) w)
    (hask : ∀ n a m k w, Calls Tryd.prog fn #[ndV n (.slice a m k)] w fun e w' => e = .returned (.bool (f n.kind)) ∧ w.grownBy w' none) :
    ∀ (N : Nat) (n : Nd) (a : Option Addr) (m k : Nat) (w : World), sizN n ≤ N → N ≤ 200 → Kids w (.slice a m k) n.kids →
    Calls Tryd.prog 54 #[ndV n (.slice a m k), .func (.func fn) #[] #[]] w fun e w' => e = .returned (.int .i64 (cntN f n)) ∧ w.grownBy w' none := by
  intro N
  induction N with
  | zero => intro n a m k w h _ _; rw [sizN, cntN_eq] at h; simp at h
  | succ N ih =>
    intro n a m k w hN hN2 hK
    obtain rfl := hK.len
    have HI := Lib.hid (fun n a m k w h hk => ih n a m k w h (by omega) hk)
    have hc1 := cnt_le_siz f _ n hN
    have HF := Lib.hid (cntN_eq f n)
    rw [cntN_eq] at hc1
    have hsz : sizN n = 1 + cntL (fun _ => true) n.kids := by rw [sizN, cntN_eq]; simp
    have HA := Lib.hid (hask n a n.kids.length k)
    obtain ⟨l, hl⟩ : ∃ l, n.kids = l := ⟨_, rfl⟩
    obtain ⟨b, hb⟩ : ∃ b, f n.kind = b := ⟨_, rfl⟩
    rw [hl] at hK hc1 hsz HF HA ⊢
    rw [hb] at HA hc1 HF
    have hl200 : l.length ≤ 200 := by
      have : ∀ l : List Nd, l.length ≤ cntL (fun _ => true) l := by
        intro l
        induction l with
        | nil => simp
        | cons n l ih => rw [cntL, cntN_eq]; simp; omega
      have := this l; omega
    obtain ⟨x, hx⟩ : ∃ x : Nat, x = (if b then 1 else 0) := ⟨_, rfl⟩
    rw [← hx] at hc1 HF
    have hB : x + cntL f l ≤ 200 := by omega
    have HB := Lib.hid hB
    have HS := Lib.hid (show ∀ n' ∈ l, sizN n' ≤ N by
      intro n' h'; have := cntL_mem (fun _ => true) h'; simp only [sizN] at hsz hN ⊢; omega)
    clear ih hN hN2 hc1 hsz hB hask hb
    have HL := Lib.hid hl
    clear hl
    have HEN := Lib.hid hent
    clear hent
    have ga := World.grownBy_alloc w (.cells #[.int .i64 n.kind, .int .i64 n.index, .int .u64 (wd n.set 0), .int .u64 (wd n.set 1), .int .u64 (wd n.set 2), .int .u64 (wd n.set 3), .slice a l.length k] 44) none
    have B1 := Lib.hid (heap_alloc_new w (.cells #[.int .i64 n.kind, .int .i64 n.index, .int .u64 (wd n.set 0), .int .u64 (wd n.set 1), .int .u64 (wd n.set 2), .int .u64 (wd n.set 3), .slice a l.length k] 44))
    have K1 := Lib.hid (hK.grown ga)
    have G1 := Lib.hid ga
    clear ga hK
    cases b
    all_goals
      obtain ⟨y, hy⟩ : ∃ y : Nat, y = x := ⟨_, rfl⟩
      rw [← hy] at HF HB
      simp only [if_true, if_false, Bool.false_eq_true] at hx
      subst hx
      have HY := Lib.hid hy
      have EN' := Lib.hid HEN.out
      go_enter Tryd.func54, Tryd.ntmps54
      have hen := HEN.out
      go_upto_region 1 with fail
      generalize w.alloc _ = w1 at B1 K1 G1 ⊢
      generalize w.heap.size = q at B1 ⊢
      obtain ⟨c0, c1, c2, c3, c4, c5, c6⟩ := seven_cells B1.out
      clear hy
      go_wp2_with fail
      refine (HA.out _).mono ?_
      rintro e w2 ⟨rfl, g2⟩
      have B2 := Lib.hid (heap_grown g2 B1.out)
      have K2 := Lib.hid (K1.out.grown g2)
      have G2 := Lib.hid (G1.out.trans g2)
      clear g2 c0 c1 c2 c3 c4 c5 c6 B1 K1 G1
      obtain ⟨c0, c1, c2, c3, c4, c5, c6⟩ := seven_cells B2.out
      go_wp2
      clear c0 c1 c2 c3 c4 c5 c6 hen
      go_loopw [5, 7, 16] (fun v _ i wr => ∃ j : Nat, j ≤ l.length ∧ i = .int .i64 j ∧ v = .int .i64 (y + cntL f (l.take j) : Nat) ∧ Hid (w2.grownBy wr none)) (fun _ _ i _ => l.length - (intOf i).toNat)
      case atStart => exact ⟨0, Nat.zero_le _, rfl, by rw [List.take_zero, cntL, HY.out]; rfl, Lib.hid (World.grownBy.refl _ _)⟩
      case round =>
        obtain ⟨j, hj, rfl, rfl, hG⟩ := hrel
        by_cases hlt : j < l.length
        · obtain ⟨n', hn'⟩ : ∃ n', l[j]? = some n' := ⟨_, List.getElem?_eq_getElem hlt⟩
          have HT := Lib.hid (cntL_take f hn')
          have HS' := Lib.hid (HS.out n' (List.mem_of_getElem? hn'))
          have hle := cntL_take_le f l (j + 1)
          rw [HT.out] at hle
          have hB := HB.out
          obtain ⟨b0, off, x0, y0, z0, rfl, hc, hk'⟩ := (K2.out.grown hG.out).at hn'
          have c0 : wr.cell? ⟨b0, off + j * 7, none⟩ = some (.int .i64 n'.kind) := hc 0 _ rfl
          have c1 := hc 1 _ rfl
          have c2 := hc 2 _ rfl
          have c3 := hc 3 _ rfl
          have c4 := hc 4 _ rfl
          have c5 := hc 5 _ rfl
          have c6 := hc 6 _ rfl
          have ga := World.grownBy_alloc wr (.cells #[.int .i64 n'.kind, .int .i64 n'.index, .int .u64 (wd n'.set 0), .int .u64 (wd n'.set 1), .int .u64 (wd n'.set 2), .int .u64 (wd n'.set 3), .slice x0 y0 z0] 44) none
          have K3 := Lib.hid (hk'.grown ga)
          have G3 := Lib.hid (hG.out.trans ga)
          obtain ⟨u, hu⟩ : ∃ u, u = cntL f (l.take j) := ⟨_, rfl⟩
          obtain ⟨v, hv⟩ : ∃ v, v = cntN f n' := ⟨_, rfl⟩
          rw [← hu, ← hv] at HT hle
          rw [← hu]
          have CI := Lib.hid (fun w => HI.out n' x0 y0 z0 w HS'.out)
          rw [← hv] at CI
          clear hc hk' hn' ga hu hv
          have hen := HEN.out
          go_wp2_with (go_at_call 54; refine (CI.out _ K3.out).mono ?_; rintro e w5 ⟨rfl, g5⟩; have G5 := Lib.hid (G3.out.trans g5); clear g5)
          go_roundw
          case rel => exact ⟨j + 1, by omega, by go_num, by rw [HT.out]; go_num, G5⟩
          case measure => simp [intOf]; omega
        · obtain rfl : j = l.length := by omega
          rw [List.take_length]
          have hB := HB.out
          go_wp2
          go_ret
          exact ⟨ret_int (by rw [HF.out]), G2.out.trans hG.out⟩
theorem cAskGroup (n : Nd) (a : Option Addr) (m k : Nat) (w : World) : Calls Tryd.prog 55 #[ndV n (.slice a m k)] w fun e w' => e = .returned (.bool ((fun k : Nat => k == 7) n.kind)) ∧ w.grownBy w' none := by
  have G := Lib.hid (World.grownBy_alloc w (.cells #[.int .i64 n.kind, .int .i64 n.index, .int .u64 (wd n.set 0), .int .u64 (wd n.set 1), .int .u64 (wd n.set 2), .int .u64 (wd n.set 3), .slice a m k] 44) none)
  have HK := Lib.hid (show ((n.kind : Int) == 7) = (n.kind == 7) by rw [Bool.eq_iff_iff]; simp; omega)
  go_enter Tryd.func55, Tryd.ntmps55
  go_wp2
  go_ret
  exact ⟨ret_bool HK.out, G.out⟩
theorem cGroups (n : Nd) (a : Option Addr) (m k : Nat) (w : World) (hs : sizN n ≤ 200) (hK : Kids w (.slice a m k) n.kids) :
    Calls Tryd.prog 39 #[ndV n (.slice a m k)] w fun e w' => e = .returned (.int .i64 (grpN n)) ∧ w.grownBy w' none := by
  have e1 : ∀ args w, (callFunc 55 args).run Tryd.prog w = .ok (.enter 55 args) w := enters_of Tryd.func55 (by kernel_rfl) rfl
  have ga := World.grownBy_alloc w (.cells #[.int .i64 n.kind, .int .i64 n.index, .int .u64 (wd n.set 0), .int .u64 (wd n.set 1), .int .u64 (wd n.set 2), .int .u64 (wd n.set 3), .slice a m k] 44) none
  have C := Lib.hid (cCountN (fun k => k == 7) 55 e1 cAskGroup 200 n a m k _ hs (Nat.le_refl _) (hK.grown ga))
  have G := Lib.hid ga
  clear ga hK e1
  generalize hz : cntN (fun k => k == 7) n = z at C
  have HZ := Lib.hid hz
  clear hz hs
  go_enter Tryd.func39, Tryd.ntmps39
  go_wp2_with (go_at_call 54; refine C.out.mono ?_; rintro e w5 ⟨rfl, g5⟩; have G5 := Lib.hid (G.out.trans g5); clear g5)
  go_ret
  exact ⟨ret_int (by rw [grpN, HZ.out]), G5.out⟩
end Go.Proofs.YtliefnjhobdphaaDoor
