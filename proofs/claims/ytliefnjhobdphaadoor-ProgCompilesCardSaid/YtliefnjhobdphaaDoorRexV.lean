/- Parse. -/
import Derived.Test.YtliefnjhobdphaaDoorRexU
import Derived.Test.YtliefnjhobdphaaDoorBase
import Derived.StillTailTactics
namespace Go.Proofs.YtliefnjhobdphaaDoor
open Go.RowKit

/-- the errors that Parse answers with -/
def L3 : List (Nat × Nat) := [(2, 2), (6, 3), (10, 1)]
/-- what Parse reads of the package's variables -/
structure PEnv (A : Nat → Addr) (w : World) : Prop where
  S : Sents L3 A w
  E : RepEnv w
theorem PEnv.grown {A : Nat → Addr} {w w' : World} (h : PEnv A w) (g : w.grownBy w' none) : PEnv A w' := ⟨h.S.grown g, h.E.kept g (by simp)⟩
/-- what Parse answers -/
def ParOut (A : Nat → Addr) (s : ByteArray) (e : Ending) (w' : World) : Prop :=
  ∃ a m k, e = .returned (.tuple #[ndV (parN s).1 (.slice a m k), errV A (parN s).2]) ∧ Kids w' (.slice a m k) (parN s).1.kids

theorem par_none {s : ByteArray} (h : ¬ s.size > 60) (hf : fin s 0 ⟨[], [], [], 0⟩ = none) : parN s = (ndE, 6) := by unfold parN; rw [if_neg h, hf]
theorem par_full {s : ByteArray} {n : Nd} (h : ¬ s.size > 60) (hf : fin s 0 ⟨[], [], [], 0⟩ = some n) (hg : grpN n > 9) : parN s = (ndE, 10) := by unfold parN; rw [if_neg h, hf]; simp only [if_pos hg]
theorem par_ok {s : ByteArray} {n : Nd} (h : ¬ s.size > 60) (hf : fin s 0 ⟨[], [], [], 0⟩ = some n) (hg : ¬ grpN n > 9) : parN s = (n, 0) := by unfold parN; rw [if_neg h, hf]; simp only [if_neg hg]
theorem all_rest (s : ByteArray) : s.extract 0 s.size = s := by simp
theorem rd_new (w : World) (s : ByteArray) (hs : s.size ≤ 60) : Rd (w.alloc (.cells #[.string s, .int .i64 0] 77)) w.heap.size s 0 0 := by
  have h := heap_alloc_new w (.cells #[.string s, .int .i64 0] 77)
  refine ⟨?_, Nat.zero_le _, hs, Nat.le_refl _⟩
  rw [all_rest, h]; rfl
theorem back_nd2d (T : TypeId) {fs : Array Field} (hT : Tryd.prog.underlying T = some (.struct fs)) (hi : (Tryd.prog.info? T).map (·.size) = some 7) {fn : Func} {p q : Tmp} {w : World} {g : Nat} {n : Nd} {kv v : Value} {tmps : Array Value} (hf : fn.results = #[.cell p T, .tmp q])
    (hp : tmps.getD p undef = .pointer (some ⟨g, 0, none⟩)) (hq : tmps.getD q undef = v) (hg : w.heap[g]? = some (.cells #[.int .i64 n.kind, .int .i64 n.index, .int .u64 (wd n.set 0), .int .u64 (wd n.set 1), .int .u64 (wd n.set 2), .int .u64 (wd n.set 3), kv] T (0, 0))) :
    (results fn tmps).run Tryd.prog w.drew = .ok (.tuple #[ndV n kv, v]) w.drew :=
  back_nd2 (w := w.drew) T hT hi hf hp hq hg
theorem err_apart {w : World} {b g : Nat} {u : TypeId} {x : Value} {y : Int} {k : IntKind} (h : w.cell? ⟨b, 0, none⟩ = some (.iface u x)) (h' : w.cell? ⟨g, 0, none⟩ = some (.int k y)) : b ≠ g := by
  rintro rfl; rw [h] at h'; cases h'

set_option maxRecDepth 100000 in
set_option maxHeartbeats 1600000 in
theorem cParse (A : Nat → Addr) (s : ByteArray) (w : World) (hs : s.size ≤ 100) (hE : PEnv A w) :
    Calls Tryd.prog 20 #[.string s] w fun e w' => ParOut A s e w' ∧ w.grownBy w' none := by
  have B3 := heap_alloc_new w (.cells #[.int .i64 0, .int .i64 0, .int .u64 0, .int .u64 0, .int .u64 0, .int .u64 0, .slice none 0 0] 44)
  have ga := World.grownBy_alloc w (.cells #[.int .i64 0, .int .i64 0, .int .u64 0, .int .u64 0, .int .u64 0, .int .u64 0, .slice none 0 0] 44) none
  have E1 := Lib.hid (hE.grown ga)
  have G := Lib.hid ga
  have HL := Lib.hid hE.E.lt
  clear hE ga
  go_enter Tryd.func20, Tryd.ntmps20
  go_upto_region 1 with fail
  generalize w.alloc _ = w1 at B3 G E1 ⊢
  obtain ⟨g, eg⟩ : ∃ g, g = w.heap.size := ⟨_, rfl⟩
  rw [← eg] at B3 ⊢
  have HR := Lib.hid (show w.heap.size ≤ g ∧ 18 < g by have := HL.out; omega)
  clear eg
  have HB := Lib.hid B3
  clear B3
  by_cases h60 : s.size > 60
  · have HP := Lib.hid (show parN s = (ndE, 2) by unfold parN; rw [if_pos h60])
    have h60' : decide ((s.size : Int) > 60) = true := by simp; omega
    obtain ⟨r0, r1, r2, r3, r4, r5, r6⟩ := seven_cells HB.out
    have fr := four_free HB.out
    have e2 : w1.cell? ⟨2, 0, none⟩ = some (.iface 133 (.pointer (some (A 2)))) := E1.out.S (2, _) (by simp [L3])
    have hg0 := err_apart e2 r0
    have hg1 := Ne.symm hg0
    go_wp2
    go_region
    go_wp2
    refine bodyPost_ret (v := .tuple #[ndV ndE (.slice none 0 0), .iface 133 (.pointer (some (A 2)))]) (back_nd2d 44 Tryd.underlying44 sizeNd28 Tryd.results20 rfl rfl (zero_seven HB.out)) rfl ?_
    exact ⟨⟨none, 0, 0, by rw [HP.out, errV_ne (by decide)], by rw [HP.out]; exact .empty none 0⟩, grown_drew (grown7 G.out HR.out.1)⟩
  · have h60' : decide ((s.size : Int) > 60) = false := by simp; omega
    have ga := World.grownBy_alloc w1 (.cells #[.string s, .int .i64 0] 77) none
    have R2 := Lib.hid (rd_new w1 s (by omega))
    have hgl := (Array.getElem?_eq_some_iff.1 HB.out).1
    have B2 := Lib.hid (heap_grown ga HB.out)
    have E2 := Lib.hid (E1.out.grown ga)
    have G2 := Lib.hid (G.out.trans ga)
    obtain ⟨r, er⟩ : ∃ r, r = w1.heap.size := ⟨_, rfl⟩
    have HRR := Lib.hid (show w.heap.size ≤ r ∧ r ≠ 18 ∧ g ≠ r by have := HR.out; have := G.out.size; omega)
    have H60 := Lib.hid h60
    clear ga hgl HB E1 h60 G
    rw [← er] at R2
    have HE := Lib.hid (fun w hE hR => cExprP r s HRR.out.2.1 (s.size + 1) 0 0 w (by omega) hE hR)
    go_upto_region 4 with fail
    rw [← er]
    clear er
    generalize w1.alloc _ = w2 at R2 B2 E2 G2 ⊢
    go_wp2_with fail
    refine (HE.out _ E2.out.E R2.out).mono ?_
    rintro e w3 ⟨g3, ⟨n, a, m, k, rfl, hp⟩ | ⟨n, a, m, k, j, c2, rfl, hk, r3, hp⟩⟩
    · have ga := World.grownBy_alloc w3 (.cells #[.int .i64 n.kind, .int .i64 n.index, .int .u64 (wd n.set 0), .int .u64 (wd n.set 1), .int .u64 (wd n.set 2), .int .u64 (wd n.set 3), .slice a m k] 44) none
      have B5 := Lib.hid (heap_grown ga (heap_row g3 HRR.out.2.2 B2.out))
      have G5 := Lib.hid ((grown_none G2.out g3 HRR.out.1).trans ga)
      have hne : ∀ q ∈ L3, some q.2 ≠ some r := fun q hq => by
        have := cell_block (E2.out.S q hq)
        have h1 := E2.out.S q hq
        intro e
        simp only [Option.some.injEq] at e
        rw [e, (two_cells R2.out.B).1] at h1
        cases h1
      have S5 := Lib.hid (((E2.out.S.kept g3 hne)).grown ga)
      have HP2 := Lib.hid (show parN s = (ndE, 6) from par_none H60.out (whole_bad hp))
      clear ga g3 hp hne
      obtain ⟨r0, r1, r2, r3, r4, r5, r6⟩ := seven_cells B5.out
      have fr := four_free B5.out
      have e2 := S5.out (6, _) (by simp [L3] : (6, 3) ∈ L3)
      simp only at e2
      have hg0 := err_apart e2 r0
      have hg1 := Ne.symm hg0
      go_wp2
      go_region
      go_wp2
      refine bodyPost_ret (v := .tuple #[ndV ndE (.slice none 0 0), .iface 133 (.pointer (some (A 6)))]) (back_nd2d 44 Tryd.underlying44 sizeNd28 Tryd.results20 rfl rfl (zero_seven B5.out)) rfl ?_
      exact ⟨⟨none, 0, 0, by rw [HP2.out, errV_ne (by decide)], by rw [HP2.out]; exact .empty none 0⟩, grown_drew (grown7 G5.out HR.out.1)⟩
    · have ga := World.grownBy_alloc w3 (.cells #[.int .i64 n.kind, .int .i64 n.index, .int .u64 (wd n.set 0), .int .u64 (wd n.set 1), .int .u64 (wd n.set 2), .int .u64 (wd n.set 3), .slice a m k] 44) none
      have B5 := Lib.hid (heap_grown ga (heap_row g3 HRR.out.2.2 B2.out))
      have G5 := Lib.hid ((grown_none G2.out g3 HRR.out.1).trans ga)
      have hne : ∀ q ∈ L3, some q.2 ≠ some r := fun q hq => by
        have h1 := E2.out.S q hq
        intro e
        simp only [Option.some.injEq] at e
        rw [e, (two_cells R2.out.B).1] at h1
        cases h1
      have S5 := Lib.hid (((E2.out.S.kept g3 hne)).grown ga)
      have R5 := Lib.hid (r3.kept ga)
      have N5 := Lib.hid (heap_alloc_new w3 (.cells #[.int .i64 n.kind, .int .i64 n.index, .int .u64 (wd n.set 0), .int .u64 (wd n.set 1), .int .u64 (wd n.set 2), .int .u64 (wd n.set 3), .slice a m k] 44))
      have K5 := Lib.hid ((hk.weak (q := fun b => b ≠ g) fun b _ hb => by
        have := (Array.getElem?_eq_some_iff.1 B2.out).1; omega).grown ga)
      have HW := Lib.hid hp
      clear ga g3 hp hne hk r3
      obtain ⟨q0, q1⟩ := two_cells R5.out.B
      by_cases hj : j < s.size
      · have HP2 := Lib.hid (show parN s = (ndE, 6) from par_none H60.out (whole_rest HW.out hj))
        have hE1 := rest_ne s hj
        clear hj
        generalize s.extract j s.size = t at q0 hE1
        obtain ⟨r0, r1, r2, r3, r4, r5, r6⟩ := seven_cells B5.out
        have fr := four_free B5.out
        have e2 := S5.out (6, _) (by simp [L3] : (6, 3) ∈ L3)
        simp only at e2
        have hg0 := err_apart e2 r0
        have hg1 := Ne.symm hg0
        go_wp2
        go_region
        go_wp2
        refine bodyPost_ret (v := .tuple #[ndV ndE (.slice none 0 0), .iface 133 (.pointer (some (A 6)))]) (back_nd2d 44 Tryd.underlying44 sizeNd28 Tryd.results20 rfl rfl (zero_seven B5.out)) rfl ?_
        exact ⟨⟨none, 0, 0, by rw [HP2.out, errV_ne (by decide)], by rw [HP2.out]; exact .empty none 0⟩, grown_drew (grown7 G5.out HR.out.1)⟩
      · have hfin := whole_all HW.out hj
        have HP3 := Lib.hid hfin
        have hsz := fin_siz hfin
        have HSZ := Lib.hid (show sizN n ≤ 200 by have := H60.out; omega)
        have hE1 := rest_no s hj
        have CG := Lib.hid (fun w h => cGroups n a m k w HSZ.out h)
        have HGS := Lib.hid (show grpN n ≤ 200 from Nat.le_trans (cnt_le_siz _ _ n (Nat.le_refl _)) HSZ.out)
        clear hj hfin hsz
        generalize s.extract j s.size = t at q0 hE1
        obtain ⟨n0, n1, n2, n3, n4, n5, n6⟩ := seven_cells N5.out
        obtain ⟨x, hx⟩ : ∃ x, x = grpN n := ⟨_, rfl⟩
        rw [← hx] at CG HGS
        have HX := Lib.hid hx
        clear hx
        by_cases h9 : x > 9
        · have h9' : decide ((x : Int) > 9) = true := by simp; omega
          have HP4 := Lib.hid (show parN s = (ndE, 10) from par_full H60.out HP3.out (by rw [← HX.out]; exact h9))
          clear h9 HP3
          go_upto_region 8 with (go_at_call 39; refine (CG.out _ K5.out.any).mono ?_; rintro e w6 ⟨rfl, g6⟩; have B6 := Lib.hid (heap_grown g6 B5.out); have G6 := Lib.hid (G5.out.trans g6); have S6 := Lib.hid (S5.out.grown g6); clear g6)
          clear q0 q1 n0 n1 n2 n3 n4 n5 n6
          obtain ⟨r0, r1, r2, r3, r4, r5, r6⟩ := seven_cells B6.out
          have fr := four_free B6.out
          have e2 := S6.out (10, _) (by simp [L3] : (10, 1) ∈ L3)
          simp only at e2
          have hg0 := err_apart e2 r0
          have hg1 := Ne.symm hg0
          go_region
          go_wp2
          refine bodyPost_ret (v := .tuple #[ndV ndE (.slice none 0 0), .iface 133 (.pointer (some (A 10)))]) (back_nd2d 44 Tryd.underlying44 sizeNd28 Tryd.results20 rfl rfl (zero_seven B6.out)) rfl ?_
          exact ⟨⟨none, 0, 0, by rw [HP4.out, errV_ne (by decide)], by rw [HP4.out]; exact .empty none 0⟩, grown_drew (grown7 G6.out HR.out.1)⟩
        · have h9' : decide ((x : Int) > 9) = false := by simp; omega
          have HP4 := Lib.hid (show parN s = (n, 0) from par_ok H60.out HP3.out (by rw [← HX.out]; exact h9))
          clear h9 HP3
          go_upto_region 9 with (go_at_call 39; refine (CG.out _ K5.out.any).mono ?_; rintro e w6 ⟨rfl, g6⟩; have B6 := Lib.hid (heap_grown g6 B5.out); have G6 := Lib.hid (G5.out.trans g6); have N6 := Lib.hid (heap_grown g6 N5.out); have K6 := Lib.hid (K5.out.grown g6); clear g6)
          clear q0 q1 n0 n1 n2 n3 n4 n5 n6
          obtain ⟨n0, n1, n2, n3, n4, n5, n6⟩ := seven_cells N6.out
          obtain ⟨r0, r1, r2, r3, r4, r5, r6⟩ := seven_cells B6.out
          have fr := four_free B6.out
          go_wp2
          refine bodyPost_ret (v := .tuple #[ndV n (.slice a m k), .nilIface]) (back_nd2 44 Tryd.underlying44 sizeNd28 Tryd.results20 rfl rfl (set_seven B6.out _ _ _ _ _ _ _)) rfl ?_
          exact ⟨⟨a, m, k, by rw [HP4.out, errV_zero], by rw [HP4.out]; exact (K6.out.seven _ _ _ _ _ _ _ fun b hb => hb).any⟩, grown7 G6.out HR.out.1⟩
end Go.Proofs.YtliefnjhobdphaaDoor
