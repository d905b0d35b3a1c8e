/- Parts of rows of signs; what the document's branches and expressions answer. -/
import Derived.Test.YtliefnjhobdphaaDoorRexW
import Derived.Test.YtliefnjhobdphaaDoorRexQ
import Derived.IntWalk
namespace Go.Proofs.YtliefnjhobdphaaDoor
open Go.RowKit

def subA (a : Option Addr) (c lo : Nat) : Option Addr := if c = lo then a else a.map (·.add (lo * 5))
theorem sizeSg (w : World) : (sizeOf (Tryd.prog.elem 56)).run Tryd.prog w = .ok 5 w := by kernel_rfl
theorem elemSg : Tryd.prog.underlying 56 = some (.slice (Tryd.prog.elem 56)) := by kernel_rfl
theorem run_sub (a : Option Addr) (n c lo hi : Nat) (h1 : lo ≤ hi) (h2 : hi ≤ c) (w : World) : (Instr.slice 56 (.slice a n c) (some (.int .i64 lo)) (some (.int .i64 hi)) none).run Tryd.prog w = .ok (.slice (subA a c lo) (hi - lo) (c - lo)) w := by
  rw [run_slice_lh w 56 a n c elemSg .i64 .i64 lo hi (by omega) (by omega) (by omega), sizeSg]
  simp [Result.andThen, sliced, subA]
theorem run_subh (a : Option Addr) (n c hi : Nat) (h2 : hi ≤ c) (w : World) : (Instr.slice 56 (.slice a n c) none (some (.int .i64 hi)) none).run Tryd.prog w = .ok (.slice (subA a c 0) hi c) w := by
  rw [run_slice_h w 56 a n c elemSg .i64 hi (by omega) (by omega), sizeSg]
  simp [Result.andThen, sliced, subA]
theorem SgR.sub {w : World} {a : Option Addr} {n c lo hi : Nat} {l : List Sg} (h : SgR w (.slice a n c) l) (h1 : lo ≤ hi) (h2 : hi ≤ l.length) : SgR w (.slice (subA a c lo) (hi - lo) (c - lo)) (seg l lo hi) := by
  obtain ⟨⟨a', c', e, ⟨hn, hm⟩, hr⟩, hc⟩ := h
  cases e
  have hcap := hc _ _ _ rfl
  have hlen := seg_len l (a := lo) h2
  refine ⟨⟨_, _, by rw [hlen], ⟨by omega, fun x hx => hm x (List.mem_of_mem_drop (List.mem_of_mem_take hx))⟩, fun hne => ?_⟩, fun a2 n2 c2 e => by cases e; omega⟩
  have hlt : lo < hi := by
    rcases Nat.lt_or_ge lo hi with h | h
    · exact h
    · exact absurd (List.eq_nil_of_length_eq_zero (by omega)) hne
  obtain ⟨b, off, rfl, hb, hcell⟩ := hr (by rintro rfl; simp at h2; omega)
  refine ⟨b, off + lo * 5, ?_, hb, fun k x hx => ?_⟩
  · unfold subA
    rw [if_neg (by omega)]
    simp [Addr.add]
  · obtain ⟨hx1, -⟩ := seg_get l hx
    have := hcell (lo + k) x hx1
    rw [show off + (lo + k) * 5 = off + lo * 5 + k * 5 by omega] at this
    exact this
theorem SgR.subh {w : World} {a : Option Addr} {n c hi : Nat} {l : List Sg} (h : SgR w (.slice a n c) l) (h2 : hi ≤ l.length) : SgR w (.slice (subA a c 0) hi c) (l.take hi) := by
  have := h.sub (Nat.zero_le hi) h2
  simpa [seg] using this
/-- what the document's branches and expressions answer -/
def DocOut (w : World) (o : Option Nd) (e : Ending) (w' : World) : Prop :=
  w.grownBy w' none ∧ match o with
  | some n => ∃ a m k, e = .returned (.tuple #[ndV n (.slice a m k), .bool true]) ∧ KidsAt w' (fun b => w.heap.size ≤ b) (.slice a m k) n.kids
  | none => e = .returned (.tuple #[ndV ndE (.slice none 0 0), .bool false])
theorem dep_hi (l : List Sg) : dep l ≤ l.length := by
  have := opn_le l; unfold dep; omega
theorem dep_lo (l : List Sg) : -(l.length : Int) ≤ dep l := by
  have : clsC l ≤ l.length := List.countP_le_length
  unfold dep; omega

theorem heap_new_drew (w : World) (o : Obj) : (w.alloc o).drew.heap[w.heap.size]? = some o := heap_alloc_new w o
/-- what an expression's loop knows -/
structure EW (w0 : World) (l : List Sg) (c g a i : Nat) (K : List (Nd × Value)) (v : Value) (wr : World) : Prop where
  G : w0.grownBy wr none
  N : wr.heap[g]? = some (.cells #[.int .i64 0, .int .i64 0, .int .u64 0, .int .u64 0, .int .u64 0, .int .u64 0, .slice none 0 0] 32 (0, 0))
  W : NRow (g + 1) (fun b => w0.heap.size ≤ b ∧ b ≠ g) 32 K v wr
  n : K.length ≤ i
theorem EW.kept {w0 : World} {l : List Sg} {c g a i : Nat} {K : List (Nd × Value)} {v : Value} {wr w' : World} (h : EW w0 l c g a i K v wr) (gr : wr.grownBy w' none) (hg : w0.heap.size ≤ g) : EW w0 l c g a i K v w' :=
  ⟨h.G.trans gr, heap_grown gr h.N, h.W.kept gr (by simp) (fun b hb => by omega), h.n⟩

theorem SgR.at {w : World} {a : Option Addr} {n c k : Nat} {x : Sg} {l : List Sg} (h : SgR w (.slice a n c) l) (hx : l[k]? = some x) : ∃ b off, a = some ⟨b, off, none⟩ ∧ w.cell? ⟨b, off + k * 5, none⟩ = some (.int .u8 x.m) ∧ w.cell? ⟨b, off + k * 5 + 1, none⟩ = some (.int .u64 (wd x.s 0)) ∧ w.cell? ⟨b, off + k * 5 + 2, none⟩ = some (.int .u64 (wd x.s 1)) ∧ w.cell? ⟨b, off + k * 5 + 3, none⟩ = some (.int .u64 (wd x.s 2)) ∧ w.cell? ⟨b, off + k * 5 + 4, none⟩ = some (.int .u64 (wd x.s 3)) := by
  obtain ⟨⟨a', c', e, -, hr⟩, -⟩ := h
  cases e
  obtain ⟨b, off, rfl, -, hc⟩ := hr (by rintro rfl; simp at hx)
  exact ⟨b, off, rfl, hc k x hx⟩
theorem EI.low {l : List Sg} {c a i : Nat} {K : List Nd} (h : EI l c a i K) : 0 ≤ dep (l.take i) := h.p i h.h (Nat.le_refl _)

set_option maxRecDepth 100000 in
set_option maxHeartbeats 4000000 in
theorem cExprD (v : Value) (l : List Sg) (c : Nat) (w : World) (h : SgR w v l) (hl : l.length ≤ 60) (hc : c + opnC l ≤ 200)
    (hB : ∀ v m c w, SgR w v m → m.length ≤ l.length → c + opnC m ≤ 200 → Calls Tryd.prog 43 #[v, .int .i64 c] w (DocOut w (resB m c))) :
    Calls Tryd.prog 22 #[v, .int .i64 c] w (DocOut w (resE l c)) := by
  have B3 := heap_alloc_new w (.cells #[.int .i64 0, .int .i64 0, .int .u64 0, .int .u64 0, .int .u64 0, .int .u64 0, .slice none 0 0] 32)
  have ga := World.grownBy_alloc w (.cells #[.int .i64 0, .int .i64 0, .int .u64 0, .int .u64 0, .int .u64 0, .int .u64 0, .slice none 0 0] 32) none
  have H := Lib.hid h
  obtain ⟨⟨sa, sc, rfl, ⟨-, hm⟩, -⟩, hcap⟩ := h
  have HM := Lib.hid hm
  have HCAP := Lib.hid (hcap _ _ _ rfl)
  have HB := Lib.hid hB
  have HC := Lib.hid hc; have HL := Lib.hid hl
  have B3 := Lib.hid B3; have G := Lib.hid ga
  clear hcap hB hc hm ga
  go_enter Tryd.func22, Tryd.ntmps22
  go_upto_region 1 with fail
  generalize w.alloc _ = w1 at B3 G ⊢
  obtain ⟨g, eg⟩ : ∃ g, g = w.heap.size := ⟨_, rfl⟩
  rw [← eg] at B3 ⊢
  have HR := Lib.hid (show w.heap.size ≤ g by omega)
  clear eg
  have gk := World.grownBy_alloc w1 (.cells #[] 32) none
  have hgl := (Array.getElem?_eq_some_iff.1 B3.out).1
  have W0 := Lib.hid (show EW w l c g 0 0 [] (.slice (some ⟨w1.heap.size, 0, none⟩) 0 0) (w1.alloc (.cells #[] 32)) from
    ⟨G.out.trans gk, heap_grown gk B3.out, ⟨by simpa [flat7] using World.ownsRow_made (base := g + 1) (e := 32) (size := 7) w1 #[] 0 (by omega) (by decide) rfl, by simp⟩, Nat.le_refl _⟩)
  have I0 := Lib.hid (EI.start l c)
  clear gk hgl G B3
  go_wp2
  generalize w1.alloc _ = w2 at W0 ⊢
  go_loopw [6, 7, 8, 9, 10, 11] (fun kids from_ deep i _ _ wr => ∃ (K : List (Nd × Value)) (a j : Nat), from_ = .int .i64 a ∧ i = .int .i64 j ∧ Hid (EW w l c g a j K kids wr) ∧
    ((j ≤ l.length ∧ deep = .int .i64 (dep (l.take j)) ∧ Hid (EI l c a j (K.map Prod.fst))) ∨ (j = l.length + 1 ∧ Hid (resE l c = some (altN (K.map Prod.fst)))))) (fun _ _ _ i _ _ _ => l.length + 1 - (intOf i).toNat)
  case atStart => exact ⟨[], 0, 0, rfl, rfl, W0, .inl ⟨Nat.zero_le _, by simp [dep_nil], I0⟩⟩
  case round =>
    obtain ⟨K, a, i, rfl, rfl, hW, hrel⟩ := hrel
    clear W0 I0
    have hKn := hW.out.n
    rcases hrel with ⟨hi, rfl, hI⟩ | ⟨rfl, hD⟩
    · have hd0 := hI.out.low
      have hd1 : dep (l.take i) ≤ 60 := by have := dep_hi (l.take i); have : (l.take i).length ≤ i := List.length_take_le _ _; omega
      have HA := Lib.hid hI.out.h
      by_cases hlt : i < l.length
      · obtain ⟨x, hx⟩ : ∃ x, l[i]? = some x := ⟨_, List.getElem?_eq_getElem hlt⟩
        obtain ⟨b, off, rfl, c0, -⟩ := (H.out.grown hW.out.G).at hx
        have hdn := dep_next hx
        have HX := Lib.hid hx
        by_cases h40 : x.m = 40
        · have e40 : ((x.m : Int) == 40) = true := by rw [h40]; rfl
          have e41 : ((x.m : Int) == 41) = false := by rw [h40]; rfl
          rw [h40] at hdn
          simp only [if_true] at hdn
          have hdn : dep (l.take (i + 1)) = dep (l.take i) + 1 := by rw [hdn]; simp
          have HN := Lib.hid hdn
          have HI := Lib.hid (hI.out.on hx (by omega) (by omega))
          have HE := Lib.hid (show EW w l c g a (i + 1) K _ wr from ⟨hW.out.G, hW.out.N, hW.out.W, by omega⟩)
          have e0 : (dep (l.take i) + 1 == 0) = false := by simp; omega
          clear hx hdn h40 hKn
          generalize dep (l.take i) = d at *
          go_wp2
          go_roundw
          case rel => exact ⟨K, a, i + 1, rfl, by go_num, HE, .inl ⟨by omega, by rw [HN.out], HI⟩⟩
          case measure => simp [intOf]; omega
        by_cases h41 : x.m = 41
        · have e40 : ((x.m : Int) == 40) = false := by rw [h41]; rfl
          have e41 : ((x.m : Int) == 41) = true := by rw [h41]; rfl
          have e124 : ((x.m : Int) == 124) = false := by rw [h41]; rfl
          have hdn : dep (l.take (i + 1)) = dep (l.take i) - 1 := by rw [hdn, if_neg h40, if_pos h41]; omega
          by_cases hz : dep (l.take i) = 0
          · have HF := Lib.hid (E_neg (c := c) (i := i + 1) (l := l) (by omega) (by omega))
            have N1 := Lib.hid hW.out.N
            have G1 := Lib.hid hW.out.G
            rw [hz]
            clear hx hdn h40 h41 hKn hd0 hd1 hz
            obtain ⟨r0, r1, r2, r3, r4, r5, r6⟩ := seven_cells N1.out
            have fr := four_free N1.out
            go_wp2
            refine bodyPost_ret (v := .tuple #[ndV ndE (.slice none 0 0), .bool false]) (back_nd2 32 Tryd.underlying32 sizeNd Tryd.results22 rfl rfl (zero_seven N1.out)) rfl ?_
            exact ⟨grown7 G1.out HR.out, by rw [HF.out]⟩
          · have HN := Lib.hid hdn
            have HI := Lib.hid (hI.out.on hx (by omega) (by omega))
            have HE := Lib.hid (show EW w l c g a (i + 1) K _ wr from ⟨hW.out.G, hW.out.N, hW.out.W, by omega⟩)
            clear hx hdn h40 h41 hKn
            generalize dep (l.take i) = d at *
            by_cases hz1 : d - 1 = 0
            · obtain rfl : d = 1 := by omega
              go_wp2
              go_roundw
              case rel => exact ⟨K, a, i + 1, rfl, by go_num, HE, .inl ⟨by omega, by rw [HN.out]; rfl, HI⟩⟩
              case measure => simp [intOf]; omega
            · have e0 : (d - 1 == 0) = false := by simpa using hz1
              go_wp2
              go_roundw
              case rel => exact ⟨K, a, i + 1, rfl, by go_num, HE, .inl ⟨by omega, by rw [HN.out], HI⟩⟩
              case measure => simp [intOf]; omega
        have e40 : ((x.m : Int) == 40) = false := by simp; omega
        have e41 : ((x.m : Int) == 41) = false := by simp; omega
        have hdn : dep (l.take (i + 1)) = dep (l.take i) := by rw [hdn, if_neg h40, if_neg h41]; omega
        by_cases hbar : x.m = 124 ∧ dep (l.take i) = 0
        · have HN := Lib.hid (show dep (l.take (i + 1)) = 0 by rw [hdn]; exact hbar.2)
          have e124 : ((x.m : Int) == 124) = true := by rw [hbar.1]; rfl
          rw [hbar.2]
          obtain ⟨u, hu⟩ : ∃ u, u = opnC (l.take a) := ⟨_, rfl⟩
          have hu200 : c + u ≤ 200 := by have := opn_append (l.take a) (l.drop a); rw [List.take_append_drop] at this; have := HC.out; omega
          have CO := Lib.hid (show ∀ W, wr.grownBy W none → Calls Tryd.prog 23 #[.slice (subA (some ⟨b, off, none⟩) sc 0) a sc] W fun e w' => e = .returned (.int .i64 u) ∧ W.grownBy w' none from fun W gW => by
            rw [hu]; exact cOpened _ _ W (((H.out.grown hW.out.G).grown gW).subh (by have := HA.out; omega)).1)
          have CB := Lib.hid (show ∀ W, wr.grownBy W none → Calls Tryd.prog 43 #[.slice (subA (some ⟨b, off, none⟩) sc a) (i - a) (sc - a), .int .i64 ((c : Int) + u)] W (DocOut W (resB (seg l a i) (c + opnC (l.take a)))) from fun W gW => by
            rw [← hu]
            refine HB.out _ (seg l a i) (c + u) W (((H.out.grown hW.out.G).grown gW).sub HA.out (by omega)) (by rw [seg_len l (by omega)]; omega) ?_
            have h1 := opn_append (l.take i) (l.drop i); rw [List.take_append_drop] at h1
            have h2 := opn_seg l HA.out
            have := HC.out; omega)
          have hs1 : ∀ w, (Instr.slice 56 (.slice (some ⟨b, off, none⟩) l.length sc) (some (.int .i64 a)) (some (.int .i64 i)) none).run Tryd.prog w = .ok (.slice (subA (some ⟨b, off, none⟩) sc a) (i - a) (sc - a)) w := run_sub _ _ _ _ _ HA.out (by have := HCAP.out; omega)
          have hs2 : ∀ w, (Instr.slice 56 (.slice (some ⟨b, off, none⟩) l.length sc) none (some (.int .i64 a)) none).run Tryd.prog w = .ok (.slice (subA (some ⟨b, off, none⟩) sc 0) a sc) w := run_subh _ _ _ _ (by have := HA.out; have := HCAP.out; omega)
          have hwr : IntKind.i64.wrap ((c : Int) + u) = (c : Int) + u := IntWalk.i64_in _ ⟨by omega, by omega⟩
          clear hu
          cases hres : resB (seg l a i) (c + opnC (l.take a)) with
          | none =>
            have HF := Lib.hid (hI.out.no hres hbar.2)
            rw [hres] at CB
            clear hres hx hdn h40 h41 hKn hd0 hd1
            go_upto_region 13 with fail
            go_region_with (first
              | (go_at_call 23; (with_reducible refine (CO.out _ ?_).mono ?_); (first | exact grown_drew (World.grownBy.refl _ _) | exact grown_drew (World.grownBy_alloc _ _ _)); rintro e w3 ⟨rfl, g3⟩; (try have BX := Lib.hid (heap_grown g3 (heap_new_drew _ _))))
              | (go_at_call 43; (with_reducible refine (CB.out _ ?_).mono ?_); (first | exact (grown_drew (World.grownBy.refl _ _)).trans g3 | exact (grown_drew (World.grownBy_alloc _ _ _)).trans g3 | exact ((grown_drew (World.grownBy.refl _ _)).trans g3).trans (World.grownBy_alloc _ _ _)); rintro e w4 ⟨g4, rfl⟩; (first | (have B4 := Lib.hid (heap_grown g4 BX.out); obtain ⟨x0, x1, x2, x3, x4, x5, x6⟩ := seven_cells B4.out; have fx := four_free B4.out) | (have B4 := Lib.hid (heap_grown g4 (heap_alloc_new w3 _)); obtain ⟨x0, x1, x2, x3, x4, x5, x6⟩ := seven_cells B4.out; have fx := four_free B4.out) | skip)))
            all_goals first
              | (have GW := Lib.hid (grown7 (v0 := .int .i64 ndE.kind) (v1 := .int .i64 ndE.index) (v2 := .int .u64 (wd ndE.set 0)) (v3 := .int .u64 (wd ndE.set 1)) (v4 := .int .u64 (wd ndE.set 2)) (v5 := .int .u64 (wd ndE.set 3)) (v6 := (.slice none 0 0)) (((grown_drew (World.grownBy_alloc wr _ none)).trans g3).trans g4) (Nat.le_refl wr.heap.size))
                 have XB := Lib.hid (set_seven B4.out (.int .i64 ndE.kind) (.int .i64 ndE.index) (.int .u64 (wd ndE.set 0)) (.int .u64 (wd ndE.set 1)) (.int .u64 (wd ndE.set 2)) (.int .u64 (wd ndE.set 3)) (.slice none 0 0))
                 clear x0 x1 x2 x3 x4 x5 x6 fx B4 BX g3 g4
                 generalize wr.heap.size = x at GW XB ⊢
                 generalize World.setCell _ _ _ = w5 at GW XB ⊢)
              | (have GW := Lib.hid (grown7 (v0 := .int .i64 ndE.kind) (v1 := .int .i64 ndE.index) (v2 := .int .u64 (wd ndE.set 0)) (v3 := .int .u64 (wd ndE.set 1)) (v4 := .int .u64 (wd ndE.set 2)) (v5 := .int .u64 (wd ndE.set 3)) (v6 := (.slice none 0 0)) ((((grown_drew (World.grownBy.refl wr none)).trans g3).trans (World.grownBy_alloc w3 _ none)).trans g4) (show wr.heap.size ≤ w3.heap.size from g3.size))
                 have XB := Lib.hid (set_seven B4.out (.int .i64 ndE.kind) (.int .i64 ndE.index) (.int .u64 (wd ndE.set 0)) (.int .u64 (wd ndE.set 1)) (.int .u64 (wd ndE.set 2)) (.int .u64 (wd ndE.set 3)) (.slice none 0 0))
                 clear x0 x1 x2 x3 x4 x5 x6 fx B4 g3 g4
                 generalize w3.heap.size = x at GW XB ⊢
                 generalize World.setCell _ _ _ = w5 at GW XB ⊢)
              | (have GW := Lib.hid ((((grown_drew (World.grownBy.refl wr none)).trans g3).trans g4).trans (World.grownBy_alloc w4 (.cells #[.int .i64 ndE.kind, .int .i64 ndE.index, .int .u64 (wd ndE.set 0), .int .u64 (wd ndE.set 1), .int .u64 (wd ndE.set 2), .int .u64 (wd ndE.set 3), (.slice none 0 0)] 32) none))
                 have XB := Lib.hid (heap_alloc_new w4 (.cells #[.int .i64 ndE.kind, .int .i64 ndE.index, .int .u64 (wd ndE.set 0), .int .u64 (wd ndE.set 1), .int .u64 (wd ndE.set 2), .int .u64 (wd ndE.set 3), (.slice none 0 0)] 32))
                 clear g3 g4
                 generalize w4.heap.size = x at GW XB ⊢
                 generalize w4.alloc _ = w5 at GW XB ⊢)
            all_goals
              have N5 := Lib.hid (heap_grown GW.out hW.out.N)
              have G5 := Lib.hid (hW.out.G.trans GW.out)
              clear GW XB CO CB hs1 hs2 hwr
              obtain ⟨r0, r1, r2, r3, r4, r5, r6⟩ := seven_cells N5.out
              have fr := four_free N5.out
              go_wp2
              refine bodyPost_ret (v := .tuple #[ndV ndE (.slice none 0 0), .bool false]) (back_nd2 32 Tryd.underlying32 sizeNd Tryd.results22 rfl rfl (zero_seven N5.out)) rfl ?_
              exact ⟨grown7 G5.out HR.out, by rw [HF.out]⟩
          | some n =>
            have HF := Lib.hid (hI.out.bar hres HX.out hbar.1 hbar.2)
            rw [hres] at CB
            clear hres hx hdn h40 h41 hKn hd0 hd1
            go_upto_region 13 with fail
            go_region_with (first
              | (go_at_call 23; (with_reducible refine (CO.out _ ?_).mono ?_); (first | exact grown_drew (World.grownBy.refl _ _) | exact grown_drew (World.grownBy_alloc _ _ _)); rintro e w3 ⟨rfl, g3⟩; (try have BX := Lib.hid (heap_grown g3 (heap_new_drew _ _))))
              | (go_at_call 43; (with_reducible refine (CB.out _ ?_).mono ?_); (first | exact (grown_drew (World.grownBy.refl _ _)).trans g3 | exact (grown_drew (World.grownBy_alloc _ _ _)).trans g3 | exact ((grown_drew (World.grownBy.refl _ _)).trans g3).trans (World.grownBy_alloc _ _ _)); rintro e w4 ⟨g4, na, nm, nk, rfl, hk⟩; (first | (have B4 := Lib.hid (heap_grown g4 BX.out); obtain ⟨x0, x1, x2, x3, x4, x5, x6⟩ := seven_cells B4.out; have fx := four_free B4.out) | (have B4 := Lib.hid (heap_grown g4 (heap_alloc_new w3 _)); obtain ⟨x0, x1, x2, x3, x4, x5, x6⟩ := seven_cells B4.out; have fx := four_free B4.out) | skip)))
            all_goals first
              | (have GW := Lib.hid (grown7 (v0 := .int .i64 n.kind) (v1 := .int .i64 n.index) (v2 := .int .u64 (wd n.set 0)) (v3 := .int .u64 (wd n.set 1)) (v4 := .int .u64 (wd n.set 2)) (v5 := .int .u64 (wd n.set 3)) (v6 := (.slice na nm nk)) (((grown_drew (World.grownBy_alloc wr _ none)).trans g3).trans g4) (Nat.le_refl wr.heap.size))
                 have XB := Lib.hid (set_seven B4.out (.int .i64 n.kind) (.int .i64 n.index) (.int .u64 (wd n.set 0)) (.int .u64 (wd n.set 1)) (.int .u64 (wd n.set 2)) (.int .u64 (wd n.set 3)) (.slice na nm nk))
                 have XK := Lib.hid ((hk.weak (q := fun b => wr.heap.size ≤ b ∧ b ≠ wr.heap.size) fun b _ hb => by have := g3.size; simp at this; omega).seven (r := wr.heap.size) (.int .i64 n.kind) (.int .i64 n.index) (.int .u64 (wd n.set 0)) (.int .u64 (wd n.set 1)) (.int .u64 (wd n.set 2)) (.int .u64 (wd n.set 3)) (.slice na nm nk) fun b hb => hb.2)
                 clear x0 x1 x2 x3 x4 x5 x6 fx B4 BX g3 g4
                 obtain ⟨x, ex⟩ : ∃ x, x = wr.heap.size := ⟨_, rfl⟩
                 rw [← ex] at GW XB XK ⊢
                 have HXW := Lib.hid (show wr.heap.size ≤ x by omega)
                 clear ex
                 generalize World.setCell _ _ _ = w5 at GW XB XK ⊢)
              | (have GW := Lib.hid (grown7 (v0 := .int .i64 n.kind) (v1 := .int .i64 n.index) (v2 := .int .u64 (wd n.set 0)) (v3 := .int .u64 (wd n.set 1)) (v4 := .int .u64 (wd n.set 2)) (v5 := .int .u64 (wd n.set 3)) (v6 := (.slice na nm nk)) ((((grown_drew (World.grownBy.refl wr none)).trans g3).trans (World.grownBy_alloc w3 _ none)).trans g4) (show wr.heap.size ≤ w3.heap.size from g3.size))
                 have XB := Lib.hid (set_seven B4.out (.int .i64 n.kind) (.int .i64 n.index) (.int .u64 (wd n.set 0)) (.int .u64 (wd n.set 1)) (.int .u64 (wd n.set 2)) (.int .u64 (wd n.set 3)) (.slice na nm nk))
                 have XK := Lib.hid ((hk.weak (q := fun b => wr.heap.size ≤ b ∧ b ≠ w3.heap.size) fun b _ hb => by have := g3.size; simp at this hb; omega).seven (r := w3.heap.size) (.int .i64 n.kind) (.int .i64 n.index) (.int .u64 (wd n.set 0)) (.int .u64 (wd n.set 1)) (.int .u64 (wd n.set 2)) (.int .u64 (wd n.set 3)) (.slice na nm nk) fun b hb => hb.2)
                 clear x0 x1 x2 x3 x4 x5 x6 fx B4 g3 g4
                 generalize w3.heap.size = x at GW XB XK ⊢
                 generalize World.setCell _ _ _ = w5 at GW XB XK ⊢)
              | (have GW := Lib.hid ((((grown_drew (World.grownBy.refl wr none)).trans g3).trans g4).trans (World.grownBy_alloc w4 (.cells #[.int .i64 n.kind, .int .i64 n.index, .int .u64 (wd n.set 0), .int .u64 (wd n.set 1), .int .u64 (wd n.set 2), .int .u64 (wd n.set 3), (.slice na nm nk)] 32) none))
                 have XB := Lib.hid (heap_alloc_new w4 (.cells #[.int .i64 n.kind, .int .i64 n.index, .int .u64 (wd n.set 0), .int .u64 (wd n.set 1), .int .u64 (wd n.set 2), .int .u64 (wd n.set 3), (.slice na nm nk)] 32))
                 have XK := Lib.hid ((hk.weak (q := fun b => wr.heap.size ≤ b ∧ b ≠ w4.heap.size) fun b hb1 hb => by have := g3.size; simp at this; omega).grown (World.grownBy_alloc w4 (.cells #[.int .i64 n.kind, .int .i64 n.index, .int .u64 (wd n.set 0), .int .u64 (wd n.set 1), .int .u64 (wd n.set 2), .int .u64 (wd n.set 3), (.slice na nm nk)] 32) none))
                 clear g3 g4
                 generalize w4.heap.size = x at GW XB XK ⊢
                 generalize w4.alloc _ = w5 at GW XB XK ⊢)
            all_goals
              have W5 := Lib.hid (hW.out.kept GW.out HR.out)
              have hgw := (Array.getElem?_eq_some_iff.1 hW.out.N).1
              have gb := World.grownBy_alloc w5 (.cells #[.int .i64 n.kind, .int .i64 n.index, .int .u64 (wd n.set 0), .int .u64 (wd n.set 1), .int .u64 (wd n.set 2), .int .u64 (wd n.set 3), .slice na nm nk] 32) none
              have W6 := Lib.hid (W5.out.kept gb HR.out)
              obtain ⟨va, vc, rfl⟩ := nilOr hW.out.W.O
              have K6 := Lib.hid ((XK.out.weak (q := fun b => (w.heap.size ≤ b ∧ b ≠ g) ∧ some b ≠ (Value.slice va K.length vc).ownBlock) fun b _ hb => by
                obtain ⟨hb1, -⟩ := hb
                have h3 := hW.out.G.size
                try have hxw := HXW.out
                refine ⟨by omega, ?_⟩
                intro e
                have := (hW.out.W.O.lt b e.symm).2
                omega).grown gb)
              have HSZ := Lib.hid (show g + 1 ≤ (w5.alloc (.cells #[.int .i64 n.kind, .int .i64 n.index, .int .u64 (wd n.set 0), .int .u64 (wd n.set 1), .int .u64 (wd n.set 2), .int .u64 (wd n.set 3), .slice na nm nk] 32)).heap.size from (Array.getElem?_eq_some_iff.1 W6.out.N).1)
              obtain ⟨n0, n1, n2, n3, n4, n5, n6⟩ := seven_cells XB.out
              obtain ⟨iu, hiu, hu0, hu1, hu2⟩ := info_parts infoNd
              have IU := Lib.hid hiu; have ZU0 := Lib.hid hu0; have ZU1 := Lib.hid hu1; have ZU2 := Lib.hid hu2
              have hK61 : K.length ≤ 60 := by have := hW.out.n; omega
              clear hiu hu0 hu1 hu2 gb hgw CO CB hs1 hs2 hwr
              go_wp2_with (at_builtin; refine wpList_append_lies _ rfl _ _ 30 rfl (g + 1) 32 iu _ 7 72 Tryd.underlying30 IU.out ZU0.out ZU1.out ZU2.out rfl (by decide) _ _ _ rfl W6.out.W.O ⟨_, 0, none⟩ 1 1 (cells7 n (.slice na nm nk)) rfl rfl (new_seven _ _ _ _ _ (by simp)) (seven_one _ _ _ _) (by decide) (by unfold maxLen; omega) (by omega) HSZ.out _ rfl ?_; intro gg cap w7 hown2 hgrow2 hat hlt2)
              have hne : ∀ b, b ≤ g → some b ≠ (Value.slice va K.length vc).ownBlock := fun b hb e => by have := (W6.out.W.O.lt b e.symm).1; omega
              have HE := Lib.hid (show EW w l c g (i + 1) (i + 1) (K ++ [(n, .slice na nm nk)]) (.slice (some ⟨gg, 0, none⟩) (K.length + 1) cap) w7 from
                ⟨W6.out.G.andThen hgrow2 (fun b e => .inl (by have := (W6.out.W.O.lt b e).1; have := HR.out; omega)),
                 (hgrow2.block g (Array.getElem?_eq_some_iff.1 W6.out.N).1 (hne g (Nat.le_refl _))).trans W6.out.N,
                 W6.out.W.step K6.out hown2 hgrow2 hat, by have := hW.out.n; simp; omega⟩)
              clear hown2 hgrow2 hat hlt2 hne W5 W6 K6 XB XK GW n0 n1 n2 n3 n4 n5 n6
              go_roundw
              case rel => exact ⟨_, i + 1, i + 1, by go_num, by go_num, HE, .inl ⟨by omega, by rw [HN.out], by rw [List.map_append]; exact HF⟩⟩
              case measure => simp [intOf]; omega
        · have HN := Lib.hid hdn
          have HI := Lib.hid (hI.out.on hx (by omega) (fun e hz => hbar ⟨e, hz⟩))
          have HE := Lib.hid (show EW w l c g a (i + 1) K _ wr from ⟨hW.out.G, hW.out.N, hW.out.W, by omega⟩)
          by_cases hz : dep (l.take i) = 0
          · have e124 : ((x.m : Int) == 124) = false := by have : x.m ≠ 124 := fun e => hbar ⟨e, hz⟩; simp; omega
            rw [hz] at HN
            rw [hz]
            clear hx hdn h40 h41 hKn hbar hz hd0 hd1
            go_wp2
            go_roundw
            case rel => exact ⟨K, a, i + 1, rfl, by go_num, HE, .inl ⟨by omega, by rw [HN.out], HI⟩⟩
            case measure => simp [intOf]; omega
          · have e0 : (dep (l.take i) == 0) = false := by simpa using hz
            clear hx hdn h40 h41 hKn hbar hz
            generalize dep (l.take i) = d at *
            go_wp2
            go_roundw
            case rel => exact ⟨K, a, i + 1, rfl, by go_num, HE, .inl ⟨by omega, by rw [HN.out], HI⟩⟩
            case measure => simp [intOf]; omega
      · generalize dep (l.take i) = d at hd0 hd1 ⊢
        obtain rfl : i = l.length := by omega
        obtain ⟨u, hu⟩ : ∃ u, u = opnC (l.take a) := ⟨_, rfl⟩
        have hu200 : c + u ≤ 200 := by have := opn_append (l.take a) (l.drop a); rw [List.take_append_drop] at this; have := HC.out; omega
        have CO := Lib.hid (show ∀ W, wr.grownBy W none → Calls Tryd.prog 23 #[.slice (subA sa sc 0) a sc] W fun e w' => e = .returned (.int .i64 u) ∧ W.grownBy w' none from fun W gW => by
          rw [hu]; exact cOpened _ _ W (((H.out.grown hW.out.G).grown gW).subh (by have := HA.out; omega)).1)
        have CB := Lib.hid (show ∀ W, wr.grownBy W none → Calls Tryd.prog 43 #[.slice (subA sa sc a) (l.length - a) (sc - a), .int .i64 ((c : Int) + u)] W (DocOut W (resB (seg l a l.length) (c + opnC (l.take a)))) from fun W gW => by
          rw [← hu]
          refine HB.out _ (seg l a l.length) (c + u) W (((H.out.grown hW.out.G).grown gW).sub HA.out (by omega)) (by rw [seg_len l (by omega)]; omega) ?_
          have h1 := opn_append (l.take l.length) (l.drop l.length); rw [List.take_append_drop] at h1
          have h2 := opn_seg l HA.out
          have := HC.out; omega)
        have hs1 : ∀ w, (Instr.slice 56 (.slice sa l.length sc) (some (.int .i64 a)) (some (.int .i64 (l.length : Nat))) none).run Tryd.prog w = .ok (.slice (subA sa sc a) (l.length - a) (sc - a)) w := run_sub _ _ _ _ _ HA.out (by have := HCAP.out; omega)
        have hs2 : ∀ w, (Instr.slice 56 (.slice sa l.length sc) none (some (.int .i64 a)) none).run Tryd.prog w = .ok (.slice (subA sa sc 0) a sc) w := run_subh _ _ _ _ (by have := HA.out; have := HCAP.out; omega)
        have hwr : IntKind.i64.wrap ((c : Int) + u) = (c : Int) + u := IntWalk.i64_in _ ⟨by omega, by omega⟩
        clear hu
        cases hres : resB (seg l a l.length) (c + opnC (l.take a)) with
        | none =>
          have HF := Lib.hid (hI.out.last hres)
          rw [hres] at CB
          clear hres hKn
          go_upto_region 13 with fail
          go_region_with (first
            | (go_at_call 23; (with_reducible refine (CO.out _ ?_).mono ?_); (first | exact grown_drew (World.grownBy.refl _ _) | exact grown_drew (World.grownBy_alloc _ _ _)); rintro e w3 ⟨rfl, g3⟩; (try have BX := Lib.hid (heap_grown g3 (heap_new_drew _ _))))
            | (go_at_call 43; (with_reducible refine (CB.out _ ?_).mono ?_); (first | exact (grown_drew (World.grownBy.refl _ _)).trans g3 | exact (grown_drew (World.grownBy_alloc _ _ _)).trans g3 | exact ((grown_drew (World.grownBy.refl _ _)).trans g3).trans (World.grownBy_alloc _ _ _)); rintro e w4 ⟨g4, rfl⟩; (first | (have B4 := Lib.hid (heap_grown g4 BX.out); obtain ⟨x0, x1, x2, x3, x4, x5, x6⟩ := seven_cells B4.out; have fx := four_free B4.out) | (have B4 := Lib.hid (heap_grown g4 (heap_alloc_new w3 _)); obtain ⟨x0, x1, x2, x3, x4, x5, x6⟩ := seven_cells B4.out; have fx := four_free B4.out) | skip)))
          all_goals first
            | (have GW := Lib.hid (grown7 (v0 := .int .i64 ndE.kind) (v1 := .int .i64 ndE.index) (v2 := .int .u64 (wd ndE.set 0)) (v3 := .int .u64 (wd ndE.set 1)) (v4 := .int .u64 (wd ndE.set 2)) (v5 := .int .u64 (wd ndE.set 3)) (v6 := (.slice none 0 0)) (((grown_drew (World.grownBy_alloc wr _ none)).trans g3).trans g4) (Nat.le_refl wr.heap.size))
               have XB := Lib.hid (set_seven B4.out (.int .i64 ndE.kind) (.int .i64 ndE.index) (.int .u64 (wd ndE.set 0)) (.int .u64 (wd ndE.set 1)) (.int .u64 (wd ndE.set 2)) (.int .u64 (wd ndE.set 3)) (.slice none 0 0))
               clear x0 x1 x2 x3 x4 x5 x6 fx B4 BX g3 g4
               generalize wr.heap.size = x at GW XB ⊢
               generalize World.setCell _ _ _ = w5 at GW XB ⊢)
            | (have GW := Lib.hid (grown7 (v0 := .int .i64 ndE.kind) (v1 := .int .i64 ndE.index) (v2 := .int .u64 (wd ndE.set 0)) (v3 := .int .u64 (wd ndE.set 1)) (v4 := .int .u64 (wd ndE.set 2)) (v5 := .int .u64 (wd ndE.set 3)) (v6 := (.slice none 0 0)) ((((grown_drew (World.grownBy.refl wr none)).trans g3).trans (World.grownBy_alloc w3 _ none)).trans g4) (show wr.heap.size ≤ w3.heap.size from g3.size))
               have XB := Lib.hid (set_seven B4.out (.int .i64 ndE.kind) (.int .i64 ndE.index) (.int .u64 (wd ndE.set 0)) (.int .u64 (wd ndE.set 1)) (.int .u64 (wd ndE.set 2)) (.int .u64 (wd ndE.set 3)) (.slice none 0 0))
               clear x0 x1 x2 x3 x4 x5 x6 fx B4 g3 g4
               generalize w3.heap.size = x at GW XB ⊢
               generalize World.setCell _ _ _ = w5 at GW XB ⊢)
            | (have GW := Lib.hid ((((grown_drew (World.grownBy.refl wr none)).trans g3).trans g4).trans (World.grownBy_alloc w4 (.cells #[.int .i64 ndE.kind, .int .i64 ndE.index, .int .u64 (wd ndE.set 0), .int .u64 (wd ndE.set 1), .int .u64 (wd ndE.set 2), .int .u64 (wd ndE.set 3), (.slice none 0 0)] 32) none))
               have XB := Lib.hid (heap_alloc_new w4 (.cells #[.int .i64 ndE.kind, .int .i64 ndE.index, .int .u64 (wd ndE.set 0), .int .u64 (wd ndE.set 1), .int .u64 (wd ndE.set 2), .int .u64 (wd ndE.set 3), (.slice none 0 0)] 32))
               clear g3 g4
               generalize w4.heap.size = x at GW XB ⊢
               generalize w4.alloc _ = w5 at GW XB ⊢)
          all_goals
            have N5 := Lib.hid (heap_grown GW.out hW.out.N)
            have G5 := Lib.hid (hW.out.G.trans GW.out)
            clear GW XB CO CB hs1 hs2 hwr
            obtain ⟨r0, r1, r2, r3, r4, r5, r6⟩ := seven_cells N5.out
            have fr := four_free N5.out
            go_wp2
            refine bodyPost_ret (v := .tuple #[ndV ndE (.slice none 0 0), .bool false]) (back_nd2 32 Tryd.underlying32 sizeNd Tryd.results22 rfl rfl (zero_seven N5.out)) rfl ?_
            exact ⟨grown7 G5.out HR.out, by rw [HF.out]⟩
        | some n =>
          have HF := Lib.hid (hI.out.end hres)
          rw [hres] at CB
          clear hres hKn
          go_upto_region 13 with fail
          go_region_with (first
            | (go_at_call 23; (with_reducible refine (CO.out _ ?_).mono ?_); (first | exact grown_drew (World.grownBy.refl _ _) | exact grown_drew (World.grownBy_alloc _ _ _)); rintro e w3 ⟨rfl, g3⟩; (try have BX := Lib.hid (heap_grown g3 (heap_new_drew _ _))))
            | (go_at_call 43; (with_reducible refine (CB.out _ ?_).mono ?_); (first | exact (grown_drew (World.grownBy.refl _ _)).trans g3 | exact (grown_drew (World.grownBy_alloc _ _ _)).trans g3 | exact ((grown_drew (World.grownBy.refl _ _)).trans g3).trans (World.grownBy_alloc _ _ _)); rintro e w4 ⟨g4, na, nm, nk, rfl, hk⟩; (first | (have B4 := Lib.hid (heap_grown g4 BX.out); obtain ⟨x0, x1, x2, x3, x4, x5, x6⟩ := seven_cells B4.out; have fx := four_free B4.out) | (have B4 := Lib.hid (heap_grown g4 (heap_alloc_new w3 _)); obtain ⟨x0, x1, x2, x3, x4, x5, x6⟩ := seven_cells B4.out; have fx := four_free B4.out) | skip)))
          all_goals first
            | (have GW := Lib.hid (grown7 (v0 := .int .i64 n.kind) (v1 := .int .i64 n.index) (v2 := .int .u64 (wd n.set 0)) (v3 := .int .u64 (wd n.set 1)) (v4 := .int .u64 (wd n.set 2)) (v5 := .int .u64 (wd n.set 3)) (v6 := (.slice na nm nk)) (((grown_drew (World.grownBy_alloc wr _ none)).trans g3).trans g4) (Nat.le_refl wr.heap.size))
               have XB := Lib.hid (set_seven B4.out (.int .i64 n.kind) (.int .i64 n.index) (.int .u64 (wd n.set 0)) (.int .u64 (wd n.set 1)) (.int .u64 (wd n.set 2)) (.int .u64 (wd n.set 3)) (.slice na nm nk))
               have XK := Lib.hid ((hk.weak (q := fun b => wr.heap.size ≤ b ∧ b ≠ wr.heap.size) fun b _ hb => by have := g3.size; simp at this; omega).seven (r := wr.heap.size) (.int .i64 n.kind) (.int .i64 n.index) (.int .u64 (wd n.set 0)) (.int .u64 (wd n.set 1)) (.int .u64 (wd n.set 2)) (.int .u64 (wd n.set 3)) (.slice na nm nk) fun b hb => hb.2)
               clear x0 x1 x2 x3 x4 x5 x6 fx B4 BX g3 g4
               obtain ⟨x, ex⟩ : ∃ x, x = wr.heap.size := ⟨_, rfl⟩
               rw [← ex] at GW XB XK ⊢
               have HXW := Lib.hid (show wr.heap.size ≤ x by omega)
               clear ex
               generalize World.setCell _ _ _ = w5 at GW XB XK ⊢)
            | (have GW := Lib.hid (grown7 (v0 := .int .i64 n.kind) (v1 := .int .i64 n.index) (v2 := .int .u64 (wd n.set 0)) (v3 := .int .u64 (wd n.set 1)) (v4 := .int .u64 (wd n.set 2)) (v5 := .int .u64 (wd n.set 3)) (v6 := (.slice na nm nk)) ((((grown_drew (World.grownBy.refl wr none)).trans g3).trans (World.grownBy_alloc w3 _ none)).trans g4) (show wr.heap.size ≤ w3.heap.size from g3.size))
               have XB := Lib.hid (set_seven B4.out (.int .i64 n.kind) (.int .i64 n.index) (.int .u64 (wd n.set 0)) (.int .u64 (wd n.set 1)) (.int .u64 (wd n.set 2)) (.int .u64 (wd n.set 3)) (.slice na nm nk))
               have XK := Lib.hid ((hk.weak (q := fun b => wr.heap.size ≤ b ∧ b ≠ w3.heap.size) fun b _ hb => by have := g3.size; simp at this hb; omega).seven (r := w3.heap.size) (.int .i64 n.kind) (.int .i64 n.index) (.int .u64 (wd n.set 0)) (.int .u64 (wd n.set 1)) (.int .u64 (wd n.set 2)) (.int .u64 (wd n.set 3)) (.slice na nm nk) fun b hb => hb.2)
               clear x0 x1 x2 x3 x4 x5 x6 fx B4 g3 g4
               generalize w3.heap.size = x at GW XB XK ⊢
               generalize World.setCell _ _ _ = w5 at GW XB XK ⊢)
            | (have GW := Lib.hid ((((grown_drew (World.grownBy.refl wr none)).trans g3).trans g4).trans (World.grownBy_alloc w4 (.cells #[.int .i64 n.kind, .int .i64 n.index, .int .u64 (wd n.set 0), .int .u64 (wd n.set 1), .int .u64 (wd n.set 2), .int .u64 (wd n.set 3), (.slice na nm nk)] 32) none))
               have XB := Lib.hid (heap_alloc_new w4 (.cells #[.int .i64 n.kind, .int .i64 n.index, .int .u64 (wd n.set 0), .int .u64 (wd n.set 1), .int .u64 (wd n.set 2), .int .u64 (wd n.set 3), (.slice na nm nk)] 32))
               have XK := Lib.hid ((hk.weak (q := fun b => wr.heap.size ≤ b ∧ b ≠ w4.heap.size) fun b hb1 hb => by have := g3.size; simp at this; omega).grown (World.grownBy_alloc w4 (.cells #[.int .i64 n.kind, .int .i64 n.index, .int .u64 (wd n.set 0), .int .u64 (wd n.set 1), .int .u64 (wd n.set 2), .int .u64 (wd n.set 3), (.slice na nm nk)] 32) none))
               clear g3 g4
               generalize w4.heap.size = x at GW XB XK ⊢
               generalize w4.alloc _ = w5 at GW XB XK ⊢)
          all_goals
            have W5 := Lib.hid (hW.out.kept GW.out HR.out)
            have hgw := (Array.getElem?_eq_some_iff.1 hW.out.N).1
            have gb := World.grownBy_alloc w5 (.cells #[.int .i64 n.kind, .int .i64 n.index, .int .u64 (wd n.set 0), .int .u64 (wd n.set 1), .int .u64 (wd n.set 2), .int .u64 (wd n.set 3), .slice na nm nk] 32) none
            have W6 := Lib.hid (W5.out.kept gb HR.out)
            obtain ⟨va, vc, rfl⟩ := nilOr hW.out.W.O
            have K6 := Lib.hid ((XK.out.weak (q := fun b => (w.heap.size ≤ b ∧ b ≠ g) ∧ some b ≠ (Value.slice va K.length vc).ownBlock) fun b _ hb => by
              obtain ⟨hb1, -⟩ := hb
              have h3 := hW.out.G.size
              try have hxw := HXW.out
              refine ⟨by omega, ?_⟩
              intro e
              have := (hW.out.W.O.lt b e.symm).2
              omega).grown gb)
            have HSZ := Lib.hid (show g + 1 ≤ (w5.alloc (.cells #[.int .i64 n.kind, .int .i64 n.index, .int .u64 (wd n.set 0), .int .u64 (wd n.set 1), .int .u64 (wd n.set 2), .int .u64 (wd n.set 3), .slice na nm nk] 32)).heap.size from (Array.getElem?_eq_some_iff.1 W6.out.N).1)
            obtain ⟨n0, n1, n2, n3, n4, n5, n6⟩ := seven_cells XB.out
            obtain ⟨iu, hiu, hu0, hu1, hu2⟩ := info_parts infoNd
            have IU := Lib.hid hiu; have ZU0 := Lib.hid hu0; have ZU1 := Lib.hid hu1; have ZU2 := Lib.hid hu2
            have hK61 : K.length ≤ 60 := by have := hW.out.n; omega
            clear hiu hu0 hu1 hu2 gb hgw CO CB hs1 hs2 hwr
            go_wp2_with (at_builtin; refine wpList_append_lies _ rfl _ _ 30 rfl (g + 1) 32 iu _ 7 72 Tryd.underlying30 IU.out ZU0.out ZU1.out ZU2.out rfl (by decide) _ _ _ rfl W6.out.W.O ⟨_, 0, none⟩ 1 1 (cells7 n (.slice na nm nk)) rfl rfl (new_seven _ _ _ _ _ (by simp)) (seven_one _ _ _ _) (by decide) (by unfold maxLen; omega) (by omega) HSZ.out _ rfl ?_; intro gg cap w7 hown2 hgrow2 hat hlt2)
            have hne : ∀ b, b ≤ g → some b ≠ (Value.slice va K.length vc).ownBlock := fun b hb e => by have := (W6.out.W.O.lt b e.symm).1; omega
            have HE := Lib.hid (show EW w l c g (l.length + 1) (l.length + 1) (K ++ [(n, .slice na nm nk)]) (.slice (some ⟨gg, 0, none⟩) (K.length + 1) cap) w7 from
              ⟨W6.out.G.andThen hgrow2 (fun b e => .inl (by have := (W6.out.W.O.lt b e).1; have := HR.out; omega)),
               (hgrow2.block g (Array.getElem?_eq_some_iff.1 W6.out.N).1 (hne g (Nat.le_refl _))).trans W6.out.N,
               W6.out.W.step K6.out hown2 hgrow2 hat, by have := hW.out.n; simp; omega⟩)
            clear hown2 hgrow2 hat hlt2 hne W5 W6 K6 XB XK GW n0 n1 n2 n3 n4 n5 n6
            go_roundw
            case rel => exact ⟨_, l.length + 1, l.length + 1, by go_num, by go_num, HE, .inr ⟨rfl, by rw [List.map_append]; exact HF⟩⟩
            case measure => simp [intOf]
    · clear hKn
      obtain ⟨va, vc, rfl⟩ := nilOr hW.out.W.O
      have KK := Lib.hid (hW.out.W.kids (fun b hb => by have := HR.out; omega))
      have C1 := Lib.hid (show ∀ W, wr.grownBy W none → Calls Tryd.prog 44 #[.int .i64 3, .slice va K.length vc] W fun e w' => (∃ kw, e = .returned (ndV (altN (K.map Prod.fst)) kw) ∧ KidsAt w' (fun b => w.heap.size ≤ b ∧ b ≠ g) kw (altN (K.map Prod.fst)).kids) ∧ W.grownBy w' none from fun W gW => cOne 3 _ _ _ W (KK.out.grown gW))
      have ND := Lib.hid hW.out.N
      have GD := Lib.hid hW.out.G
      have hg3 : (((l.length + 1 : Nat) : Int) ≤ (l.length : Nat)) = False := by simp; omega
      clear hW
      go_wp2_with fail
      refine (C1.out _ (World.grownBy.refl _ _)).mono ?_
      rintro e w3 ⟨⟨kw, rfl, hk⟩, g3⟩
      obtain ⟨a3, c3, rfl⟩ := hk.shape
      have N5 := Lib.hid (heap_grown g3 ND.out)
      have G5 := Lib.hid (GD.out.trans g3)
      have K5 := Lib.hid hk
      clear g3 hk C1 KK ND GD
      generalize altN (K.map Prod.fst) = n at K5 hD ⊢
      obtain ⟨r0, r1, r2, r3, r4, r5, r6⟩ := seven_cells N5.out
      have fr := four_free N5.out
      go_wp2
      refine bodyPost_ret (v := .tuple #[ndV n (.slice a3 n.kids.length c3), .bool true]) (back_nd2 32 Tryd.underlying32 sizeNd Tryd.results22 rfl rfl (set_seven N5.out _ _ _ _ _ _ _)) rfl ?_
      rw [hD.out]
      exact ⟨grown7 G5.out HR.out, _, _, _, rfl, (K5.out.seven _ _ _ _ _ _ _ fun b hb => hb.2).weak fun b _ hb => hb.1⟩
end Go.Proofs.YtliefnjhobdphaaDoor
