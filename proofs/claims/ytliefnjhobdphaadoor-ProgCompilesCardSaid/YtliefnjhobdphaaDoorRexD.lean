/- The document's own answer on the signs of a text. The document's own answer on the signs of a text: the walk. -/
import Derived.Test.YtliefnjhobdphaaDoorRexB
import Derived.Deep.DeepMust
namespace Go.Proofs.YtliefnjhobdphaaDoor
open Go.RowKit

theorem sgn_end {s : ByteArray} {i : Nat} (h : ¬ i < s.size) : sgn s i = some [] := by rw [sgn, dif_neg h]
theorem sgn_esc {s : ByteArray} {i : Nat} (h : i < s.size) (h1 : s[i].toNat = 92) (h2 : i + 1 < s.size) : sgn s i = (sgn s (i + 2)).map (⟨0, one s[i + 1].toNat⟩ :: ·) := by
  rw [sgn, dif_pos h, if_pos (UInt8.toNat_inj.1 h1), dif_pos h2]
theorem sgn_escbad {s : ByteArray} {i : Nat} (h : i < s.size) (h1 : s[i].toNat = 92) (h2 : ¬ i + 1 < s.size) : sgn s i = none := by
  rw [sgn, dif_pos h, if_pos (UInt8.toNat_inj.1 h1), dif_neg h2]
theorem ne_byte {a : UInt8} {n : Nat} (b : UInt8) (h : a.toNat = n) (hb : b.toNat ≠ n) : a ≠ b := fun e => hb (by rw [← e]; exact h)
theorem sgn_cls {s : ByteArray} {i : Nat} {t : BitVec 256} {e : Nat} (h : i < s.size) (h1 : s[i].toNat = 91) (h2 : clsP s (i + 1) = some (t, e)) : sgn s i = (sgn s (e + 1)).map (⟨0, t⟩ :: ·) := by
  rw [sgn, dif_pos h, if_neg (ne_byte 92 h1 (by decide)), if_pos (UInt8.toNat_inj.1 h1)]
  split
  · rename_i hc; rw [h2] at hc; cases hc
  · rename_i t' e' hc; rw [h2] at hc; cases hc; rfl
theorem sgn_clsbad {s : ByteArray} {i : Nat} (h : i < s.size) (h1 : s[i].toNat = 91) (h2 : clsP s (i + 1) = none) : sgn s i = none := by
  rw [sgn, dif_pos h, if_neg (ne_byte 92 h1 (by decide)), if_pos (UInt8.toNat_inj.1 h1)]
  split
  · rfl
  · rename_i t' e' hc; rw [h2] at hc; cases hc
theorem sgn_dot {s : ByteArray} {i : Nat} (h : i < s.size) (h1 : s[i].toNat = 46) : sgn s i = (sgn s (i + 1)).map (⟨0, no (one 10)⟩ :: ·) := by
  rw [sgn, dif_pos h, if_neg (ne_byte 92 h1 (by decide)), if_neg (ne_byte 91 h1 (by decide)), if_pos (UInt8.toNat_inj.1 h1)]
theorem sgn_mark {s : ByteArray} {i : Nat} (h : i < s.size) (h1 : s[i].toNat = 40 ∨ s[i].toNat = 41 ∨ s[i].toNat = 124 ∨ s[i].toNat = 42 ∨ s[i].toNat = 43 ∨ s[i].toNat = 63 ∨ s[i].toNat = 94 ∨ s[i].toNat = 36) : sgn s i = (sgn s (i + 1)).map (⟨s[i].toNat, emp⟩ :: ·) := by
  have a : s[i] ≠ 92 := fun e => by rw [e] at h1; revert h1; decide
  have b : s[i] ≠ 91 := fun e => by rw [e] at h1; revert h1; decide
  have c : s[i] ≠ 46 := fun e => by rw [e] at h1; revert h1; decide
  have d : isMark s[i].toNat = true := by unfold isMark; rcases h1 with h | h | h | h | h | h | h | h <;> (rw [h]; rfl)
  rw [sgn, dif_pos h, if_neg a, if_neg b, if_neg c, if_pos d]
theorem sgn_lit {s : ByteArray} {i : Nat} (h : i < s.size) (h1 : s[i].toNat ≠ 92 ∧ s[i].toNat ≠ 91 ∧ s[i].toNat ≠ 46 ∧ s[i].toNat ≠ 40 ∧ s[i].toNat ≠ 41 ∧ s[i].toNat ≠ 124 ∧ s[i].toNat ≠ 42 ∧ s[i].toNat ≠ 43 ∧ s[i].toNat ≠ 63 ∧ s[i].toNat ≠ 94 ∧ s[i].toNat ≠ 36) : sgn s i = (sgn s (i + 1)).map (⟨0, one s[i].toNat⟩ :: ·) := by
  obtain ⟨h1, h2, h3, h4, h5, h6, h7, h8, h9, h10, h11⟩ := h1
  have a : s[i] ≠ 92 := fun e => h1 (by rw [e]; rfl)
  have b : s[i] ≠ 91 := fun e => h2 (by rw [e]; rfl)
  have c : s[i] ≠ 46 := fun e => h3 (by rw [e]; rfl)
  have d : isMark s[i].toNat = false := by unfold isMark; simp [h4, h5, h6, h7, h8, h9, h10, h11]
  rw [sgn, dif_pos h, if_neg a, if_neg b, if_neg c, if_neg (by rw [d]; decide)]

/-- a row of signs whose length goes into its capacity -/
def SgR (w : World) (v : Value) (l : List Sg) : Prop := SgRow w v l ∧ ∀ a n c, v = .slice a n c → n ≤ c
theorem SgR.grown {w w' : World} {v : Value} {l : List Sg} (h : SgR w v l) (g : w.grownBy w' none) : SgR w' v l := ⟨h.1.grown g, h.2⟩
def SgnOut (o : Option (List Sg)) (w' : World) (e : Ending) : Prop :=
  match o with
  | some l => ∃ v, e = .returned (.tuple #[v, .bool true]) ∧ SgR w' v l
  | none => e = .returned (.tuple #[.slice none 0 0, .bool false])
def cells5 (l : List Sg) : List Value := l.flatMap (fun x => [.int .u8 x.m, .int .u64 (wd x.s 0), .int .u64 (wd x.s 1), .int .u64 (wd x.s 2), .int .u64 (wd x.s 3)])
theorem cells5_snoc (l : List Sg) (x : Sg) : cells5 (l ++ [x]) = cells5 l ++ [.int .u8 x.m, .int .u64 (wd x.s 0), .int .u64 (wd x.s 1), .int .u64 (wd x.s 2), .int .u64 (wd x.s 3)] := by unfold cells5; simp
theorem infoSg : (Tryd.prog.info? 82).map (fun i => (i.zero, i.size, i.bytes)) = some (some (.agg #[.int .u8 0, .int .u64 0, .int .u64 0, .int .u64 0, .int .u64 0]), 5, 40) := by kernel_rfl
theorem new_five (w : World) (v0 v1 v2 v3 v4 : Value) (t : TypeId) (n : Nat) (hn : n = w.heap.size) : ∀ j u, ([v0, v1, v2, v3, v4] : List Value)[j]? = some u → (w.alloc (.cells #[v0, v1, v2, v3, v4] t)).cell? ((⟨n, 0, none⟩ : Addr).add j) = some u := by
  subst hn
  exact World.news_of_block (cs := #[v0, v1, v2, v3, v4]) (t := t) (fr := (0, 0)) (heap_alloc_new w _)
theorem five_one (m : Int) (a b c d : Int) : ∀ u ∈ ([.int .u8 m, .int .u64 a, .int .u64 b, .int .u64 c, .int .u64 d] : List Value), u.oneCell' = true := by
  intro u hu; simp at hu; rcases hu with rfl | rfl | rfl | rfl | rfl <;> rfl

/-- what the signs' loop knows -/
structure GS (s : ByteArray) (w : World) (i : Nat) (acc : List Sg) (out : Value) (wr : World) : Prop where
  hi : i ≤ s.size
  hn : acc.length ≤ i
  hm : ∀ x ∈ acc, x.m < 256
  hg : sgn s 0 = (sgn s i).map (acc ++ ·)
  L : wr.ownsRow w.heap.size 82 5 out acc.length (cells5 acc)
  G : w.grownBy wr none
theorem gs_step {s : ByteArray} {w : World} {i i' : Nat} {acc : List Sg} {out v2 : Value} {wr w1 w2 : World} {x : Sg} (h : GS s w i acc out wr) (g0 : wr.grownBy w1 none)
    (o : w2.ownsRow w.heap.size 82 5 v2 (acc.length + 1) (cells5 acc ++ [.int .u8 x.m, .int .u64 (wd x.s 0), .int .u64 (wd x.s 1), .int .u64 (wd x.s 2), .int .u64 (wd x.s 3)]))
    (g : w1.grownBy w2 out.ownBlock) (h1 : i < i') (h2 : i' ≤ s.size) (hx : x.m < 256) (hg : sgn s i = (sgn s i').map (x :: ·)) : GS s w i' (acc ++ [x]) v2 w2 := by
  have hn := h.hn
  refine ⟨h2, by simp; omega, ?_, ?_, ?_, (h.G.trans g0).andThen g (fun j e => .inl (h.L.lt j e).1)⟩
  · intro y hy
    rcases List.mem_append.1 hy with hy | hy
    · exact h.hm y hy
    · simp at hy; subst hy; exact hx
  · rw [h.hg, hg, Option.map_map]
    congr 1
    funext l
    simp
  · rw [cells5_snoc, List.length_append]; exact o
theorem sgrow_of_owns {w : World} {base : Nat} {v : Value} {l : List Sg} (h : w.ownsRow base 82 5 v l.length (cells5 l)) (hn : l.length ≤ 100) (hm : ∀ x ∈ l, x.m < 256) : SgRow w v l := by
  have cell5 : ∀ (l : List Sg) (k : Nat) (x : Sg), l[k]? = some x → (cells5 l)[k * 5]? = some (.int .u8 x.m) ∧ (cells5 l)[k * 5 + 1]? = some (.int .u64 (wd x.s 0)) ∧ (cells5 l)[k * 5 + 2]? = some (.int .u64 (wd x.s 1)) ∧ (cells5 l)[k * 5 + 3]? = some (.int .u64 (wd x.s 2)) ∧ (cells5 l)[k * 5 + 4]? = some (.int .u64 (wd x.s 3)) := by
    intro l
    induction l with
    | nil => intro k x hx; simp at hx
    | cons y l ih =>
      intro k x hx
      cases k with
      | zero => simp at hx; subst hx; exact ⟨rfl, rfl, rfl, rfl, rfl⟩
      | succ k =>
        have := ih k x (by simpa using hx)
        have e : cells5 (y :: l) = [.int .u8 y.m, .int .u64 (wd y.s 0), .int .u64 (wd y.s 1), .int .u64 (wd y.s 2), .int .u64 (wd y.s 3)] ++ cells5 l := rfl
        rw [e, show (k + 1) * 5 = k * 5 + 5 by omega]
        simp only [List.getElem?_append, List.length_cons, List.length_nil]
        refine ⟨?_, ?_, ?_, ?_, ?_⟩
        · rw [if_neg (by omega), show k * 5 + 5 - (0 + 1 + 1 + 1 + 1 + 1) = k * 5 by omega]; exact this.1
        · rw [if_neg (by omega), show k * 5 + 5 + 1 - (0 + 1 + 1 + 1 + 1 + 1) = k * 5 + 1 by omega]; exact this.2.1
        · rw [if_neg (by omega), show k * 5 + 5 + 2 - (0 + 1 + 1 + 1 + 1 + 1) = k * 5 + 2 by omega]; exact this.2.2.1
        · rw [if_neg (by omega), show k * 5 + 5 + 3 - (0 + 1 + 1 + 1 + 1 + 1) = k * 5 + 3 by omega]; exact this.2.2.2.1
        · rw [if_neg (by omega), show k * 5 + 5 + 4 - (0 + 1 + 1 + 1 + 1 + 1) = k * 5 + 4 by omega]; exact this.2.2.2.2
  rcases h.2 with ⟨rfl, h0⟩ | ⟨g, cap, cur, rfl, hb', hg, h1, h2, h3, h4⟩
  · exact ⟨none, 0, by rw [h0], ⟨hn, hm⟩, fun hne => absurd (List.eq_nil_of_length_eq_zero h0) hne⟩
  · refine ⟨_, cap, rfl, ⟨hn, hm⟩, fun _ => ⟨g, 0, rfl, (Array.getElem?_eq_some_iff.1 hg).1, fun k x hx => ?_⟩⟩
    obtain ⟨a0, a1, a2, a3, a4⟩ := cell5 l k x hx
    have at_ : ∀ j u, (cells5 l)[j]? = some u → w.cell? ⟨g, 0 + j, none⟩ = some u := fun j u hu => by
      have := h.cells (g := g) rfl j u hu
      rwa [Addr.add_lit] at this
    exact ⟨at_ _ _ a0, at_ _ _ a1, at_ _ _ a2, at_ _ _ a3, at_ _ _ a4⟩
theorem sgr_of_owns {w : World} {base : Nat} {v : Value} {l : List Sg} (h : w.ownsRow base 82 5 v l.length (cells5 l)) (hn : l.length ≤ 100) (hm : ∀ x ∈ l, x.m < 256) : SgR w v l := by
  refine ⟨sgrow_of_owns h hn hm, fun a n c e => ?_⟩
  rcases h.2 with ⟨rfl, h0⟩ | ⟨g, cap, cur, rfl, _, _, h1, _⟩
  · cases e; exact Nat.le_refl _
  · cases e; exact h1
end Go.Proofs.YtliefnjhobdphaaDoor

namespace Go.Proofs.YtliefnjhobdphaaDoor
open Go.RowKit

theorem mkS_point : mkS (fun b => b != 10) = no (one 10) := inn_ext fun j hj => by
  rw [inn_mkS _ j hj, inn_no _ _ hj, inn_one 10 j hj, Bool.eq_iff_iff]; simp
theorem infoArr7' : (Tryd.prog.info? 85).map (·.size) = some (arrV fun b => b != 10).size := by rw [arr_size]; exact (zero_of_info infoArr7).2
/-- what the point's loop knows: the array q alone has turned -/
structure DW (w0 : World) (q : Nat) (f : Nat → Bool) (wr : World) : Prop where
  G : w0.grownBy wr none
  Q : wr.heap[q]? = some (.cells (arrV f) 85 (0, 0))
  nq : w0.heap.size ≤ q
theorem DW.set {w0 : World} {q : Nat} {f f' : Nat → Bool} {wr : World} (h : DW w0 q f wr) (b : Nat) (v : Bool) (hf : (arrV f).setIfInBounds b (.bool v) = arrV f') : DW w0 q f' (wr.setCell ⟨q, b, none⟩ (.bool v)) :=
  ⟨grown_set h.G _ _ h.nq, by rw [← hf]; exact heap_setCell_same wr q b _ _ _ h.Q, h.nq⟩
theorem DW.ext {w0 : World} {q : Nat} {f f' : Nat → Bool} {wr : World} (h : DW w0 q f wr) (hf : ∀ b, b < 256 → f b = f' b) : DW w0 q f' wr := ⟨h.G, by rw [← arr_ext hf]; exact h.Q, h.nq⟩
theorem pt_step (k : Nat) : (arrV (fun c => decide (c < k) && c != 10)).setIfInBounds k (.bool ((k : Int) != 10)) = arrV (fun c => decide (c < k + 1) && c != 10) :=
  arr_put _ _ k _ fun b _ => by
    by_cases h : b = k
    · subst h; rw [if_pos rfl, Bool.eq_iff_iff]; simp; omega
    · have : (b < k + 1) = (b < k) := by apply propext; omega
      simp [h, this]

set_option maxRecDepth 100000 in
set_option maxHeartbeats 8000000 in
theorem cSigns (s : ByteArray) (hs : s.size ≤ 100) (w : World) :
    Calls Tryd.prog 21 #[.string s] w fun e w' => SgnOut (sgn s 0) w' e ∧ w.grownBy w' none := by
  obtain ⟨iu, hiu, hu0, hu1, hu2⟩ := info_parts infoSg
  have IU := Lib.hid hiu; have ZU0 := Lib.hid hu0; have ZU1 := Lib.hid hu1; have ZU2 := Lib.hid hu2
  clear hiu hu0 hu1 hu2
  have W0 := Lib.hid (show GS s w 0 [] (.slice (some ⟨w.heap.size, 0, none⟩) 0 0) (w.alloc (.cells #[] 82)) from
    ⟨Nat.zero_le _, Nat.le_refl _, by simp, by simp, by simpa [cells5] using World.ownsRow_made (base := w.heap.size) (e := 82) (size := 5) w #[] 0 (Nat.le_refl _) (by decide) rfl, World.grownBy_alloc _ _ _⟩)
  have HM8 : Hid True := Lib.hid trivial
  go_enter Tryd.func21, Tryd.ntmps21
  go_wp2_with fail
  generalize w.alloc _ = wd0 at W0 ⊢
  go_loopw [4, 5, 6, 7, 8, 9, 10] (fun out si _ _ _ _ _ wr => ∃ (i : Nat) (acc : List Sg), si = .int .i64 i ∧ Hid (GS s w i acc out wr)) (fun _ si _ _ _ _ _ _ => s.size - (intOf si).toNat)
  case atStart => exact ⟨0, [], rfl, W0⟩
  case round =>
    obtain ⟨i, acc, rfl, hW⟩ := hrel
    have hil := hW.out.hi
    by_cases hi : i < s.size
    · obtain ⟨c, hc⟩ : ∃ c, c = s[i].toNat := ⟨_, rfl⟩
      have hc256 : c < 256 := by rw [hc]; exact UInt8.toNat_lt _
      by_cases h92 : c = 92
      · have hcI : (s[i].toNat : Int) = 92 := by rw [← hc, h92]; rfl
        by_cases hi1 : i + 1 < s.size
        · have GE := Lib.hid (sgn_esc hi (by rw [← hc]; exact h92) hi1)
          have HB1 := Lib.hid (UInt8.toNat_lt s[i + 1])
          clear h92 hc hc256 HM8
          go_wp2_with (first
            | (go_at_call 40; refine (cSingle _ _ HB1.out).mono ?_; rintro e w1 ⟨rfl, g1⟩; have G1 := Lib.hid g1; clear g1)
            | (at_builtin; refine wpList_append_own _ rfl _ _ 56 rfl w.heap.size 82 iu _ 5 40 Tryd.underlying56 IU.out ZU0.out ZU1.out ZU2.out rfl (by decide) _ _ _ rfl ((owns_kept hW.out.L G1.out).alloc _) ⟨_, 0, none⟩ 1 1 [.int .u8 0, .int .u64 (wd (one s[i + 1].toNat) 0), .int .u64 (wd (one s[i + 1].toNat) 1), .int .u64 (wd (one s[i + 1].toNat) 2), .int .u64 (wd (one s[i + 1].toNat) 3)] rfl rfl (new_five _ _ _ _ _ _ _ _ (by simp)) (five_one _ _ _ _ _) (by have := hW.out.hn; have := hW.out.hi; unfold maxLen; omega) (by have := hW.out.hn; have := hW.out.hi; omega) (by have := hW.out.G.size; have := (G1.out).size; simp; omega) ?_; intro v2 w4 hown2 hgrow2 _))
          have HF := Lib.hid (gs_step (x := ⟨0, one s[i + 1].toNat⟩) hW.out (World.grownBy.trans G1.out (World.grownBy_alloc _ _ none)) hown2 hgrow2 (i' := i + 2) (by omega) (by omega) (show (0 : Nat) < 256 by decide) GE.out)
          clear hown2 hgrow2
          go_roundw
          case rel => exact ⟨i + 2, _, by go_num, HF⟩
          case measure => simp [intOf]; omega
        · have EN := Lib.hid (show sgn s 0 = none by rw [hW.out.hg, sgn_escbad hi (by rw [← hc]; exact h92) hi1]; rfl)
          clear h92 hc hc256 HM8
          go_wp2
          go_ret2
          exact ⟨by rw [EN.out]; rfl, hW.out.G⟩
      by_cases h91 : c = 91
      · have hcI : (s[i].toNat : Int) = 91 := by rw [← hc, h91]; rfl
        have h91' := Lib.hid (show s[i].toNat = 91 by rw [← hc]; exact h91)
        have CS := Lib.hid (fun w => cSet s (i + 1) hs (by omega) w)
        cases hcl : clsP s (i + 1) with
        | none =>
          have EN := Lib.hid (show sgn s 0 = none by rw [hW.out.hg, sgn_clsbad hi h91'.out hcl]; rfl)
          rw [hcl] at CS
          clear h92 h91 hc hc256 hcl HM8
          go_wp2_with (go_at_call 41; refine (CS.out _).mono ?_; rintro e w1 ⟨he, g1⟩; obtain rfl : e = .returned (.tuple #[setV emp, .int .i64 (-1)]) := he; have G1 := Lib.hid (hW.out.G.trans (g1.trans (World.grownBy_alloc w1 (.cells #[.int .u64 (wd emp 0), .int .u64 (wd emp 1), .int .u64 (wd emp 2), .int .u64 (wd emp 3)] 29) none))); clear g1)
          go_ret2
          exact ⟨by rw [EN.out]; rfl, G1.out⟩
        | some te =>
          obtain ⟨t, e⟩ := te
          have hgt := cls_gt hcl
          have GE := Lib.hid (sgn_cls hi h91'.out hcl)
          rw [hcl] at CS
          clear h92 h91 hc hc256 hcl HM8
          go_wp2_with (first
            | (go_at_call 41; refine (CS.out _).mono ?_; rintro e2 w0 ⟨he, g1⟩; obtain rfl : e2 = .returned (.tuple #[setV t, .int .i64 e]) := he; have G1 := Lib.hid (g1.trans (World.grownBy_alloc w0 (.cells #[.int .u64 (wd t 0), .int .u64 (wd t 1), .int .u64 (wd t 2), .int .u64 (wd t 3)] 29) none)); clear g1)
            | (at_builtin; refine wpList_append_own _ rfl _ _ 56 rfl w.heap.size 82 iu _ 5 40 Tryd.underlying56 IU.out ZU0.out ZU1.out ZU2.out rfl (by decide) _ _ _ rfl ((owns_kept hW.out.L G1.out).alloc _) ⟨_, 0, none⟩ 1 1 [.int .u8 0, .int .u64 (wd t 0), .int .u64 (wd t 1), .int .u64 (wd t 2), .int .u64 (wd t 3)] rfl rfl (new_five _ _ _ _ _ _ _ _ (by simp)) (five_one _ _ _ _ _) (by have := hW.out.hn; have := hW.out.hi; unfold maxLen; omega) (by have := hW.out.hn; have := hW.out.hi; omega) (by have := hW.out.G.size; have := (G1.out).size; simp at this ⊢; omega) ?_; intro v2 w4 hown2 hgrow2 _))
          have HF := Lib.hid (gs_step (x := ⟨0, t⟩) hW.out (World.grownBy.trans G1.out (World.grownBy_alloc _ _ none)) hown2 hgrow2 (i' := e + 1) (by omega) (by omega) (show (0 : Nat) < 256 by decide) GE.out)
          clear hown2 hgrow2
          go_roundw
          case rel => exact ⟨e + 1, _, by go_num, HF⟩
          case measure => simp [intOf]; omega
      by_cases h46 : c = 46
      · have hcI : (s[i].toNat : Int) = 46 := by rw [← hc, h46]; rfl
        have GE := Lib.hid (sgn_dot hi (by rw [← hc]; exact h46))
        clear h92 h91 h46 hc hc256 HM8
        obtain ⟨hz, hsz⟩ := zero_of_info infoArr7
        have hZs := arr_size (fun _ => false)
        have hZ1 := arr_one (fun _ => false)
        have b2 := heap_alloc_new wr (.cells (arrV fun _ => false) 85)
        have s2 := store_same (P := Tryd.prog) b2 (by rw [hZs]; exact hsz) hZ1
        have M0 := Lib.hid (show DW wr wr.heap.size (fun _ => false) (wr.alloc (.cells (arrV fun _ => false) 85)) from ⟨World.grownBy_alloc _ _ _, b2, Nat.le_refl _⟩)
        generalize hZZ : (arrV fun _ => false) = Z at hz hZs s2 M0
        clear b2 hZ1 hsz
        go_upto_region 21 with fail
        obtain ⟨wk, rfl⟩ : ∃ wk : World, wk = wr := ⟨_, rfl⟩
        generalize wk.heap.size = q at M0 ⊢
        generalize wk.alloc _ = w5 at M0 ⊢
        clear hz hZs s2
        go_wp2_with fail
        go_loopw [10, 64] (fun _ sk wx => ∃ k : Nat, k ≤ 256 ∧ sk = .int .i64 k ∧ Hid (DW wk q (fun c => decide (c < k) && c != 10) wx)) (fun _ sk _ => 256 - (intOf sk).toNat)
        case atStart => exact ⟨0, by omega, rfl, Lib.hid (M0.out.ext (fun b _ => by simp))⟩
        case round =>
          obtain ⟨k, hk, rfl, hMk⟩ := hrel
          by_cases hk2 : k < 256
          · have HSet := Lib.hid (pt_step k)
            obtain ⟨ov, cv⟩ : ∃ ov, wr.cell? ⟨q, k, none⟩ = some ov := ⟨_, (cell_of_row wr q k _ _ _ hMk.out.Q).trans (arr_get _ k hk2)⟩
            have fv := four_free hMk.out.Q k
            go_wp2
            go_roundw
            case rel => exact ⟨k + 1, by omega, by go_num, Lib.hid (hMk.out.set k _ HSet.out)⟩
            case measure => simp [intOf]; omega
          · obtain rfl : k = 256 := by omega
            have HMF := Lib.hid (hMk.out.ext (f' := fun b => b != 10) (fun c hc => by simp [hc]))
            clear hMk
            have HI := Lib.hid infoArr7'
            have C := Lib.hid (fun w => mkS_point ▸ cROf (fun b => b != 10) w)
            have HQ := Lib.hid HMF.out.Q
            generalize (arrV fun b => b != 10) = X at HQ HI C
            go_wp2_with (first
              | (refine wpList_load_row rfl 85 (.tmp 9) rfl q rfl 85 X (0, 0) _ HQ.out Tryd.underlying85 rfl HI.out ?_)
              | (go_at_call 42; refine (C.out _).mono ?_; rintro e w8 ⟨rfl, g8⟩; have G1 := Lib.hid (HMF.out.G.trans g8); clear g8)
              | (at_builtin; refine wpList_append_own _ rfl _ _ 56 rfl w.heap.size 82 iu _ 5 40 Tryd.underlying56 IU.out ZU0.out ZU1.out ZU2.out rfl (by decide) _ _ _ rfl ((owns_kept hW.out.L G1.out).alloc _) ⟨_, 0, none⟩ 1 1 [.int .u8 0, .int .u64 (wd (no (one 10)) 0), .int .u64 (wd (no (one 10)) 1), .int .u64 (wd (no (one 10)) 2), .int .u64 (wd (no (one 10)) 3)] rfl rfl (new_five _ _ _ _ _ _ _ _ (by simp)) (five_one _ _ _ _ _) (by have := hW.out.hn; have := hW.out.hi; unfold maxLen; omega) (by have := hW.out.hn; have := hW.out.hi; omega) (by have := hW.out.G.size; have := (G1.out).size; simp at this ⊢; omega) ?_; intro v2 w4 hown2 hgrow2 _))
            have HF := Lib.hid (gs_step (x := ⟨0, no (one 10)⟩) hW.out (World.grownBy.trans G1.out (World.grownBy_alloc _ _ none)) hown2 hgrow2 (i' := i + 1) (by omega) (by omega) (show (0 : Nat) < 256 by decide) GE.out)
            clear hown2 hgrow2
            go_roundw
            case rel => exact ⟨i + 1, _, by go_num, HF⟩
            case measure => simp [intOf]; omega
      by_cases hmk : c = 40 ∨ c = 41 ∨ c = 124 ∨ c = 42 ∨ c = 43 ∨ c = 63 ∨ c = 94 ∨ c = 36
      · have GE := Lib.hid (sgn_mark hi (by rw [← hc]; exact hmk))
        have G1 := Lib.hid (World.grownBy.refl wr none)
        clear h92 h91 h46
        rcases hmk with rfl | rfl | rfl | rfl | rfl | rfl | rfl | rfl
        · have hcI : (s[i].toNat : Int) = 40 := by omega
          rw [← hc] at GE
          clear hc HM8 hc256
          go_wp2_with (at_builtin; refine wpList_append_own _ rfl _ _ 56 rfl w.heap.size 82 iu _ 5 40 Tryd.underlying56 IU.out ZU0.out ZU1.out ZU2.out rfl (by decide) _ _ _ rfl ((owns_kept hW.out.L G1.out).alloc _) ⟨_, 0, none⟩ 1 1 [.int .u8 40, .int .u64 0, .int .u64 0, .int .u64 0, .int .u64 0] rfl rfl (new_five _ _ _ _ _ _ _ _ (by simp)) (five_one _ _ _ _ _) (by have := hW.out.hn; have := hW.out.hi; unfold maxLen; omega) (by have := hW.out.hn; have := hW.out.hi; omega) (by have := hW.out.G.size; simp; omega) ?_; intro v2 w4 hown2 hgrow2 _)
          have HF := Lib.hid (gs_step (x := ⟨40, emp⟩) hW.out (World.grownBy.trans G1.out (World.grownBy_alloc _ _ none)) (by simpa [wd_emp] using hown2) hgrow2 (i' := i + 1) (by omega) (by omega) (show (40 : Nat) < 256 by decide) GE.out)
          clear hown2 hgrow2
          go_roundw
          case rel => exact ⟨i + 1, _, by go_num, HF⟩
          case measure => simp [intOf]; omega
        · have hcI : (s[i].toNat : Int) = 41 := by omega
          rw [← hc] at GE
          clear hc HM8 hc256
          go_wp2_with (at_builtin; refine wpList_append_own _ rfl _ _ 56 rfl w.heap.size 82 iu _ 5 40 Tryd.underlying56 IU.out ZU0.out ZU1.out ZU2.out rfl (by decide) _ _ _ rfl ((owns_kept hW.out.L G1.out).alloc _) ⟨_, 0, none⟩ 1 1 [.int .u8 41, .int .u64 0, .int .u64 0, .int .u64 0, .int .u64 0] rfl rfl (new_five _ _ _ _ _ _ _ _ (by simp)) (five_one _ _ _ _ _) (by have := hW.out.hn; have := hW.out.hi; unfold maxLen; omega) (by have := hW.out.hn; have := hW.out.hi; omega) (by have := hW.out.G.size; simp; omega) ?_; intro v2 w4 hown2 hgrow2 _)
          have HF := Lib.hid (gs_step (x := ⟨41, emp⟩) hW.out (World.grownBy.trans G1.out (World.grownBy_alloc _ _ none)) (by simpa [wd_emp] using hown2) hgrow2 (i' := i + 1) (by omega) (by omega) (show (41 : Nat) < 256 by decide) GE.out)
          clear hown2 hgrow2
          go_roundw
          case rel => exact ⟨i + 1, _, by go_num, HF⟩
          case measure => simp [intOf]; omega
        · have hcI : (s[i].toNat : Int) = 124 := by omega
          rw [← hc] at GE
          clear hc HM8 hc256
          go_wp2_with (at_builtin; refine wpList_append_own _ rfl _ _ 56 rfl w.heap.size 82 iu _ 5 40 Tryd.underlying56 IU.out ZU0.out ZU1.out ZU2.out rfl (by decide) _ _ _ rfl ((owns_kept hW.out.L G1.out).alloc _) ⟨_, 0, none⟩ 1 1 [.int .u8 124, .int .u64 0, .int .u64 0, .int .u64 0, .int .u64 0] rfl rfl (new_five _ _ _ _ _ _ _ _ (by simp)) (five_one _ _ _ _ _) (by have := hW.out.hn; have := hW.out.hi; unfold maxLen; omega) (by have := hW.out.hn; have := hW.out.hi; omega) (by have := hW.out.G.size; simp; omega) ?_; intro v2 w4 hown2 hgrow2 _)
          have HF := Lib.hid (gs_step (x := ⟨124, emp⟩) hW.out (World.grownBy.trans G1.out (World.grownBy_alloc _ _ none)) (by simpa [wd_emp] using hown2) hgrow2 (i' := i + 1) (by omega) (by omega) (show (124 : Nat) < 256 by decide) GE.out)
          clear hown2 hgrow2
          go_roundw
          case rel => exact ⟨i + 1, _, by go_num, HF⟩
          case measure => simp [intOf]; omega
        · have hcI : (s[i].toNat : Int) = 42 := by omega
          rw [← hc] at GE
          clear hc HM8 hc256
          go_wp2_with (at_builtin; refine wpList_append_own _ rfl _ _ 56 rfl w.heap.size 82 iu _ 5 40 Tryd.underlying56 IU.out ZU0.out ZU1.out ZU2.out rfl (by decide) _ _ _ rfl ((owns_kept hW.out.L G1.out).alloc _) ⟨_, 0, none⟩ 1 1 [.int .u8 42, .int .u64 0, .int .u64 0, .int .u64 0, .int .u64 0] rfl rfl (new_five _ _ _ _ _ _ _ _ (by simp)) (five_one _ _ _ _ _) (by have := hW.out.hn; have := hW.out.hi; unfold maxLen; omega) (by have := hW.out.hn; have := hW.out.hi; omega) (by have := hW.out.G.size; simp; omega) ?_; intro v2 w4 hown2 hgrow2 _)
          have HF := Lib.hid (gs_step (x := ⟨42, emp⟩) hW.out (World.grownBy.trans G1.out (World.grownBy_alloc _ _ none)) (by simpa [wd_emp] using hown2) hgrow2 (i' := i + 1) (by omega) (by omega) (show (42 : Nat) < 256 by decide) GE.out)
          clear hown2 hgrow2
          go_roundw
          case rel => exact ⟨i + 1, _, by go_num, HF⟩
          case measure => simp [intOf]; omega
        · have hcI : (s[i].toNat : Int) = 43 := by omega
          rw [← hc] at GE
          clear hc HM8 hc256
          go_wp2_with (at_builtin; refine wpList_append_own _ rfl _ _ 56 rfl w.heap.size 82 iu _ 5 40 Tryd.underlying56 IU.out ZU0.out ZU1.out ZU2.out rfl (by decide) _ _ _ rfl ((owns_kept hW.out.L G1.out).alloc _) ⟨_, 0, none⟩ 1 1 [.int .u8 43, .int .u64 0, .int .u64 0, .int .u64 0, .int .u64 0] rfl rfl (new_five _ _ _ _ _ _ _ _ (by simp)) (five_one _ _ _ _ _) (by have := hW.out.hn; have := hW.out.hi; unfold maxLen; omega) (by have := hW.out.hn; have := hW.out.hi; omega) (by have := hW.out.G.size; simp; omega) ?_; intro v2 w4 hown2 hgrow2 _)
          have HF := Lib.hid (gs_step (x := ⟨43, emp⟩) hW.out (World.grownBy.trans G1.out (World.grownBy_alloc _ _ none)) (by simpa [wd_emp] using hown2) hgrow2 (i' := i + 1) (by omega) (by omega) (show (43 : Nat) < 256 by decide) GE.out)
          clear hown2 hgrow2
          go_roundw
          case rel => exact ⟨i + 1, _, by go_num, HF⟩
          case measure => simp [intOf]; omega
        · have hcI : (s[i].toNat : Int) = 63 := by omega
          rw [← hc] at GE
          clear hc HM8 hc256
          go_wp2_with (at_builtin; refine wpList_append_own _ rfl _ _ 56 rfl w.heap.size 82 iu _ 5 40 Tryd.underlying56 IU.out ZU0.out ZU1.out ZU2.out rfl (by decide) _ _ _ rfl ((owns_kept hW.out.L G1.out).alloc _) ⟨_, 0, none⟩ 1 1 [.int .u8 63, .int .u64 0, .int .u64 0, .int .u64 0, .int .u64 0] rfl rfl (new_five _ _ _ _ _ _ _ _ (by simp)) (five_one _ _ _ _ _) (by have := hW.out.hn; have := hW.out.hi; unfold maxLen; omega) (by have := hW.out.hn; have := hW.out.hi; omega) (by have := hW.out.G.size; simp; omega) ?_; intro v2 w4 hown2 hgrow2 _)
          have HF := Lib.hid (gs_step (x := ⟨63, emp⟩) hW.out (World.grownBy.trans G1.out (World.grownBy_alloc _ _ none)) (by simpa [wd_emp] using hown2) hgrow2 (i' := i + 1) (by omega) (by omega) (show (63 : Nat) < 256 by decide) GE.out)
          clear hown2 hgrow2
          go_roundw
          case rel => exact ⟨i + 1, _, by go_num, HF⟩
          case measure => simp [intOf]; omega
        · have hcI : (s[i].toNat : Int) = 94 := by omega
          rw [← hc] at GE
          clear hc HM8 hc256
          go_wp2_with (at_builtin; refine wpList_append_own _ rfl _ _ 56 rfl w.heap.size 82 iu _ 5 40 Tryd.underlying56 IU.out ZU0.out ZU1.out ZU2.out rfl (by decide) _ _ _ rfl ((owns_kept hW.out.L G1.out).alloc _) ⟨_, 0, none⟩ 1 1 [.int .u8 94, .int .u64 0, .int .u64 0, .int .u64 0, .int .u64 0] rfl rfl (new_five _ _ _ _ _ _ _ _ (by simp)) (five_one _ _ _ _ _) (by have := hW.out.hn; have := hW.out.hi; unfold maxLen; omega) (by have := hW.out.hn; have := hW.out.hi; omega) (by have := hW.out.G.size; simp; omega) ?_; intro v2 w4 hown2 hgrow2 _)
          have HF := Lib.hid (gs_step (x := ⟨94, emp⟩) hW.out (World.grownBy.trans G1.out (World.grownBy_alloc _ _ none)) (by simpa [wd_emp] using hown2) hgrow2 (i' := i + 1) (by omega) (by omega) (show (94 : Nat) < 256 by decide) GE.out)
          clear hown2 hgrow2
          go_roundw
          case rel => exact ⟨i + 1, _, by go_num, HF⟩
          case measure => simp [intOf]; omega
        · have hcI : (s[i].toNat : Int) = 36 := by omega
          rw [← hc] at GE
          clear hc HM8 hc256
          go_wp2_with (at_builtin; refine wpList_append_own _ rfl _ _ 56 rfl w.heap.size 82 iu _ 5 40 Tryd.underlying56 IU.out ZU0.out ZU1.out ZU2.out rfl (by decide) _ _ _ rfl ((owns_kept hW.out.L G1.out).alloc _) ⟨_, 0, none⟩ 1 1 [.int .u8 36, .int .u64 0, .int .u64 0, .int .u64 0, .int .u64 0] rfl rfl (new_five _ _ _ _ _ _ _ _ (by simp)) (five_one _ _ _ _ _) (by have := hW.out.hn; have := hW.out.hi; unfold maxLen; omega) (by have := hW.out.hn; have := hW.out.hi; omega) (by have := hW.out.G.size; simp; omega) ?_; intro v2 w4 hown2 hgrow2 _)
          have HF := Lib.hid (gs_step (x := ⟨36, emp⟩) hW.out (World.grownBy.trans G1.out (World.grownBy_alloc _ _ none)) (by simpa [wd_emp] using hown2) hgrow2 (i' := i + 1) (by omega) (by omega) (show (36 : Nat) < 256 by decide) GE.out)
          clear hown2 hgrow2
          go_roundw
          case rel => exact ⟨i + 1, _, by go_num, HF⟩
          case measure => simp [intOf]; omega
      · have GE := Lib.hid (sgn_lit hi (by rw [← hc]; omega))
        have HB1 := Lib.hid (UInt8.toNat_lt s[i])
        have n0 : ((s[i].toNat : Int) == 92) = false := by rw [← hc]; simp; omega
        have n1 : ((s[i].toNat : Int) == 91) = false := by rw [← hc]; simp; omega
        have n2 : ((s[i].toNat : Int) == 46) = false := by rw [← hc]; simp; omega
        have n3 : ((s[i].toNat : Int) == 40) = false := by rw [← hc]; simp; omega
        have n4 : ((s[i].toNat : Int) == 41) = false := by rw [← hc]; simp; omega
        have n5 : ((s[i].toNat : Int) == 124) = false := by rw [← hc]; simp; omega
        have n6 : ((s[i].toNat : Int) == 42) = false := by rw [← hc]; simp; omega
        have n7 : ((s[i].toNat : Int) == 43) = false := by rw [← hc]; simp; omega
        have n8 : ((s[i].toNat : Int) == 63) = false := by rw [← hc]; simp; omega
        have n9 : ((s[i].toNat : Int) == 94) = false := by rw [← hc]; simp; omega
        have na : ((s[i].toNat : Int) == 36) = false := by rw [← hc]; simp; omega
        clear h92 h91 h46 hmk hc hc256 HM8
        go_wp2_with (first
          | (go_at_call 40; refine (cSingle _ _ HB1.out).mono ?_; rintro e w1 ⟨rfl, g1⟩; have G1 := Lib.hid g1; clear g1)
          | (at_builtin; refine wpList_append_own _ rfl _ _ 56 rfl w.heap.size 82 iu _ 5 40 Tryd.underlying56 IU.out ZU0.out ZU1.out ZU2.out rfl (by decide) _ _ _ rfl ((owns_kept hW.out.L G1.out).alloc _) ⟨_, 0, none⟩ 1 1 [.int .u8 0, .int .u64 (wd (one s[i].toNat) 0), .int .u64 (wd (one s[i].toNat) 1), .int .u64 (wd (one s[i].toNat) 2), .int .u64 (wd (one s[i].toNat) 3)] rfl rfl (new_five _ _ _ _ _ _ _ _ (by simp)) (five_one _ _ _ _ _) (by have := hW.out.hn; have := hW.out.hi; unfold maxLen; omega) (by have := hW.out.hn; have := hW.out.hi; omega) (by have := hW.out.G.size; have := (G1.out).size; simp; omega) ?_; intro v2 w4 hown2 hgrow2 _))
        have HF := Lib.hid (gs_step (x := ⟨0, one s[i].toNat⟩) hW.out (World.grownBy.trans G1.out (World.grownBy_alloc _ _ none)) hown2 hgrow2 (i' := i + 1) (by omega) (by omega) (show (0 : Nat) < 256 by decide) GE.out)
        clear hown2 hgrow2
        go_roundw
        case rel => exact ⟨i + 1, _, by go_num, HF⟩
        case measure => simp [intOf]; omega
    · have EN := Lib.hid (show sgn s 0 = some acc by rw [hW.out.hg, sgn_end hi]; simp)
      have SR := Lib.hid (sgr_of_owns hW.out.L (by have := hW.out.hn; omega) hW.out.hm)
      have hd : decide ((i : Int) < s.size) = false := decide_eq_false (by omega)
      go_wp2
      go_ret2
      exact ⟨by rw [EN.out]; exact ⟨_, rfl, SR.out⟩, hW.out.G⟩
end Go.Proofs.YtliefnjhobdphaaDoor
