/- The document's own answer on the signs of a text. -/
import Derived.Test.YtonbcldhbinmeaaDoorRexB
namespace Go.Proofs.YtonbcldhbinmeaaDoor
open Go.RowKit

theorem sgn_end {s : ByteArray} {i : Nat} (h : ¬ i < s.size) : sgn s i = some [] := by rw [sgn, dif_neg h]
theorem sgn_esc {s : ByteArray} {i : Nat} (h : i < s.size) (h1 : s[i].toNat = 92) (h2 : i + 1 < s.size) : sgn s i = (sgn s (i + 2)).map (⟨0, one s[i + 1].toNat⟩ :: ·) := by
  rw [sgn, dif_pos h, if_pos (UInt8.toNat_inj.1 h1), dif_pos h2]
theorem sgn_escbad {s : ByteArray} {i : Nat} (h : i < s.size) (h1 : s[i].toNat = 92) (h2 : ¬ i + 1 < s.size) : sgn s i = none := by
  rw [sgn, dif_pos h, if_pos (UInt8.toNat_inj.1 h1), dif_neg h2]
theorem ne_byte {a : UInt8} {n : Nat} (b : UInt8) (h : a.toNat = n) (hb : b.toNat ≠ n) : a ≠ b := fun e => hb (by rw [← e]; exact h)
theorem sgn_cls {s : ByteArray} {i : Nat} {t : BitVec 256} {e : Nat} (h : i < s.size) (h1 : s[i].toNat = 91) (h2 : clsP s (i + 1) = some (t, e)) : sgn s i = (sgn s (e + 1)).map (⟨0, t⟩ :: ·) := by
  rw [sgn, dif_pos h, if_neg (ne_byte 92 h1 (by decide)), if_pos (UInt8.toNat_inj.1 h1)]
  split
  · rename_i hc; rw [h2] at hc; cases hc
  · rename_i t' e' hc; rw [h2] at hc; cases hc; rfl
theorem sgn_clsbad {s : ByteArray} {i : Nat} (h : i < s.size) (h1 : s[i].toNat = 91) (h2 : clsP s (i + 1) = none) : sgn s i = none := by
  rw [sgn, dif_pos h, if_neg (ne_byte 92 h1 (by decide)), if_pos (UInt8.toNat_inj.1 h1)]
  split
  · rfl
  · rename_i t' e' hc; rw [h2] at hc; cases hc
theorem sgn_dot {s : ByteArray} {i : Nat} (h : i < s.size) (h1 : s[i].toNat = 46) : sgn s i = (sgn s (i + 1)).map (⟨0, no (one 10)⟩ :: ·) := by
  rw [sgn, dif_pos h, if_neg (ne_byte 92 h1 (by decide)), if_neg (ne_byte 91 h1 (by decide)), if_pos (UInt8.toNat_inj.1 h1)]
theorem sgn_mark {s : ByteArray} {i : Nat} (h : i < s.size) (h1 : s[i].toNat = 40 ∨ s[i].toNat = 41 ∨ s[i].toNat = 124 ∨ s[i].toNat = 42 ∨ s[i].toNat = 43 ∨ s[i].toNat = 63 ∨ s[i].toNat = 94 ∨ s[i].toNat = 36) : sgn s i = (sgn s (i + 1)).map (⟨s[i].toNat, emp⟩ :: ·) := by
  have a : s[i] ≠ 92 := fun e => by rw [e] at h1; revert h1; decide
  have b : s[i] ≠ 91 := fun e => by rw [e] at h1; revert h1; decide
  have c : s[i] ≠ 46 := fun e => by rw [e] at h1; revert h1; decide
  have d : isMark s[i].toNat = true := by unfold isMark; rcases h1 with h | h | h | h | h | h | h | h <;> (rw [h]; rfl)
  rw [sgn, dif_pos h, if_neg a, if_neg b, if_neg c, if_pos d]
theorem sgn_lit {s : ByteArray} {i : Nat} (h : i < s.size) (h1 : s[i].toNat ≠ 92 ∧ s[i].toNat ≠ 91 ∧ s[i].toNat ≠ 46 ∧ s[i].toNat ≠ 40 ∧ s[i].toNat ≠ 41 ∧ s[i].toNat ≠ 124 ∧ s[i].toNat ≠ 42 ∧ s[i].toNat ≠ 43 ∧ s[i].toNat ≠ 63 ∧ s[i].toNat ≠ 94 ∧ s[i].toNat ≠ 36) : sgn s i = (sgn s (i + 1)).map (⟨0, one s[i].toNat⟩ :: ·) := by
  obtain ⟨h1, h2, h3, h4, h5, h6, h7, h8, h9, h10, h11⟩ := h1
  have a : s[i] ≠ 92 := fun e => h1 (by rw [e]; rfl)
  have b : s[i] ≠ 91 := fun e => h2 (by rw [e]; rfl)
  have c : s[i] ≠ 46 := fun e => h3 (by rw [e]; rfl)
  have d : isMark s[i].toNat = false := by unfold isMark; simp [h4, h5, h6, h7, h8, h9, h10, h11]
  rw [sgn, dif_pos h, if_neg a, if_neg b, if_neg c, if_neg (by rw [d]; decide)]

/-- a row of signs whose length goes into its capacity -/
def SgR (w : World) (v : Value) (l : List Sg) : Prop := SgRow w v l ∧ ∀ a n c, v = .slice a n c → n ≤ c
theorem SgR.grown {w w' : World} {v : Value} {l : List Sg} (h : SgR w v l) (g : w.grownBy w' none) : SgR w' v l := ⟨h.1.grown g, h.2⟩
def SgnOut (o : Option (List Sg)) (w' : World) (e : Ending) : Prop :=
  match o with
  | some l => ∃ v, e = .returned (.tuple #[v, .bool true]) ∧ SgR w' v l
  | none => e = .returned (.tuple #[.slice none 0 0, .bool false])
def cells5 (l : List Sg) : List Value := l.flatMap (fun x => [.int .u8 x.m, .int .u64 (wd x.s 0), .int .u64 (wd x.s 1), .int .u64 (wd x.s 2), .int .u64 (wd x.s 3)])
theorem cells5_snoc (l : List Sg) (x : Sg) : cells5 (l ++ [x]) = cells5 l ++ [.int .u8 x.m, .int .u64 (wd x.s 0), .int .u64 (wd x.s 1), .int .u64 (wd x.s 2), .int .u64 (wd x.s 3)] := by unfold cells5; simp
theorem infoSg : (Tryd.prog.info? 77).map (fun i => (i.zero, i.size, i.bytes)) = some (some (.agg #[.int .u8 0, .int .u64 0, .int .u64 0, .int .u64 0, .int .u64 0]), 5, 40) := by kernel_rfl
theorem new_five (w : World) (v0 v1 v2 v3 v4 : Value) (t : TypeId) (n : Nat) (hn : n = w.heap.size) : ∀ j u, ([v0, v1, v2, v3, v4] : List Value)[j]? = some u → (w.alloc (.cells #[v0, v1, v2, v3, v4] t)).cell? ((⟨n, 0, none⟩ : Addr).add j) = some u := by
  subst hn
  exact World.news_of_block (cs := #[v0, v1, v2, v3, v4]) (t := t) (fr := (0, 0)) (heap_alloc_new w _)
theorem five_one (m : Int) (a b c d : Int) : ∀ u ∈ ([.int .u8 m, .int .u64 a, .int .u64 b, .int .u64 c, .int .u64 d] : List Value), u.oneCell' = true := by
  intro u hu; simp at hu; rcases hu with rfl | rfl | rfl | rfl | rfl <;> rfl

/-- what the signs' loop knows -/
structure GS (s : ByteArray) (w : World) (i : Nat) (acc : List Sg) (out : Value) (wr : World) : Prop where
  hi : i ≤ s.size
  hn : acc.length ≤ i
  hm : ∀ x ∈ acc, x.m < 256
  hg : sgn s 0 = (sgn s i).map (acc ++ ·)
  L : wr.ownsRow w.heap.size 77 5 out acc.length (cells5 acc)
  G : w.grownBy wr none
theorem gs_step {s : ByteArray} {w : World} {i i' : Nat} {acc : List Sg} {out v2 : Value} {wr w1 w2 : World} {x : Sg} (h : GS s w i acc out wr) (g0 : wr.grownBy w1 none)
    (o : w2.ownsRow w.heap.size 77 5 v2 (acc.length + 1) (cells5 acc ++ [.int .u8 x.m, .int .u64 (wd x.s 0), .int .u64 (wd x.s 1), .int .u64 (wd x.s 2), .int .u64 (wd x.s 3)]))
    (g : w1.grownBy w2 out.ownBlock) (h1 : i < i') (h2 : i' ≤ s.size) (hx : x.m < 256) (hg : sgn s i = (sgn s i').map (x :: ·)) : GS s w i' (acc ++ [x]) v2 w2 := by
  have hn := h.hn
  refine ⟨h2, by simp; omega, ?_, ?_, ?_, (h.G.trans g0).andThen g (fun j e => .inl (h.L.lt j e).1)⟩
  · intro y hy
    rcases List.mem_append.1 hy with hy | hy
    · exact h.hm y hy
    · simp at hy; subst hy; exact hx
  · rw [h.hg, hg, Option.map_map]
    congr 1
    funext l
    simp
  · rw [cells5_snoc, List.length_append]; exact o
theorem sgrow_of_owns {w : World} {base : Nat} {v : Value} {l : List Sg} (h : w.ownsRow base 77 5 v l.length (cells5 l)) (hn : l.length ≤ 100) (hm : ∀ x ∈ l, x.m < 256) : SgRow w v l := by
  have cell5 : ∀ (l : List Sg) (k : Nat) (x : Sg), l[k]? = some x → (cells5 l)[k * 5]? = some (.int .u8 x.m) ∧ (cells5 l)[k * 5 + 1]? = some (.int .u64 (wd x.s 0)) ∧ (cells5 l)[k * 5 + 2]? = some (.int .u64 (wd x.s 1)) ∧ (cells5 l)[k * 5 + 3]? = some (.int .u64 (wd x.s 2)) ∧ (cells5 l)[k * 5 + 4]? = some (.int .u64 (wd x.s 3)) := by
    intro l
    induction l with
    | nil => intro k x hx; simp at hx
    | cons y l ih =>
      intro k x hx
      cases k with
      | zero => simp at hx; subst hx; exact ⟨rfl, rfl, rfl, rfl, rfl⟩
      | succ k =>
        have := ih k x (by simpa using hx)
        have e : cells5 (y :: l) = [.int .u8 y.m, .int .u64 (wd y.s 0), .int .u64 (wd y.s 1), .int .u64 (wd y.s 2), .int .u64 (wd y.s 3)] ++ cells5 l := rfl
        rw [e, show (k + 1) * 5 = k * 5 + 5 by omega]
        simp only [List.getElem?_append, List.length_cons, List.length_nil]
        refine ⟨?_, ?_, ?_, ?_, ?_⟩
        · rw [if_neg (by omega), show k * 5 + 5 - (0 + 1 + 1 + 1 + 1 + 1) = k * 5 by omega]; exact this.1
        · rw [if_neg (by omega), show k * 5 + 5 + 1 - (0 + 1 + 1 + 1 + 1 + 1) = k * 5 + 1 by omega]; exact this.2.1
        · rw [if_neg (by omega), show k * 5 + 5 + 2 - (0 + 1 + 1 + 1 + 1 + 1) = k * 5 + 2 by omega]; exact this.2.2.1
        · rw [if_neg (by omega), show k * 5 + 5 + 3 - (0 + 1 + 1 + 1 + 1 + 1) = k * 5 + 3 by omega]; exact this.2.2.2.1
        · rw [if_neg (by omega), show k * 5 + 5 + 4 - (0 + 1 + 1 + 1 + 1 + 1) = k * 5 + 4 by omega]; exact this.2.2.2.2
  rcases h.2 with ⟨rfl, h0⟩ | ⟨g, cap, cur, rfl, hb', hg, h1, h2, h3, h4⟩
  · exact ⟨none, 0, by rw [h0], ⟨hn, hm⟩, fun hne => absurd (List.eq_nil_of_length_eq_zero h0) hne⟩
  · refine ⟨_, cap, rfl, ⟨hn, hm⟩, fun _ => ⟨g, 0, rfl, (Array.getElem?_eq_some_iff.1 hg).1, fun k x hx => ?_⟩⟩
    obtain ⟨a0, a1, a2, a3, a4⟩ := cell5 l k x hx
    have at_ : ∀ j u, (cells5 l)[j]? = some u → w.cell? ⟨g, 0 + j, none⟩ = some u := fun j u hu => by
      have := h.cells (g := g) rfl j u hu
      rwa [Addr.add_lit] at this
    exact ⟨at_ _ _ a0, at_ _ _ a1, at_ _ _ a2, at_ _ _ a3, at_ _ _ a4⟩
theorem sgr_of_owns {w : World} {base : Nat} {v : Value} {l : List Sg} (h : w.ownsRow base 77 5 v l.length (cells5 l)) (hn : l.length ≤ 100) (hm : ∀ x ∈ l, x.m < 256) : SgR w v l := by
  refine ⟨sgrow_of_owns h hn hm, fun a n c e => ?_⟩
  rcases h.2 with ⟨rfl, h0⟩ | ⟨g, cap, cur, rfl, _, _, h1, _⟩
  · cases e; exact Nat.le_refl _
  · cases e; exact h1
end Go.Proofs.YtonbcldhbinmeaaDoor
