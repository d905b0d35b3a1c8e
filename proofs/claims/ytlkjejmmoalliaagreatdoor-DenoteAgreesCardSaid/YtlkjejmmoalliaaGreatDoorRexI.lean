/- The document's own answer on the signs of a text. The document's own answer on the signs of a text: the walk. Nodes in memory; the document's own one. The machine of signs: what its runs keep. Classes read from the left, member by member (plain). What is left to do at a place of a text: the machine of signs over what follows (plain). -/
import Derived.Test.YtlkjejmmoalliaaGreatDoorRexB
import Derived.Deep.DeepMust
namespace Go.Proofs.YtlkjejmmoalliaaGreatDoor
open Go.RowKit

theorem sgn_end {s : ByteArray} {i : Nat} (h : ¬ i < s.size) : sgn s i = some [] := by rw [sgn, dif_neg h]
theorem sgn_esc {s : ByteArray} {i : Nat} (h : i < s.size) (h1 : s[i].toNat = 92) (h2 : i + 1 < s.size) : sgn s i = (sgn s (i + 2)).map (⟨0, one s[i + 1].toNat⟩ :: ·) := by
  rw [sgn, dif_pos h, if_pos (UInt8.toNat_inj.1 h1), dif_pos h2]
theorem sgn_escbad {s : ByteArray} {i : Nat} (h : i < s.size) (h1 : s[i].toNat = 92) (h2 : ¬ i + 1 < s.size) : sgn s i = none := by
  rw [sgn, dif_pos h, if_pos (UInt8.toNat_inj.1 h1), dif_neg h2]
theorem ne_byte {a : UInt8} {n : Nat} (b : UInt8) (h : a.toNat = n) (hb : b.toNat ≠ n) : a ≠ b := fun e => hb (by rw [← e]; exact h)
theorem sgn_cls {s : ByteArray} {i : Nat} {t : BitVec 256} {e : Nat} (h : i < s.size) (h1 : s[i].toNat = 91) (h2 : clsP s (i + 1) = some (t, e)) : sgn s i = (sgn s (e + 1)).map (⟨0, t⟩ :: ·) := by
  rw [sgn, dif_pos h, if_neg (ne_byte 92 h1 (by decide)), if_pos (UInt8.toNat_inj.1 h1)]
  split
  · rename_i hc; rw [h2] at hc; cases hc
  · rename_i t' e' hc; rw [h2] at hc; cases hc; rfl
theorem sgn_clsbad {s : ByteArray} {i : Nat} (h : i < s.size) (h1 : s[i].toNat = 91) (h2 : clsP s (i + 1) = none) : sgn s i = none := by
  rw [sgn, dif_pos h, if_neg (ne_byte 92 h1 (by decide)), if_pos (UInt8.toNat_inj.1 h1)]
  split
  · rfl
  · rename_i t' e' hc; rw [h2] at hc; cases hc
theorem sgn_dot {s : ByteArray} {i : Nat} (h : i < s.size) (h1 : s[i].toNat = 46) : sgn s i = (sgn s (i + 1)).map (⟨0, no (one 10)⟩ :: ·) := by
  rw [sgn, dif_pos h, if_neg (ne_byte 92 h1 (by decide)), if_neg (ne_byte 91 h1 (by decide)), if_pos (UInt8.toNat_inj.1 h1)]
theorem sgn_mark {s : ByteArray} {i : Nat} (h : i < s.size) (h1 : s[i].toNat = 40 ∨ s[i].toNat = 41 ∨ s[i].toNat = 124 ∨ s[i].toNat = 42 ∨ s[i].toNat = 43 ∨ s[i].toNat = 63 ∨ s[i].toNat = 94 ∨ s[i].toNat = 36) : sgn s i = (sgn s (i + 1)).map (⟨s[i].toNat, emp⟩ :: ·) := by
  have a : s[i] ≠ 92 := fun e => by rw [e] at h1; revert h1; decide
  have b : s[i] ≠ 91 := fun e => by rw [e] at h1; revert h1; decide
  have c : s[i] ≠ 46 := fun e => by rw [e] at h1; revert h1; decide
  have d : isMark s[i].toNat = true := by unfold isMark; rcases h1 with h | h | h | h | h | h | h | h <;> (rw [h]; rfl)
  rw [sgn, dif_pos h, if_neg a, if_neg b, if_neg c, if_pos d]
theorem sgn_lit {s : ByteArray} {i : Nat} (h : i < s.size) (h1 : s[i].toNat ≠ 92 ∧ s[i].toNat ≠ 91 ∧ s[i].toNat ≠ 46 ∧ s[i].toNat ≠ 40 ∧ s[i].toNat ≠ 41 ∧ s[i].toNat ≠ 124 ∧ s[i].toNat ≠ 42 ∧ s[i].toNat ≠ 43 ∧ s[i].toNat ≠ 63 ∧ s[i].toNat ≠ 94 ∧ s[i].toNat ≠ 36) : sgn s i = (sgn s (i + 1)).map (⟨0, one s[i].toNat⟩ :: ·) := by
  obtain ⟨h1, h2, h3, h4, h5, h6, h7, h8, h9, h10, h11⟩ := h1
  have a : s[i] ≠ 92 := fun e => h1 (by rw [e]; rfl)
  have b : s[i] ≠ 91 := fun e => h2 (by rw [e]; rfl)
  have c : s[i] ≠ 46 := fun e => h3 (by rw [e]; rfl)
  have d : isMark s[i].toNat = false := by unfold isMark; simp [h4, h5, h6, h7, h8, h9, h10, h11]
  rw [sgn, dif_pos h, if_neg a, if_neg b, if_neg c, if_neg (by rw [d]; decide)]

/-- a row of signs whose length goes into its capacity -/
def SgR (w : World) (v : Value) (l : List Sg) : Prop := SgRow w v l ∧ ∀ a n c, v = .slice a n c → n ≤ c
theorem SgR.grown {w w' : World} {v : Value} {l : List Sg} (h : SgR w v l) (g : w.grownBy w' none) : SgR w' v l := ⟨h.1.grown g, h.2⟩
def SgnOut (o : Option (List Sg)) (w' : World) (e : Ending) : Prop :=
  match o with
  | some l => ∃ v, e = .returned (.tuple #[v, .bool true]) ∧ SgR w' v l
  | none => e = .returned (.tuple #[.slice none 0 0, .bool false])
def cells5 (l : List Sg) : List Value := l.flatMap (fun x => [.int .u8 x.m, .int .u64 (wd x.s 0), .int .u64 (wd x.s 1), .int .u64 (wd x.s 2), .int .u64 (wd x.s 3)])
theorem cells5_snoc (l : List Sg) (x : Sg) : cells5 (l ++ [x]) = cells5 l ++ [.int .u8 x.m, .int .u64 (wd x.s 0), .int .u64 (wd x.s 1), .int .u64 (wd x.s 2), .int .u64 (wd x.s 3)] := by unfold cells5; simp
theorem new_five (w : World) (v0 v1 v2 v3 v4 : Value) (t : TypeId) (n : Nat) (hn : n = w.heap.size) : ∀ j u, ([v0, v1, v2, v3, v4] : List Value)[j]? = some u → (w.alloc (.cells #[v0, v1, v2, v3, v4] t)).cell? ((⟨n, 0, none⟩ : Addr).add j) = some u := by
  subst hn
  exact World.news_of_block (cs := #[v0, v1, v2, v3, v4]) (t := t) (fr := (0, 0)) (heap_alloc_new w _)
theorem five_one (m : Int) (a b c d : Int) : ∀ u ∈ ([.int .u8 m, .int .u64 a, .int .u64 b, .int .u64 c, .int .u64 d] : List Value), u.oneCell' = true := by
  intro u hu; simp at hu; rcases hu with rfl | rfl | rfl | rfl | rfl <;> rfl

end Go.Proofs.YtlkjejmmoalliaaGreatDoor

namespace Go.Proofs.YtlkjejmmoalliaaGreatDoor
open Go.RowKit

theorem mkS_point : mkS (fun b => b != 10) = no (one 10) := inn_ext fun j hj => by
  rw [inn_mkS _ j hj, inn_no _ _ hj, inn_one 10 j hj, Bool.eq_iff_iff]; simp
theorem pt_step (k : Nat) : (arrV (fun c => decide (c < k) && c != 10)).setIfInBounds k (.bool ((k : Int) != 10)) = arrV (fun c => decide (c < k + 1) && c != 10) :=
  arr_put _ _ k _ fun b _ => by
    by_cases h : b = k
    · subst h; rw [if_pos rfl, Bool.eq_iff_iff]; simp; omega
    · have : (b < k + 1) = (b < k) := by apply propext; omega
      simp [h, this]

end Go.Proofs.YtlkjejmmoalliaaGreatDoor

namespace Go.Proofs.YtlkjejmmoalliaaGreatDoor
open Go.RowKit

def cells7 (n : Nd) (kv : Value) : List Value := [.int .i64 n.kind, .int .i64 n.index, .int .u64 (wd n.set 0), .int .u64 (wd n.set 1), .int .u64 (wd n.set 2), .int .u64 (wd n.set 3), kv]
abbrev ndV (n : Nd) (kv : Value) : Value := .agg #[.int .i64 n.kind, .int .i64 n.index, .int .u64 (wd n.set 0), .int .u64 (wd n.set 1), .int .u64 (wd n.set 2), .int .u64 (wd n.set 3), kv]
/-- a slice of nodes that lies in memory, in blocks that p lets -/
inductive KidsAt (w : World) (p : Nat → Prop) : Value → List Nd → Prop
  | empty (a : Option Addr) (c : Nat) : KidsAt w p (.slice a 0 c) []
  | items (b off c : Nat) (l : List Nd) (kv : Nat → Value) (hl : l ≠ []) (hp : p b) (hq : l.length ≤ c)
      (hc : ∀ k n, l[k]? = some n → ∀ j u, (cells7 n (kv k))[j]? = some u → w.cell? ⟨b, off + k * 7 + j, none⟩ = some u)
      (hk : ∀ k n, l[k]? = some n → KidsAt w p (kv k) n.kids) : KidsAt w p (.slice (some ⟨b, off, none⟩) l.length c) l
theorem KidsAt.kept {w w' : World} {p : Nat → Prop} {v : Value} {l : List Nd} (h : KidsAt w p v l) (hw : ∀ b off u, p b → w.cell? ⟨b, off, none⟩ = some u → w'.cell? ⟨b, off, none⟩ = some u) : KidsAt w' p v l := by
  induction h with
  | empty a c => exact .empty a c
  | items b off c l kv hl hp hq hc hk ih => exact .items b off c l kv hl hp hq (fun k n hn j u hu => hw _ _ _ hp (hc k n hn j u hu)) ih
theorem KidsAt.weak {w : World} {p q : Nat → Prop} {v : Value} {l : List Nd} (h : KidsAt w p v l) (hw : ∀ b, b < w.heap.size → p b → q b) : KidsAt w q v l := by
  induction h with
  | empty a c => exact .empty a c
  | items b off c l kv hl hp hq hc hk ih =>
    refine .items b off c l kv hl (hw b ?_ hp) hq hc ih
    cases l with
    | nil => exact absurd rfl hl
    | cons n l => exact cell_block (hc 0 n rfl 0 _ rfl)
theorem KidsAt.grown {w w' : World} {p : Nat → Prop} {v : Value} {l : List Nd} (h : KidsAt w p v l) (g : w.grownBy w' none) : KidsAt w' p v l :=
  h.kept fun _ _ _ _ hc => g.cell hc (by simp)
/-- kids that lie apart from a row that turns -/
theorem KidsAt.turn {w w' : World} {r : Option Nat} {v : Value} {l : List Nd} (h : KidsAt w (fun b => some b ≠ r) v l) (g : w.grownBy w' r) : KidsAt w' (fun b => some b ≠ r) v l :=
  h.kept fun _ _ _ hb hc => g.cell hc hb
theorem KidsAt.shape {w : World} {p : Nat → Prop} {v : Value} {l : List Nd} (h : KidsAt w p v l) : ∃ a c, v = .slice a l.length c := by
  cases h with
  | empty a c => exact ⟨a, c, rfl⟩
  | items b off c l kv hl hp hq hc hk => exact ⟨_, c, rfl⟩
theorem KidsAt.first {w : World} {p : Nat → Prop} {v : Value} {n : Nd} {l : List Nd} (h : KidsAt w p v (n :: l)) : ∃ b off c kv, v = .slice (some ⟨b, off, none⟩) (n :: l).length c ∧ (∀ j u, (cells7 n kv)[j]? = some u → w.cell? ⟨b, off + j, none⟩ = some u) ∧ KidsAt w p kv n.kids := by
  generalize hm : n :: l = m at h ⊢
  cases h with
  | empty a c => cases hm
  | items b off c l' kv hl hp hq hc hk =>
    subst hm
    exact ⟨b, off, c, kv 0, rfl, fun j u hu => by have := hc 0 n rfl j u hu; rwa [Nat.zero_mul, Nat.add_zero] at this, hk 0 n rfl⟩
/-- several nodes as one -/
def oneN (m : Nat) (l : List Nd) : Nd := match l with | [] => ndE | [n] => n | l => .mk m 0 emp l
theorem oneN_cat (l : List Nd) : oneN 2 l = catN l := rfl
theorem oneN_alt (l : List Nd) : oneN 3 l = altN l := rfl
theorem seven_cells {w : World} {b : Nat} {v0 v1 v2 v3 v4 v5 v6 : Value} {t : TypeId} (h : w.heap[b]? = some (.cells #[v0, v1, v2, v3, v4, v5, v6] t (0, 0))) :
    w.cell? ⟨b, 0, none⟩ = some v0 ∧ w.cell? ⟨b, 1, none⟩ = some v1 ∧ w.cell? ⟨b, 2, none⟩ = some v2 ∧ w.cell? ⟨b, 3, none⟩ = some v3 ∧ w.cell? ⟨b, 4, none⟩ = some v4 ∧ w.cell? ⟨b, 5, none⟩ = some v5 ∧ w.cell? ⟨b, 6, none⟩ = some v6 := by
  refine ⟨?_, ?_, ?_, ?_, ?_, ?_, ?_⟩ <;> (unfold World.cell?; rw [h]; rfl)

theorem set_seven {w : World} {b : Nat} {a0 a1 a2 a3 a4 a5 a6 : Value} {t : TypeId} (h : w.heap[b]? = some (.cells #[a0, a1, a2, a3, a4, a5, a6] t (0, 0))) (v0 v1 v2 v3 v4 v5 v6 : Value) :
    (((((((w.setCell ⟨b, 0, none⟩ v0).setCell ⟨b, 1, none⟩ v1).setCell ⟨b, 2, none⟩ v2).setCell ⟨b, 3, none⟩ v3).setCell ⟨b, 4, none⟩ v4).setCell ⟨b, 5, none⟩ v5).setCell ⟨b, 6, none⟩ v6).heap[b]? = some (.cells #[v0, v1, v2, v3, v4, v5, v6] t (0, 0)) := by
  have h0 : (w.setCell ⟨b, 0, none⟩ v0).heap[b]? = some (.cells #[v0, a1, a2, a3, a4, a5, a6] t (0, 0)) := heap_setCell_same w b 0 _ _ v0 h
  generalize w.setCell ⟨b, 0, none⟩ v0 = w0 at h0 ⊢
  have h1 : (w0.setCell ⟨b, 1, none⟩ v1).heap[b]? = some (.cells #[v0, v1, a2, a3, a4, a5, a6] t (0, 0)) := heap_setCell_same w0 b 1 _ _ v1 h0
  generalize w0.setCell ⟨b, 1, none⟩ v1 = w1 at h1 ⊢
  have h2 : (w1.setCell ⟨b, 2, none⟩ v2).heap[b]? = some (.cells #[v0, v1, v2, a3, a4, a5, a6] t (0, 0)) := heap_setCell_same w1 b 2 _ _ v2 h1
  generalize w1.setCell ⟨b, 2, none⟩ v2 = w2 at h2 ⊢
  have h3 : (w2.setCell ⟨b, 3, none⟩ v3).heap[b]? = some (.cells #[v0, v1, v2, v3, a4, a5, a6] t (0, 0)) := heap_setCell_same w2 b 3 _ _ v3 h2
  generalize w2.setCell ⟨b, 3, none⟩ v3 = w3 at h3 ⊢
  have h4 : (w3.setCell ⟨b, 4, none⟩ v4).heap[b]? = some (.cells #[v0, v1, v2, v3, v4, a5, a6] t (0, 0)) := heap_setCell_same w3 b 4 _ _ v4 h3
  generalize w3.setCell ⟨b, 4, none⟩ v4 = w4 at h4 ⊢
  have h5 : (w4.setCell ⟨b, 5, none⟩ v5).heap[b]? = some (.cells #[v0, v1, v2, v3, v4, v5, a6] t (0, 0)) := heap_setCell_same w4 b 5 _ _ v5 h4
  generalize w4.setCell ⟨b, 5, none⟩ v5 = w5 at h5 ⊢
  exact heap_setCell_same w5 b 6 _ _ v6 h5
theorem set7_far {w : World} {b r o : Nat} {u v0 v1 v2 v3 v4 v5 v6 : Value} (h : w.cell? ⟨b, o, none⟩ = some u) (hb : b ≠ r) :
    (((((((w.setCell ⟨r, 0, none⟩ v0).setCell ⟨r, 1, none⟩ v1).setCell ⟨r, 2, none⟩ v2).setCell ⟨r, 3, none⟩ v3).setCell ⟨r, 4, none⟩ v4).setCell ⟨r, 5, none⟩ v5).setCell ⟨r, 6, none⟩ v6).cell? ⟨b, o, none⟩ = some u := by
  have st : ∀ (w : World) (j : Nat) (v : Value), w.cell? ⟨b, o, none⟩ = some u → (w.setCell ⟨r, j, none⟩ v).cell? ⟨b, o, none⟩ = some u := fun w j v hw => (World.cell?_setCell_far w ⟨r, j, none⟩ ⟨b, o, none⟩ _ (Ne.symm hb)).trans hw
  exact st _ 6 _ (st _ 5 _ (st _ 4 _ (st _ 3 _ (st _ 2 _ (st _ 1 _ (st _ 0 _ h))))))
theorem grown7 {w w1 : World} {b : Nat} {v0 v1 v2 v3 v4 v5 v6 : Value} (h : w.grownBy w1 none) (hb : w.heap.size ≤ b) :
    w.grownBy (((((((w1.setCell ⟨b, 0, none⟩ v0).setCell ⟨b, 1, none⟩ v1).setCell ⟨b, 2, none⟩ v2).setCell ⟨b, 3, none⟩ v3).setCell ⟨b, 4, none⟩ v4).setCell ⟨b, 5, none⟩ v5).setCell ⟨b, 6, none⟩ v6) none :=
  grown_set (grown_set (grown_set (grown_set (grown_set (grown_set (grown_set h _ _ hb) _ _ hb) _ _ hb) _ _ hb) _ _ hb) _ _ hb) _ _ hb
end Go.Proofs.YtlkjejmmoalliaaGreatDoor

namespace Go.Proofs.YtlkjejmmoalliaaGreatDoor
open Go.RowKit

def clsC (l : List Sg) : Nat := l.countP (fun x => x.m == 41)
def dep (l : List Sg) : Int := (opnC l : Int) - clsC l
theorem dep_nil : dep [] = 0 := rfl
theorem opn_append (l r : List Sg) : opnC (l ++ r) = opnC l + opnC r := by unfold opnC; exact List.countP_append
theorem dep_append (l r : List Sg) : dep (l ++ r) = dep l + dep r := by unfold dep opnC clsC; rw [List.countP_append, List.countP_append]; omega
theorem opn_cons (x : Sg) (l : List Sg) : opnC (x :: l) = (if x.m = 40 then 1 else 0) + opnC l := by
  unfold opnC; rw [List.countP_cons]; by_cases h : x.m = 40 <;> simp [h]; omega
theorem dep_cons (x : Sg) (l : List Sg) : dep (x :: l) = (if x.m = 40 then 1 else 0) - (if x.m = 41 then 1 else 0) + dep l := by
  unfold dep opnC clsC; rw [List.countP_cons, List.countP_cons]
  by_cases h : x.m = 40
  · have h' : ¬ x.m = 41 := by omega
    simp [h]; omega
  · by_cases h' : x.m = 41
    · simp [h']; omega
    · simp [h, h']
/-- what one step does to the frames and the count -/
theorem step_len {x : Sg} {q q' : Mc} (h : stepM x q = some q') : (q'.st.length : Int) = q.st.length + (if x.m = 40 then 1 else 0) - (if x.m = 41 then 1 else 0) ∧ q'.c = q.c + (if x.m = 40 then 1 else 0) := by
  unfold stepM at h
  split at h
  · rename_i e; cases h; simp [e]
  split at h
  · rename_i e; cases h; simp [e]
  split at h
  · rename_i e; cases h; simp [e]
  split at h
  · rename_i e
    have a : x.m ≠ 40 := by omega
    have b : x.m ≠ 41 := by omega
    split at h
    · cases h
    · cases h; simp [a, b]
  split at h
  · rename_i e; cases h; simp [e]
  split at h
  · rename_i e; cases h; simp [e]
  split at h
  · rename_i e
    split at h
    · cases h
    · rename_i hs; cases h; simp [e, hs]
  · cases h
theorem step_close {x : Sg} {q : Mc} (h : x.m = 41) (hs : q.st = []) : stepM x q = none := by
  unfold stepM; simp [h, hs]
/-- frames laid under -/
def liftF (s0 : List (List Nd × List Nd × Nat)) (q : Mc) : Mc := { q with st := q.st ++ s0 }
theorem step_lift (s0 : List (List Nd × List Nd × Nat)) {x : Sg} {q : Mc} (h : x.m = 41 → q.st ≠ []) : stepM x (liftF s0 q) = (stepM x q).map (liftF s0) := by
  obtain ⟨st, al, it, c⟩ := q
  unfold stepM liftF
  by_cases h0 : x.m = 0
  · simp [h0]
  by_cases h1 : x.m = 94
  · simp [h1]
  by_cases h2 : x.m = 36
  · simp [h2]
  by_cases h3 : x.m = 42 ∨ x.m = 43 ∨ x.m = 63
  · simp only [h0, h1, h2, h3, if_true, if_false]
    cases it.getLast? <;> rfl
  by_cases h4 : x.m = 124
  · simp [h4]
  by_cases h5 : x.m = 40
  · simp [h5]
  by_cases h6 : x.m = 41
  · have hs := h h6
    simp only [h6, if_true]
    cases st with
    | nil => exact absurd rfl hs
    | cons f r => obtain ⟨a, i, n⟩ := f; simp
  · simp [h0, h1, h2, h3, h4, h5, h6]
theorem run_lift (s0 : List (List Nd × List Nd × Nat)) (l : List Sg) : ∀ q : Mc, (∀ k, k ≤ l.length → 0 ≤ (q.st.length : Int) + dep (l.take k)) → runM l (liftF s0 q) = (runM l q).map (liftF s0) := by
  induction l with
  | nil => intro q _; rfl
  | cons x l ih =>
    intro q h
    have h1 := h 1 (by simp)
    rw [show (x :: l).take 1 = [x] by simp, dep_cons, dep_nil] at h1
    show (stepM x (liftF s0 q)).bind (runM l) = ((stepM x q).bind (runM l)).map (liftF s0)
    rw [step_lift s0 (by intro e hs; rw [hs] at h1; simp [e] at h1)]
    cases hq : stepM x q with
    | none => rfl
    | some q' =>
      have := (step_len hq).1
      refine ih q' fun k hk => ?_
      have hk' := h (k + 1) (by simp; omega)
      rw [List.take_succ_cons, dep_cons] at hk'
      omega
theorem run_len {l : List Sg} : ∀ {q q' : Mc}, runM l q = some q' → (q'.st.length : Int) = q.st.length + dep l ∧ q'.c = q.c + opnC l := by
  induction l with
  | nil => intro q q' h; cases h; simp [dep_nil, opnC]
  | cons x l ih =>
    intro q q' h
    have h : (stepM x q).bind (runM l) = some q' := h
    cases hq : stepM x q with
    | none => rw [hq] at h; cases h
    | some q1 =>
      rw [hq] at h
      obtain ⟨a, b⟩ := step_len hq
      obtain ⟨a', b'⟩ := ih h
      rw [dep_cons, opn_cons]
      omega
/-- a run that goes through closes nothing that did not open -/
theorem run_pre {l : List Sg} {q q' : Mc} (h : runM l q = some q') (k : Nat) (_ : k ≤ l.length) : 0 ≤ (q.st.length : Int) + dep (l.take k) := by
  rw [← List.take_append_drop k l, runM_append] at h
  cases hq : runM (l.take k) q with
  | none => rw [hq] at h; cases h
  | some q1 => have := (run_len hq).1; omega
/-- a group -/
theorem run_group {a b : Sg} {m : List Sg} (q : Mc) (ha : a.m = 40) (hb : b.m = 41) (h : ∀ k, k ≤ m.length → 0 ≤ dep (m.take k)) (h0 : dep m = 0) :
    runM (a :: m ++ [b]) q = (resE m (q.c + 1)).map fun n => { q with it := q.it ++ [.mk 7 (q.c + 1) emp [n]], c := q.c + 1 + opnC m } := by
  have e1 : stepM a q = some (liftF ((q.al, q.it, q.c + 1) :: q.st) ⟨[], [], [], q.c + 1⟩) := by unfold stepM liftF; simp [ha]
  show (stepM a q).bind (runM (m ++ [b])) = _
  rw [e1]
  show runM (m ++ [b]) _ = _
  rw [runM_append, run_lift _ m _ (fun k hk => by have := h k hk; simpa using this)]
  unfold resE
  cases hm : runM m ⟨[], [], [], q.c + 1⟩ with
  | none => rfl
  | some q1 =>
    obtain ⟨l1, c1⟩ := run_len hm
    obtain ⟨st, al, it, c⟩ := q1
    have hst : st = [] := List.eq_nil_of_length_eq_zero (by simp at l1; omega)
    subst hst
    simp only at c1
    subst c1
    show (stepM b _).bind (runM []) = _
    unfold stepM liftF
    simp [hb, runM]
/-- branches laid ahead of the outermost ones -/
def liftS (acc : List Nd) : List (List Nd × List Nd × Nat) → List (List Nd × List Nd × Nat)
  | [] => []
  | [(al, it, i)] => [(acc ++ al, it, i)]
  | f :: g :: r => f :: liftS acc (g :: r)
def liftA (acc : List Nd) (q : Mc) : Mc := ⟨liftS acc q.st, if q.st = [] then acc ++ q.al else q.al, q.it, q.c⟩
theorem step_liftA (acc : List Nd) (x : Sg) (q : Mc) : stepM x (liftA acc q) = (stepM x q).map (liftA acc) := by
  obtain ⟨st, al, it, c⟩ := q
  unfold stepM liftA
  by_cases h0 : x.m = 0
  · simp [h0]
  by_cases h1 : x.m = 94
  · simp [h1]
  by_cases h2 : x.m = 36
  · simp [h2]
  by_cases h3 : x.m = 42 ∨ x.m = 43 ∨ x.m = 63
  · simp only [h0, h1, h2, h3, if_true, if_false]
    cases it.getLast? <;> rfl
  by_cases h4 : x.m = 124
  · simp [h4]; split <;> simp
  by_cases h5 : x.m = 40
  · simp [h5]
    cases st with
    | nil => simp [liftS]
    | cons f r => obtain ⟨a, i, n⟩ := f; simp [liftS]
  by_cases h6 : x.m = 41
  · simp only [h6, if_true]
    cases st with
    | nil => simp [liftS]
    | cons f r =>
      obtain ⟨a, i, n⟩ := f
      cases r with
      | nil => simp [liftS]
      | cons g r => simp [liftS]
  · simp [h0, h1, h2, h3, h4, h5, h6]
theorem run_liftA (acc : List Nd) (l : List Sg) : ∀ q : Mc, runM l (liftA acc q) = (runM l q).map (liftA acc) := by
  induction l with
  | nil => intro q; rfl
  | cons x l ih =>
    intro q
    show (stepM x (liftA acc q)).bind (runM l) = ((stepM x q).bind (runM l)).map (liftA acc)
    rw [step_liftA]
    cases stepM x q with
    | none => rfl
    | some q' => exact ih q'
/-- the branches that are done outside of all brackets -/
def botA (q : Mc) : List Nd := match q.st.getLast? with | none => q.al | some (al, _, _) => al
theorem step_bot {x : Sg} {q q' : Mc} (h : stepM x q = some q') (hb : x.m = 124 → q.st ≠ []) : botA q' = botA q := by
  obtain ⟨st, al, it, c⟩ := q
  unfold stepM at h
  split at h
  · cases h; rfl
  split at h
  · cases h; rfl
  split at h
  · cases h; rfl
  split at h
  · split at h
    · cases h
    · cases h; rfl
  split at h
  · rename_i e
    cases h
    have := hb e
    unfold botA
    cases st with
    | nil => exact absurd rfl this
    | cons f r => simp [List.getLast?_cons]
  split at h
  · cases h
    unfold botA
    cases st with
    | nil => simp
    | cons f r => simp [List.getLast?_cons]
  split at h
  · split at h
    · cases h
    · rename_i al2 it2 i2 r hs
      simp only at hs
      cases h
      subst hs
      unfold botA
      cases r with
      | nil => simp
      | cons g r => simp [List.getLast?_cons]
  · cases h
theorem run_bot {l : List Sg} : ∀ {q q' : Mc}, runM l q = some q' → (∀ k x, l[k]? = some x → x.m = 124 → (q.st.length : Int) + dep (l.take k) ≠ 0) → botA q' = botA q := by
  induction l with
  | nil => intro q q' h _; cases h; rfl
  | cons x l ih =>
    intro q q' h hb
    have h : (stepM x q).bind (runM l) = some q' := h
    cases hq : stepM x q with
    | none => rw [hq] at h; cases h
    | some q1 =>
      rw [hq] at h
      have a := (step_len hq).1
      have e1 := step_bot hq (fun e hs => hb 0 x rfl e (by rw [hs]; simp [dep_nil]))
      have e2 := ih h (fun k y hy e => by
        have := hb (k + 1) y (by simpa using hy) e
        rw [List.take_succ_cons, dep_cons] at this
        omega)
      rw [e2, e1]
end Go.Proofs.YtlkjejmmoalliaaGreatDoor

namespace Go.Proofs.YtlkjejmmoalliaaGreatDoor
open Go.RowKit

theorem gath_acc (s : ByteArray) : ∀ (n i : Nat) (acc : List (Nat × Bool)), s.size - i ≤ n → gath s i acc = (gath s i []).map fun p => (acc ++ p.1, p.2) := by
  intro n
  induction n with
  | zero =>
    intro i acc hn
    rw [gath_end acc (by omega), gath_end [] (by omega)]; rfl
  | succ n ih =>
    intro i acc hn
    by_cases hi : i < s.size
    · by_cases h93 : s[i].toNat = 93
      · rw [gath_stop acc hi h93, gath_stop [] hi h93]; simp
      · by_cases h92 : s[i].toNat = 92
        · by_cases hi1 : i + 1 < s.size
          · rw [gath_esc acc hi h92 hi1, gath_esc [] hi h92 hi1, ih (i + 2) _ (by omega), ih (i + 2) ([] ++ _) (by omega), Option.map_map]
            congr 1; funext p; simp
          · rw [gath_bad acc hi h92 hi1, gath_bad [] hi h92 hi1]; rfl
        · rw [gath_on acc hi h93 h92, gath_on [] hi h93 h92, ih (i + 1) _ (by omega), ih (i + 1) ([] ++ _) (by omega), Option.map_map]
          congr 1; funext p; simp
    · rw [gath_end acc hi, gath_end [] hi]; rfl

theorem rng_shift (x : Nat × Bool) (l : List (Nat × Bool)) : ∀ (n i : Nat) (f : Nat → Bool), l.length - i ≤ n → rng (x :: l) (i + 1) f = rng l i f := by
  intro n
  induction n with
  | zero =>
    intro i f hn
    rw [rng_end f (l := l) (by omega), rng_end f (by simp; omega)]
  | succ n ih =>
    intro i f hn
    by_cases hi : i < l.length
    · rw [rng, rng]
      rw [dif_pos hi, dif_pos (by simp; omega)]
      by_cases h2 : i + 2 < l.length
      · rw [dif_pos h2, dif_pos (by simp; omega)]
        simp only [List.getElem_cons_succ, show i + 1 + 1 = (i + 1) + 1 from rfl, show i + 1 + 2 = (i + 2) + 1 from rfl, show i + 1 + 3 = (i + 3) + 1 from rfl]
        rw [ih (i + 3) _ (by omega), ih (i + 1) _ (by omega)]
      · rw [dif_neg h2, dif_neg (by simp; omega)]
        simp only [List.getElem_cons_succ]
        rw [ih (i + 1) _ (by omega)]
    · rw [rng_end f hi, rng_end f (by simp; omega)]
theorem rng_tail (x : Nat × Bool) (l : List (Nat × Bool)) (f : Nat → Bool) : rng (x :: l) 1 f = rng l 0 f := rng_shift x l _ 0 f (Nat.le_refl _)
theorem rng_tail3 (x y z : Nat × Bool) (l : List (Nat × Bool)) (f : Nat → Bool) : rng (x :: y :: z :: l) 3 f = rng l 0 f := by
  rw [rng_shift x (y :: z :: l) _ 2 f (Nat.le_refl _), rng_shift y (z :: l) _ 1 f (Nat.le_refl _), rng_tail]

/-- a byte of a class: itself, whether it stood bare, what is behind it -/
def byteAt (s : ByteArray) (i : Nat) : Option (Nat × Bool × Nat) :=
  if h : i < s.size then
    if s[i].toNat = 93 then none
    else if s[i].toNat = 92 then (if h2 : i + 1 < s.size then some (s[i + 1].toNat, false, i + 2) else none)
    else some (s[i].toNat, true, i + 1)
  else none
theorem byteAt_gt {s : ByteArray} {i b j : Nat} {f : Bool} (h : byteAt s i = some (b, f, j)) : i < j ∧ j ≤ s.size ∧ b < 256 := by
  unfold byteAt at h
  split at h
  · split at h
    · cases h
    · split at h
      · split at h
        · simp only [Option.some.injEq, Prod.mk.injEq] at h; obtain ⟨rfl, -, rfl⟩ := h; have := UInt8.toNat_lt s[i + 1]; omega
        · cases h
      · simp only [Option.some.injEq, Prod.mk.injEq] at h; obtain ⟨rfl, -, rfl⟩ := h; have := UInt8.toNat_lt s[i]; omega
  · cases h
theorem gath_byte {s : ByteArray} {i b j : Nat} {f : Bool} (h : byteAt s i = some (b, f, j)) : gath s i [] = (gath s j []).map fun p => ((b, f) :: p.1, p.2) := by
  unfold byteAt at h
  split at h
  · rename_i hi
    split at h
    · cases h
    · rename_i h93
      split at h
      · rename_i h92
        split at h
        · rename_i hi1
          simp only [Option.some.injEq, Prod.mk.injEq] at h; obtain ⟨rfl, rfl, rfl⟩ := h
          rw [gath_esc [] hi h92 hi1, gath_acc s _ _ _ (Nat.le_refl _)]; rfl
        · cases h
      · rename_i h92
        simp only [Option.some.injEq, Prod.mk.injEq] at h; obtain ⟨rfl, rfl, rfl⟩ := h
        rw [gath_on [] hi h93 h92, gath_acc s _ _ _ (Nat.le_refl _)]; rfl
  · cases h
theorem gath_nobyte {s : ByteArray} {i : Nat} (h : byteAt s i = none) (h93 : ∀ hi : i < s.size, s[i].toNat ≠ 93) : gath s i [] = none := by
  unfold byteAt at h
  split at h
  · rename_i hi
    rw [if_neg (h93 hi)] at h
    split at h
    · rename_i h92
      split at h
      · cases h
      · rename_i hi1; exact gath_bad [] hi h92 hi1
    · cases h
  · rename_i hi; exact gath_end [] hi
/-- is that byte next? -/
def nxt (s : ByteArray) (i c : Nat) : Bool := if h : i < s.size then s[i].toNat == c else false
theorem nxt_yes {s : ByteArray} {i c : Nat} (h : nxt s i c = true) : ∃ hi : i < s.size, s[i].toNat = c := by
  unfold nxt at h
  split at h
  · rename_i hi; exact ⟨hi, by simpa using h⟩
  · cases h
theorem nxt_no {s : ByteArray} {i c : Nat} (h : nxt s i c = false) (hi : i < s.size) : s[i].toNat ≠ c := by
  unfold nxt at h
  rw [dif_pos hi] at h
  simpa using h
theorem nxt_is {s : ByteArray} {i c : Nat} (hi : i < s.size) (h : s[i].toNat = c) : nxt s i c = true := by
  unfold nxt; rw [dif_pos hi, h]; simp
theorem nxt_end {s : ByteArray} {i c : Nat} (h : ¬ i < s.size) : nxt s i c = false := by unfold nxt; rw [dif_neg h]
/-- does a - stand here that makes two bytes one member? -/
def joins (s : ByteArray) (i : Nat) : Bool := nxt s i 45 && !nxt s (i + 1) 93
/-- a member of a class: which bytes it has, what is behind it -/
def memP (s : ByteArray) (i : Nat) : Option (BitVec 256 × Nat) :=
  match byteAt s i with
  | none => none
  | some (lo, _, j) => if joins s j then (match byteAt s (j + 1) with
      | none => none
      | some (hi, _, k) => if lo ≤ hi then some (spn lo hi, k) else none)
    else some (one lo, j)
theorem memP_gt {s : ByteArray} {i j : Nat} {t : BitVec 256} (h : memP s i = some (t, j)) : i < j ∧ j ≤ s.size := by
  unfold memP at h
  split at h
  · cases h
  · rename_i lo f j1 h1
    have g1 := byteAt_gt h1
    split at h
    · split at h
      · cases h
      · rename_i hi f2 k h2
        have g2 := byteAt_gt h2
        split at h
        · simp only [Option.some.injEq, Prod.mk.injEq] at h; omega
        · cases h
    · simp only [Option.some.injEq, Prod.mk.injEq] at h; omega
/-- what becomes of a class from a member on, if f are the bytes so far -/
def clsK (s : ByteArray) (n : Bool) (f : Nat → Bool) (i : Nat) : Option (BitVec 256 × Nat) :=
  match gath s i [] with
  | none => none
  | some (l, e) => (rng l 0 f).map fun g => (mkS (fun b => g b != n), e)
theorem clsK_none {s : ByteArray} {n : Bool} {f : Nat → Bool} {i : Nat} (h : gath s i [] = none) : clsK s n f i = none := by unfold clsK; rw [h]
theorem clsK_stop {s : ByteArray} {n : Bool} {f : Nat → Bool} {i : Nat} (hi : i < s.size) (h : s[i].toNat = 93) : clsK s n f i = some (mkS (fun b => f b != n), i) := by
  unfold clsK; rw [gath_stop [] hi h]
  show (rng [] 0 f).map _ = _
  rw [rng_end f (l := []) (by simp)]; rfl
theorem clsQ_first {s : ByteArray} {n : Bool} {i : Nat} (h : nxt s i 93 = true) : clsQ s n i = none := by
  obtain ⟨hi, h⟩ := nxt_yes h
  exact clsQ_empty (gath_stop [] hi h)
theorem clsQ_K {s : ByteArray} {n : Bool} {i : Nat} (h : nxt s i 93 = false) : clsQ s n i = clsK s n (fun _ => false) i := by
  by_cases hi : i < s.size
  · have h93 := nxt_no h hi
    cases hg : gath s i [] with
    | none => rw [clsQ_none hg, clsK_none hg]
    | some p =>
      obtain ⟨l, e⟩ := p
      have hl : l ≠ [] := by
        cases hb : byteAt s i with
        | none => rw [gath_nobyte hb (fun _ => h93)] at hg; cases hg
        | some q =>
          obtain ⟨b, f, j⟩ := q
          rw [gath_byte hb] at hg
          cases hj : gath s j [] with
          | none => rw [hj] at hg; cases hg
          | some r => rw [hj] at hg; simp only [Option.map_some, Option.some.injEq, Prod.mk.injEq] at hg; rw [← hg.1]; simp
      unfold clsQ clsK; rw [hg]
      simp only [if_neg hl]
      cases rng l 0 (fun _ => false) <;> rfl
  · rw [clsQ_none (gath_end [] hi), clsK_none (gath_end [] hi)]
theorem mkS_ext {f g : Nat → Bool} (h : ∀ b, b < 256 → f b = g b) : mkS f = mkS g := inn_ext fun b hb => by rw [inn_mkS _ b hb, inn_mkS _ b hb, h b hb]
theorem rng_ext (l : List (Nat × Bool)) : ∀ (n i : Nat) (f g : Nat → Bool) (m : Bool), l.length - i ≤ n → (∀ b, b < 256 → f b = g b) →
    ((rng l i f).map fun h => mkS (fun b => h b != m)) = ((rng l i g).map fun h => mkS (fun b => h b != m)) := by
  intro n
  induction n with
  | zero =>
    intro i f g m hn hfg
    rw [rng_end f (by omega), rng_end g (by omega)]
    simp only [Option.map_some, Option.some.injEq]
    exact mkS_ext fun b hb => by rw [hfg b hb]
  | succ n ih =>
    intro i f g m hn hfg
    by_cases hi : i < l.length
    · rw [rng.eq_def l i f, rng.eq_def l i g, dif_pos hi, dif_pos hi]
      have h1 : ∀ b, b < 256 → (f b || b == (l[i]).1) = (g b || b == (l[i]).1) := fun b hb => by rw [hfg b hb]
      by_cases h2 : i + 2 < l.length
      · rw [dif_pos h2, dif_pos h2]
        split
        · split
          · rfl
          · exact ih _ _ _ m (by omega) fun b hb => by rw [hfg b hb]
        · exact ih _ _ _ m (by omega) h1
      · rw [dif_neg h2, dif_neg h2]
        exact ih _ _ _ m (by omega) h1
    · rw [rng_end f hi, rng_end g hi]
      simp only [Option.map_some, Option.some.injEq]
      exact mkS_ext fun b hb => by rw [hfg b hb]
theorem clsK_ext {s : ByteArray} {n : Bool} {f g : Nat → Bool} {i : Nat} (h : ∀ b, b < 256 → f b = g b) : clsK s n f i = clsK s n g i := by
  unfold clsK
  cases gath s i [] with
  | none => rfl
  | some p =>
    obtain ⟨l, e⟩ := p
    have := rng_ext l _ 0 f g n (Nat.le_refl _) h
    simp only
    cases h1 : rng l 0 f <;> cases h2 : rng l 0 g <;> rw [h1, h2] at this <;> simp_all
theorem clsK_mem {s : ByteArray} {n : Bool} {f : Nat → Bool} {i : Nat} (h : nxt s i 93 = false) : clsK s n f i = match memP s i with
    | none => none
    | some (t, j) => clsK s n (fun b => f b || inn t b) j := by
  have h93 : ∀ hi : i < s.size, s[i].toNat ≠ 93 := fun hi => nxt_no h hi
  unfold memP
  cases hb : byteAt s i with
  | none => exact clsK_none (gath_nobyte hb h93)
  | some q =>
    obtain ⟨lo, fl, j⟩ := q
    have g1 := byteAt_gt hb
    have hlo := g1.2.2
    have hG := gath_byte hb
    by_cases hj : joins s j = true
    · simp only [hj, if_true]
      unfold joins at hj
      simp only [Bool.and_eq_true, Bool.not_eq_true'] at hj
      obtain ⟨hj1, hj2⟩ := hj
      obtain ⟨hjs, hj45⟩ := nxt_yes hj1
      have hbj : byteAt s j = some (45, true, j + 1) := by unfold byteAt; rw [dif_pos hjs, if_neg (by omega), if_neg (by omega), hj45]
      have hGj := gath_byte hbj
      cases hb2 : byteAt s (j + 1) with
      | none => exact clsK_none (by rw [hG, hGj, gath_nobyte hb2 (fun hi => nxt_no hj2 hi)]; rfl)
      | some q2 =>
        obtain ⟨hi', f2, k⟩ := q2
        have g2 := byteAt_gt hb2
        have hGk := gath_byte hb2
        cases hk : gath s k [] with
        | none =>
          have e1 : gath s i [] = none := by rw [hG, hGj, hGk, hk]; rfl
          rw [clsK_none e1]
          by_cases hle : lo ≤ hi'
          · simp only [hle, if_true]; rw [clsK_none hk]
          · simp only [hle, if_false]
        | some p =>
          obtain ⟨l, e⟩ := p
          have e1 : gath s i [] = some ((lo, fl) :: (45, true) :: (hi', f2) :: l, e) := by rw [hG, hGj, hGk, hk]; rfl
          have e2 : rng ((lo, fl) :: (45, true) :: (hi', f2) :: l) 0 f = if hi' < lo then none else rng l 0 (fun b => f b || decide (lo ≤ b ∧ b ≤ hi')) := by
            rw [rng_two f (i := 0) (lo := lo) (hi' := hi') (x := fl) (y := f2) rfl rfl rfl, rng_tail3]
          unfold clsK
          rw [e1]
          simp only [e2]
          by_cases hle : lo ≤ hi'
          · rw [if_neg (by omega)]
            simp only [hle, if_true, hk]
            have hx := clsK_ext (s := s) (n := n) (f := fun b => f b || decide (lo ≤ b ∧ b ≤ hi')) (g := fun b => f b || inn (spn lo hi') b) (i := k) (fun b hb => by rw [inn_spn _ _ _ hb]; rfl)
            unfold clsK at hx
            rw [hk] at hx
            exact hx
          · rw [if_pos (by omega)]
            simp only [hle, if_false]; rfl
    · have hj' : joins s j = false := by simpa using hj
      simp only [hj', Bool.false_eq_true, if_false]
      cases hk : gath s j [] with
      | none => rw [clsK_none (by rw [hG, hk]; rfl), clsK_none hk]
      | some p =>
        obtain ⟨l, e⟩ := p
        have e1 : gath s i [] = some ((lo, fl) :: l, e) := by rw [hG, hk]; rfl
        have hN : ∀ c b, 0 + 2 < ((lo, fl) :: l).length → ((lo, fl) :: l)[0 + 1]? = some (c, b) → ¬ (c = 45 ∧ b = true) := by
          rintro c b hlen hc ⟨rfl, rfl⟩
          have hc : l[0]? = some (45, true) := by simpa using hc
          -- the next byte is a bare -
          cases hb2 : byteAt s j with
          | none =>
            by_cases h9 : nxt s j 93 = true
            · obtain ⟨hjs, h9⟩ := nxt_yes h9
              rw [gath_stop [] hjs h9] at hk
              cases hk; simp at hc
            · rw [gath_nobyte hb2 (fun hi => nxt_no (by simpa using h9) hi)] at hk; cases hk
          | some q2 =>
            obtain ⟨b2, f2, j2⟩ := q2
            have hG2 := gath_byte hb2
            rw [hG2] at hk
            cases hk2 : gath s j2 [] with
            | none => rw [hk2] at hk; cases hk
            | some p2 =>
              obtain ⟨l2, e3⟩ := p2
              rw [hk2] at hk
              simp only [Option.map_some, Option.some.injEq, Prod.mk.injEq] at hk
              obtain ⟨rfl, rfl⟩ := hk
              simp only [List.getElem?_cons_zero, Option.some.injEq, Prod.mk.injEq] at hc
              obtain ⟨rfl, rfl⟩ := hc
              -- so it is no joint only because a closing bracket follows: but then nothing follows
              unfold byteAt at hb2
              split at hb2
              · rename_i hjs
                split at hb2
                · cases hb2
                · split at hb2
                  · split at hb2
                    · simp at hb2
                    · cases hb2
                  · simp only [Option.some.injEq, Prod.mk.injEq] at hb2
                    obtain ⟨h45, -, rfl⟩ := hb2
                    unfold joins at hj'
                    rw [nxt_is hjs h45] at hj'
                    simp only [Bool.true_and, Bool.not_eq_false'] at hj'
                    obtain ⟨hj1, h93'⟩ := nxt_yes hj'
                    rw [gath_stop [] hj1 h93'] at hk2
                    cases hk2
                    simp at hlen
              · cases hb2
        have e2 := rng_one f (i := 0) (lo := lo) (x := fl) (l := (lo, fl) :: l) rfl hN
        unfold clsK
        rw [e1]
        simp only [e2, Nat.zero_add, rng_tail]
        have hx := clsK_ext (s := s) (n := n) (f := fun b => f b || b == lo) (g := fun b => f b || inn (one lo) b) (i := j) (fun b hb => by rw [inn_one _ _ hb]; congr 1)
        unfold clsK at hx
        rw [hk] at hx
        rw [hk]
        exact hx
end Go.Proofs.YtlkjejmmoalliaaGreatDoor

namespace Go.Proofs.YtlkjejmmoalliaaGreatDoor
open Go.RowKit

def finM : Mc → Option Nd
  | ⟨[], al, it, _⟩ => some (altN (al ++ [catN it]))
  | _ => none
def fin (s : ByteArray) (i : Nat) (q : Mc) : Option Nd := (sgn s i).bind fun l => (runM l q).bind finM
theorem resE_fin (l : List Sg) (c : Nat) : resE l c = (runM l ⟨[], [], [], c⟩).bind finM := by
  unfold resE
  cases runM l ⟨[], [], [], c⟩ with
  | none => rfl
  | some q =>
    obtain ⟨st, al, it, c'⟩ := q
    cases st <;> rfl
theorem fin_start (s : ByteArray) : fin s 0 ⟨[], [], [], 0⟩ = (sgn s 0).bind fun l => resE l 0 := by
  unfold fin
  congr 1; funext l
  rw [resE_fin]
theorem fin_end {s : ByteArray} {i : Nat} (h : ¬ i < s.size) (q : Mc) : fin s i q = finM q := by
  unfold fin; rw [sgn_end h]; rfl
theorem fin_step {s : ByteArray} {i j : Nat} {x : Sg} (h : sgn s i = (sgn s j).map (x :: ·)) (q : Mc) : fin s i q = (stepM x q).bind (fin s j) := by
  unfold fin
  rw [h]
  cases sgn s j with
  | none => cases stepM x q <;> rfl
  | some l =>
    show ((stepM x q).bind (runM l)).bind finM = _
    cases stepM x q <;> rfl
theorem fin_none {s : ByteArray} {i : Nat} (h : sgn s i = none) (q : Mc) : fin s i q = none := by unfold fin; rw [h]; rfl
theorem fin_set {s : ByteArray} {i j : Nat} {t : BitVec 256} (h : sgn s i = (sgn s j).map (⟨0, t⟩ :: ·)) (st : List (List Nd × List Nd × Nat)) (al it : List Nd) (c : Nat) : fin s i ⟨st, al, it, c⟩ = fin s j ⟨st, al, it ++ [.mk 1 0 t []], c⟩ := by
  rw [fin_step h]; unfold stepM; simp
theorem fin_hat {s : ByteArray} {i : Nat} (h : nxt s i 94 = true) (st : List (List Nd × List Nd × Nat)) (al it : List Nd) (c : Nat) : fin s i ⟨st, al, it, c⟩ = fin s (i + 1) ⟨st, al, it ++ [.mk 8 0 emp []], c⟩ := by
  obtain ⟨hi, h⟩ := nxt_yes h
  rw [fin_step (sgn_mark hi (by omega)), h]; unfold stepM; simp
theorem fin_dollar {s : ByteArray} {i : Nat} (h : nxt s i 36 = true) (st : List (List Nd × List Nd × Nat)) (al it : List Nd) (c : Nat) : fin s i ⟨st, al, it, c⟩ = fin s (i + 1) ⟨st, al, it ++ [.mk 9 0 emp []], c⟩ := by
  obtain ⟨hi, h⟩ := nxt_yes h
  rw [fin_step (sgn_mark hi (by omega)), h]; unfold stepM; simp
theorem fin_bar {s : ByteArray} {i : Nat} (h : nxt s i 124 = true) (st : List (List Nd × List Nd × Nat)) (al it : List Nd) (c : Nat) : fin s i ⟨st, al, it, c⟩ = fin s (i + 1) ⟨st, al ++ [catN it], [], c⟩ := by
  obtain ⟨hi, h⟩ := nxt_yes h
  rw [fin_step (sgn_mark hi (by omega)), h]; unfold stepM; simp
theorem fin_open {s : ByteArray} {i : Nat} (h : nxt s i 40 = true) (st : List (List Nd × List Nd × Nat)) (al it : List Nd) (c : Nat) : fin s i ⟨st, al, it, c⟩ = fin s (i + 1) ⟨(al, it, c + 1) :: st, [], [], c + 1⟩ := by
  obtain ⟨hi, h⟩ := nxt_yes h
  rw [fin_step (sgn_mark hi (by omega)), h]; unfold stepM; simp
theorem fin_close {s : ByteArray} {i : Nat} (h : nxt s i 41 = true) (st : List (List Nd × List Nd × Nat)) (al it al' it' : List Nd) (k c : Nat) : fin s i ⟨(al', it', k) :: st, al, it, c⟩ = fin s (i + 1) ⟨st, al', it' ++ [.mk 7 k emp [altN (al ++ [catN it])]], c⟩ := by
  obtain ⟨hi, h⟩ := nxt_yes h
  rw [fin_step (sgn_mark hi (by omega)), h]; unfold stepM; simp
theorem fin_close0 {s : ByteArray} {i : Nat} (h : nxt s i 41 = true) (al it : List Nd) (c : Nat) : fin s i ⟨[], al, it, c⟩ = none := by
  obtain ⟨hi, h⟩ := nxt_yes h
  rw [fin_step (sgn_mark hi (by omega)), h]; unfold stepM; simp
def isRep (s : ByteArray) (i : Nat) : Bool := nxt s i 42 || nxt s i 43 || nxt s i 63
theorem rep_yes {s : ByteArray} {i : Nat} (h : isRep s i = true) : ∃ hi : i < s.size, s[i].toNat = 42 ∨ s[i].toNat = 43 ∨ s[i].toNat = 63 := by
  unfold isRep at h
  simp only [Bool.or_eq_true] at h
  rcases h with (h | h) | h <;> (obtain ⟨hi, h⟩ := nxt_yes h; exact ⟨hi, by omega⟩)
theorem fin_rep0 {s : ByteArray} {i : Nat} (h : isRep s i = true) (st : List (List Nd × List Nd × Nat)) (al : List Nd) (c : Nat) : fin s i ⟨st, al, [], c⟩ = none := by
  obtain ⟨hi, h⟩ := rep_yes h
  rw [fin_step (sgn_mark hi (by omega))]
  unfold stepM
  rcases h with h | h | h <;> simp [h]
theorem fin_rep {s : ByteArray} {i c1 k : Nat} (h : nxt s i c1 = true) (hk : (c1 = 42 ∧ k = 4) ∨ (c1 = 43 ∧ k = 5) ∨ (c1 = 63 ∧ k = 6)) (st : List (List Nd × List Nd × Nat)) (al it : List Nd) (n : Nd) (c : Nat) :
    fin s i ⟨st, al, it ++ [n], c⟩ = fin s (i + 1) ⟨st, al, it ++ [.mk k 0 emp [n]], c⟩ := by
  obtain ⟨hi, h⟩ := nxt_yes h
  rw [fin_step (sgn_mark hi (by omega))]
  unfold stepM
  rcases hk with ⟨rfl, rfl⟩ | ⟨rfl, rfl⟩ | ⟨rfl, rfl⟩ <;> simp [h]

/-- what an atom, an item, a branch, an expression that is read at a place says of the machine -/
def AtomP (s : ByteArray) (i c : Nat) : Option (Nd × Nat × Nat) → Prop
  | none => ∀ st al it, (it = [] ∨ isRep s i = false) → fin s i ⟨st, al, it, c⟩ = none
  | some (n, j, c2) => i < j ∧ ∀ st al it, fin s i ⟨st, al, it, c⟩ = fin s j ⟨st, al, it ++ [n], c2⟩
def ItemP (s : ByteArray) (i c : Nat) : Option (Nd × Nat × Nat) → Prop
  | none => ∀ st al it, (it = [] ∨ isRep s i = false) → fin s i ⟨st, al, it, c⟩ = none
  | some (n, j, c2) => i < j ∧ isRep s j = false ∧ ∀ st al it, fin s i ⟨st, al, it, c⟩ = fin s j ⟨st, al, it ++ [n], c2⟩
def BrP (s : ByteArray) (i c : Nat) : Option (Nd × Nat × Nat) → Prop
  | none => ∀ st al, fin s i ⟨st, al, [], c⟩ = none
  | some (n, j, c2) => i ≤ j ∧ (j < s.size → nxt s j 41 = true ∨ nxt s j 124 = true) ∧ ∃ l, n = catN l ∧ ∀ st al, fin s i ⟨st, al, [], c⟩ = fin s j ⟨st, al, l, c2⟩
def ExP (s : ByteArray) (i c : Nat) : Option (Nd × Nat × Nat) → Prop
  | none => ∀ st, fin s i ⟨st, [], [], c⟩ = none
  | some (n, j, c2) => i ≤ j ∧ (j < s.size → nxt s j 41 = true) ∧ ∃ al l, n = altN (al ++ [catN l]) ∧ ∀ st, fin s i ⟨st, [], [], c⟩ = fin s j ⟨st, al, l, c2⟩
theorem atom_set {s : ByteArray} {i j : Nat} {t : BitVec 256} (c : Nat) (h : sgn s i = (sgn s j).map (⟨0, t⟩ :: ·)) (hj : i < j) : AtomP s i c (some (.mk 1 0 t [], j, c)) := ⟨hj, fun st al it => fin_set h st al it c⟩
theorem atom_bad {s : ByteArray} {i : Nat} (c : Nat) (h : sgn s i = none) : AtomP s i c none := fun _ _ _ _ => fin_none h _
theorem atom_hat {s : ByteArray} {i : Nat} (c : Nat) (h : nxt s i 94 = true) : AtomP s i c (some (.mk 8 0 emp [], i + 1, c)) := ⟨Nat.lt_succ_self _, fun st al it => fin_hat h st al it c⟩
theorem atom_dollar {s : ByteArray} {i : Nat} (c : Nat) (h : nxt s i 36 = true) : AtomP s i c (some (.mk 9 0 emp [], i + 1, c)) := ⟨Nat.lt_succ_self _, fun st al it => fin_dollar h st al it c⟩
theorem atom_rep {s : ByteArray} {i : Nat} (c : Nat) (h : isRep s i = true) : AtomP s i c none := by
  intro st al it hit
  rcases hit with rfl | hn
  · exact fin_rep0 h st al c
  · rw [h] at hn; cases hn
/-- a group of an expression -/
theorem atom_group {s : ByteArray} {i j c c2 : Nat} {n : Nd} (h : nxt s i 40 = true) (he : ExP s (i + 1) (c + 1) (some (n, j, c2))) (hj : nxt s j 41 = true) : AtomP s i c (some (.mk 7 (c + 1) emp [n], j + 1, c2)) := by
  obtain ⟨h1, -, al', l, rfl, h2⟩ := he
  refine ⟨by omega, fun st al it => ?_⟩
  rw [fin_open h, h2, fin_close hj]
theorem atom_group_bad {s : ByteArray} {i c : Nat} (h : nxt s i 40 = true) (he : ExP s (i + 1) (c + 1) none) : AtomP s i c none := by
  intro st al it _
  rw [fin_open h]; exact he _
theorem atom_group_open {s : ByteArray} {i j c c2 : Nat} {n : Nd} (h : nxt s i 40 = true) (he : ExP s (i + 1) (c + 1) (some (n, j, c2))) (hj : nxt s j 41 = false) : AtomP s i c none := by
  obtain ⟨h1, h3, al', l, rfl, h2⟩ := he
  intro st al it _
  rw [fin_open h, h2, fin_end (by intro hlt; have := h3 hlt; rw [hj] at this; cases this)]; rfl
theorem item_atom {s : ByteArray} {i c j c2 : Nat} {n : Nd} (h : AtomP s i c (some (n, j, c2))) (hr : isRep s j = false) : ItemP s i c (some (n, j, c2)) := ⟨h.1, hr, h.2⟩
theorem atom_more {s : ByteArray} {i c j c2 c1 k : Nat} {n : Nd} (h : AtomP s i c (some (n, j, c2))) (hr : nxt s j c1 = true) (hk : (c1 = 42 ∧ k = 4) ∨ (c1 = 43 ∧ k = 5) ∨ (c1 = 63 ∧ k = 6)) : AtomP s i c (some (.mk k 0 emp [n], j + 1, c2)) :=
  ⟨by have := h.1; omega, fun st al it => by rw [h.2, fin_rep hr hk]⟩

/-- a branch's items so far -/
def BrI (s : ByteArray) (i c : Nat) (L : List Nd) (j c2 : Nat) : Prop := i + L.length ≤ j ∧ (L = [] ∨ isRep s j = false) ∧ ∀ st al, fin s i ⟨st, al, [], c⟩ = fin s j ⟨st, al, L, c2⟩
def BrM (s : ByteArray) (i c : Nat) (L : List Nd) (j c2 : Nat) : Prop := BrI s i c L j c2 ∧ j < s.size ∧ nxt s j 41 = false ∧ nxt s j 124 = false
def BrD (s : ByteArray) (i c : Nat) (L : List Nd) (j c2 : Nat) : Prop := BrI s i c L j c2 ∧ (j < s.size → nxt s j 41 = true ∨ nxt s j 124 = true)
theorem br_start (s : ByteArray) (i c : Nat) : BrI s i c [] i c := ⟨by simp, .inl rfl, fun _ _ => rfl⟩
theorem br_bad {s : ByteArray} {i c j c2 : Nat} {L : List Nd} (h : BrM s i c L j c2) (hp : ItemP s j c2 none) : BrP s i c none := fun st al => by rw [h.1.2.2]; exact hp _ _ _ h.1.2.1
theorem br_on {s : ByteArray} {i c j c2 j' c' : Nat} {L : List Nd} {n : Nd} (h : BrM s i c L j c2) (hp : ItemP s j c2 (some (n, j', c'))) : BrI s i c (L ++ [n]) j' c' := by
  obtain ⟨h1, h2, h3⟩ := hp
  refine ⟨?_, .inr h2, fun st al => by rw [h.1.2.2, h3]⟩
  have := h.1.1
  simp; omega
theorem br_end {s : ByteArray} {i c j c2 : Nat} {L : List Nd} (h : BrD s i c L j c2) : BrP s i c (some (oneN 2 L, j, c2)) := ⟨by have := h.1.1; omega, h.2, L, rfl, h.1.2.2⟩
/-- an expression's branches so far -/
def ExI (s : ByteArray) (i c : Nat) (L : List Nd) (j c2 : Nat) : Prop := (L = [] ∧ j = i ∧ c2 = c) ∨ ∃ al l, L = al ++ [catN l] ∧ i + al.length ≤ j ∧ (j < s.size → nxt s j 41 = true ∨ nxt s j 124 = true) ∧ ∀ st, fin s i ⟨st, [], [], c⟩ = fin s j ⟨st, al, l, c2⟩
def ExM (s : ByteArray) (i c : Nat) (L : List Nd) (j c2 : Nat) : Prop := i + L.length ≤ j ∧ ∀ st, fin s i ⟨st, [], [], c⟩ = fin s j ⟨st, L, [], c2⟩
def ExD (s : ByteArray) (i c : Nat) (L : List Nd) (j c2 : Nat) : Prop := ∃ al l, L = al ++ [catN l] ∧ i + al.length ≤ j ∧ (j < s.size → nxt s j 41 = true) ∧ ∀ st, fin s i ⟨st, [], [], c⟩ = fin s j ⟨st, al, l, c2⟩
theorem ex_start (s : ByteArray) (i c : Nat) : ExI s i c [] i c := .inl ⟨rfl, rfl, rfl⟩
theorem ex_first {s : ByteArray} {i c j c2 : Nat} (h : ExI s i c [] j c2) : ExM s i c [] j c2 := by
  rcases h with ⟨-, rfl, rfl⟩ | ⟨al, l, e, -⟩
  · exact ⟨by simp, fun _ => rfl⟩
  · simp at e
theorem ex_bar {s : ByteArray} {i c j c2 : Nat} {L : List Nd} (h : ExI s i c L j c2) (hL : L ≠ []) (hb : nxt s j 124 = true) : ExM s i c L (j + 1) c2 := by
  rcases h with ⟨e, -⟩ | ⟨al, l, rfl, h1, -, h3⟩
  · exact absurd e hL
  · exact ⟨by simp; omega, fun st => by rw [h3, fin_bar hb]⟩
theorem ex_stop {s : ByteArray} {i c j c2 : Nat} {L : List Nd} (h : ExI s i c L j c2) (hL : L ≠ []) (hb : nxt s j 124 = false) : ExD s i c L j c2 := by
  rcases h with ⟨e, -⟩ | ⟨al, l, rfl, h1, h2, h3⟩
  · exact absurd e hL
  · have h4 : j < s.size → nxt s j 41 = true := by
      intro hj
      rcases h2 hj with h | h
      · exact h
      · rw [hb] at h; cases h
    exact ⟨al, l, rfl, h1, h4, h3⟩
theorem ex_bad {s : ByteArray} {i c j c2 : Nat} {L : List Nd} (h : ExM s i c L j c2) (hp : BrP s j c2 none) : ExP s i c none := fun st => by rw [h.2]; exact hp _ _
theorem ex_on {s : ByteArray} {i c j c2 j' c' : Nat} {L : List Nd} {n : Nd} (h : ExM s i c L j c2) (hp : BrP s j c2 (some (n, j', c'))) : ExI s i c (L ++ [n]) j' c' := by
  obtain ⟨h1, h2, l, rfl, h3⟩ := hp
  exact .inr ⟨L, l, rfl, by have := h.1; omega, h2, fun st => by rw [h.2, h3]⟩
theorem ex_end {s : ByteArray} {i c j c2 : Nat} {L : List Nd} (h : ExD s i c L j c2) : ExP s i c (some (oneN 3 L, j, c2)) := by
  obtain ⟨al, l, rfl, h1, h2, h3⟩ := h
  exact ⟨by omega, h2, al, l, rfl, h3⟩
/-- at the end of the text -/
theorem whole_bad {s : ByteArray} (h : ExP s 0 0 none) : fin s 0 ⟨[], [], [], 0⟩ = none := h []
theorem whole_rest {s : ByteArray} {n : Nd} {j c2 : Nat} (h : ExP s 0 0 (some (n, j, c2))) (hj : j < s.size) : fin s 0 ⟨[], [], [], 0⟩ = none := by
  obtain ⟨-, h2, al, l, -, h3⟩ := h
  rw [h3, fin_close0 (h2 hj)]
theorem whole_all {s : ByteArray} {n : Nd} {j c2 : Nat} (h : ExP s 0 0 (some (n, j, c2))) (hj : ¬ j < s.size) : fin s 0 ⟨[], [], [], 0⟩ = some n := by
  obtain ⟨-, -, al, l, rfl, h3⟩ := h
  rw [h3, fin_end hj]; rfl
end Go.Proofs.YtlkjejmmoalliaaGreatDoor
