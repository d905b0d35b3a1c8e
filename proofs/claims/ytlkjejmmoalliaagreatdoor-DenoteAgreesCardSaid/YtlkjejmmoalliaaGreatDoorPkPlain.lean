/- Ways of a program through a text, plainly: one way behind the other, each instruction at each place once; a way that stands behind ways further on may be taken on ahead of them. -/
import Derived.Test.YtlkjejmmoalliaaGreatDoorPgMem
namespace Go.Proofs.YtlkjejmmoalliaaGreatDoor

/-- a way as far as it has come: its instruction, its place, the twenty places that it has kept -/
structure Wy where
  at_ : Int
  pl : Nat
  k : List Int
/-- twenty places with one more -/
def keepK (k : List Int) (x : Int) (q : Nat) : List Int := if 0 ≤ x ∧ x < 20 then k.set x.toNat q else k
theorem keepK_len (k : List Int) (x : Int) (q : Nat) : (keepK k x q).length = k.length := by unfold keepK; split <;> simp
abbrev Vis := Nat → Nat → Bool
def mrk (V : Vis) (a q : Nat) : Vis := fun a' q' => (a' == a && q' == q) || V a' q'
theorem mrk_comm (V : Vis) (a q b r : Nat) : mrk (mrk V a q) b r = mrk (mrk V b r) a q := by
  funext a' q'; unfold mrk; cases (a' == a && q' == q) <;> cases (a' == b && q' == r) <;> simp
/-- a way's instruction can be gone through -/
def opn9 (L : List Ins) (V : Vis) (x : Wy) (i : Ins) : Prop := 0 ≤ x.at_ ∧ L[x.at_.toNat]? = some i ∧ V x.at_.toNat x.pl = false
/-- a way ends here -/
def blk9 (L : List Ins) (V : Vis) (x : Wy) : Prop := x.at_ < 0 ∨ L.length ≤ x.at_.toNat ∨ V x.at_.toNat x.pl = true
/-- the byte at a place is in the set -/
def byt9 (s : ByteArray) (q : Nat) (c : BitVec 256) : Bool := if h : q < s.size then inn c (s[q]).toNat else false
/-- how a way goes on at its instruction; none: it has come to a match -/
def stp9 (s : ByteArray) (i : Ins) (x : Wy) : Option (List Wy) :=
  if i.o = 0 then some (if byt9 s x.pl i.s then [⟨x.at_ + 1, x.pl + 1, x.k⟩] else [])
  else if i.o = 1 then some [⟨i.x, x.pl, x.k⟩, ⟨i.y, x.pl, x.k⟩]
  else if i.o = 2 then some [⟨i.x, x.pl, x.k⟩]
  else if i.o = 3 then some [⟨x.at_ + 1, x.pl, keepK x.k i.x x.pl⟩]
  else if i.o = 4 then some (if x.pl = 0 then [⟨x.at_ + 1, x.pl, x.k⟩] else [])
  else if i.o = 5 then some (if x.pl = s.size then [⟨x.at_ + 1, x.pl, x.k⟩] else [])
  else if i.o = 6 then (if x.pl = s.size then none else some [])
  else some []
/-- what comes of ways, one behind the other, where V are gone through -/
inductive Run9 (L : List Ins) (s : ByteArray) : List Wy → Vis → Option (List Int) → Prop
  | nil (V) : Run9 L s [] V none
  | skip {x S V r} (hb : blk9 L V x) (h : Run9 L s S V r) : Run9 L s (x :: S) V r
  | win {x S V i} (ho : opn9 L V x i) (hs : stp9 s i x = none) : Run9 L s (x :: S) V (some x.k)
  | go {x S V i T r} (ho : opn9 L V x i) (hs : stp9 s i x = some T) (h : Run9 L s (T ++ S) (mrk V x.at_.toNat x.pl) r) : Run9 L s (x :: S) V r

theorem stp9_pl {s : ByteArray} {i : Ins} {x : Wy} {T : List Wy} (h : stp9 s i x = some T) : ∀ t ∈ T, x.pl ≤ t.pl := by
  unfold stp9 at h
  intro t ht
  split at h
  · cases h; split at ht <;> simp at ht; subst ht; simp
  split at h
  · cases h; simp at ht; rcases ht with rfl | rfl <;> simp
  split at h
  · cases h; simp at ht; subst ht; simp
  split at h
  · cases h; simp at ht; subst ht; simp
  split at h
  · cases h; split at ht <;> simp at ht; subst ht; simp
  split at h
  · cases h; split at ht <;> simp at ht; subst ht; simp
  split at h
  · split at h
    · cases h
    · cases h; simp at ht
  · cases h; simp at ht
theorem opn_blk {L : List Ins} {V : Vis} {x : Wy} {i : Ins} (h : opn9 L V x i) (hb : blk9 L V x) : False := by
  obtain ⟨h1, h2, h3⟩ := h
  rcases hb with hb | hb | hb
  · omega
  · have := (List.getElem?_eq_some_iff.1 h2).1; omega
  · rw [h3] at hb; cases hb
theorem blk_mrk {L : List Ins} {V : Vis} {x : Wy} (a q : Nat) (h : blk9 L V x) : blk9 L (mrk V a q) x := by
  rcases h with h | h | h
  · exact .inl h
  · exact .inr (.inl h)
  · exact .inr (.inr (by unfold mrk; rw [h, Bool.or_true]))
theorem opn_mrk {L : List Ins} {V : Vis} {x : Wy} {i : Ins} {a q : Nat} (h : opn9 L V x i) (hq : x.pl ≠ q) : opn9 L (mrk V a q) x i := by
  obtain ⟨h1, h2, h3⟩ := h
  exact ⟨h1, h2, by unfold mrk; rw [h3, Bool.or_false]; simp [hq]⟩
theorem opn_same {L : List Ins} {V : Vis} {x : Wy} {i j : Ins} (h : opn9 L V x i) (h2 : opn9 L V x j) : i = j := by
  have := h.2.1.symm.trans h2.2.1; cases this; rfl
/-- a way that ends may be struck wherever it stands -/
theorem run_skip {L : List Ins} {s : ByteArray} {U : List Wy} {V : Vis} {r : Option (List Int)} (h : Run9 L s U V r) : ∀ T x S, U = T ++ x :: S → blk9 L V x → (∀ t ∈ T, x.pl < t.pl) → Run9 L s (T ++ S) V r := by
  induction h with
  | nil V => intro T x S e; cases T <;> cases e
  | @skip y S' V r hb h ih =>
    intro T x S e hx hp
    cases T with
    | nil => cases e; exact h
    | cons t T => cases e; exact .skip hb (ih T x S rfl hx fun t ht => hp t (by simp [ht]))
  | @win y S' V i ho hs =>
    intro T x S e hx hp
    cases T with
    | nil => cases e; exact (opn_blk ho hx).elim
    | cons t T => cases e; exact .win ho hs
  | @go y S' V i Y r ho hs h ih =>
    intro T x S e hx hp
    cases T with
    | nil => cases e; exact (opn_blk ho hx).elim
    | cons t T =>
      cases e
      refine .go ho hs ?_
      show Run9 L s (Y ++ (T ++ S)) _ _
      rw [← List.append_assoc]
      refine ih (Y ++ T) x S (by simp) (blk_mrk _ _ hx) fun u hu => ?_
      rcases List.mem_append.1 hu with hu | hu
      · have h1 := hp y (by simp); have h2 := stp9_pl hs u hu; omega
      · exact hp u (by simp [hu])
/-- a way may go on wherever it stands -/
theorem run_go {L : List Ins} {s : ByteArray} {U : List Wy} {V : Vis} {r : Option (List Int)} (h : Run9 L s U V r) : ∀ T x S i X, U = T ++ x :: S → opn9 L V x i → stp9 s i x = some X → (∀ t ∈ T, x.pl < t.pl) → Run9 L s (T ++ (X ++ S)) (mrk V x.at_.toNat x.pl) r := by
  induction h with
  | nil V => intro T x S i X e; cases T <;> cases e
  | @skip y S' V r hb h ih =>
    intro T x S i X e hx hX hp
    cases T with
    | nil => cases e; exact (opn_blk hx hb).elim
    | cons t T => cases e; exact .skip (blk_mrk _ _ hb) (ih T x S i X rfl hx hX fun t ht => hp t (by simp [ht]))
  | @win y S' V j ho hs =>
    intro T x S i X e hx hX hp
    cases T with
    | nil => cases e; cases opn_same ho hx; rw [hX] at hs; cases hs
    | cons t T => cases e; exact .win (opn_mrk ho (by have := hp y (by simp); omega)) hs
  | @go y S' V j Y r ho hs h ih =>
    intro T x S i X e hx hX hp
    cases T with
    | nil => cases e; cases opn_same ho hx; rw [hX] at hs; cases hs; exact h
    | cons t T =>
      cases e
      have hy := hp y (by simp)
      refine .go (opn_mrk ho (by omega)) hs ?_
      show Run9 L s (Y ++ (T ++ (X ++ S))) _ _
      rw [← List.append_assoc, mrk_comm]
      refine ih (Y ++ T) x S i X (by simp) (opn_mrk hx (by omega)) hX fun u hu => ?_
      rcases List.mem_append.1 hu with hu | hu
      · have h2 := stp9_pl hs u hu; omega
      · exact hp u (by simp [hu])
/-- a way that has come to a match, with none ahead of it -/
theorem run_win {L : List Ins} {s : ByteArray} {x : Wy} {S : List Wy} {V : Vis} {r : Option (List Int)} {i : Ins} (h : Run9 L s (x :: S) V r) (ho : opn9 L V x i) (hs : stp9 s i x = none) : r = some x.k := by
  cases h with
  | skip hb h => exact (opn_blk ho hb).elim
  | win _ _ => rfl
  | go h1 h2 _ => cases opn_same ho h1; rw [hs] at h2; cases h2
theorem run_nil {L : List Ins} {s : ByteArray} {V : Vis} {r : Option (List Int)} (h : Run9 L s [] V r) : r = none := by cases h; rfl
end Go.Proofs.YtlkjejmmoalliaaGreatDoor
