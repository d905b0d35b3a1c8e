/- Ways come to an end, and to one alone. The law's own instructions; two rows of numbers that are the same. -/
import Derived.Test.YtlkjejmmoalliaaGreatDoorPkPart
import Derived.Test.YtlkjejmmoalliaaGreatDoorPgWr
import Derived.Test.YtlkjejmmoalliaaGreatDoorPgApp
namespace Go.Proofs.YtlkjejmmoalliaaGreatDoor
open Go.RowKit

theorem run_det {L : List Ins} {s : ByteArray} {S : List Wy} {V : Vis} {r : Option (List Int)} (h : Run9 L s S V r) : ∀ {r'}, Run9 L s S V r' → r = r' := by
  induction h with
  | nil V => intro r' h'; cases h'; rfl
  | skip hb h ih =>
    intro r' h'
    cases h' with
    | skip _ h2 => exact ih h2
    | win ho _ => exact (opn_blk ho hb).elim
    | go ho _ _ => exact (opn_blk ho hb).elim
  | win ho hs => intro r' h'; exact (run_win h' ho hs).symm
  | go ho hs h ih =>
    intro r' h'
    cases h' with
    | skip hb _ => exact (opn_blk ho hb).elim
    | win ho2 hs2 => cases opn_same ho ho2; rw [hs] at hs2; cases hs2
    | go ho2 hs2 h2 => cases opn_same ho ho2; rw [hs] at hs2; cases hs2; exact ih h2
theorem countP_less {α : Type} {p q : α → Bool} : ∀ {l : List α} {x : α}, (∀ y ∈ l, q y = true → p y = true) → x ∈ l → p x = true → q x = false → l.countP q < l.countP p := by
  intro l
  induction l with
  | nil => intro x _ hx; cases hx
  | cons y l ih =>
    intro x himp hx hp hq
    have hle : l.countP q ≤ l.countP p := List.countP_mono_left fun z hz => himp z (by simp [hz])
    rw [List.countP_cons, List.countP_cons]
    rcases List.mem_cons.1 hx with rfl | hx
    · rw [hp, hq]; simp; omega
    · have h1 := ih (fun z hz => himp z (by simp [hz])) hx hp hq
      have h2 := himp y (by simp)
      cases hqy : q y
      · simp; omega
      · rw [h2 hqy]; simp; omega
/-- all instructions at all places -/
def prs9 (n m : Nat) : List (Nat × Nat) := (List.range n).flatMap fun a => (List.range m).map fun q => (a, q)
theorem mem_prs9 {n m a q : Nat} (ha : a < n) (hq : q < m) : (a, q) ∈ prs9 n m := by
  unfold prs9
  exact List.mem_flatMap.2 ⟨a, by simpa using ha, List.mem_map.2 ⟨q, by simpa using hq, rfl⟩⟩
def unv9 (n m : Nat) (V : Vis) : Nat := (prs9 n m).countP fun p => !V p.1 p.2
theorem unv9_mrk {n m a q : Nat} {V : Vis} (ha : a < n) (hq : q < m) (hv : V a q = false) : unv9 n m (mrk V a q) < unv9 n m V := by
  unfold unv9
  refine countP_less (x := (a, q)) (fun y _ hy => ?_) (mem_prs9 ha hq) (by simp [hv]) (by simp [mrk])
  unfold mrk at hy
  cases hV : V y.1 y.2
  · rfl
  · rw [hV] at hy; simp at hy
theorem stp9_in {s : ByteArray} {i : Ins} {x : Wy} {T : List Wy} (h : stp9 s i x = some T) (hx : x.pl ≤ s.size) : T.length ≤ 2 ∧ ∀ t ∈ T, t.pl ≤ s.size := by
  unfold stp9 at h
  split at h
  · cases h
    split
    · rename_i hb
      refine ⟨by simp, fun t ht => ?_⟩
      simp at ht; subst ht
      unfold byt9 at hb
      split at hb
      · assumption
      · cases hb
    · exact ⟨by simp, by simp⟩
  split at h
  · cases h; exact ⟨by simp, fun t ht => by simp at ht; rcases ht with rfl | rfl <;> exact hx⟩
  split at h
  · cases h; exact ⟨by simp, fun t ht => by simp at ht; subst ht; exact hx⟩
  split at h
  · cases h; exact ⟨by simp, fun t ht => by simp at ht; subst ht; exact hx⟩
  split at h
  · cases h
    split
    · exact ⟨by simp, fun t ht => by simp at ht; subst ht; exact hx⟩
    · exact ⟨by simp, by simp⟩
  split at h
  · cases h
    split
    · exact ⟨by simp, fun t ht => by simp at ht; subst ht; exact hx⟩
    · exact ⟨by simp, by simp⟩
  split at h
  · split at h
    · cases h
    · cases h; exact ⟨by simp, by simp⟩
  · cases h; exact ⟨by simp, by simp⟩
theorem run_total (L : List Ins) (s : ByteArray) : ∀ (c : Nat) (S : List Wy) (V : Vis), (∀ x ∈ S, x.pl ≤ s.size) → 2 * unv9 L.length (s.size + 1) V + S.length ≤ c → ∃ r, Run9 L s S V r := by
  intro c
  induction c with
  | zero =>
    intro S V hS hc
    cases S with
    | nil => exact ⟨none, .nil V⟩
    | cons x S => simp at hc
  | succ c ih =>
    intro S V hS hc
    cases S with
    | nil => exact ⟨none, .nil V⟩
    | cons x S =>
      have hx := hS x (by simp)
      have hS' : ∀ y ∈ S, y.pl ≤ s.size := fun y hy => hS y (by simp [hy])
      rw [List.length_cons] at hc
      have hskip : blk9 L V x → ∃ r, Run9 L s (x :: S) V r := fun hb => by
        obtain ⟨r, hr⟩ := ih S V hS' (by omega)
        exact ⟨r, .skip hb hr⟩
      by_cases h0 : x.at_ < 0
      · exact hskip (.inl h0)
      by_cases h1 : L.length ≤ x.at_.toNat
      · exact hskip (.inr (.inl h1))
      cases hv : V x.at_.toNat x.pl with
      | true => exact hskip (.inr (.inr hv))
      | false =>
        have ho : opn9 L V x (L[x.at_.toNat]'(by omega)) := ⟨by omega, List.getElem?_eq_getElem _, hv⟩
        cases hs : stp9 s (L[x.at_.toNat]'(by omega)) x with
        | none => exact ⟨_, .win ho hs⟩
        | some T =>
          obtain ⟨t1, t2⟩ := stp9_in hs hx
          have hu := unv9_mrk (n := L.length) (m := s.size + 1) (V := V) (show x.at_.toNat < L.length by omega) (show x.pl < s.size + 1 by omega) hv
          obtain ⟨r, hr⟩ := ih (T ++ S) (mrk V x.at_.toNat x.pl) (fun y hy => by
            rcases List.mem_append.1 hy with hy | hy
            · exact t2 y hy
            · exact hS' y hy) (by rw [List.length_append]; omega)
          exact ⟨r, .go ho hs hr⟩

end Go.Proofs.YtlkjejmmoalliaaGreatDoor
