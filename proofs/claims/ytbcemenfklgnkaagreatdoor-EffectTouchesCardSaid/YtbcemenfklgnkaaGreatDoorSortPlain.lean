/- Plain facts on sorted lists of texts. -/
import Derived.Test.YtbcemenfklgnkaaGreatDoorPlain
namespace Go.Proofs.YtbcemenfklgnkaaGreatDoor
open Go.RowKit

theorem less_iff (a b : ByteArray) : Op.bytesLess a.toList b.toList = true ↔ a.data.toList < b.data.toList := by
  rw [bytesLess_eq, Lib.toList_data, Lib.toList_data, decide_eq_true_iff]
theorem not_less (a b : ByteArray) : Op.bytesLess a.toList b.toList = false ↔ ¬ a.data.toList < b.data.toList := by
  rw [← less_iff, Bool.not_eq_true]

theorem lt_tri {a b : ByteArray} (h1 : ¬ a.data.toList < b.data.toList) (h2 : a ≠ b) : b.data.toList < a.data.toList := by
  have h3 : b.data.toList ≤ a.data.toList := List.not_lt.1 h1
  rcases List.le_iff_lt_or_eq.1 h3 with h | h
  · exact h
  · exact absurd (ba_ext h).symm h2

theorem pw_mono {α : Type} {R S : α → α → Prop} (h : ∀ a b, R a b → S a b) : ∀ {l : List α}, l.Pairwise R → l.Pairwise S
  | [], _ => List.Pairwise.nil
  | a :: l, hl => by
    rw [List.pairwise_cons] at hl ⊢
    exact ⟨fun b hb => h a b (hl.1 b hb), pw_mono h hl.2⟩

/-- rising, each once -/
def Srt (m : List ByteArray) : Prop := m.Pairwise fun a b => a.data.toList < b.data.toList

theorem srt_head {y : ByteArray} {r : List ByteArray} (h : Srt (y :: r)) : ∀ z ∈ r, y.data.toList < z.data.toList := (List.pairwise_cons.1 h).1

theorem srt_ins (m : List ByteArray) (s : ByteArray) (t : Nat) (h : Srt m) (hlo : ∀ y ∈ m.take t, y.data.toList < s.data.toList)
    (hhi : ∀ y, m[t]? = some y → ¬ y.data.toList < s.data.toList ∧ y ≠ s) : Srt (m.take t ++ [s] ++ m.drop t) := by
  unfold Srt at h ⊢
  have h0 := h
  rw [← List.take_append_drop t m, List.pairwise_append] at h0
  obtain ⟨h1, h2, h3⟩ := h0
  have hs : ∀ z ∈ m.drop t, s.data.toList < z.data.toList := by
    intro z hz
    cases hd : m.drop t with
    | nil => rw [hd] at hz; simp at hz
    | cons y r =>
      have hy : m[t]? = some y := by
        have : (m.drop t)[0]? = some y := by rw [hd]; rfl
        rwa [List.getElem?_drop, Nat.add_zero] at this
      obtain ⟨a1, a2⟩ := hhi y hy
      have hsy := lt_tri a1 a2
      rw [hd] at hz h2
      rcases List.mem_cons.1 hz with rfl | hz
      · exact hsy
      · exact List.lt_trans hsy (srt_head h2 z hz)
  rw [List.pairwise_append]
  refine ⟨?_, h2, ?_⟩
  · rw [List.pairwise_append]
    exact ⟨h1, List.pairwise_singleton _ _, fun a ha b hb => by rw [List.mem_singleton] at hb; subst hb; exact hlo a ha⟩
  · intro a ha b hb
    rcases List.mem_append.1 ha with ha | ha
    · exact h3 a ha b hb
    · rw [List.mem_singleton] at ha; subst ha; exact hs b hb

theorem ins_mem (m : List ByteArray) (s x : ByteArray) (t : Nat) : x ∈ m.take t ++ [s] ++ m.drop t ↔ x ∈ m ∨ x = s := by
  rw [List.mem_append, List.mem_append, List.mem_singleton]
  constructor
  · rintro ((h | h) | h)
    · exact .inl (List.mem_of_mem_take h)
    · exact .inr h
    · exact .inl (List.mem_of_mem_drop h)
  · rintro (h | h)
    · rw [← List.take_append_drop t m, List.mem_append] at h
      rcases h with h | h
      · exact .inl (.inl h)
      · exact .inr h
    · exact .inl (.inr h)

theorem srt_nodup {m : List ByteArray} (h : Srt m) : m.Nodup := by
  unfold Srt at h
  exact pw_mono (fun a b hab e => by subst e; exact List.lt_irrefl _ hab) h

theorem srt_one {m m' : List ByteArray} (h : Srt m) (h' : Srt m') (hm : ∀ x, x ∈ m ↔ x ∈ m') : m = m' := by
  have hp : m.Perm m' := (List.perm_ext_iff_of_nodup (srt_nodup h) (srt_nodup h')).2 hm
  exact hp.eq_of_pairwise (fun a b _ _ h1 h2 => absurd (List.lt_trans h1 h2) (List.lt_irrefl _)) h h'

/-- what the library's sort makes -/
def sortL (l : List ByteArray) : List ByteArray := ((l.map (·.data.toList)).mergeSort fun x y => decide (x ≤ y)).map fun b => ⟨b.toArray⟩
theorem sort_len (l : List ByteArray) : (sortL l).length = l.length := by unfold sortL; simp
theorem sort_mem (l : List ByteArray) (x : ByteArray) : x ∈ sortL l ↔ x ∈ l := by
  unfold sortL
  rw [List.mem_map]
  constructor
  · rintro ⟨b, hb, rfl⟩
    rw [List.mem_mergeSort, List.mem_map] at hb
    obtain ⟨y, hy, rfl⟩ := hb
    rw [Lib.mk_data]; exact hy
  · intro h
    exact ⟨x.data.toList, by rw [List.mem_mergeSort, List.mem_map]; exact ⟨x, h, rfl⟩, Lib.mk_data x⟩
theorem sort_srt (l : List ByteArray) (h : l.Nodup) : Srt (sortL l) := by
  have h1 : ((l.map (·.data.toList)).mergeSort fun x y => decide (x ≤ y)).Pairwise (fun x y => x ≤ y) := by
    have := List.pairwise_mergeSort (le := fun x y : List UInt8 => decide (x ≤ y)) (by
      intro a b c hab hbc
      simp only [decide_eq_true_eq] at *
      exact List.le_trans hab hbc) (by
      intro a b
      simp only [Bool.or_eq_true, decide_eq_true_eq]
      exact List.le_total a b) (l.map (·.data.toList))
    exact pw_mono (fun a b hab => by simpa using hab) this
  have h2 : ((l.map (·.data.toList)).mergeSort fun x y => decide (x ≤ y)).Nodup := by
    have hn : (l.map (·.data.toList)).Nodup := by
      unfold List.Nodup at *
      rw [List.pairwise_map]
      exact pw_mono (fun a b hab e => hab (ba_ext e)) h
    exact (List.mergeSort_perm _ _).nodup_iff.2 hn
  have h3 : ((l.map (·.data.toList)).mergeSort fun x y => decide (x ≤ y)).Pairwise (fun x y => x < y) := by
    have := List.Pairwise.and h1 h2
    exact pw_mono (fun a b ⟨hle, hne⟩ => (List.le_iff_lt_or_eq.1 hle).resolve_right hne) this
  unfold Srt sortL
  rw [List.pairwise_map]
  exact h3
end Go.Proofs.YtbcemenfklgnkaaGreatDoor
