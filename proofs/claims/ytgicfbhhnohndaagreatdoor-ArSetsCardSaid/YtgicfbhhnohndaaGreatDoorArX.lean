/- Plain facts on what is set in an archive. -/
import Derived.Test.YtgicfbhhnohndaaGreatDoorArW
namespace Go.Proofs.YtgicfbhhnohndaaGreatDoor
open Go.RowKit

theorem setM_nil (m : Mb) : setM [] m = [m] := setM_none (findI_nil m.n)
theorem setM_self (l : List Mb) (m : Mb) : m ∈ setM l m := by
  cases h : findI l m.n with
  | none => rw [setM_none h]; simp
  | some i =>
    obtain ⟨m0, h0, -⟩ := findI_get h
    rw [setM_some h]
    exact List.mem_of_getElem? (i := i) (by rw [List.getElem?_set_self (List.getElem?_eq_some_iff.1 h0).1])
theorem setM_other {l : List Mb} {m x : Mb} (hx : x ∈ l) (hn : x.n ≠ m.n) : x ∈ setM l m := by
  cases h : findI l m.n with
  | none => rw [setM_none h]; simp [hx]
  | some i =>
    obtain ⟨m0, h0, e0⟩ := findI_get h
    rw [setM_some h]
    obtain ⟨k, hk⟩ := List.mem_iff_getElem?.1 hx
    have hik : i ≠ k := by
      rintro rfl
      rw [h0] at hk
      obtain rfl := Option.some.inj hk
      exact hn e0
    exact List.mem_of_getElem? (i := k) (by rw [List.getElem?_set_ne hik]; exact hk)
theorem setM_mem {l : List Mb} {m x : Mb} (h : x ∈ setM l m) : x ∈ l ∨ x = m := by
  unfold setM at h
  split at h
  · simpa using h
  · exact List.mem_or_eq_of_mem_set h
theorem set_names {l : List Mb} {i : Nat} {m m0 : Mb} (h : l[i]? = some m0) (hn : m0.n = m.n) : (l.set i m).map Mb.n = l.map Mb.n := by
  apply List.ext_getElem?
  intro j
  rw [List.getElem?_map, List.getElem?_map]
  by_cases e : i = j
  · subst e
    rw [List.getElem?_set_self (List.getElem?_eq_some_iff.1 h).1, h]; simp [hn]
  · rw [List.getElem?_set_ne e]
theorem setM_nodup {l : List Mb} {m : Mb} (h : (l.map Mb.n).Nodup) : ((setM l m).map Mb.n).Nodup := by
  cases hf : findI l m.n with
  | none =>
    rw [setM_none hf, List.map_append, List.nodup_append]
    refine ⟨h, by simp, fun a ha b hb => ?_⟩
    obtain ⟨x, hx, rfl⟩ := List.mem_map.1 ha
    simp at hb; subst hb
    exact findI_none hf x hx
  | some i =>
    obtain ⟨m0, h0, e0⟩ := findI_get hf
    rw [setM_some hf, set_names h0 e0]; exact h
theorem set_ok {l : List Mb} {m : Mb} (h : makeE l = 0) (hn : nameB m.n = true) (ht : timeB m.t = true) (hs : 8 + sumM l + sizeM m ≤ 900) : makeE (setM l m) = 0 := by
  obtain ⟨h1, h2, h3, -⟩ := (makeE_zero l).1 h
  rw [makeE_zero]
  refine ⟨fun x hx => ?_, fun x hx => ?_, setM_nodup h3, by have := sumM_setM l m; omega⟩
  · rcases setM_mem hx with hx | rfl
    · exact h1 x hx
    · exact hn
  · rcases setM_mem hx with hx | rfl
    · exact h2 x hx
    · exact ht
/-- why nothing could be set -/
theorem set_why {l : List Mb} {m : Mb} {s : ByteArray} (ha : Arch s l) (hq : makeE (setM l m) ≠ 0) : nameB m.n = false ∨ m.t < 1 ∨ 549755813888 < m.t ∨ 900 < s.size + sizeM m := by
  have hf : ∀ m ∈ l, Fits m := fun m hm => (good_of ha.1 hm).fits
  have hsz : s.size = 8 + sumM l := by rw [← make_len hf, ← ha.2, bytes_len]
  cases hn : nameB m.n
  · exact .inl rfl
  by_cases t1 : m.t < 1
  · exact .inr (.inl t1)
  by_cases t2 : 549755813888 < m.t
  · exact .inr (.inr (.inl t2))
  refine .inr (.inr (.inr ?_))
  rcases Nat.lt_or_ge 900 (s.size + sizeM m) with h | h
  · exact h
  · exact absurd (set_ok ha.1 hn ((time_iff _).2 (by omega)) (by omega)) hq
theorem one_alone {l : List Mb} {m : Mb} (hm : m ∈ l) (h : makeE l = 0) : makeE [m] = 0 := by
  obtain ⟨h1, h2, -, h4⟩ := (makeE_zero l).1 h
  rw [makeE_zero]
  refine ⟨fun x hx => ?_, fun x hx => ?_, by simp, ?_⟩
  · simp at hx; subst hx; exact h1 x hm
  · simp at hx; subst hx; exact h2 x hm
  · have := sizeM_mem hm
    have e : sumM [m] = sizeM m := by simp [sumM]
    omega
theorem found_mem {s : ByteArray} {l : List Mb} {m : Mb} (h : archOf s = some l) (hm : m ∈ l) : foundM s m.n = some m := by
  have hnd := ((makeE_zero l).1 (archOf_get h).1).2.2.1
  obtain ⟨k, hk⟩ := List.mem_iff_getElem?.1 hm
  cases hi : findI l m.n with
  | none => exact absurd rfl (findI_none hi m hm)
  | some i =>
    obtain ⟨m', hm', hn'⟩ := findI_get hi
    have hik : i = k := by
      have h1 : (l.map Mb.n)[i]? = some m.n := by rw [List.getElem?_map, hm']; simp [hn']
      have h2 : (l.map Mb.n)[k]? = some m.n := by rw [List.getElem?_map, hk]; rfl
      exact (List.getElem?_inj (List.getElem?_eq_some_iff.1 h1).1 hnd).1 (h1.trans h2.symm)
    subst hik
    exact found_hit h hi hk
theorem mrow_one (w : World) (m : Mb) (h1 : m.n.size ≤ maxLen) (h2 : m.c.size ≤ maxLen) (t : TypeId) : MRow (w.alloc (.cells #[.string m.n, .int .i64 m.t, .string m.c] t)) (.slice (some ⟨w.heap.size, 0, none⟩) 1 1) [m] := by
  refine ⟨_, 1, rfl, by simp, fun x hx => ?_, fun _ => ⟨w.heap.size, 0, rfl, by simp, fun j x hj => ?_⟩⟩
  · simp at hx; subst hx; exact ⟨h1, h2⟩
  · rcases j with _ | j
    · obtain rfl : m = x := by simpa using hj
      refine ⟨?_, ?_, ?_⟩ <;> simp
    · simp at hj
/-- Find, whatever comes of it -/
theorem aFindV {s nm : ByteArray} {A : Nat → Addr} {w : World} (hE : Env A w) (hs : s.size ≤ maxLen) {o : Option Mb} (h : foundM s nm = o) :
    Calls Tryz.prog 15 #[.string s, .string nm] w fun e w' => e = .returned (.tuple #[valM (o.getD nilM), .bool o.isSome]) ∧ w.grownBy w' none := by
  cases o with
  | none => exact aFind_no hE hs h
  | some m => exact aFind_yes hE hs h
end Go.Proofs.YtgicfbhhnohndaaGreatDoor
