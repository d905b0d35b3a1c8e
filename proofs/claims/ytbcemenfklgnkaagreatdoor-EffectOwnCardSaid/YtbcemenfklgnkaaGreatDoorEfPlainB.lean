/- Plain facts: effects leave files that they don't name; what touches leave behind. -/
import Derived.Test.YtbcemenfklgnkaaGreatDoorEfPlain
import Derived.Test.YtbcemenfklgnkaaGreatDoorApartA
namespace Go.Proofs.YtbcemenfklgnkaaGreatDoor
open Go.RowKit Go.Maps

theorem statR_find {l : List Fl} {n s : ByteArray} {t : Int} (h : s ≠ rootB n) : (statR l n t).2.find? (isN s) = l.find? (isN s) := by
  rcases stat_cases l n t with ⟨hm, e⟩ | ⟨_, _, e⟩ | ⟨_, _, _, _, e⟩ | ⟨a, _, _, _, _, hk, e⟩ | ⟨a, y, hm, _, _, _, hk, hy, e⟩ <;> rw [e]
  · rw [root_file hm] at h; exact setL_find h
  · rw [root_mem hm] at h; exact setL_find h
theorem doE_find {t : Int} {l : List Fl} {e : Ef} {s : ByteArray} (h1 : s ≠ e.n) (h2 : s ≠ rootB e.n) : (doE t l e).2.find? (isN s) = l.find? (isN s) := by
  rcases doE_cases t l e with ⟨_, g⟩ | ⟨_, _, g⟩ | ⟨_, _, g⟩ | ⟨_, _, g⟩ <;> rw [g]
  · exact setL_find h1
  · exact statR_find h2
  · exact delL_find h1 l
/-- what no effect names stays -/
theorem appE_find {t : Int} {s : ByteArray} : ∀ (es : List Ef) (i : Nat) (l : List Fl), (∀ e ∈ es, s ≠ e.n ∧ s ≠ rootB e.n) → (appE t es i l).2.2.find? (isN s) = l.find? (isN s)
  | [], _, _, _ => rfl
  | e :: r, i, l, h => by
    have h0 := h e (by simp)
    have hd := doE_find (t := t) (l := l) h0.1 h0.2
    unfold appE; split
    · rw [appE_find r _ _ fun e he => h e (by simp [he]), hd]
    · exact hd
/-- the archives of members among names -/
def libsL (l : List ByteArray) : List ByteArray := (l.filter memB).map libB
theorem libs_snoc {l : List ByteArray} {k : Nat} {x : ByteArray} (h : l[k]? = some x) : libsL (l.take (k + 1)) = libsL (l.take k) ++ if memB x = true then [libB x] else [] := by
  unfold libsL
  rw [List.take_add_one, h, List.filter_append, List.map_append]
  cases hm : memB x <;> simp [hm]
theorem libs_len (l : List ByteArray) : (libsL l).length ≤ l.length := by unfold libsL; rw [List.length_map]; exact List.length_filter_le _ _
theorem libs_not {ts : List ByteArray} {s : ByteArray} (h : hasB (ts ++ libsL ts) s = false) : ∀ n ∈ ts, s ≠ n ∧ s ≠ rootB n := by
  rw [has_false, List.mem_append, not_or] at h
  refine fun n hn => ⟨fun e => h.1 (e ▸ hn), fun e => ?_⟩
  cases hm : memB n
  · rw [root_file hm] at e; exact h.1 (e ▸ hn)
  · rw [root_mem hm] at e
    refine h.2 ?_
    rw [e]
    exact List.mem_map.2 ⟨n, List.mem_filter.2 ⟨hn, hm⟩, rfl⟩
/-- all names are among the targets -/
def ownE (es : List Ef) (ts : List ByteArray) : Bool := es.all fun e => hasB ts e.n
theorem own_stays {es : List Ef} {ts : List ByteArray} {s : ByteArray} {t : Int} {l : List Fl} (ho : ownE es ts = true) (h : hasB (ts ++ libsL ts) s = false) : (appE t es 0 l).2.2.find? (isN s) = l.find? (isN s) := by
  refine appE_find es 0 l fun e he => libs_not h e.n ?_
  unfold ownE at ho
  rw [List.all_eq_true] at ho
  exact (has_iff _ _).1 (ho e he)

/-- a Touch of each -/
def touchL (ts : List ByteArray) : List Ef := ts.map fun s => ⟨2, s, ⟨#[]⟩⟩
theorem touch_len (ts : List ByteArray) : (touchL ts).length = ts.length := by unfold touchL; simp
theorem touch_at {ts : List ByteArray} {k : Nat} {s : ByteArray} (h : ts[k]? = some s) : (touchL ts)[k]? = some ⟨2, s, ⟨#[]⟩⟩ := by unfold touchL; rw [List.getElem?_map, h]; rfl
theorem do_touch (t : Int) (l : List Fl) (s : ByteArray) : doE t l ⟨2, s, ⟨#[]⟩⟩ = statR l s t := by
  refine doE_2 ?_ rfl
  show (if (2 : Int) < 1 ∨ 3 < (2 : Int) then 17 else if memB s = true ∧ (2 : Int) ≠ 2 then 17 else if 0 < (⟨#[]⟩ : ByteArray).size ∧ (2 : Int) ≠ 1 then 3 else 0) = 0
  rw [if_neg (by decide), if_neg (fun h => h.2 rfl), if_neg (by decide)]
def AllT (t : Int) (l : List Fl) : Prop := ∀ f ∈ l, f.t = t
theorem setL_all {t : Int} {l : List Fl} {k : Nat} {f : Fl} (h : AllT t l) (hf : f.t = t) : AllT t (setL k l f) := by
  unfold setL; split
  · intro x hx
    rcases insL_mem.1 hx with rfl | hx
    · exact hf
    · exact h x (List.mem_filter.1 hx).1
  · exact h
theorem statR_all {t : Int} {l : List Fl} {s : ByteArray} (h : AllT t l) : AllT t (statR l s t).2 := by
  rcases stat_cases l s t with ⟨hm, e⟩ | ⟨_, _, e⟩ | ⟨_, _, _, _, e⟩ | ⟨a, _, _, _, _, hk, e⟩ | ⟨a, y, hm, _, _, _, hk, hy, e⟩ <;> rw [e]
  · exact setL_all h rfl
  · exact h
  · exact h
  · exact h
  · exact setL_all h rfl
theorem has_of_find {a b : List Fl} {s : ByteArray} (h : a.find? (isN s) = b.find? (isN s)) : hasL a s = hasL b s := by
  cases ha : hasL a s
  · rw [hasL_not ha] at h
    cases hb : hasL b s
    · rfl
    · obtain ⟨f, hf⟩ := hasL_find.1 hb; rw [hf] at h; cases h
  · obtain ⟨f, hf⟩ := hasL_find.1 ha
    rw [hf] at h
    exact (hasL_find.2 ⟨f, h.symm⟩).symm
theorem setL_has {l : List Fl} {k : Nat} {f : Fl} {x : ByteArray} (h : hasL l x = true) : hasL (setL k l f) x = true := by
  by_cases e : x = f.n
  · unfold setL; split
    · rw [e]; exact hasL_find.2 ⟨f, putL_find_same l f⟩
    · exact h
  · rw [has_of_find (setL_find e)]; exact h
theorem statR_has {t : Int} {l : List Fl} {s x : ByteArray} (h : hasL l x = true) : hasL (statR l s t).2 x = true := by
  rcases stat_cases l s t with ⟨hm, e⟩ | ⟨_, _, e⟩ | ⟨_, _, _, _, e⟩ | ⟨a, _, _, _, _, hk, e⟩ | ⟨a, y, hm, _, _, _, hk, hy, e⟩ <;> rw [e]
  · exact setL_has h
  · exact h
  · exact h
  · exact h
  · exact setL_has h
theorem statR_new {t : Int} {l : List Fl} {s : ByteArray} (hm : memB s = false) (h : (statR l s t).1 = 0) : hasL (statR l s t).2 s = true := by
  rw [statR_touch hm] at h ⊢
  simp only at h ⊢
  rw [h, setL_ok rfl]
  exact hasL_find.2 ⟨touF l s t, putL_find_same l (touF l s t)⟩
/-- what touches leave behind: how many were done, and the times -/
theorem touch_all {t : Int} : ∀ (ts : List ByteArray) (i : Nat) (l : List Fl), AllT t l →
    AllT t (appE t (touchL ts) i l).2.2 ∧ (∀ x, hasL l x = true → hasL (appE t (touchL ts) i l).2.2 x = true) ∧
    (∀ j s, ts[j]? = some s → i + j < (appE t (touchL ts) i l).1 → memB s = false → hasL (appE t (touchL ts) i l).2.2 s = true) ∧
    (appE t (touchL ts) i l).1 ≤ i + ts.length ∧ ((appE t (touchL ts) i l).1 = i + ts.length ↔ (appE t (touchL ts) i l).2.1 = 0)
  | [], i, l, h => by
    refine ⟨h, fun x hx => hx, fun j s hj => by simp at hj, by simp [touchL, appE], by simp [touchL, appE]⟩
  | s0 :: r, i, l, h => by
    have e : touchL (s0 :: r) = ⟨2, s0, ⟨#[]⟩⟩ :: touchL r := rfl
    rw [e, appE, do_touch]
    by_cases h0 : (statR l s0 t).1 = 0
    · rw [if_pos h0]
      obtain ⟨a1, a2, a3, a4, a5⟩ := touch_all r (i + 1) _ (statR_all (s := s0) h)
      refine ⟨a1, fun x hx => a2 x (statR_has hx), fun j s hj hlt hm => ?_, ?_, ?_⟩
      · cases j with
        | zero =>
          obtain rfl : s0 = s := by simpa using hj
          exact a2 _ (statR_new hm h0)
        | succ j => exact a3 j s (by simpa using hj) (by omega) hm
      · simp only [List.length_cons]; omega
      · rw [← a5]; simp only [List.length_cons]; omega
    · rw [if_neg h0]
      refine ⟨statR_all h, fun x hx => statR_has hx, fun j s hj hlt => ?_, ?_, ?_⟩
      · simp only at hlt; omega
      · simp only [List.length_cons]; omega
      · simp only [List.length_cons]
        constructor
        · intro h; omega
        · intro h; exact absurd h h0
theorem all_time {t : Int} {l : List Fl} {s : ByteArray} (h : AllT t l) (hs : hasL l s = true) : (getL l s).t = t := by
  obtain ⟨f, hf⟩ := hasL_find.1 hs
  rw [getL_find hf]
  exact h f (List.mem_of_find?_eq_some hf)
end Go.Proofs.YtbcemenfklgnkaaGreatDoor
