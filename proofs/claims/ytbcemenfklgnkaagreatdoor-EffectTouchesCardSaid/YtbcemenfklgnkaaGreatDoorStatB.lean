/- Plain facts on the times of names, and on what becomes of a tree if one is set. Walks of package stat: the time of a name. Walks of package stat: Set. -/
import Derived.Test.YtbcemenfklgnkaaGreatDoorArX
import Derived.Test.YtbcemenfklgnkaaGreatDoorSetPlain
import Derived.Test.YtbcemenfklgnkaaGreatDoorWalkD
namespace Go.Proofs.YtbcemenfklgnkaaGreatDoor
open Go.RowKit Go.Maps

/-- what stands ahead of a member's bracket, and the member -/
def libB (s : ByteArray) : ByteArray := s.extract 0 (opn s)
def meB (s : ByteArray) : ByteArray := s.extract (opn s + 1) (s.size - 1)
/-- the archive of a member's name; another text itself -/
def rootB (s : ByteArray) : ByteArray := if memB s = true then libB s else s
/-- the time of a name -/
noncomputable def timeS (l : List Fl) (s : ByteArray) : Int := if memB s = true then ((foundM (getL l (libB s)).c (meB s)).getD nilM).t else (getL l s).t
theorem timeS_mem {l : List Fl} {s : ByteArray} (h : memB s = true) : timeS l s = ((foundM (getL l (libB s)).c (meB s)).getD nilM).t := by unfold timeS; rw [if_pos h]
theorem timeS_file {l : List Fl} {s : ByteArray} (h : memB s = false) : timeS l s = (getL l s).t := by unfold timeS; rw [if_neg (by rw [h]; decide)]
theorem timeS_root {l l' : List Fl} {s : ByteArray} (h : getL l' (rootB s) = getL l (rootB s)) : timeS l' s = timeS l s := by
  unfold rootB at h
  cases hm : memB s
  · rw [if_neg (by rw [hm]; decide)] at h
    rw [timeS_file hm, timeS_file hm, h]
  · rw [if_pos hm] at h
    rw [timeS_mem hm, timeS_mem hm, h]

theorem arch_lo' {s : ByteArray} {l : List Mb} (h : archOf s = some l) : 8 ≤ s.size := by
  rcases Nat.lt_or_ge s.size 8 with h8 | h8
  · rw [arch_no s h8] at h; cases h
  · exact h8
/-- the member that is set: with the content that it had -/
noncomputable def newM (c nm : ByteArray) (t : Int) : Mb := ⟨nm, t, ((foundM c nm).getD nilM).c⟩
theorem found_in {c nm : ByteArray} {m : Mb} (h : foundM c nm = some m) : ∃ l, archOf c = some l ∧ m ∈ l := by
  unfold foundM at h
  rw [Option.bind_eq_some_iff] at h
  obtain ⟨l, hl, h⟩ := h
  rw [Option.bind_eq_some_iff] at h
  obtain ⟨i, -, hi⟩ := h
  exact ⟨l, hl, List.mem_of_getElem? hi⟩
theorem found_small {c nm : ByteArray} : ((foundM c nm).getD nilM).c.size ≤ 900 := by
  cases h : foundM c nm with
  | none => show nilM.c.size ≤ 900; unfold nilM; decide
  | some m =>
    obtain ⟨l, hl, hm⟩ := found_in h
    have h1 := ((makeE_zero l).1 (archOf_get hl).1).2.2.2
    have h2 := sizeM_mem hm
    show m.c.size ≤ 900
    unfold sizeM at h2
    omega
theorem newM_small (c nm : ByteArray) (t : Int) : (newM c nm t).c.size ≤ 900 := found_small

/-- what comes of a tree's files, if a name is given a time: the error's number, and the files -/
noncomputable def statR (l : List Fl) (s : ByteArray) (t : Int) : Nat × List Fl :=
  if memB s = false then (putE l (touF l s t), setL (putE l (touF l s t)) l (touF l s t))
  else if t < 1 ∨ 549755813888 < t then (1, l)
  else match archOf (startOf (getL l (libB s)).c) with
    | none => (3, l)
    | some a =>
      if makeE (setM a (newM (getL l (libB s)).c (meB s) t)) = 0 then
        (putE l ⟨libB s, ⟨(makeL (setM a (newM (getL l (libB s)).c (meB s) t))).toArray⟩, t⟩,
          setL (putE l ⟨libB s, ⟨(makeL (setM a (newM (getL l (libB s)).c (meB s) t))).toArray⟩, t⟩) l ⟨libB s, ⟨(makeL (setM a (newM (getL l (libB s)).c (meB s) t))).toArray⟩, t⟩)
      else (makeE (setM a (newM (getL l (libB s)).c (meB s) t)), l)

theorem statR_touch {l : List Fl} {s : ByteArray} {t : Int} (h : memB s = false) : statR l s t = (putE l (touF l s t), setL (putE l (touF l s t)) l (touF l s t)) := by
  unfold statR; rw [if_pos h]
theorem statR_range {l : List Fl} {s : ByteArray} {t : Int} (h : memB s = true) (ht : t < 1 ∨ 549755813888 < t) : statR l s t = (1, l) := by
  unfold statR; rw [if_neg (by rw [h]; decide), if_pos ht]
theorem statR_form {l : List Fl} {s : ByteArray} {t : Int} (h : memB s = true) (ht : ¬(t < 1 ∨ 549755813888 < t)) (ha : archOf (startOf (getL l (libB s)).c) = none) : statR l s t = (3, l) := by
  unfold statR; rw [if_neg (by rw [h]; decide), if_neg ht, ha]
theorem statR_bad {l : List Fl} {s : ByteArray} {t : Int} {a : List Mb} (h : memB s = true) (ht : ¬(t < 1 ∨ 549755813888 < t)) (ha : archOf (startOf (getL l (libB s)).c) = some a)
    (hk : makeE (setM a (newM (getL l (libB s)).c (meB s) t)) ≠ 0) : statR l s t = (makeE (setM a (newM (getL l (libB s)).c (meB s) t)), l) := by
  unfold statR; rw [if_neg (by rw [h]; decide), if_neg ht, ha]
  simp only
  rw [if_neg hk]
theorem statR_put {l : List Fl} {s : ByteArray} {t : Int} {a : List Mb} (h : memB s = true) (ht : ¬(t < 1 ∨ 549755813888 < t)) (ha : archOf (startOf (getL l (libB s)).c) = some a)
    (hk : makeE (setM a (newM (getL l (libB s)).c (meB s) t)) = 0) {y : ByteArray} (hy : y.data.toList = makeL (setM a (newM (getL l (libB s)).c (meB s) t))) : statR l s t = (putE l ⟨libB s, y, t⟩, setL (putE l ⟨libB s, y, t⟩) l ⟨libB s, y, t⟩) := by
  have e : y = ⟨(makeL (setM a (newM (getL l (libB s)).c (meB s) t))).toArray⟩ := ba_ext (by rw [hy])
  unfold statR; rw [if_neg (by rw [h]; decide), if_neg ht, ha]
  simp only
  rw [if_pos hk, ← e]

/-- every way in which a Set may end -/
theorem stat_cases (l : List Fl) (s : ByteArray) (t : Int) :
    (memB s = false ∧ statR l s t = (putE l (touF l s t), setL (putE l (touF l s t)) l (touF l s t))) ∨
    (memB s = true ∧ (t < 1 ∨ 549755813888 < t) ∧ statR l s t = (1, l)) ∨
    (memB s = true ∧ 1 ≤ t ∧ t ≤ 549755813888 ∧ archOf (startOf (getL l (libB s)).c) = none ∧ statR l s t = (3, l)) ∨
    (∃ a, memB s = true ∧ 1 ≤ t ∧ t ≤ 549755813888 ∧ archOf (startOf (getL l (libB s)).c) = some a ∧ makeE (setM a (newM (getL l (libB s)).c (meB s) t)) ≠ 0 ∧ statR l s t = (makeE (setM a (newM (getL l (libB s)).c (meB s) t)), l)) ∨
    (∃ a y, memB s = true ∧ 1 ≤ t ∧ t ≤ 549755813888 ∧ archOf (startOf (getL l (libB s)).c) = some a ∧ makeE (setM a (newM (getL l (libB s)).c (meB s) t)) = 0 ∧ y.data.toList = makeL (setM a (newM (getL l (libB s)).c (meB s) t)) ∧
      statR l s t = (putE l ⟨libB s, y, t⟩, setL (putE l ⟨libB s, y, t⟩) l ⟨libB s, y, t⟩)) := by
  cases hm : memB s
  · exact .inl ⟨rfl, statR_touch hm⟩
  by_cases ht : t < 1 ∨ 549755813888 < t
  · exact .inr (.inl ⟨rfl, ht, statR_range hm ht⟩)
  cases ha : archOf (startOf (getL l (libB s)).c) with
  | none => exact .inr (.inr (.inl ⟨rfl, by omega, by omega, rfl, statR_form hm ht ha⟩))
  | some a =>
    by_cases hk : makeE (setM a (newM (getL l (libB s)).c (meB s) t)) = 0
    · obtain ⟨y, hy, -⟩ := some_ba (makeL (setM a (newM (getL l (libB s)).c (meB s) t)))
      exact .inr (.inr (.inr (.inr ⟨a, y, rfl, by omega, by omega, rfl, hk, hy, statR_put hm ht ha hk hy⟩)))
    · exact .inr (.inr (.inr (.inl ⟨a, rfl, by omega, by omega, rfl, hk, statR_bad hm ht ha hk⟩)))

theorem statR_le (l : List Fl) (s : ByteArray) (t : Int) : (statR l s t).1 ≤ 18 := by
  rcases stat_cases l s t with ⟨_, e⟩ | ⟨_, _, e⟩ | ⟨_, _, _, _, e⟩ | ⟨a, _, _, _, _, _, e⟩ | ⟨a, y, _, _, _, _, _, _, e⟩ <;> rw [e]
  · exact putE_le _ _
  · exact (by decide : (1 : Nat) ≤ 18)
  · exact (by decide : (3 : Nat) ≤ 18)
  · exact makeE_le _
  · exact putE_le _ _
theorem setL_err {l : List Fl} {k : Nat} {f : Fl} (h : k ≠ 0) : setL k l f = l := by unfold setL; rw [if_neg h]
theorem setL_ok {l : List Fl} {k : Nat} {f : Fl} (h : k = 0) : setL k l f = putL l f := by unfold setL; rw [if_pos h]
/-- an error leaves the tree as it was -/
theorem statR_err {l : List Fl} {s : ByteArray} {t : Int} (h : (statR l s t).1 ≠ 0) : (statR l s t).2 = l := by
  rcases stat_cases l s t with ⟨_, e⟩ | ⟨_, _, e⟩ | ⟨_, _, _, _, e⟩ | ⟨a, _, _, _, _, _, e⟩ | ⟨a, y, _, _, _, _, _, _, e⟩ <;> rw [e] at h ⊢
  · exact setL_err h
  · exact setL_err h
theorem getL_put_same (l : List Fl) (f : Fl) : getL (putL l f) f.n = f := getL_find (putL_find_same l f)
theorem getL_put_other {l : List Fl} {f : Fl} {x : ByteArray} (h : x ≠ f.n) : getL (putL l f) x = getL l x := by unfold getL; rw [putL_find_other l f h]
theorem getL_set_other {l : List Fl} {k : Nat} {f : Fl} {x : ByteArray} (h : x ≠ f.n) : getL (setL k l f) x = getL l x := by
  by_cases hk : k = 0
  · rw [setL_ok hk, getL_put_other h]
  · rw [setL_err hk]
theorem root_file {s : ByteArray} (h : memB s = false) : rootB s = s := by unfold rootB; rw [if_neg (by rw [h]; decide)]
theorem root_mem {s : ByteArray} (h : memB s = true) : rootB s = libB s := by unfold rootB; rw [if_pos h]
/-- what is set has that time -/
theorem time_set {l : List Fl} {s : ByteArray} {t : Int} (h : (statR l s t).1 = 0) : timeS (statR l s t).2 s = t := by
  rcases stat_cases l s t with ⟨hm, e⟩ | ⟨_, _, e⟩ | ⟨_, _, _, _, e⟩ | ⟨a, _, _, _, _, hk, e⟩ | ⟨a, y, hm, _, _, _, hk, hy, e⟩ <;> rw [e] at h ⊢ <;> simp only at h
  · rw [setL_ok h, timeS_file hm, show getL (putL l (touF l s t)) s = touF l s t from getL_put_same l (touF l s t)]; rfl
  · cases h
  · cases h
  · exact absurd h hk
  · rw [setL_ok h, timeS_mem hm, show getL (putL l ⟨libB s, y, t⟩) (libB s) = ⟨libB s, y, t⟩ from getL_put_same l ⟨libB s, y, t⟩]
    have hA := archOf_some (s := y) ⟨hk, hy⟩
    have hF := found_mem hA (setM_self a (newM (getL l (libB s)).c (meB s) t))
    have hF' : foundM y (meB s) = some (newM (getL l (libB s)).c (meB s) t) := hF
    show ((foundM y (meB s)).getD nilM).t = t
    rw [hF']; rfl
/-- no name beside that archive has another time than before -/
theorem time_other {l : List Fl} {s o : ByteArray} {t : Int} (h : rootB o ≠ rootB s) : timeS (statR l s t).2 o = timeS l o := by
  refine timeS_root ?_
  rcases stat_cases l s t with ⟨hm, e⟩ | ⟨_, _, e⟩ | ⟨_, _, _, _, e⟩ | ⟨a, _, _, _, _, hk, e⟩ | ⟨a, y, hm, _, _, _, hk, hy, e⟩ <;> rw [e]
  · rw [root_file hm] at h; exact getL_set_other h
  · rw [root_mem hm] at h; exact getL_set_other h

theorem statR_small {l : List Fl} {s : ByteArray} {t : Int} (h : ∀ f ∈ l, f.c.size ≤ 900) : ∀ f ∈ (statR l s t).2, f.c.size ≤ 900 := by
  rcases stat_cases l s t with ⟨_, e⟩ | ⟨_, _, e⟩ | ⟨_, _, _, _, e⟩ | ⟨a, _, _, _, _, _, e⟩ | ⟨a, y, _, _, _, _, _, _, e⟩ <;> rw [e]
  · exact setL_small h putE_small
  · exact h
  · exact h
  · exact h
  · exact setL_small h putE_small
theorem statR_rising {l : List Fl} {s : ByteArray} {t : Int} (h : Rising l) : Rising (statR l s t).2 := by
  rcases stat_cases l s t with ⟨_, e⟩ | ⟨_, _, e⟩ | ⟨_, _, _, _, e⟩ | ⟨a, _, _, _, _, _, e⟩ | ⟨a, y, _, _, _, _, _, _, e⟩ <;> rw [e]
  · exact setL_rising _ _ h
  · exact h
  · exact h
  · exact h
  · exact setL_rising _ _ h

/-! ### how the document sets a member -/
def setT (nm : ByteArray) (t : Int) (m : Mb) : Mb := if (m.n.toList == nm.toList) = true then ⟨m.n, t, m.c⟩ else m
def isM (nm : ByteArray) (m : Mb) : Bool := m.n.toList == nm.toList
theorem setT_hit {nm : ByteArray} {t : Int} {m : Mb} (h : (m.n.toList == nm.toList) = true) : setT nm t m = ⟨m.n, t, m.c⟩ := by unfold setT; rw [if_pos h]
theorem setT_miss {nm : ByteArray} {t : Int} {m : Mb} (h : (m.n.toList == nm.toList) = false) : setT nm t m = m := by unfold setT; rw [if_neg (by rw [h]; decide)]
theorem map_take_snoc {l : List Mb} {k : Nat} {m : Mb} (h : l[k]? = some m) (g : Mb → Mb) : (l.take (k + 1)).map g = (l.take k).map g ++ [g m] := by rw [take_snocM h, List.map_append]; rfl
theorem any_take_snoc {l : List Mb} {k : Nat} {m : Mb} (h : l[k]? = some m) (g : Mb → Bool) : (l.take (k + 1)).any g = ((l.take k).any g || g m) := by rw [take_snocM h, List.any_append]; simp
theorem set_all_none {l : List Mb} {nm : ByteArray} {t : Int} (h : l.any (isM nm) = false) : l.map (setT nm t) = l ∧ findI l nm = none := by
  rw [List.any_eq_false] at h
  constructor
  · conv => rhs; rw [← List.map_id l]
    refine List.map_congr_left fun m hm => ?_
    have := h m hm
    unfold isM at this
    exact setT_miss (by simpa using this)
  · unfold findI
    rw [List.findIdx?_eq_none_iff]
    intro m hm
    have := h m hm
    unfold isM at this
    simpa using this
theorem set_all_some {l : List Mb} {nm : ByteArray} {t : Int} (h : l.any (isM nm) = true) (hd : (l.map Mb.n).Nodup) : ∃ i m0, findI l nm = some i ∧ l[i]? = some m0 ∧ m0.n = nm ∧ l.map (setT nm t) = l.set i ⟨nm, t, m0.c⟩ := by
  cases hi : findI l nm with
  | none =>
    rw [List.any_eq_true] at h
    obtain ⟨m, hm, he⟩ := h
    unfold isM at he
    exact absurd (eq_of_toList.1 he) (findI_none hi m hm)
  | some i =>
    obtain ⟨m0, h0, e0⟩ := findI_get hi
    refine ⟨i, m0, rfl, h0, e0, ?_⟩
    apply List.ext_getElem?
    intro j
    rw [List.getElem?_map]
    by_cases e : i = j
    · subst e
      rw [List.getElem?_set_self (List.getElem?_eq_some_iff.1 h0).1, h0]
      show some (setT nm t m0) = _
      rw [setT_hit (eq_of_toList.2 e0), e0]
    · rw [List.getElem?_set_ne e]
      cases hj : l[j]? with
      | none => rfl
      | some x =>
        show some (setT nm t x) = some x
        rw [setT_miss]
        apply ne_of_toList.2
        intro hx
        have h1 : (l.map Mb.n)[i]? = some nm := by rw [List.getElem?_map, h0]; simp [e0]
        have h2 : (l.map Mb.n)[j]? = some nm := by rw [List.getElem?_map, hj]; simp [hx]
        exact e ((List.getElem?_inj (List.getElem?_eq_some_iff.1 h1).1 hd).1 (h1.trans h2.symm))
theorem start_none {c : ByteArray} (h : archOf (startOf c) = none) : archOf c = none ∧ 0 < c.size := by
  unfold startOf at h
  cases hq : c.toList.isEmpty
  · rw [if_neg (by rw [hq]; decide)] at h
    refine ⟨h, ?_⟩
    rcases Nat.eq_zero_or_pos c.size with h0 | h0
    · have : c.data.toList = [] := List.eq_nil_of_length_eq_zero (by rw [bytes_len]; exact h0)
      rw [Lib.toList_data, this] at hq; cases hq
    · exact h0
  · rw [if_pos hq, arch_start] at h; cases h
theorem start_some {c : ByteArray} {a : List Mb} (h : archOf (startOf c) = some a) : (0 < c.size ∧ archOf c = some a) ∨ (c.size = 0 ∧ a = [] ∧ archOf c = none) := by
  unfold startOf at h
  cases hq : c.toList.isEmpty
  · rw [if_neg (by rw [hq]; decide)] at h
    refine .inl ⟨?_, h⟩
    have := arch_lo' h
    omega
  · rw [if_pos hq, arch_start] at h
    have h0 : c.size = 0 := by
      rw [Lib.toList_data, List.isEmpty_iff] at hq
      rw [← bytes_len, hq]; rfl
    exact .inr ⟨h0, (Option.some.inj h).symm, arch_no c (by omega)⟩
/-- the document's way leads to the same members -/
theorem set_doc {c nm : ByteArray} {t : Int} {a : List Mb} (h : archOf c = some a) :
    setM a (newM c nm t) = if a.any (isM nm) = true then a.map (setT nm t) else a.map (setT nm t) ++ [⟨nm, t, ⟨#[]⟩⟩] := by
  have hd := ((makeE_zero a).1 (archOf_get h).1).2.2.1
  cases hq : a.any (isM nm)
  · obtain ⟨h1, h2⟩ := set_all_none (t := t) hq
    rw [if_neg (by decide), h1, setM_none (by exact h2)]
    unfold newM
    rw [found_miss h h2]; rfl
  · obtain ⟨i, m0, h1, h2, h3, h4⟩ := set_all_some (t := t) hq hd
    rw [if_pos rfl, h4, setM_some (i := i) (by exact h1)]
    unfold newM
    rw [found_hit h h1 h2]; rfl
theorem set_doc_new {c nm : ByteArray} {t : Int} (h : archOf c = none) : setM [] (newM c nm t) = [⟨nm, t, ⟨#[]⟩⟩] := by
  rw [setM_nil]
  unfold newM
  rw [found_none h]; rfl
theorem set_start {c nm : ByteArray} {t : Int} {a : List Mb} (h : archOf (startOf c) = some a) :
    setM a (newM c nm t) = if a.any (isM nm) = true then a.map (setT nm t) else a.map (setT nm t) ++ [⟨nm, t, ⟨#[]⟩⟩] := by
  rcases start_some h with ⟨_, ha⟩ | ⟨_, rfl, hn⟩
  · exact set_doc ha
  · rw [set_doc_new hn]; rfl
theorem len_sum : ∀ l : List Mb, l.length ≤ sumM l
  | [] => by simp [sumM]
  | a :: r => by
    have := len_sum r
    rw [sumM_cons, List.length_cons]; unfold sizeM; omega
theorem arch_count {c : ByteArray} {a : List Mb} (h : archOf c = some a) : a.length ≤ 900 ∧ ∀ m ∈ a, m.c.size ≤ 900 := by
  have h1 := ((makeE_zero a).1 (archOf_get h).1).2.2.2
  refine ⟨by have := len_sum a; omega, fun m hm => ?_⟩
  have h2 := sizeM_mem hm
  unfold sizeM at h2
  omega
end Go.Proofs.YtbcemenfklgnkaaGreatDoor

namespace Go.Proofs.YtbcemenfklgnkaaGreatDoor
open Go.RowKit Go.Maps

theorem mem_sizes {s : ByteArray} (h : memB s = true) : (libB s).size ≤ 40 ∧ (meB s).size ≤ 40 := by
  obtain ⟨h1, g1, g2, -⟩ := mem_yes s h
  unfold libB meB
  rw [ByteArray.size_extract, ByteArray.size_extract]
  omega
theorem Env.five {A : Nat → Addr} {w : World} (h : Env A w) : Sents L5 A w := h.err.sub (by decide)
theorem IsTree.grown {w w' : World} {p b : Nat} {l : List Fl} (h : IsTree w p b l) (hg : w.grownBy w' none) : IsTree w' p b l := h.kept hg (by simp) (by simp)
theorem content_small {l : List Fl} (h : ∀ f ∈ l, f.c.size ≤ 900) (s : ByteArray) : (getL l s).c.size ≤ 900 := by
  cases hq : hasL l s
  · rw [getL_not hq]; decide
  · obtain ⟨f, hf⟩ := hasL_find.1 hq
    rw [getL_find hf]
    exact h f (List.mem_of_find?_eq_some hf)
theorem mem_call {s : ByteArray} (w : World) (hs : s.size ≤ maxLen) (h : memB s = true) :
    Calls Tryz.prog 41 #[.string s] w fun e w' => e = .returned (.tuple #[.string (libB s), .string (meB s), .bool true]) ∧ w.grownBy w' none :=
  (nMember_yes s w hs h).mono fun e w' ⟨he, n, hw⟩ => ⟨he, by rw [hw]; exact grown_drewN (World.grownBy.refl _ _) n⟩

set_option maxRecDepth 100000 in
set_option maxHeartbeats 1000000 in
theorem sContent (p b : Nat) (l : List Fl) (s : ByteArray) (w : World) (h : IsTree w p b l) (hs : s.size ≤ maxLen) :
    Calls Tryz.prog 70 #[.pointer (some ⟨p, 0, none⟩), .string s] w fun e w' => e = .returned (.string (getL l s).c) ∧ w.grownBy w' none := by
  have hc := tGet p b l s w h hs
  unfold valF at hc
  generalize getL l s = g at *
  have HC := Lib.hid hc
  clear hc
  go_enter Tryz.func70, Tryz.ntmps70
  go_wp2_with fail
  refine HC.out.mono ?_
  rintro e w1 ⟨rfl, g1⟩
  have G1 := Lib.hid g1
  clear g1
  go_wp2
  go_ret
  exact ⟨rfl, G1.out.trans (World.grownBy_alloc _ _ _)⟩

end Go.Proofs.YtbcemenfklgnkaaGreatDoor

namespace Go.Proofs.YtbcemenfklgnkaaGreatDoor
open Go.RowKit Go.Maps

/-- what Set answers, and does -/
def SetOut (p b : Nat) (l : List Fl) (s : ByteArray) (t : Int) (A : Nat → Addr) (w : World) (e : Ending) (w' : World) : Prop :=
  e = .returned (errV A (statR l s t).1) ∧ IsTree w' p b (statR l s t).2 ∧ w.grownBy w' (some b)

set_option maxRecDepth 100000 in
set_option maxHeartbeats 4000000 in
theorem sSet (p b : Nat) (l : List Fl) (s : ByteArray) (t : Int) (A : Nat → Addr) (w : World) (h : IsTree w p b l) (hE : Env A w) (hs : s.size ≤ maxLen) (hl : ∀ f ∈ l, f.c.size ≤ 900) :
    Calls Tryz.prog 53 #[.pointer (some ⟨p, 0, none⟩), .string s, .int .i64 t] w fun e w' => SetOut p b l s t A w e w' := by
  have HT := Lib.hid h
  have HE := Lib.hid hE
  have h1 := hE.e1
  clear h hE
  unfold SetOut
  rcases stat_cases l s t with ⟨hm, e⟩ | ⟨hm, ht, e⟩ | ⟨hm, t1, t2, ha, e⟩ | ⟨a, hm, t1, t2, ha, hk, e⟩ | ⟨a, y, hm, t1, t2, ha, hk, hy, e⟩
  all_goals
    rw [e]
    clear e
    simp only
  · have HM := Lib.hid (fun W => nMember_no s W hs hm)
    have HC := Lib.hid (fun W (hW : IsTree W p b l) (hE : Env A W) => tTouch p b l s t A W hW hE.five hs)
    rw [touE_putE hl] at HC
    generalize putE l (touF l s t) = k at *
    generalize setL k l (touF l s t) = l2 at *
    clear hm
    go_enter Tryz.func53, Tryz.ntmps53
    go_wp2_with (first
      | (go_at_call 41; refine (HM.out _).mono ?_; rintro e w1 ⟨rfl, rfl⟩)
      | (go_at_call 69; refine (HC.out _ HT.out HE.out).mono ?_; rintro e w1 ⟨rfl, t1, g1⟩; have T1 := Lib.hid t1; have G1 := Lib.hid g1; clear t1 g1))
    go_ret
    exact ⟨rfl, T1.out, G1.out⟩
  · have HM := Lib.hid (fun W => mem_call W hs hm)
    clear hm
    rw [errV_ne (by decide)]
    rcases ht with ht | ht
    all_goals
      go_enter Tryz.func53, Tryz.ntmps53
      go_wp2_with (first
        | (go_at_call 41; refine (HM.out _).mono ?_; rintro e w1 ⟨rfl, g1⟩; have G1 := Lib.hid g1; have x1 := g1.cell h1 (by simp); clear g1))
      go_ret
      exact ⟨rfl, HT.out.grown G1.out, G1.out.but _⟩
  all_goals
    have HM := Lib.hid (fun W => mem_call W hs hm)
    obtain ⟨z1, z2⟩ := mem_sizes hm
    have ZL := Lib.hid (show (libB s).size ≤ maxLen by unfold maxLen; omega)
    have HC := Lib.hid (fun W (hW : IsTree W p b l) => sContent p b l (libB s) W hW ZL.out)
    have hcs := content_small hl (libB s)
    have hcm : (getL l (libB s)).c.size ≤ maxLen := by unfold maxLen; omega
    have hmm : (meB s).size ≤ maxLen := by unfold maxLen; omega
    have hd1 : decide (t < 1) = false := decide_eq_false (by omega)
    have hd2 : decide (549755813888 < t) = false := decide_eq_false (by omega)
    clear hm
    generalize libB s = lb at *
    generalize meB s = mb at *
    generalize (getL l lb).c = c at *
    have HF := Lib.hid (fun W (hW : Env A W) => aFindV (s := c) (nm := mb) (w := W) hW hcm rfl)
    have NS := newM_small c mb t
  · have hst := start_none ha
    have HS := Lib.hid (fun W (hW : Env A W) => aSet_form (s := c) (m := newM c mb t) (w := W) hW hcm hst.1 (by
      rw [Lib.toList_data]
      cases e : c.data.toList
      · have := hst.2; rw [← bytes_len, e] at this; simp at this
      · rfl))
    unfold newM valM at HS
    unfold valM at HF
    generalize foundM c mb = fm at *
    clear ha hst
    simp only at HS
    generalize fm.getD nilM = m at *
    generalize fm.isSome = fb at *
    rw [errV_ne (by decide)]
    go_enter Tryz.func53, Tryz.ntmps53
    go_wp2_with (first
      | (go_at_call 41; refine (HM.out _).mono ?_; rintro e w1 ⟨rfl, g1⟩; have G1 := Lib.hid g1; clear g1)
      | (go_at_call 70; refine (HC.out _ (HT.out.grown G1.out)).mono ?_; rintro e w2 ⟨rfl, g2⟩; have G2 := Lib.hid (G1.out.trans g2); clear g2)
      | (go_at_call 71; refine (HF.out _ (HE.out.grown G2.out)).mono ?_; rintro e w3 ⟨rfl, g3⟩; have G3 := Lib.hid ((G2.out.trans g3).trans (World.grownBy_alloc _ (.cells #[.string m.n, .int .i64 m.t, .string m.c] 113) none)); clear g3)
      | (go_at_call 72; refine (HS.out _ (HE.out.grown G3.out)).mono ?_; rintro e w4 ⟨rfl, g4⟩; have G4 := Lib.hid (G3.out.trans g4); clear g4))
    go_ret
    exact ⟨rfl, HT.out.grown G4.out, G4.out.but _⟩
  · have HS := Lib.hid (fun W (hW : Env A W) => aSet_no (s := c) (m := newM c mb t) (w := W) hW hcm (show (newM c mb t).n.size ≤ maxLen from hmm) (by omega) ha hk)
    rw [errV_ne hk]
    generalize makeE (setM a (newM c mb t)) = k at *
    unfold newM valM at HS
    unfold valM at HF
    generalize foundM c mb = fm at *
    clear ha
    simp only at HS
    generalize fm.getD nilM = m at *
    generalize fm.isSome = fb at *
    go_enter Tryz.func53, Tryz.ntmps53
    go_wp2_with (first
      | (go_at_call 41; refine (HM.out _).mono ?_; rintro e w1 ⟨rfl, g1⟩; have G1 := Lib.hid g1; clear g1)
      | (go_at_call 70; refine (HC.out _ (HT.out.grown G1.out)).mono ?_; rintro e w2 ⟨rfl, g2⟩; have G2 := Lib.hid (G1.out.trans g2); clear g2)
      | (go_at_call 71; refine (HF.out _ (HE.out.grown G2.out)).mono ?_; rintro e w3 ⟨rfl, g3⟩; have G3 := Lib.hid ((G2.out.trans g3).trans (World.grownBy_alloc _ (.cells #[.string m.n, .int .i64 m.t, .string m.c] 113) none)); clear g3)
      | (go_at_call 72; refine (HS.out _ (HE.out.grown G3.out)).mono ?_; rintro e w4 ⟨rfl, g4⟩; have G4 := Lib.hid (G3.out.trans g4); clear g4))
    go_ret
    exact ⟨rfl, HT.out.grown G4.out, G4.out.but _⟩
  · have HS := Lib.hid (fun W (hW : Env A W) => aSet_yes (s := c) (m := newM c mb t) (w := W) hW hcm (show (newM c mb t).n.size ≤ maxLen from hmm) (by omega) ha hk hy)
    have hy9 : y.size ≤ 900 := arch_len ⟨hk, hy⟩
    have HP := Lib.hid (fun W (hW : IsTree W p b l) (hE : Env A W) => tPut p b l ⟨lb, y, t⟩ A W hW hE.five ZL.out (by unfold maxLen; simp only; omega))
    clear hk hy
    unfold newM valM at HS
    unfold valM at HF
    generalize foundM c mb = fm at *
    clear ha
    simp only at HS HP
    generalize fm.getD nilM = m at *
    generalize fm.isSome = fb at *
    generalize putE l ⟨lb, y, t⟩ = k at *
    generalize setL k l ⟨lb, y, t⟩ = l2 at *
    go_enter Tryz.func53, Tryz.ntmps53
    go_wp2_with (first
      | (go_at_call 41; refine (HM.out _).mono ?_; rintro e w1 ⟨rfl, g1⟩; have G1 := Lib.hid g1; clear g1)
      | (go_at_call 70; refine (HC.out _ (HT.out.grown G1.out)).mono ?_; rintro e w2 ⟨rfl, g2⟩; have G2 := Lib.hid (G1.out.trans g2); clear g2)
      | (go_at_call 71; refine (HF.out _ (HE.out.grown G2.out)).mono ?_; rintro e w3 ⟨rfl, g3⟩; have G3 := Lib.hid ((G2.out.trans g3).trans (World.grownBy_alloc _ (.cells #[.string m.n, .int .i64 m.t, .string m.c] 113) none)); clear g3)
      | (go_at_call 72; refine (HS.out _ (HE.out.grown G3.out)).mono ?_; rintro e w4 ⟨rfl, g4⟩; have G4 := Lib.hid (G3.out.trans g4); clear g4)
      | (go_at_call 31; refine (HP.out _ (HT.out.grown G4.out) (HE.out.grown G4.out)).mono ?_; rintro e w5 ⟨rfl, t5, g5⟩; have T5 := Lib.hid t5; have G5 := Lib.hid g5; clear t5 g5))
    go_ret
    exact ⟨rfl, T5.out, (G4.out.but _).trans G5.out⟩
end Go.Proofs.YtbcemenfklgnkaaGreatDoor
