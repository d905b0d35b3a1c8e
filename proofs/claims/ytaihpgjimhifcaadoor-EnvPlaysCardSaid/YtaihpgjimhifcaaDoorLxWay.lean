/- Words of a text, plainly, place by place: where bytes of a kind end, the piece that begins at a place, what comes from a place on. -/
import Derived.Test.YtaihpgjimhifcaaDoorLxPlain
namespace Go.Proofs.YtaihpgjimhifcaaDoor

/-- where the bytes end that p holds of, from place k on -/
def spnQ (p : UInt8 → Bool) (l : List UInt8) (k : Nat) : Nat := k + ((l.drop k).takeWhile p).length
theorem spn_on {p : UInt8 → Bool} {l : List UInt8} {k : Nat} {b : UInt8} (h : l[k]? = some b) (hb : p b = true) : spnQ p l k = spnQ p l (k + 1) := by
  unfold spnQ; rw [drop_at h, List.takeWhile_cons_of_pos hb, List.length_cons]; omega
theorem spn_off {p : UInt8 → Bool} {l : List UInt8} {k : Nat} {b : UInt8} (h : l[k]? = some b) (hb : p b = false) : spnQ p l k = k := by
  unfold spnQ; rw [drop_at h, List.takeWhile_cons_of_neg (by simp [hb])]; rfl
theorem spn_end {p : UInt8 → Bool} {l : List UInt8} {k : Nat} (h : l.length ≤ k) : spnQ p l k = k := by
  unfold spnQ; rw [List.drop_of_length_le h]; rfl
theorem spn_le {p : UInt8 → Bool} {l : List UInt8} {k : Nat} (h : k ≤ l.length) : k ≤ spnQ p l k ∧ spnQ p l k ≤ l.length := by
  unfold spnQ
  have := (List.takeWhile_sublist p (l := l.drop k)).length_le
  rw [List.length_drop] at this; omega
theorem tw_take (p : UInt8 → Bool) : ∀ m : List UInt8, m.take (m.takeWhile p).length = m.takeWhile p ∧ m.drop (m.takeWhile p).length = m.dropWhile p
  | [] => ⟨rfl, rfl⟩
  | a :: m => by
    obtain ⟨h1, h2⟩ := tw_take p m
    by_cases ha : p a = true
    · rw [List.takeWhile_cons_of_pos ha, List.dropWhile_cons_of_pos ha, List.length_cons, List.take_succ_cons, List.drop_succ_cons, h1, h2]; exact ⟨rfl, rfl⟩
    · rw [List.takeWhile_cons_of_neg ha, List.dropWhile_cons_of_neg ha]; exact ⟨rfl, rfl⟩
theorem spn_take (p : UInt8 → Bool) (l : List UInt8) (k : Nat) : (l.take (spnQ p l k)).drop k = (l.drop k).takeWhile p := by
  unfold spnQ
  rw [List.drop_take, Nat.add_sub_cancel_left]; exact (tw_take p (l.drop k)).1
theorem spn_drop (p : UInt8 → Bool) (l : List UInt8) (k : Nat) : l.drop (spnQ p l k) = (l.drop k).dropWhile p := by
  unfold spnQ
  rw [← List.drop_drop]; exact (tw_take p (l.drop k)).2
theorem spn_stop {p : UInt8 → Bool} {l : List UInt8} {k : Nat} {b : UInt8} (h : l[spnQ p l k]? = some b) : p b = false := by
  have h2 : (l.drop (spnQ p l k)).head? = some b := by rw [List.head?_drop]; exact h
  rw [spn_drop] at h2
  exact dw_head h2
/-- the byte at a place, eaten -/
theorem eat_at {c : UInt8} {l : List UInt8} {k : Nat} (h : l[k]? = some c) : eatQ c (l.drop k) = some (l.drop (k + 1)) := by rw [drop_at h, eat_cons]
theorem eat_not {c b : UInt8} {l : List UInt8} {k : Nat} (h : l[k]? = some b) (hb : b ≠ c) : eatQ c (l.drop k) = none := by
  rw [drop_at h]; show (if b = c then _ else _) = _; rw [if_neg hb]
theorem eat_end {c : UInt8} {l : List UInt8} {k : Nat} (h : l.length ≤ k) : eatQ c (l.drop k) = none := by rw [List.drop_of_length_le h]; rfl
theorem eat_no {c : UInt8} {l : List UInt8} {k : Nat} (h : l[k]? ≠ some c) : eatQ c (l.drop k) = none := by
  cases hb : l[k]? with
  | none => exact eat_end (by rw [List.getElem?_eq_none_iff] at hb; exact hb)
  | some b => exact eat_not hb (fun e => h (by rw [hb, e]))
/-- the piece that begins at a place, as an answer with the place behind it -/
def onA (l : List UInt8) (k : Nat) : Except Nat (Pq × List UInt8) := onQ (l.drop k)
theorem on_qt {l : List UInt8} {k e : Nat} (h : l[k]? = some 39) (he : endF (l.drop (k + 1)) (k + 1) = some e) : onA l k = .ok (⟨1, unQ ((l.take (e - 1)).drop (k + 1)), [], []⟩, l.drop e) := by
  have hle := endF_le _ _ _ he
  unfold onA
  rw [drop_at h, onQ, if_pos rfl, qt_some _ _ _ he]
  simp only
  rw [List.drop_drop, show k + 1 + (e - (k + 1)) = e by omega, List.drop_take]
theorem on_qt_no {l : List UInt8} {k : Nat} (h : l[k]? = some 39) (he : endF (l.drop (k + 1)) (k + 1) = none) : onA l k = .error 5 := by
  unfold onA
  rw [drop_at h, onQ, if_pos rfl, qt_none _ _ he]
theorem on_pl {l : List UInt8} {k : Nat} {b : UInt8} (h : l[k]? = some b) (hb : plcQ b = true) : onA l k = .ok (⟨0, (l.take (spnQ plcQ l k)).drop k, [], []⟩, l.drop (spnQ plcQ l k)) := by
  have hb2 : b ≠ 39 ∧ b ≠ 96 ∧ b ≠ 36 := by
    unfold plcQ at hb
    refine ⟨?_, ?_, ?_⟩ <;> (rintro rfl; simp at hb)
  unfold onA
  rw [spn_take, spn_drop, drop_at h, onQ, if_neg hb2.1, if_neg hb2.2.1, if_neg hb2.2.2]
theorem on_bk {l : List UInt8} {k : Nat} (h : l[k]? = some 96) (h1 : l[k + 1]? = some 123) (h2 : l[spnQ bckQ l (k + 2)]? = some 125) :
    onA l k = .ok (⟨4, (l.take (spnQ bckQ l (k + 2))).drop (k + 2), [], []⟩, l.drop (spnQ bckQ l (k + 2) + 1)) := by
  unfold onA
  rw [drop_at h, onQ, if_neg (by decide), if_pos rfl]
  unfold bkQ
  rw [eat_at h1]
  simp only
  rw [show k + 1 + 1 = k + 2 from rfl, ← spn_drop, eat_at h2, ← spn_take]
theorem on_bk_open {l : List UInt8} {k : Nat} (h : l[k]? = some 96) (h1 : l[k + 1]? ≠ some 123) : onA l k = .error 3 := by
  unfold onA
  rw [drop_at h, onQ, if_neg (by decide), if_pos rfl]
  unfold bkQ
  rw [eat_no h1]
theorem on_bk_shut {l : List UInt8} {k : Nat} (h : l[k]? = some 96) (h1 : l[k + 1]? = some 123) (h2 : l[spnQ bckQ l (k + 2)]? ≠ some 125) : onA l k = .error 3 := by
  unfold onA
  rw [drop_at h, onQ, if_neg (by decide), if_pos rfl]
  unfold bkQ
  rw [eat_at h1]
  simp only
  rw [show k + 1 + 1 = k + 2 from rfl, ← spn_drop, eat_no h2]
/-- what comes behind a dollar sign at place k: behind it, behind the bracket -/
theorem on_dl {l : List UInt8} {k : Nat} (h : l[k]? = some 36) : onA l k = dlQ (l.drop (k + 1)) := by
  unfold onA
  rw [drop_at h, onQ, if_neg (by decide), if_neg (by decide), if_pos rfl]
theorem dl_plain {l : List UInt8} {k : Nat} (h : l[k]? ≠ some 123) : dlQ (l.drop k) = if namQ ((l.take (spnQ ltrQ l k)).drop k) then .ok (⟨2, (l.take (spnQ ltrQ l k)).drop k, [], []⟩, l.drop (spnQ ltrQ l k)) else .error 4 := by
  unfold dlQ
  rw [eat_no h]
  simp only
  rw [spn_take, spn_drop]
theorem dl_curly {l : List UInt8} {k : Nat} (h : l[k]? = some 123) : dlQ (l.drop k) = if namQ ((l.take (spnQ ltrQ l (k + 1))).drop (k + 1)) then crQ ((l.take (spnQ ltrQ l (k + 1))).drop (k + 1)) (l.drop (spnQ ltrQ l (k + 1))) else .error 4 := by
  unfold dlQ
  rw [eat_at h]
  simp only
  rw [spn_take, spn_drop]
theorem cr_var {n l : List UInt8} {k : Nat} (h : l[k]? = some 125) : crQ n (l.drop k) = .ok (⟨2, n, [], []⟩, l.drop (k + 1)) := by
  unfold crQ
  rw [eat_not h (by decide), eat_at h]
theorem cr_no {n l : List UInt8} {k : Nat} (h : l[k]? ≠ some 58) (h1 : l[k]? ≠ some 125) : crQ n (l.drop k) = .error 3 := by
  unfold crQ
  rw [eat_no h, eat_no h1]
theorem cr_eq {n l : List UInt8} {k : Nat} (h : l[k]? = some 58) (h1 : l[spnQ patQ l (k + 1)]? ≠ some 61) : crQ n (l.drop k) = .error 3 := by
  unfold crQ
  rw [eat_at h]
  simp only
  rw [← spn_drop, eat_no h1]
theorem cr_shut {n l : List UInt8} {k m : Nat} (h : l[k]? = some 58) (hm : spnQ patQ l (k + 1) = m) (h1 : l[m]? = some 61) (h2 : l[spnQ patQ l (m + 1)]? ≠ some 125) : crQ n (l.drop k) = .error 3 := by
  unfold crQ
  rw [eat_at h]
  simp only
  rw [← spn_drop, hm, eat_at h1]
  simp only
  rw [← spn_drop, eat_no h2]
theorem cr_sub {n l : List UInt8} {k m e : Nat} (h : l[k]? = some 58) (hm : spnQ patQ l (k + 1) = m) (h1 : l[m]? = some 61) (he : spnQ patQ l (m + 1) = e) (h2 : l[e]? = some 125) :
    crQ n (l.drop k) = .ok (⟨3, n, (l.take m).drop (k + 1), (l.take e).drop (m + 1)⟩, l.drop (e + 1)) := by
  have q1 : (l.drop (k + 1)).takeWhile patQ = (l.take m).drop (k + 1) := by rw [← hm, spn_take]
  have q2 : (l.drop (m + 1)).takeWhile patQ = (l.take e).drop (m + 1) := by rw [← he, spn_take]
  unfold crQ
  rw [eat_at h]
  simp only
  rw [← spn_drop, hm, eat_at h1]
  simp only
  rw [← spn_drop, he, eat_at h2, q1, q2]
/-- the words from place k on -/
def wdA (l : List UInt8) (W : List Pq) (O : List (List Pq)) (k : Nat) : Except Nat (List (List Pq)) := wdQ W O (l.drop k)
theorem wdA_end {l : List UInt8} {k : Nat} (h : l.length ≤ k) (W : List Pq) (O : List (List Pq)) : wdA l W O k = .ok (flW W O) := by unfold wdA; rw [List.drop_of_length_le h, wdQ]
theorem wdA_blank {l : List UInt8} {k : Nat} {b : UInt8} (h : l[k]? = some b) (hb : blkQ b = true) (W : List Pq) (O : List (List Pq)) : wdA l W O k = wdA l [] (flW W O) (k + 1) := by
  unfold wdA; rw [drop_at h, wdQ, if_pos hb]
theorem wdA_err {l : List UInt8} {k : Nat} {b : UInt8} {e : Nat} (h : l[k]? = some b) (hb : blkQ b = false) (he : onA l k = .error e) (W : List Pq) (O : List (List Pq)) : wdA l W O k = .error e := by
  unfold onA at he
  unfold wdA
  rw [drop_at h] at he ⊢
  rw [wdQ, if_neg (by simp [hb]), he]
theorem wdA_piece {l : List UInt8} {k e : Nat} {b : UInt8} {p : Pq} (h : l[k]? = some b) (hb : blkQ b = false) (he : onA l k = .ok (p, l.drop e)) (W : List Pq) (O : List (List Pq)) : wdA l W O k = wdA l (W ++ [p]) O e := by
  unfold onA at he
  unfold wdA
  rw [drop_at h] at he ⊢
  have := on_ok hb he
  rw [wdQ, if_neg (by simp [hb]), he]
  simp only
  rw [if_pos this.2.2]
/-- a piece that begins at a place ends behind it, in the text -/
theorem on_place {l : List UInt8} {k e : Nat} {b : UInt8} {p : Pq} (h : l[k]? = some b) (hb : blkQ b = false) (he : onA l k = .ok (p, l.drop e)) (hle : e ≤ l.length) : k < e := by
  unfold onA at he
  rw [drop_at h] at he
  have := (on_ok hb he).2.2
  simp only [List.length_drop] at this
  have hk := (List.getElem?_eq_some_iff.1 h).1
  omega
theorem plc_of {b : UInt8} (hb : blkQ b = false) (h1 : b ≠ 39) (h2 : b ≠ 36) (h3 : b ≠ 96) : plcQ b = true := by unfold plcQ; simp [hb, h1, h2, h3]
end Go.Proofs.YtaihpgjimhifcaaDoor
