/- Words as rows of pieces, plainly: a piece off a text, all words, a word's text, and that the words' texts, with blanks between, have the same words. Words of a text, plainly, place by place: where bytes of a kind end, the piece that begins at a place, what comes from a place on. -/
import Derived.Test.YtdganemgldocoaaGreatDoorQtPlain
namespace Go.Proofs.YtdganemgldocoaaGreatDoor

/-- a piece: its kind, its text, its two patterns -/
structure Pq where
  k : Int
  t : List UInt8
  f : List UInt8
  o : List UInt8
def ltrQ (b : UInt8) : Bool := b == 95 || (decide (48 ≤ b.toNat) && decide (b.toNat ≤ 57)) || (decide (65 ≤ b.toNat) && decide (b.toNat ≤ 90)) || (decide (97 ≤ b.toNat) && decide (b.toNat ≤ 122))
def namQ (l : List UInt8) : Bool := !l.isEmpty && decide (l.length ≤ 12) && l.all ltrQ
def plcQ (b : UInt8) : Bool := !(blkQ b || b == 39 || b == 36 || b == 96)
def patQ (b : UInt8) : Bool := !(blkQ b || b == 39 || b == 36 || b == 96 || b == 61 || b == 123 || b == 125)
def bckQ (b : UInt8) : Bool := !(b == 123 || b == 125)
/-- behind that byte, if it is there -/
def eatQ (c : UInt8) : List UInt8 → Option (List UInt8)
  | [] => none
  | b :: r => if b = c then some r else none
theorem eat_cons (c : UInt8) (r : List UInt8) : eatQ c (c :: r) = some r := if_pos rfl
theorem eat_some {c : UInt8} {l r : List UInt8} (h : eatQ c l = some r) : l = c :: r := by
  cases l with
  | nil => cases h
  | cons b l =>
    have h : (if b = c then some l else none) = some r := h
    by_cases e : b = c
    · rw [if_pos e] at h; cases h; rw [e]
    · rw [if_neg e] at h; cases h
/-- a quoted part behind its first quote: what it says, what is behind it -/
def qtQ : List UInt8 → Option (List UInt8 × List UInt8)
  | [] => none
  | [b] => if b = 39 then some ([], []) else none
  | b :: c :: r => if b = 39 then (if c = 39 then (qtQ r).map fun x => (39 :: x.1, x.2) else some ([], c :: r)) else (qtQ (c :: r)).map fun x => (b :: x.1, x.2)
theorem qt_some : ∀ (r : List UInt8) (i e : Nat), endF r i = some e → qtQ r = some (unQ (r.take (e - 1 - i)), r.drop (e - i))
  | [], i, e, he => by simp [endF] at he
  | [b], i, e, he => by
    rw [endF] at he
    split at he
    · rename_i hb
      cases he; subst hb
      rw [show i + 1 - 1 - i = 0 by omega, show i + 1 - i = 1 by omega]
      simp [qtQ, unQ_nil]
    · cases he
  | b :: c :: r, i, e, he => by
    rw [endF] at he
    split at he
    · rename_i hb
      subst hb
      split at he
      · rename_i hc
        subst hc
        have hle := (endF_le r (i + 2) e he).1
        have ih := qt_some r (i + 2) e he
        rw [qtQ, if_pos rfl, if_pos rfl, ih, show e - 1 - i = (e - 1 - (i + 2)) + 2 by omega, show e - i = (e - (i + 2)) + 2 by omega, List.take_succ_cons, List.take_succ_cons, List.drop_succ_cons, List.drop_succ_cons, unQ_two]
        rfl
      · rename_i hc
        cases he
        rw [show i + 1 - 1 - i = 0 by omega, show i + 1 - i = 1 by omega, qtQ, if_pos rfl, if_neg hc]
        simp [unQ_nil]
    · rename_i hb
      have hle := (endF_le (c :: r) (i + 1) e he).1
      have ih := qt_some (c :: r) (i + 1) e he
      rw [qtQ, if_neg hb, ih, show e - 1 - i = (e - 1 - (i + 1)) + 1 by omega, show e - i = (e - (i + 1)) + 1 by omega, List.take_succ_cons, List.drop_succ_cons, unQ_one hb]
      rfl
theorem qt_none : ∀ (r : List UInt8) (i : Nat), endF r i = none → qtQ r = none
  | [], i, he => rfl
  | [b], i, he => by
    rw [endF] at he
    split at he
    · cases he
    · rename_i hb
      rw [qtQ, if_neg hb]
  | b :: c :: r, i, he => by
    rw [endF] at he
    split at he
    · rename_i hb
      split at he
      · rename_i hc
        rw [qtQ, if_pos hb, if_pos hc, qt_none r (i + 2) he]; rfl
      · cases he
    · rename_i hb
      rw [qtQ, if_neg hb, qt_none (c :: r) (i + 1) he]; rfl
theorem qt_head : ∀ {r t r' : List UInt8}, qtQ r = some (t, r') → r'.head? ≠ some 39 ∧ r'.length < r.length
  | [], t, r', h => by cases h
  | [b], t, r', h => by
    rw [qtQ] at h
    split at h
    · cases h; simp
    · cases h
  | b :: c :: r, t, r', h => by
    rw [qtQ] at h
    split at h
    · split at h
      · cases hq : qtQ r with
        | none => rw [hq] at h; cases h
        | some x =>
          rw [hq] at h
          have := qt_head (r := r) (t := x.1) (r' := x.2) hq
          cases h
          refine ⟨this.1, ?_⟩
          have := this.2
          simp only [List.length_cons]; omega
      · rename_i hc
        cases h
        refine ⟨by simpa using hc, by simp⟩
    · cases hq : qtQ (c :: r) with
      | none => rw [hq] at h; cases h
      | some x =>
        rw [hq] at h
        have := qt_head (r := c :: r) (t := x.1) (r' := x.2) hq
        cases h
        refine ⟨this.1, ?_⟩
        have := this.2
        simp only [List.length_cons] at this ⊢; omega
theorem qt_two : ∀ (t r : List UInt8), r.head? ≠ some 39 → qtQ (twoQ t ++ 39 :: r) = some (t, r)
  | [], r, h => by
    have e : twoQ [] ++ 39 :: r = 39 :: r := rfl
    rw [e]
    cases r with
    | nil => rfl
    | cons c r => rw [qtQ, if_pos rfl, if_neg (by simpa using h)]
  | b :: t, r, h => by
    have ih := qt_two t r h
    by_cases hb : b = 39
    · subst hb
      have e : twoQ (39 :: t) ++ 39 :: r = 39 :: 39 :: (twoQ t ++ 39 :: r) := by simp [twoQ]
      rw [e, qtQ, if_pos rfl, if_pos rfl, ih]; rfl
    · have e : twoQ (b :: t) ++ 39 :: r = b :: (twoQ t ++ 39 :: r) := by simp [twoQ, hb]
      rw [e]
      cases hx : twoQ t ++ 39 :: r with
      | nil => simp at hx
      | cons c x =>
        rw [qtQ, if_neg hb, ← hx, ih]; rfl
/-- behind a curly bracket and a name -/
def crQ (n r : List UInt8) : Except Nat (Pq × List UInt8) :=
  match eatQ 58 r with
  | none => match eatQ 125 r with
    | none => .error 3
    | some r3 => .ok (⟨2, n, [], []⟩, r3)
  | some r3 => match eatQ 61 (r3.dropWhile patQ) with
    | none => .error 3
    | some r5 => match eatQ 125 (r5.dropWhile patQ) with
      | none => .error 3
      | some r6 => .ok (⟨3, n, r3.takeWhile patQ, r5.takeWhile patQ⟩, r6)
/-- behind a dollar sign -/
def dlQ (r : List UInt8) : Except Nat (Pq × List UInt8) :=
  match eatQ 123 r with
  | none => if namQ (r.takeWhile ltrQ) then .ok (⟨2, r.takeWhile ltrQ, [], []⟩, r.dropWhile ltrQ) else .error 4
  | some r2 => if namQ (r2.takeWhile ltrQ) then crQ (r2.takeWhile ltrQ) (r2.dropWhile ltrQ) else .error 4
/-- behind a backquote -/
def bkQ (r : List UInt8) : Except Nat (Pq × List UInt8) :=
  match eatQ 123 r with
  | none => .error 3
  | some r2 => match eatQ 125 (r2.dropWhile bckQ) with
    | none => .error 3
    | some r3 => .ok (⟨4, r2.takeWhile bckQ, [], []⟩, r3)
/-- the piece with which a text begins, and what is behind it; or an error -/
def onQ : List UInt8 → Except Nat (Pq × List UInt8)
  | [] => .error 0
  | b :: r =>
    if b = 39 then
      match qtQ r with
      | none => .error 5
      | some x => .ok (⟨1, x.1, [], []⟩, x.2)
    else if b = 96 then bkQ r
    else if b = 36 then dlQ r
    else .ok (⟨0, (b :: r).takeWhile plcQ, [], []⟩, (b :: r).dropWhile plcQ)
def flW (W : List Pq) (O : List (List Pq)) : List (List Pq) := if W.isEmpty then O else O ++ [W]
/-- the words of a text: the pieces of the word so far, the words ahead of it -/
def wdQ (W : List Pq) (O : List (List Pq)) (l : List UInt8) : Except Nat (List (List Pq)) :=
  match l with
  | [] => .ok (flW W O)
  | b :: r =>
    if blkQ b then wdQ [] (flW W O) r
    else match onQ (b :: r) with
      | .error e => .error e
      | .ok x => if x.2.length < r.length + 1 then wdQ (W ++ [x.1]) O x.2 else .error 0
termination_by l.length
/-- a piece's text, a word's, that of words with blanks between -/
def txP (p : Pq) : List UInt8 :=
  if p.k = 0 then p.t
  else if p.k = 1 then 39 :: (twoQ p.t ++ [39])
  else if p.k = 2 then 36 :: 123 :: (p.t ++ [125])
  else if p.k = 3 then 36 :: 123 :: (p.t ++ 58 :: (p.f ++ 61 :: (p.o ++ [125])))
  else if p.k = 4 then 96 :: 123 :: (p.t ++ [125])
  else []
def txW (w : List Pq) : List UInt8 := w.flatMap txP
def bkT (L : List (List Pq)) : List UInt8 := L.flatMap fun w => 32 :: txW w
/-- what a word says; whether it says it -/
def litB (p : Pq) : Bool := decide (p.k = 0) || decide (p.k = 1)
def litQ (w : List Pq) : List UInt8 := if w.all litB then w.flatMap (·.t) else []

/-- a piece as it comes off a text, ahead of that byte -/
def okH (p : Pq) (h : Option UInt8) : Prop :=
  (p.k = 0 ∧ p.f = [] ∧ p.o = [] ∧ p.t ≠ [] ∧ p.t.all plcQ = true ∧ ∀ b, h = some b → plcQ b = false) ∨
  (p.k = 1 ∧ p.f = [] ∧ p.o = [] ∧ h ≠ some 39) ∨
  (p.k = 2 ∧ p.f = [] ∧ p.o = [] ∧ namQ p.t = true) ∨
  (p.k = 3 ∧ namQ p.t = true ∧ p.f.all patQ = true ∧ p.o.all patQ = true) ∨
  (p.k = 4 ∧ p.f = [] ∧ p.o = [] ∧ p.t.all bckQ = true)
theorem tw_all {p : UInt8 → Bool} {l r : List UInt8} (hl : l.all p = true) (hr : ∀ b, r.head? = some b → p b = false) : (l ++ r).takeWhile p = l ∧ (l ++ r).dropWhile p = r := by
  induction l with
  | nil =>
    cases r with
    | nil => exact ⟨rfl, rfl⟩
    | cons b r =>
      have hb := hr b rfl
      exact ⟨List.takeWhile_cons_of_neg (by simp [hb]), List.dropWhile_cons_of_neg (by simp [hb])⟩
  | cons a l ih =>
    rw [List.all_cons, Bool.and_eq_true] at hl
    obtain ⟨h1, h2⟩ := ih hl.2
    rw [List.cons_append, List.takeWhile_cons_of_pos hl.1, List.dropWhile_cons_of_pos hl.1, h1, h2]
    exact ⟨rfl, rfl⟩
theorem tw_eat {p : UInt8 → Bool} {l r : List UInt8} {c : UInt8} (hl : l.all p = true) (hc : p c = false) : (l ++ c :: r).takeWhile p = l ∧ (l ++ c :: r).dropWhile p = c :: r :=
  tw_all hl (fun b hb => by simp at hb; subst hb; exact hc)
theorem nam_all {l : List UInt8} (h : namQ l = true) : l.all ltrQ = true := by unfold namQ at h; simp only [Bool.and_eq_true] at h; exact h.2
/-- a piece's text, ahead of what may stand behind it, is that piece -/
theorem on_txt {p : Pq} {r : List UInt8} (h : okH p r.head?) : onQ (txP p ++ r) = .ok (p, r) := by
  obtain ⟨k, t, f, o⟩ := p
  rcases h with ⟨hk, hf, ho, ht, ha, hh⟩ | ⟨hk, hf, ho, hh⟩ | ⟨hk, hf, ho, hn⟩ | ⟨hk, hn, hf, ho⟩ | ⟨hk, hf, ho, ha⟩
  · simp only at hk hf ho ht ha
    subst hk hf ho
    obtain ⟨h1, h2⟩ := tw_all ha hh
    cases t with
    | nil => exact (ht rfl).elim
    | cons b t =>
      have hb : plcQ b = true := by rw [List.all_cons, Bool.and_eq_true] at ha; exact ha.1
      have hb2 : b ≠ 39 ∧ b ≠ 96 ∧ b ≠ 36 := by
        unfold plcQ at hb
        refine ⟨?_, ?_, ?_⟩ <;> (rintro rfl; simp at hb)
      have e : txP ⟨0, b :: t, [], []⟩ ++ r = b :: (t ++ r) := rfl
      rw [e, onQ, if_neg hb2.1, if_neg hb2.2.1, if_neg hb2.2.2]
      rw [List.cons_append] at h1 h2
      rw [h1, h2]
  · simp only at hk hf ho
    subst hk hf ho
    have e : txP ⟨1, t, [], []⟩ ++ r = 39 :: (twoQ t ++ 39 :: r) := by simp [txP]
    rw [e, onQ, if_pos rfl, qt_two t r hh]
  · simp only at hk hf ho hn
    subst hk hf ho
    have e : txP ⟨2, t, [], []⟩ ++ r = 36 :: 123 :: (t ++ 125 :: r) := by simp [txP]
    obtain ⟨h1, h2⟩ := tw_eat (r := r) (c := 125) (nam_all hn) (by decide)
    rw [e, onQ, if_neg (by decide), if_neg (by decide), if_pos rfl]
    unfold dlQ
    rw [eat_cons]
    simp only [h1, h2, hn, if_true]
    unfold crQ
    rw [show eatQ 58 (125 :: r) = none from rfl, eat_cons]
  · simp only at hk hf ho hn
    subst hk
    have e : txP ⟨3, t, f, o⟩ ++ r = 36 :: 123 :: (t ++ 58 :: (f ++ 61 :: (o ++ 125 :: r))) := by simp [txP]
    obtain ⟨h1, h2⟩ := tw_eat (r := f ++ 61 :: (o ++ 125 :: r)) (c := 58) (nam_all hn) (by decide)
    obtain ⟨h3, h4⟩ := tw_eat (r := o ++ 125 :: r) (c := 61) hf (by decide)
    obtain ⟨h5, h6⟩ := tw_eat (r := r) (c := 125) ho (by decide)
    rw [e, onQ, if_neg (by decide), if_neg (by decide), if_pos rfl]
    unfold dlQ
    rw [eat_cons]
    simp only [h1, h2, hn, if_true]
    unfold crQ
    rw [eat_cons]
    simp only [h3, h4, eat_cons, h5, h6]
  · simp only at hk hf ho ha
    subst hk hf ho
    have e : txP ⟨4, t, [], []⟩ ++ r = 96 :: 123 :: (t ++ 125 :: r) := by simp [txP]
    obtain ⟨h1, h2⟩ := tw_eat (r := r) (c := 125) ha (by decide)
    rw [e, onQ, if_neg (by decide), if_pos rfl]
    unfold bkQ
    rw [eat_cons]
    simp only [h1, h2, eat_cons]
theorem dw_head {p : UInt8 → Bool} : ∀ {l : List UInt8} {b : UInt8}, (l.dropWhile p).head? = some b → p b = false
  | [], b, h => by simp at h
  | a :: l, b, h => by
    by_cases ha : p a = true
    · rw [List.dropWhile_cons_of_pos ha] at h; exact dw_head h
    · rw [List.dropWhile_cons_of_neg ha] at h
      simp at h; subst h; simpa using ha
theorem tw_mem {p : UInt8 → Bool} : ∀ l : List UInt8, (l.takeWhile p).all p = true
  | [] => rfl
  | a :: l => by
    by_cases ha : p a = true
    · rw [List.takeWhile_cons_of_pos ha, List.all_cons, ha, tw_mem l]; rfl
    · rw [List.takeWhile_cons_of_neg ha]; rfl
theorem dw_le {p : UInt8 → Bool} (l : List UInt8) : (l.dropWhile p).length ≤ l.length := (List.dropWhile_sublist p).length_le
theorem eat_len {c : UInt8} {l r : List UInt8} (h : eatQ c l = some r) : l.length = r.length + 1 := by rw [eat_some h]; rfl
theorem bk_ok {r : List UInt8} {x : Pq × List UInt8} (h : bkQ r = .ok x) : okH x.1 x.2.head? ∧ x.1.k = 4 ∧ x.2.length ≤ r.length := by
  unfold bkQ at h
  split at h
  · cases h
  · rename_i r2 h2
    split at h
    · cases h
    · rename_i r3 h3
      cases h
      refine ⟨.inr (.inr (.inr (.inr ⟨rfl, rfl, rfl, tw_mem _⟩))), rfl, ?_⟩
      have l2 := eat_len h2; have l3 := eat_len h3; have := dw_le (p := bckQ) r2
      show r3.length ≤ r.length; omega
theorem dl_ok {r : List UInt8} {x : Pq × List UInt8} (h : dlQ r = .ok x) : okH x.1 x.2.head? ∧ (x.1.k = 2 ∨ x.1.k = 3) ∧ x.2.length ≤ r.length := by
  unfold dlQ at h
  split at h
  · split at h
    · rename_i hn
      cases h
      exact ⟨.inr (.inr (.inl ⟨rfl, rfl, rfl, hn⟩)), .inl rfl, dw_le _⟩
    · cases h
  · rename_i r2 h2
    split at h
    · rename_i hn
      have l2 := eat_len h2; have d2 := dw_le (p := ltrQ) r2
      unfold crQ at h
      split at h
      · split at h
        · cases h
        · rename_i r3 h3
          cases h
          have l3 := eat_len h3
          exact ⟨.inr (.inr (.inl ⟨rfl, rfl, rfl, hn⟩)), .inl rfl, by show r3.length ≤ r.length; omega⟩
      · rename_i r3 h3
        have l3 := eat_len h3; have d3 := dw_le (p := patQ) r3
        split at h
        · cases h
        · rename_i r5 h5
          have l5 := eat_len h5; have d5 := dw_le (p := patQ) r5
          split at h
          · cases h
          · rename_i r6 h6
            have l6 := eat_len h6
            cases h
            exact ⟨.inr (.inr (.inr (.inl ⟨rfl, hn, tw_mem _, tw_mem _⟩))), .inr rfl, by show r6.length ≤ r.length; omega⟩
    · cases h
/-- what comes off a text is as told, begins with that text's byte, and is not empty -/
theorem on_ok {b : UInt8} {r : List UInt8} {x : Pq × List UInt8} (hb : blkQ b = false) (h : onQ (b :: r) = .ok x) : okH x.1 x.2.head? ∧ (txP x.1).head? = some b ∧ x.2.length < r.length + 1 := by
  rw [onQ] at h
  split at h
  · rename_i h39
    split at h
    · cases h
    · rename_i y hq
      cases h
      obtain ⟨q1, q2⟩ := qt_head (t := y.1) (r' := y.2) hq
      exact ⟨.inr (.inl ⟨rfl, rfl, rfl, q1⟩), by rw [h39]; rfl, by show y.2.length < r.length + 1; omega⟩
  · rename_i h39
    split at h
    · rename_i h96
      obtain ⟨q1, q2, q3⟩ := bk_ok h
      refine ⟨q1, ?_, by omega⟩
      unfold txP
      rw [q2, h96]; rfl
    · rename_i h96
      split at h
      · rename_i h36
        obtain ⟨q1, q2, q3⟩ := dl_ok h
        refine ⟨q1, ?_, by omega⟩
        unfold txP
        rcases q2 with q2 | q2 <;> (rw [q2, h36]; rfl)
      · rename_i h36
        cases h
        have hp : plcQ b = true := by
          unfold plcQ
          simp [hb, h39, h36, h96]
        refine ⟨.inl ⟨rfl, rfl, rfl, ?_, tw_mem _, fun c hc => dw_head hc⟩, ?_, ?_⟩
        · simp only
          rw [List.takeWhile_cons_of_pos hp]; simp
        · show ((b :: r).takeWhile plcQ).head? = some b
          rw [List.takeWhile_cons_of_pos hp]; rfl
        · simp only
          rw [List.dropWhile_cons_of_pos hp]
          have := dw_le (p := plcQ) r
          omega
/-- pieces one behind the other, ahead of that byte -/
def chW : List Pq → Option UInt8 → Prop
  | [], _ => True
  | p :: w, h => okH p ((txW w).head?.or h) ∧ chW w h
theorem ch_snoc : ∀ {w : List Pq} {p : Pq} {h : Option UInt8} {b : UInt8}, chW w (some b) → (txP p).head? = some b → okH p h → chW (w ++ [p]) h
  | [], p, h, b, _, hp, ho => by
    refine ⟨?_, trivial⟩
    simpa [txW] using ho
  | q :: w, p, h, b, ⟨h1, h2⟩, hp, ho => by
    refine ⟨?_, ch_snoc h2 hp ho⟩
    have e : (txW (w ++ [p])).head?.or h = (txW w).head?.or (some b) := by
      unfold txW
      rw [List.flatMap_append, List.head?_append]
      cases hw : (w.flatMap txP).head? with
      | none =>
        simp [hp]
      | some c => simp
    show okH q ((txW (w ++ [p])).head?.or h)
    rw [e]; exact h1
theorem ch_end {h h' : Option UInt8} (hm : ∀ p, okH p h → okH p h') : ∀ {w : List Pq}, chW w h → chW w h'
  | [], _ => trivial
  | p :: w, ⟨h1, h2⟩ => by
    refine ⟨?_, ch_end hm h2⟩
    cases hw : (txW w).head? with
    | none => rw [hw] at h1; simp at h1; simpa using hm p h1
    | some c => rw [hw] at h1; simpa using h1
theorem ok_end {p : Pq} {h h' : Option UInt8} (hh : ∀ b, h' = some b → blkQ b = true) (ho : okH p h) : okH p h' := by
  rcases ho with ⟨hk, hf, hq, ht, ha, -⟩ | ⟨hk, hf, hq, -⟩ | h3 | h4 | h5
  · exact .inl ⟨hk, hf, hq, ht, ha, fun b hb => by unfold plcQ; rw [hh b hb]; rfl⟩
  · refine .inr (.inl ⟨hk, hf, hq, fun e => ?_⟩)
    have := hh 39 e; cases this
  · exact .inr (.inr (.inl h3))
  · exact .inr (.inr (.inr (.inl h4)))
  · exact .inr (.inr (.inr (.inr h5)))
/-- a word as it comes off a text -/
def gdW (w : List Pq) : Prop := w ≠ [] ∧ chW w none ∧ chW w (some 32)
theorem gd_of {w : List Pq} {h : Option UInt8} (hw : w ≠ []) (hc : chW w h) : gdW w :=
  ⟨hw, ch_end (fun _ ho => ok_end (fun b e => by cases e) ho) hc, ch_end (fun _ ho => ok_end (fun b e => by cases e; rfl) ho) hc⟩
theorem wd_good : ∀ (n : Nat) (l : List UInt8) (W : List Pq) (O L : List (List Pq)), l.length ≤ n → chW W l.head? → (∀ w ∈ O, gdW w) → wdQ W O l = .ok L → ∀ w ∈ L, gdW w := by
  have fl : ∀ (W : List Pq) (O : List (List Pq)) (h : Option UInt8), chW W h → (∀ w ∈ O, gdW w) → ∀ w ∈ flW W O, gdW w := by
    intro W O h hc hO w hw
    unfold flW at hw
    split at hw
    · exact hO w hw
    · rename_i he
      rcases List.mem_append.1 hw with hw | hw
      · exact hO w hw
      · simp at hw; subst hw
        exact gd_of (by intro e; simp [e] at he) hc
  intro n
  induction n with
  | zero =>
    intro l W O L hl hc hO h
    obtain rfl : l = [] := List.eq_nil_of_length_eq_zero (by omega)
    rw [wdQ] at h
    cases h
    exact fl W O _ hc hO
  | succ n ih =>
    intro l W O L hl hc hO h
    cases l with
    | nil =>
      rw [wdQ] at h
      cases h
      exact fl W O _ hc hO
    | cons b r =>
      rw [wdQ] at h
      split at h
      · exact ih r [] (flW W O) L (by simp at hl; omega) trivial (fl W O _ hc hO) h
      · rename_i hb
        have hb : blkQ b = false := by simpa using hb
        split at h
        · cases h
        · rename_i x hx
          obtain ⟨q1, q2, q3⟩ := on_ok hb hx
          rw [if_pos q3] at h
          exact ih x.2 (W ++ [x.1]) O L (by simp at hl; omega) (ch_snoc hc q2 q1) hO h
theorem tx_first {p : Pq} {h : Option UInt8} (ho : okH p h) : ∃ b r, txP p = b :: r ∧ blkQ b = false := by
  unfold txP
  rcases ho with ⟨hk, -, -, ht, ha, -⟩ | ⟨hk, -⟩ | ⟨hk, -⟩ | ⟨hk, -⟩ | ⟨hk, -⟩
  · rw [if_pos hk]
    cases e : p.t with
    | nil => exact (ht e).elim
    | cons b r =>
      refine ⟨b, r, rfl, ?_⟩
      rw [e, List.all_cons, Bool.and_eq_true] at ha
      have := ha.1
      unfold plcQ at this
      simp at this; exact this.1.1.1
  all_goals (rw [hk]; exact ⟨_, _, rfl, rfl⟩)
/-- a word's text is read as that word -/
theorem wd_word : ∀ (w W : List Pq) (O : List (List Pq)) (r : List UInt8), chW w r.head? → wdQ W O (txW w ++ r) = wdQ (W ++ w) O r
  | [], W, O, r, _ => by simp [txW]
  | p :: w, W, O, r, ⟨h1, h2⟩ => by
    have e : txW (p :: w) ++ r = txP p ++ (txW w ++ r) := by unfold txW; rw [List.flatMap_cons, List.append_assoc]
    have h3 : okH p (txW w ++ r).head? := by rw [List.head?_append]; exact h1
    have h4 := on_txt h3
    obtain ⟨b, t, hbt, hb⟩ := tx_first h3
    rw [e]
    rw [hbt, List.cons_append] at h4 ⊢
    rw [wdQ, if_neg (by simp [hb]), h4]
    simp only
    rw [if_pos (by simp; omega), wd_word w (W ++ [p]) O r h2]
    simp
theorem wd_back : ∀ (L : List (List Pq)) (O : List (List Pq)), (∀ w ∈ L, gdW w) → wdQ [] O (bkT L) = .ok (O ++ L)
  | [], O, _ => by rw [show bkT [] = [] from rfl, wdQ]; simp [flW]
  | w :: L, O, h => by
    have hw := h w (by simp)
    have ih := wd_back L (O ++ [w]) fun x hx => h x (List.mem_cons_of_mem _ hx)
    have e : bkT (w :: L) = 32 :: (txW w ++ bkT L) := by unfold bkT; simp
    rw [e, wdQ, if_pos (show blkQ 32 = true from rfl), show flW [] O = O from rfl, wd_word w [] O (bkT L) (by
      cases L with
      | nil => exact hw.2.1
      | cons v L => exact hw.2.2), List.nil_append]
    cases L with
    | nil =>
      rw [show bkT [] = [] from rfl, wdQ]
      unfold flW
      rw [if_neg (by intro e; exact hw.1 (List.isEmpty_iff.1 e))]
    | cons v L =>
      have e2 : bkT (v :: L) = 32 :: (txW v ++ bkT L) := by unfold bkT; simp
      rw [e2, wdQ, if_pos (show blkQ 32 = true from rfl)] at ih ⊢
      rw [show flW w O = O ++ [w] by unfold flW; rw [if_neg (by intro e; exact hw.1 (List.isEmpty_iff.1 e))]]
      rw [show flW [] (O ++ [w]) = O ++ [w] from rfl] at ih
      rw [ih]; simp
/-- P13.2: the words' texts, with blanks between, have the same words -/
theorem lex_back {s : List UInt8} {L : List (List Pq)} (h : wdQ [] [] s = .ok L) : wdQ [] [] (bkT L) = .ok L := by
  have := wd_back L [] (wd_good s.length s [] [] L (Nat.le_refl _) trivial (by simp) h)
  simpa using this
/-- how long the words' texts are -/
theorem qt_len : ∀ {r t r' : List UInt8}, qtQ r = some (t, r') → (twoQ t).length + 1 + r'.length = r.length
  | [], t, r', h => by cases h
  | [b], t, r', h => by
    rw [qtQ] at h
    split at h
    · cases h; rfl
    · cases h
  | b :: c :: r, t, r', h => by
    rw [qtQ] at h
    split at h
    · split at h
      · cases hq : qtQ r with
        | none => rw [hq] at h; cases h
        | some x =>
          rw [hq] at h
          have := qt_len (r := r) (t := x.1) (r' := x.2) hq
          cases h
          have e : twoQ (39 :: x.1) = 39 :: 39 :: twoQ x.1 := by simp [twoQ]
          rw [e]
          simp only [List.length_cons] at this ⊢; omega
      · cases h
        have e : twoQ [] = [] := rfl
        rw [e]; simp only [List.length_cons, List.length_nil]; omega
    · rename_i hb
      cases hq : qtQ (c :: r) with
      | none => rw [hq] at h; cases h
      | some x =>
        rw [hq] at h
        have := qt_len (r := c :: r) (t := x.1) (r' := x.2) hq
        cases h
        have e : twoQ (b :: x.1) = b :: twoQ x.1 := by simp [twoQ, hb]
        rw [e]
        simp only [List.length_cons] at this ⊢; omega
theorem tw_dw (p : UInt8 → Bool) (l : List UInt8) : (l.takeWhile p).length + (l.dropWhile p).length = l.length := by
  have h : l.takeWhile p ++ l.dropWhile p = l := List.takeWhile_append_dropWhile
  have h2 := congrArg List.length h
  rw [List.length_append] at h2
  exact h2
theorem on_len {b : UInt8} {r : List UInt8} {x : Pq × List UInt8} (h : onQ (b :: r) = .ok x) : (txP x.1).length + x.2.length ≤ r.length + 3 := by
  rw [onQ] at h
  split at h
  · split at h
    · cases h
    · rename_i y hq
      cases h
      have := qt_len (t := y.1) (r' := y.2) hq
      have e : txP ⟨1, y.1, [], []⟩ = 39 :: (twoQ y.1 ++ [39]) := rfl
      show (txP ⟨1, y.1, [], []⟩).length + y.2.length ≤ _
      rw [e]; simp; omega
  · split at h
    · unfold bkQ at h
      split at h
      · cases h
      · rename_i r2 h2
        split at h
        · cases h
        · rename_i r3 h3
          cases h
          have l2 := eat_len h2; have l3 := eat_len h3; have := tw_dw bckQ r2
          have e : txP ⟨4, r2.takeWhile bckQ, [], []⟩ = 96 :: 123 :: (r2.takeWhile bckQ ++ [125]) := rfl
          show (txP ⟨4, r2.takeWhile bckQ, [], []⟩).length + r3.length ≤ _
          rw [e]; simp only [List.length_cons, List.length_append, List.length_nil]; omega
    · split at h
      · have e2 : ∀ n : List UInt8, (txP ⟨2, n, [], []⟩).length = n.length + 3 := fun n => by
          have e : txP ⟨2, n, [], []⟩ = 36 :: 123 :: (n ++ [125]) := rfl
          rw [e]; simp
        unfold dlQ at h
        split at h
        · split at h
          · cases h
            have := tw_dw ltrQ r
            show (txP ⟨2, r.takeWhile ltrQ, [], []⟩).length + (r.dropWhile ltrQ).length ≤ _
            rw [e2]; omega
          · cases h
        · rename_i r2 h2
          split at h
          · have l2 := eat_len h2; have d2 := tw_dw ltrQ r2
            unfold crQ at h
            split at h
            · split at h
              · cases h
              · rename_i r3 h3
                cases h
                have l3 := eat_len h3
                show (txP ⟨2, r2.takeWhile ltrQ, [], []⟩).length + r3.length ≤ _
                rw [e2]; omega
            · rename_i r3 h3
              have l3 := eat_len h3; have d3 := tw_dw patQ r3
              split at h
              · cases h
              · rename_i r5 h5
                have l5 := eat_len h5; have d5 := tw_dw patQ r5
                split at h
                · cases h
                · rename_i r6 h6
                  have l6 := eat_len h6
                  cases h
                  have e : txP ⟨3, r2.takeWhile ltrQ, r3.takeWhile patQ, r5.takeWhile patQ⟩ = 36 :: 123 :: (r2.takeWhile ltrQ ++ 58 :: (r3.takeWhile patQ ++ 61 :: (r5.takeWhile patQ ++ [125]))) := rfl
                  show (txP ⟨3, r2.takeWhile ltrQ, r3.takeWhile patQ, r5.takeWhile patQ⟩).length + r6.length ≤ _
                  rw [e]; simp only [List.length_cons, List.length_append, List.length_nil]; omega
          · cases h
      · cases h
        have := tw_dw plcQ (b :: r)
        show (txP ⟨0, (b :: r).takeWhile plcQ, [], []⟩).length + ((b :: r).dropWhile plcQ).length ≤ _
        have e : txP ⟨0, (b :: r).takeWhile plcQ, [], []⟩ = (b :: r).takeWhile plcQ := rfl
        rw [e]; simp only [List.length_cons] at this; omega
theorem txW_snoc (W : List Pq) (p : Pq) : txW (W ++ [p]) = txW W ++ txP p := by unfold txW; simp
theorem bkT_snoc (O : List (List Pq)) (W : List Pq) : bkT (O ++ [W]) = bkT O ++ 32 :: txW W := by unfold bkT; simp
def potQ (W : List Pq) : Nat := (txW W).length + if W.isEmpty then 0 else 1
theorem fl_len (W : List Pq) (O : List (List Pq)) : (bkT (flW W O)).length = (bkT O).length + potQ W := by
  unfold flW potQ
  split
  · rename_i h
    rw [List.isEmpty_iff.1 h]; rfl
  · rw [bkT_snoc]; simp
theorem wd_len : ∀ (n : Nat) (l : List UInt8) (W : List Pq) (O L : List (List Pq)), l.length ≤ n → wdQ W O l = .ok L → (bkT L).length ≤ (bkT O).length + potQ W + 4 * l.length := by
  intro n
  induction n with
  | zero =>
    intro l W O L hl h
    obtain rfl : l = [] := List.eq_nil_of_length_eq_zero (by omega)
    rw [wdQ] at h; cases h
    rw [fl_len]; omega
  | succ n ih =>
    intro l W O L hl h
    cases l with
    | nil => rw [wdQ] at h; cases h; rw [fl_len]; omega
    | cons b r =>
      rw [wdQ] at h
      split at h
      · have := ih r [] (flW W O) L (by simp at hl; omega) h
        rw [fl_len] at this
        have e : potQ [] = 0 := rfl
        rw [e] at this
        simp only [List.length_cons]; omega
      · split at h
        · cases h
        · rename_i x hx
          split at h
          · rename_i hlt
            have h1 := on_len hx
            have := ih x.2 (W ++ [x.1]) O L (by simp at hl; omega) h
            have e : potQ (W ++ [x.1]) = (txW W).length + (txP x.1).length + 1 := by unfold potQ; rw [txW_snoc]; simp
            rw [e] at this
            have e2 : (txW W).length ≤ potQ W := by unfold potQ; omega
            simp only [List.length_cons]; omega
          · cases h
/-- the errors of a text -/
theorem on_bad {b : UInt8} {r : List UInt8} {k : Nat} (h : onQ (b :: r) = .error k) : k = 3 ∨ k = 4 ∨ k = 5 := by
  rw [onQ] at h
  split at h
  · split at h
    · cases h; omega
    · cases h
  · split at h
    · unfold bkQ at h
      split at h
      · cases h; omega
      · split at h
        · cases h; omega
        · cases h
    · split at h
      · unfold dlQ at h
        split at h
        · split at h
          · cases h
          · cases h; omega
        · split at h
          · unfold crQ at h
            split at h
            · split at h
              · cases h; omega
              · cases h
            · split at h
              · cases h; omega
              · split at h
                · cases h; omega
                · cases h
          · cases h; omega
      · cases h
theorem wd_bad : ∀ (n : Nat) (l : List UInt8) (W : List Pq) (O : List (List Pq)) (k : Nat), l.length ≤ n → wdQ W O l = .error k → k = 3 ∨ k = 4 ∨ k = 5 := by
  intro n
  induction n with
  | zero =>
    intro l W O k hl h
    obtain rfl : l = [] := List.eq_nil_of_length_eq_zero (by omega)
    rw [wdQ] at h; cases h
  | succ n ih =>
    intro l W O k hl h
    cases l with
    | nil => rw [wdQ] at h; cases h
    | cons b r =>
      rw [wdQ] at h
      split at h
      · exact ih r [] (flW W O) k (by simp at hl; omega) h
      · rename_i hb
        have hb : blkQ b = false := by simpa using hb
        split at h
        · rename_i e he
          cases h; exact on_bad he
        · rename_i x hx
          obtain ⟨-, -, q3⟩ := on_ok hb hx
          rw [if_pos q3] at h
          exact ih x.2 (W ++ [x.1]) O k (by simp at hl; omega) h
/-- each piece of a good word has a text -/
theorem gd_pos : ∀ {w : List Pq} {h : Option UInt8}, chW w h → w.length ≤ (txW w).length ∧ ∀ p ∈ w, p.t.length ≤ (txW w).length ∧ p.f.length ≤ (txW w).length ∧ p.o.length ≤ (txW w).length
  | [], h, _ => ⟨Nat.le_refl _, fun p hp => by cases hp⟩
  | p :: w, h, ⟨h1, h2⟩ => by
    obtain ⟨i1, i2⟩ := gd_pos h2
    obtain ⟨b, t, hb, -⟩ := tx_first h1
    have e : (txW (p :: w)).length = (txP p).length + (txW w).length := by unfold txW; rw [List.flatMap_cons, List.length_append]
    have hp1 : 1 ≤ (txP p).length := by rw [hb]; simp
    have hp2 : p.t.length ≤ (txP p).length ∧ p.f.length ≤ (txP p).length ∧ p.o.length ≤ (txP p).length := by
      have two : ∀ l : List UInt8, l.length ≤ (twoQ l).length := by
        intro l
        induction l with
        | nil => exact Nat.le_refl _
        | cons a l ih =>
          have e : twoQ (a :: l) = (if a = 39 then [39, 39] else [a]) ++ twoQ l := by unfold twoQ; rw [List.flatMap_cons]
          rw [e, List.length_append]
          split
          · simp only [List.length_cons, List.length_nil]; omega
          · simp only [List.length_cons, List.length_nil]; omega
      unfold txP
      rcases h1 with ⟨hk, hf, ho, -⟩ | ⟨hk, hf, ho, -⟩ | ⟨hk, hf, ho, -⟩ | ⟨hk, -⟩ | ⟨hk, hf, ho, -⟩
      · rw [if_pos hk, hf, ho]; simp
      · rw [hk, hf, ho]
        have := two p.t
        simp; omega
      · rw [hk, hf, ho]
        simp; omega
      · rw [hk]; simp; omega
      · rw [hk, hf, ho]; simp; omega
    rw [e]
    refine ⟨by simp only [List.length_cons]; omega, fun q hq => ?_⟩
    rcases List.mem_cons.1 hq with rfl | hq
    · omega
    · have := i2 q hq; omega
/-- the words of a text of at most 300 bytes: how many and how long -/
theorem wd_small {s : List UInt8} {L : List (List Pq)} (h : wdQ [] [] s = .ok L) (hs : s.length ≤ 300) : (bkT L).length ≤ 1200 ∧ ∀ w ∈ L, (txW w).length ≤ 1200 ∧ w.length ≤ 1200 ∧ ∀ p ∈ w, p.t.length ≤ 1200 ∧ p.f.length ≤ 1200 ∧ p.o.length ≤ 1200 := by
  have h1 := wd_len s.length s [] [] L (Nat.le_refl _) h
  have e1 : (bkT []).length = 0 := rfl
  have e2 : potQ [] = 0 := rfl
  rw [e1, e2] at h1
  have hg := wd_good s.length s [] [] L (Nat.le_refl _) trivial (by simp) h
  refine ⟨by omega, fun w hw => ?_⟩
  have hle : (txW w).length ≤ (bkT L).length := by
    obtain ⟨L1, L2, rfl⟩ := List.append_of_mem hw
    unfold bkT
    rw [List.flatMap_append, List.flatMap_cons, List.length_append, List.length_append, List.length_cons]; omega
  obtain ⟨p1, p2⟩ := gd_pos (hg w hw).2.1
  exact ⟨by omega, by omega, fun p hp => by have := p2 p hp; omega⟩
end Go.Proofs.YtdganemgldocoaaGreatDoor

namespace Go.Proofs.YtdganemgldocoaaGreatDoor

/-- where the bytes end that p holds of, from place k on -/
def spnQ (p : UInt8 → Bool) (l : List UInt8) (k : Nat) : Nat := k + ((l.drop k).takeWhile p).length
theorem spn_on {p : UInt8 → Bool} {l : List UInt8} {k : Nat} {b : UInt8} (h : l[k]? = some b) (hb : p b = true) : spnQ p l k = spnQ p l (k + 1) := by
  unfold spnQ; rw [drop_at h, List.takeWhile_cons_of_pos hb, List.length_cons]; omega
theorem spn_off {p : UInt8 → Bool} {l : List UInt8} {k : Nat} {b : UInt8} (h : l[k]? = some b) (hb : p b = false) : spnQ p l k = k := by
  unfold spnQ; rw [drop_at h, List.takeWhile_cons_of_neg (by simp [hb])]; rfl
theorem spn_end {p : UInt8 → Bool} {l : List UInt8} {k : Nat} (h : l.length ≤ k) : spnQ p l k = k := by
  unfold spnQ; rw [List.drop_of_length_le h]; rfl
theorem spn_le {p : UInt8 → Bool} {l : List UInt8} {k : Nat} (h : k ≤ l.length) : k ≤ spnQ p l k ∧ spnQ p l k ≤ l.length := by
  unfold spnQ
  have := (List.takeWhile_sublist p (l := l.drop k)).length_le
  rw [List.length_drop] at this; omega
theorem tw_take (p : UInt8 → Bool) : ∀ m : List UInt8, m.take (m.takeWhile p).length = m.takeWhile p ∧ m.drop (m.takeWhile p).length = m.dropWhile p
  | [] => ⟨rfl, rfl⟩
  | a :: m => by
    obtain ⟨h1, h2⟩ := tw_take p m
    by_cases ha : p a = true
    · rw [List.takeWhile_cons_of_pos ha, List.dropWhile_cons_of_pos ha, List.length_cons, List.take_succ_cons, List.drop_succ_cons, h1, h2]; exact ⟨rfl, rfl⟩
    · rw [List.takeWhile_cons_of_neg ha, List.dropWhile_cons_of_neg ha]; exact ⟨rfl, rfl⟩
theorem spn_take (p : UInt8 → Bool) (l : List UInt8) (k : Nat) : (l.take (spnQ p l k)).drop k = (l.drop k).takeWhile p := by
  unfold spnQ
  rw [List.drop_take, Nat.add_sub_cancel_left]; exact (tw_take p (l.drop k)).1
theorem spn_drop (p : UInt8 → Bool) (l : List UInt8) (k : Nat) : l.drop (spnQ p l k) = (l.drop k).dropWhile p := by
  unfold spnQ
  rw [← List.drop_drop]; exact (tw_take p (l.drop k)).2
theorem spn_stop {p : UInt8 → Bool} {l : List UInt8} {k : Nat} {b : UInt8} (h : l[spnQ p l k]? = some b) : p b = false := by
  have h2 : (l.drop (spnQ p l k)).head? = some b := by rw [List.head?_drop]; exact h
  rw [spn_drop] at h2
  exact dw_head h2
/-- the byte at a place, eaten -/
theorem eat_at {c : UInt8} {l : List UInt8} {k : Nat} (h : l[k]? = some c) : eatQ c (l.drop k) = some (l.drop (k + 1)) := by rw [drop_at h, eat_cons]
theorem eat_not {c b : UInt8} {l : List UInt8} {k : Nat} (h : l[k]? = some b) (hb : b ≠ c) : eatQ c (l.drop k) = none := by
  rw [drop_at h]; show (if b = c then _ else _) = _; rw [if_neg hb]
theorem eat_end {c : UInt8} {l : List UInt8} {k : Nat} (h : l.length ≤ k) : eatQ c (l.drop k) = none := by rw [List.drop_of_length_le h]; rfl
theorem eat_no {c : UInt8} {l : List UInt8} {k : Nat} (h : l[k]? ≠ some c) : eatQ c (l.drop k) = none := by
  cases hb : l[k]? with
  | none => exact eat_end (by rw [List.getElem?_eq_none_iff] at hb; exact hb)
  | some b => exact eat_not hb (fun e => h (by rw [hb, e]))
/-- the piece that begins at a place, as an answer with the place behind it -/
def onA (l : List UInt8) (k : Nat) : Except Nat (Pq × List UInt8) := onQ (l.drop k)
theorem on_qt {l : List UInt8} {k e : Nat} (h : l[k]? = some 39) (he : endF (l.drop (k + 1)) (k + 1) = some e) : onA l k = .ok (⟨1, unQ ((l.take (e - 1)).drop (k + 1)), [], []⟩, l.drop e) := by
  have hle := endF_le _ _ _ he
  unfold onA
  rw [drop_at h, onQ, if_pos rfl, qt_some _ _ _ he]
  simp only
  rw [List.drop_drop, show k + 1 + (e - (k + 1)) = e by omega, List.drop_take]
theorem on_qt_no {l : List UInt8} {k : Nat} (h : l[k]? = some 39) (he : endF (l.drop (k + 1)) (k + 1) = none) : onA l k = .error 5 := by
  unfold onA
  rw [drop_at h, onQ, if_pos rfl, qt_none _ _ he]
theorem on_pl {l : List UInt8} {k : Nat} {b : UInt8} (h : l[k]? = some b) (hb : plcQ b = true) : onA l k = .ok (⟨0, (l.take (spnQ plcQ l k)).drop k, [], []⟩, l.drop (spnQ plcQ l k)) := by
  have hb2 : b ≠ 39 ∧ b ≠ 96 ∧ b ≠ 36 := by
    unfold plcQ at hb
    refine ⟨?_, ?_, ?_⟩ <;> (rintro rfl; simp at hb)
  unfold onA
  rw [spn_take, spn_drop, drop_at h, onQ, if_neg hb2.1, if_neg hb2.2.1, if_neg hb2.2.2]
theorem on_bk {l : List UInt8} {k : Nat} (h : l[k]? = some 96) (h1 : l[k + 1]? = some 123) (h2 : l[spnQ bckQ l (k + 2)]? = some 125) :
    onA l k = .ok (⟨4, (l.take (spnQ bckQ l (k + 2))).drop (k + 2), [], []⟩, l.drop (spnQ bckQ l (k + 2) + 1)) := by
  unfold onA
  rw [drop_at h, onQ, if_neg (by decide), if_pos rfl]
  unfold bkQ
  rw [eat_at h1]
  simp only
  rw [show k + 1 + 1 = k + 2 from rfl, ← spn_drop, eat_at h2, ← spn_take]
theorem on_bk_open {l : List UInt8} {k : Nat} (h : l[k]? = some 96) (h1 : l[k + 1]? ≠ some 123) : onA l k = .error 3 := by
  unfold onA
  rw [drop_at h, onQ, if_neg (by decide), if_pos rfl]
  unfold bkQ
  rw [eat_no h1]
theorem on_bk_shut {l : List UInt8} {k : Nat} (h : l[k]? = some 96) (h1 : l[k + 1]? = some 123) (h2 : l[spnQ bckQ l (k + 2)]? ≠ some 125) : onA l k = .error 3 := by
  unfold onA
  rw [drop_at h, onQ, if_neg (by decide), if_pos rfl]
  unfold bkQ
  rw [eat_at h1]
  simp only
  rw [show k + 1 + 1 = k + 2 from rfl, ← spn_drop, eat_no h2]
/-- what comes behind a dollar sign at place k: behind it, behind the bracket -/
theorem on_dl {l : List UInt8} {k : Nat} (h : l[k]? = some 36) : onA l k = dlQ (l.drop (k + 1)) := by
  unfold onA
  rw [drop_at h, onQ, if_neg (by decide), if_neg (by decide), if_pos rfl]
theorem dl_plain {l : List UInt8} {k : Nat} (h : l[k]? ≠ some 123) : dlQ (l.drop k) = if namQ ((l.take (spnQ ltrQ l k)).drop k) then .ok (⟨2, (l.take (spnQ ltrQ l k)).drop k, [], []⟩, l.drop (spnQ ltrQ l k)) else .error 4 := by
  unfold dlQ
  rw [eat_no h]
  simp only
  rw [spn_take, spn_drop]
theorem dl_curly {l : List UInt8} {k : Nat} (h : l[k]? = some 123) : dlQ (l.drop k) = if namQ ((l.take (spnQ ltrQ l (k + 1))).drop (k + 1)) then crQ ((l.take (spnQ ltrQ l (k + 1))).drop (k + 1)) (l.drop (spnQ ltrQ l (k + 1))) else .error 4 := by
  unfold dlQ
  rw [eat_at h]
  simp only
  rw [spn_take, spn_drop]
theorem cr_var {n l : List UInt8} {k : Nat} (h : l[k]? = some 125) : crQ n (l.drop k) = .ok (⟨2, n, [], []⟩, l.drop (k + 1)) := by
  unfold crQ
  rw [eat_not h (by decide), eat_at h]
theorem cr_no {n l : List UInt8} {k : Nat} (h : l[k]? ≠ some 58) (h1 : l[k]? ≠ some 125) : crQ n (l.drop k) = .error 3 := by
  unfold crQ
  rw [eat_no h, eat_no h1]
theorem cr_eq {n l : List UInt8} {k : Nat} (h : l[k]? = some 58) (h1 : l[spnQ patQ l (k + 1)]? ≠ some 61) : crQ n (l.drop k) = .error 3 := by
  unfold crQ
  rw [eat_at h]
  simp only
  rw [← spn_drop, eat_no h1]
theorem cr_shut {n l : List UInt8} {k m : Nat} (h : l[k]? = some 58) (hm : spnQ patQ l (k + 1) = m) (h1 : l[m]? = some 61) (h2 : l[spnQ patQ l (m + 1)]? ≠ some 125) : crQ n (l.drop k) = .error 3 := by
  unfold crQ
  rw [eat_at h]
  simp only
  rw [← spn_drop, hm, eat_at h1]
  simp only
  rw [← spn_drop, eat_no h2]
theorem cr_sub {n l : List UInt8} {k m e : Nat} (h : l[k]? = some 58) (hm : spnQ patQ l (k + 1) = m) (h1 : l[m]? = some 61) (he : spnQ patQ l (m + 1) = e) (h2 : l[e]? = some 125) :
    crQ n (l.drop k) = .ok (⟨3, n, (l.take m).drop (k + 1), (l.take e).drop (m + 1)⟩, l.drop (e + 1)) := by
  have q1 : (l.drop (k + 1)).takeWhile patQ = (l.take m).drop (k + 1) := by rw [← hm, spn_take]
  have q2 : (l.drop (m + 1)).takeWhile patQ = (l.take e).drop (m + 1) := by rw [← he, spn_take]
  unfold crQ
  rw [eat_at h]
  simp only
  rw [← spn_drop, hm, eat_at h1]
  simp only
  rw [← spn_drop, he, eat_at h2, q1, q2]
/-- the words from place k on -/
def wdA (l : List UInt8) (W : List Pq) (O : List (List Pq)) (k : Nat) : Except Nat (List (List Pq)) := wdQ W O (l.drop k)
theorem wdA_end {l : List UInt8} {k : Nat} (h : l.length ≤ k) (W : List Pq) (O : List (List Pq)) : wdA l W O k = .ok (flW W O) := by unfold wdA; rw [List.drop_of_length_le h, wdQ]
theorem wdA_blank {l : List UInt8} {k : Nat} {b : UInt8} (h : l[k]? = some b) (hb : blkQ b = true) (W : List Pq) (O : List (List Pq)) : wdA l W O k = wdA l [] (flW W O) (k + 1) := by
  unfold wdA; rw [drop_at h, wdQ, if_pos hb]
theorem wdA_err {l : List UInt8} {k : Nat} {b : UInt8} {e : Nat} (h : l[k]? = some b) (hb : blkQ b = false) (he : onA l k = .error e) (W : List Pq) (O : List (List Pq)) : wdA l W O k = .error e := by
  unfold onA at he
  unfold wdA
  rw [drop_at h] at he ⊢
  rw [wdQ, if_neg (by simp [hb]), he]
theorem wdA_piece {l : List UInt8} {k e : Nat} {b : UInt8} {p : Pq} (h : l[k]? = some b) (hb : blkQ b = false) (he : onA l k = .ok (p, l.drop e)) (W : List Pq) (O : List (List Pq)) : wdA l W O k = wdA l (W ++ [p]) O e := by
  unfold onA at he
  unfold wdA
  rw [drop_at h] at he ⊢
  have := on_ok hb he
  rw [wdQ, if_neg (by simp [hb]), he]
  simp only
  rw [if_pos this.2.2]
/-- a piece that begins at a place ends behind it, in the text -/
theorem on_place {l : List UInt8} {k e : Nat} {b : UInt8} {p : Pq} (h : l[k]? = some b) (hb : blkQ b = false) (he : onA l k = .ok (p, l.drop e)) (hle : e ≤ l.length) : k < e := by
  unfold onA at he
  rw [drop_at h] at he
  have := (on_ok hb he).2.2
  simp only [List.length_drop] at this
  have hk := (List.getElem?_eq_some_iff.1 h).1
  omega
theorem plc_of {b : UInt8} (hb : blkQ b = false) (h1 : b ≠ 39) (h2 : b ≠ 36) (h3 : b ≠ 96) : plcQ b = true := by unfold plcQ; simp [hb, h1, h2, h3]
end Go.Proofs.YtdganemgldocoaaGreatDoor
