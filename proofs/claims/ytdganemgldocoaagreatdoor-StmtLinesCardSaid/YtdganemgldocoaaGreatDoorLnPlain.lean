/- A text's lines, plainly: physical lines; one read byte by byte; all of them in a row; what a comment is; that numbers rise, that each physical line belongs to one line, that lines joined by a backslash are one. -/
import Derived.Test.YtdganemgldocoaaGreatDoorQtPlain
namespace Go.Proofs.YtdganemgldocoaaGreatDoor

/-- the physical lines: the line so far, the lines ahead of it -/
def linS (q : List UInt8 × List (List UInt8)) (b : UInt8) : List UInt8 × List (List UInt8) := if b = 10 then ([], q.2 ++ [q.1]) else (q.1 ++ [b], q.2)
def linA (w : List UInt8) (O : List (List UInt8)) (r : List UInt8) : List (List UInt8) := flushQ (r.foldl linS (w, O))
def linQ (l : List UInt8) : List (List UInt8) := linA [] [] l
theorem linA_feed (w : List UInt8) (O : List (List UInt8)) (r : List UInt8) : linA w O (10 :: r) = linA [] (O ++ [w]) r := rfl
theorem linA_byte {b : UInt8} (h : b ≠ 10) (w : List UInt8) (O : List (List UInt8)) (r : List UInt8) : linA w O (b :: r) = linA (w ++ [b]) O r := by
  unfold linA; rw [List.foldl_cons]; unfold linS; rw [if_neg h]
theorem linA_nil (w : List UInt8) (O : List (List UInt8)) : linA w O [] = if w.isEmpty then O else O ++ [w] := rfl
theorem linA_out : ∀ (r w : List UInt8) (O : List (List UInt8)), linA w O r = O ++ linA w [] r
  | [], w, O => by rw [linA_nil, linA_nil]; split <;> simp
  | b :: r, w, O => by
    by_cases h : b = 10
    · subst h
      rw [linA_feed, linA_feed, linA_out r [] (O ++ [w]), linA_out r [] ([] ++ [w])]; simp
    · rw [linA_byte h, linA_byte h, linA_out r (w ++ [b]) O]
theorem linA_len : ∀ (r w : List UInt8), (linA w [] r).length ≤ w.length + r.length ∧ ∀ x ∈ linA w [] r, x.length ≤ w.length + r.length
  | [], w => by
    rw [linA_nil]
    cases w with
    | nil => simp
    | cons a w => simp
  | b :: r, w => by
    by_cases h : b = 10
    · subst h
      rw [linA_feed, linA_out]
      have := linA_len r []
      refine ⟨by simp at this ⊢; omega, fun x hx => ?_⟩
      simp at hx
      rcases hx with rfl | hx
      · omega
      · have := this.2 x hx; simp at this ⊢; omega
    · rw [linA_byte h]
      have := linA_len r (w ++ [b])
      refine ⟨by simp at this ⊢; omega, fun x hx => ?_⟩
      have := this.2 x hx; simp at this ⊢; omega
theorem linQ_len (l : List UInt8) : (linQ l).length ≤ l.length := by have := (linA_len l []).1; simpa [linQ] using this
theorem linQ_mem {l x : List UInt8} (h : x ∈ linQ l) : x.length ≤ l.length := by have := (linA_len l []).2 x h; simpa using this
/-- what holds of each byte of a text holds of each byte of its lines -/
theorem linA_all {p : UInt8 → Bool} : ∀ (r w : List UInt8), w.all p = true → r.all p = true → ∀ x ∈ linA w [] r, x.all p = true
  | [], w, hw, _ => by
    rw [linA_nil]
    intro x hx
    split at hx
    · simp at hx
    · simp at hx; subst hx; exact hw
  | b :: r, w, hw, hr => by
    rw [List.all_cons, Bool.and_eq_true] at hr
    by_cases h : b = 10
    · subst h
      rw [linA_feed, linA_out]
      intro x hx
      simp at hx
      rcases hx with rfl | hx
      · exact hw
      · exact linA_all r [] rfl hr.2 x hx
    · rw [linA_byte h]
      exact linA_all r (w ++ [b]) (by rw [List.all_append, hw]; simp [hr.1]) hr.2

/-- a physical line byte by byte: whether a quoted part is open, what is held; whether another line stands behind -/
def rdQ (more : Bool) : Bool → List UInt8 → List UInt8 → Option (List UInt8 × Bool)
  | q, h, [] => if q then none else some (h, false)
  | true, h, b :: r => rdQ more (b != 39) (h ++ [b]) r
  | false, h, b :: r =>
    if b = 39 then rdQ more true (h ++ [b]) r
    else if b = 35 then some (h, false)
    else if b = 92 ∧ r = [] ∧ more = true then some (h ++ [32], true)
    else rdQ more false (h ++ [b]) r
theorem rd_some (m : Bool) : ∀ (r : List UInt8) (i e : Nat), endF r i = some e → ∀ h, rdQ m true h r = rdQ m false (h ++ r.take (e - i)) (r.drop (e - i))
  | [], i, e, he, h => by simp [endF] at he
  | [b], i, e, he, h => by
    rw [endF] at he
    split at he
    · rename_i hb
      cases he; subst hb
      rw [show i + 1 - i = 1 by omega]; rfl
    · cases he
  | b :: c :: r, i, e, he, h => by
    rw [endF] at he
    split at he
    · rename_i hb
      subst hb
      split at he
      · rename_i hc
        subst hc
        have hle := (endF_le r (i + 2) e he).1
        have ih := rd_some m r (i + 2) e he (h ++ [39] ++ [39])
        have e1 : rdQ m true h (39 :: 39 :: r) = rdQ m true (h ++ [39] ++ [39]) r := by simp [rdQ]
        rw [e1, ih, show e - i = (e - (i + 2)) + 2 by omega, List.take_succ_cons, List.take_succ_cons, List.drop_succ_cons, List.drop_succ_cons]
        simp
      · rename_i hc
        cases he
        rw [show i + 1 - i = 1 by omega]
        simp [rdQ]
    · rename_i hb
      have hle := (endF_le (c :: r) (i + 1) e he).1
      have ih := rd_some m (c :: r) (i + 1) e he (h ++ [b])
      have e1 : rdQ m true h (b :: c :: r) = rdQ m true (h ++ [b]) (c :: r) := by
        have : (b != 39) = true := by simpa using hb
        rw [rdQ, this]
      rw [e1, ih, show e - i = (e - (i + 1)) + 1 by omega, List.take_succ_cons, List.drop_succ_cons]
      simp
theorem rd_none (m : Bool) : ∀ (r : List UInt8) (i : Nat), endF r i = none → ∀ h, rdQ m true h r = none
  | [], i, he, h => rfl
  | [b], i, he, h => by
    rw [endF] at he
    split at he
    · cases he
    · rename_i hb
      have : (b != 39) = true := by simpa using hb
      rw [rdQ, this]; rfl
  | b :: c :: r, i, he, h => by
    rw [endF] at he
    split at he
    · rename_i hb
      subst hb
      split at he
      · rename_i hc
        subst hc
        have e1 : rdQ m true h (39 :: 39 :: r) = rdQ m true (h ++ [39] ++ [39]) r := by simp [rdQ]
        rw [e1]; exact rd_none m r (i + 2) he _
      · cases he
    · rename_i hb
      have e1 : rdQ m true h (b :: c :: r) = rdQ m true (h ++ [b]) (c :: r) := by
        have : (b != 39) = true := by simpa using hb
        rw [rdQ, this]
      rw [e1]; exact rd_none m (c :: r) (i + 1) he _
/-- .. from place i on -/
def rdA (m : Bool) (s h : List UInt8) (i : Nat) : Option (List UInt8 × Bool) := rdQ m false h (s.drop i)
theorem rdA_end {m : Bool} {s h : List UInt8} {i : Nat} (hi : s.length ≤ i) : rdA m s h i = some (h, false) := by unfold rdA; rw [List.drop_of_length_le hi]; rfl
theorem rdA_part {m : Bool} {s h : List UInt8} {i e : Nat} (hb : s[i]? = some 39) (he : endF (s.drop (i + 1)) (i + 1) = some e) : rdA m s h i = rdA m s (h ++ (s.take e).drop i) e := by
  have hle := endF_le _ _ _ he
  unfold rdA
  rw [drop_at hb, rdQ, if_pos rfl, rd_some m _ _ _ he, List.drop_drop, show i + 1 + (e - (i + 1)) = e by omega]
  congr 1
  rw [List.drop_take, drop_at hb, show e - i = (e - (i + 1)) + 1 by omega, List.take_succ_cons]
  simp
theorem rdA_none {m : Bool} {s h : List UInt8} {i : Nat} (hb : s[i]? = some 39) (he : endF (s.drop (i + 1)) (i + 1) = none) : rdA m s h i = none := by
  unfold rdA
  rw [drop_at hb, rdQ, if_pos rfl]; exact rd_none m _ _ he _
theorem rdA_sharp {m : Bool} {s h : List UInt8} {i : Nat} (hb : s[i]? = some 35) : rdA m s h i = some (h, false) := by
  unfold rdA
  rw [drop_at hb, rdQ, if_neg (by decide), if_pos rfl]
theorem rdA_goes {m : Bool} {s h : List UInt8} {i : Nat} (hb : s[i]? = some 92) (hi : i + 1 = s.length) (hm : m = true) : rdA m s h i = some (h ++ [32], true) := by
  unfold rdA
  rw [drop_at hb, rdQ, if_neg (by decide), if_neg (by decide), if_pos ⟨rfl, List.drop_of_length_le (by omega), hm⟩]
theorem rdA_byte {m : Bool} {s h : List UInt8} {i : Nat} {b : UInt8} (hb : s[i]? = some b) (h39 : b ≠ 39) (h35 : b ≠ 35) (h92 : ¬(b = 92 ∧ i + 1 = s.length ∧ m = true)) : rdA m s h i = rdA m s (h ++ [b]) (i + 1) := by
  have hi := (List.getElem?_eq_some_iff.1 hb).1
  unfold rdA
  rw [drop_at hb, rdQ, if_neg h39, if_neg h35, if_neg (by
    rintro ⟨h1, h2, h3⟩
    have := congrArg List.length h2
    rw [List.length_drop, List.length_nil] at this
    exact h92 ⟨h1, by omega, h3⟩)]
theorem rdQ_len (m : Bool) : ∀ (r : List UInt8) (q : Bool) (h h2 : List UInt8) (g : Bool), rdQ m q h r = some (h2, g) → h2.length ≤ h.length + r.length
  | [], q, h, h2, g, e => by
    cases q
    · simp [rdQ] at e; simp [e.1]
    · simp [rdQ] at e
  | b :: r, true, h, h2, g, e => by
    rw [rdQ] at e
    have := rdQ_len m r _ _ _ _ e
    simp at this ⊢; omega
  | b :: r, false, h, h2, g, e => by
    rw [rdQ] at e
    split at e
    · have := rdQ_len m r _ _ _ _ e
      simp at this ⊢; omega
    · split at e
      · cases e; simp
      · split at e
        · cases e; simp
        · have := rdQ_len m r _ _ _ _ e
          simp at this ⊢; omega

/-- where a comment begins, from place i on -/
def cmQ : Bool → Nat → List UInt8 → Int
  | _, _, [] => -1
  | true, i, b :: r => cmQ (b != 39) (i + 1) r
  | false, i, b :: r => if b = 35 then i else if b = 39 then cmQ true (i + 1) r else cmQ false (i + 1) r
def cmA (s : List UInt8) (i : Nat) : Int := cmQ false i (s.drop i)
theorem cm_some : ∀ (r : List UInt8) (i e : Nat), endF r i = some e → cmQ true i r = cmQ false e (r.drop (e - i))
  | [], i, e, he => by simp [endF] at he
  | [b], i, e, he => by
    rw [endF] at he
    split at he
    · rename_i hb
      cases he; subst hb
      rw [show i + 1 - i = 1 by omega]; rfl
    · cases he
  | b :: c :: r, i, e, he => by
    rw [endF] at he
    split at he
    · rename_i hb
      subst hb
      split at he
      · rename_i hc
        subst hc
        have hle := (endF_le r (i + 2) e he).1
        have ih := cm_some r (i + 2) e he
        have e1 : cmQ true i (39 :: 39 :: r) = cmQ true (i + 2) r := by simp [cmQ]
        rw [e1, ih, show e - i = (e - (i + 2)) + 2 by omega, List.drop_succ_cons, List.drop_succ_cons]
      · rename_i hc
        cases he
        rw [show i + 1 - i = 1 by omega]
        simp [cmQ]
    · rename_i hb
      have hle := (endF_le (c :: r) (i + 1) e he).1
      have ih := cm_some (c :: r) (i + 1) e he
      have e1 : cmQ true i (b :: c :: r) = cmQ true (i + 1) (c :: r) := by
        have : (b != 39) = true := by simpa using hb
        rw [cmQ, this]
      rw [e1, ih, show e - i = (e - (i + 1)) + 1 by omega, List.drop_succ_cons]
theorem cm_none : ∀ (r : List UInt8) (i : Nat), endF r i = none → cmQ true i r = -1
  | [], i, he => rfl
  | [b], i, he => by
    rw [endF] at he
    split at he
    · cases he
    · rename_i hb
      have : (b != 39) = true := by simpa using hb
      rw [cmQ, this]; rfl
  | b :: c :: r, i, he => by
    rw [endF] at he
    split at he
    · rename_i hb
      subst hb
      split at he
      · rename_i hc
        subst hc
        have e1 : cmQ true i (39 :: 39 :: r) = cmQ true (i + 2) r := by simp [cmQ]
        rw [e1]; exact cm_none r (i + 2) he
      · cases he
    · rename_i hb
      have e1 : cmQ true i (b :: c :: r) = cmQ true (i + 1) (c :: r) := by
        have : (b != 39) = true := by simpa using hb
        rw [cmQ, this]
      rw [e1]; exact cm_none (c :: r) (i + 1) he
theorem cmA_end {s : List UInt8} {i : Nat} (hi : s.length ≤ i) : cmA s i = -1 := by unfold cmA; rw [List.drop_of_length_le hi]; rfl
theorem cmA_sharp {s : List UInt8} {i : Nat} (hb : s[i]? = some 35) : cmA s i = i := by unfold cmA; rw [drop_at hb, cmQ, if_pos rfl]
theorem cmA_part {s : List UInt8} {i e : Nat} (hb : s[i]? = some 39) (he : endF (s.drop (i + 1)) (i + 1) = some e) : cmA s i = cmA s e := by
  have hle := endF_le _ _ _ he
  unfold cmA
  rw [drop_at hb, cmQ, if_neg (by decide), if_pos rfl, cm_some _ _ _ he, List.drop_drop, show i + 1 + (e - (i + 1)) = e by omega]
theorem cmA_none {s : List UInt8} {i : Nat} (hb : s[i]? = some 39) (he : endF (s.drop (i + 1)) (i + 1) = none) : cmA s i = -1 := by
  unfold cmA
  rw [drop_at hb, cmQ, if_neg (by decide), if_pos rfl, cm_none _ _ he]
theorem cmA_byte {s : List UInt8} {i : Nat} {b : UInt8} (hb : s[i]? = some b) (h39 : b ≠ 39) (h35 : b ≠ 35) : cmA s i = cmA s (i + 1) := by
  unfold cmA; rw [drop_at hb, cmQ, if_neg h35, if_neg h39]

/-- a blank or a tab; without them at both ends -/
def btQ (b : UInt8) : Bool := b == 32 || b == 9
def tlQ (l : List UInt8) : List UInt8 := (l.reverse.dropWhile btQ).reverse
def trQ (l : List UInt8) : List UInt8 := tlQ (l.dropWhile btQ)
theorem tl_on {l : List UInt8} {b : UInt8} (h : btQ b = true) : tlQ (l ++ [b]) = tlQ l := by
  unfold tlQ; rw [List.reverse_append, List.reverse_singleton, List.singleton_append, List.dropWhile_cons_of_pos h]
theorem tl_off {l : List UInt8} {b : UInt8} (h : btQ b = false) : tlQ (l ++ [b]) = l ++ [b] := by
  unfold tlQ; rw [List.reverse_append, List.reverse_singleton, List.singleton_append, List.dropWhile_cons_of_neg (by simp [h])]; simp
theorem tl_nil : tlQ [] = [] := rfl
theorem dw_len (l : List UInt8) : (l.dropWhile btQ).length ≤ l.length := (List.dropWhile_sublist btQ).length_le
theorem tr_len (l : List UInt8) : (trQ l).length ≤ l.length := by
  unfold trQ tlQ
  rw [List.length_reverse]
  have h1 := dw_len (l.dropWhile btQ).reverse
  have h2 := dw_len l
  rw [List.length_reverse] at h1; omega

/-- a line: its text, its number, whether it is a recipe's -/
structure Lq where
  text : List UInt8
  num : Nat
  rcp : Bool
/-- does a line begin with a blank or a tab? -/
def recQ : List UInt8 → Bool
  | [] => false
  | b :: _ => btQ b
/-- the lines in a row: the number with which a line that goes on began (0: none does), what it holds; the lines so far; how many lines stand ahead -/
def spA : Nat → List UInt8 → List Lq → Nat → List (List UInt8) → Except (Nat × Nat) (List Lq)
  | _, _, O, _, [] => .ok O
  | o, h, O, k, s :: r =>
    if o = 0 ∧ recQ s = true then
      (if 400 < s.length - 1 then .error (2, k + 1) else spA 0 [] (O ++ [⟨s.tail, k + 1, true⟩]) (k + 1) r)
    else
      match rdQ (!r.isEmpty) false (if o = 0 then [] else h) s with
      | none => .error (5, k + 1)
      | some (h2, true) => spA (if o = 0 then k + 1 else o) h2 O (k + 1) r
      | some (h2, false) => if 400 < (trQ h2).length then .error (2, if o = 0 then k + 1 else o) else spA 0 [] (O ++ [⟨trQ h2, if o = 0 then k + 1 else o, false⟩]) (k + 1) r
def spL (l : List UInt8) : Except (Nat × Nat) (List Lq) := if 4000 < l.length then .error (2, 0) else spA 0 [] [] 0 (linQ l)

/-- what holds of the lines so far: numbers rise, from 1 on, up to k; no more lines than that -/
def RiseQ (O : List Lq) (k : Nat) : Prop := O.Pairwise (fun a b => a.num < b.num) ∧ (∀ x ∈ O, 1 ≤ x.num ∧ x.num ≤ k) ∧ O.length ≤ k
theorem RiseQ.snoc {O : List Lq} {k n : Nat} {x : Lq} (h : RiseQ O k) (h1 : k < x.num) (h2 : x.num ≤ n) : RiseQ (O ++ [x]) n := by
  obtain ⟨a, b, c⟩ := h
  refine ⟨List.pairwise_append.2 ⟨a, by simp, fun y hy z hz => ?_⟩, fun y hy => ?_, by simp; omega⟩
  · simp at hz; subst hz; have := b y hy; omega
  · rcases List.mem_append.1 hy with hy | hy
    · have := b y hy; omega
    · simp at hy; subst hy; omega
theorem RiseQ.more {O : List Lq} {k n : Nat} (h : RiseQ O k) (hn : k ≤ n) : RiseQ O n := ⟨h.1, fun x hx => by have := h.2.1 x hx; omega, by have := h.2.2; omega⟩
theorem spA_rise : ∀ (r : List (List UInt8)) (o : Nat) (h : List UInt8) (O : List Lq) (k : Nat) (L : List Lq), RiseQ O (if o = 0 then k else o - 1) → (o ≤ k) → spA o h O k r = .ok L → RiseQ L (k + r.length)
  | [], o, h, O, k, L, hO, ho, e => by
    rw [spA] at e; cases e
    exact hO.more (by split <;> simp <;> omega)
  | s :: r, o, h, O, k, L, hO, ho, e => by
    rw [spA] at e
    split at e
    · rename_i hc
      split at e
      · cases e
      · have := spA_rise r 0 [] _ (k + 1) L (by
          rw [if_pos rfl]
          refine hO.snoc ?_ (Nat.le_refl _)
          rw [if_pos hc.1]
          exact Nat.lt_succ_self k) (Nat.zero_le _) e
        rw [List.length_cons, show k + (r.length + 1) = k + 1 + r.length by omega]; exact this
    · split at e
      · cases e
      · have := spA_rise r (if o = 0 then k + 1 else o) _ O (k + 1) L (by
          by_cases h0 : o = 0
          · rw [if_pos h0] at hO ⊢; rw [if_neg (by omega)]; exact hO
          · rw [if_neg h0] at hO; rw [if_neg h0, if_neg h0]; exact hO) (by split <;> omega) e
        rw [List.length_cons, show k + (r.length + 1) = k + 1 + r.length by omega]; exact this
      · split at e
        · cases e
        · have := spA_rise r 0 [] _ (k + 1) L (by
            rw [if_pos rfl]
            refine hO.snoc ?_ ?_
            · by_cases h0 : o = 0
              · rw [if_pos h0]; simp [h0]
              · rw [if_neg h0]; simp [h0]; omega
            · by_cases h0 : o = 0 <;> simp [h0]; omega) (Nat.zero_le _) e
          rw [List.length_cons, show k + (r.length + 1) = k + 1 + r.length by omega]; exact this
/-- P12.2: numbers rise and lie from 1 to the count; there are no more lines than physical ones -/
theorem spL_rise {l : List UInt8} {L : List Lq} (h : spL l = .ok L) : RiseQ L (linQ l).length := by
  unfold spL at h
  split at h
  · cases h
  · have := spA_rise (linQ l) 0 [] [] 0 L ⟨.nil, by simp, by simp⟩ (Nat.le_refl _) h
    simpa using this
/-- a byte that is no sign of a line -/
def nsQ (b : UInt8) : Bool := b != 39 && b != 92 && b != 35
theorem rd_plain (m : Bool) : ∀ (r h : List UInt8), r.all nsQ = true → rdQ m false h r = some (h ++ r, false)
  | [], h, _ => by simp [rdQ]
  | b :: r, h, hr => by
    rw [List.all_cons, Bool.and_eq_true] at hr
    have hb : b ≠ 39 ∧ b ≠ 92 ∧ b ≠ 35 := by simpa [nsQ, and_assoc] using hr.1
    rw [rdQ, if_neg hb.1, if_neg hb.2.2, if_neg (fun h => hb.2.1 h.1), rd_plain m r (h ++ [b]) hr.2]
    simp
theorem spA_plain : ∀ (r : List (List UInt8)) (h : List UInt8) (O : List Lq) (k : Nat) (L : List Lq), (∀ s ∈ r, s.all nsQ = true) → spA 0 h O k r = .ok L → L.length = O.length + r.length
  | [], h, O, k, L, _, e => by rw [spA] at e; cases e; simp
  | s :: r, h, O, k, L, hr, e => by
    rw [spA] at e
    split at e
    · split at e
      · cases e
      · have := spA_plain r _ _ _ L (fun x hx => hr x (List.mem_cons_of_mem _ hx)) e
        simp at this ⊢; omega
    · rw [rd_plain _ s _ (hr s (by simp))] at e
      simp only [↓reduceIte] at e
      split at e
      · cases e
      · have := spA_plain r _ _ _ L (fun x hx => hr x (List.mem_cons_of_mem _ hx)) e
        simp at this ⊢; omega
/-- a text without quotes, backslashes and sharps has a line for each physical one -/
theorem spL_plain {l : List UInt8} {L : List Lq} (hl : l.all nsQ = true) (h : spL l = .ok L) : L.length = (linQ l).length := by
  unfold spL at h
  split at h
  · cases h
  · have := spA_plain (linQ l) [] [] 0 L (fun s hs => linA_all l [] rfl hl s hs) h
    simpa using this

/-- a byte of a bare text -/
def brQ (b : UInt8) : Bool := decide (33 ≤ b.toNat) && decide (b.toNat ≤ 126) && nsQ b
def bareQ (l : List UInt8) : Bool := !l.isEmpty && l.all brQ
theorem br_not {b : UInt8} (h : brQ b = true) : b ≠ 10 ∧ btQ b = false ∧ nsQ b = true := by
  unfold brQ at h
  simp only [Bool.and_eq_true, decide_eq_true_eq] at h
  refine ⟨fun e => by subst e; simp at h, ?_, h.2⟩
  unfold btQ
  rw [Bool.or_eq_false_iff]
  refine ⟨?_, ?_⟩
  · rw [beq_eq_false_iff_ne]; intro e; subst e; simp at h
  · rw [beq_eq_false_iff_ne]; intro e; subst e; simp at h
theorem br_ns {l : List UInt8} (h : l.all brQ = true) : l.all nsQ = true := by
  rw [List.all_eq_true] at h ⊢
  exact fun x hx => (br_not (h x hx)).2.2
theorem lin_bare : ∀ (l w : List UInt8) (O : List (List UInt8)) (r : List UInt8), (∀ b ∈ l, b ≠ 10) → linA w O (l ++ 10 :: r) = linA [] (O ++ [w ++ l]) r
  | [], w, O, r, _ => by simp [linA_feed]
  | b :: l, w, O, r, h => by
    rw [List.cons_append, linA_byte (h b (by simp)), lin_bare l (w ++ [b]) O r fun x hx => h x (List.mem_cons_of_mem _ hx)]
    simp
theorem tr_bare {l : List UInt8} (h0 : ∀ b ∈ l.head?, btQ b = false) (h1 : ∀ b ∈ l.getLast?, btQ b = false) : trQ l = l := by
  have e1 : l.dropWhile btQ = l := by
    cases l with
    | nil => rfl
    | cons a r => rw [List.dropWhile_cons_of_neg (by simp [h0 a (by simp)])]
  unfold trQ
  rw [e1]
  cases hl : l.getLast? with
  | none =>
    have : l = [] := List.getLast?_eq_none_iff.1 hl
    subst this; rfl
  | some b =>
    obtain ⟨r, rfl⟩ := List.getLast?_eq_some_iff.1 hl
    exact tl_off (h1 b (by rw [hl]; rfl))
theorem ab_tr {a b : List UInt8} (ha : bareQ a = true) (hb : bareQ b = true) : trQ (a ++ 32 :: b) = a ++ 32 :: b := by
  unfold bareQ at ha hb
  rw [Bool.and_eq_true, List.all_eq_true] at ha hb
  refine tr_bare ?_ ?_
  · intro x hx
    cases a with
    | nil => simp at ha
    | cons y r =>
      simp at hx; subst hx
      exact (br_not (ha.2 _ (by simp))).2.1
  · intro x hx
    have hne : b ≠ [] := by intro e; subst e; simp at hb
    have : (a ++ 32 :: b).getLast? = b.getLast? := by
      rw [List.getLast?_append, List.getLast?_cons]
      cases h : b.getLast? with
      | none => exact absurd (List.getLast?_eq_none_iff.1 h) hne
      | some z => simp
    rw [this] at hx
    exact (br_not (hb.2 x (List.mem_of_getLast? hx))).2.1
theorem bare_ne {l : List UInt8} (h : bareQ l = true) : ∀ b ∈ l, b ≠ 10 := by
  unfold bareQ at h
  rw [Bool.and_eq_true, List.all_eq_true] at h
  exact fun b hb => (br_not (h.2 b hb)).1
theorem bare_rec {a r : List UInt8} (h : bareQ a = true) : recQ (a ++ r) = false := by
  unfold bareQ at h
  rw [Bool.and_eq_true, List.all_eq_true] at h
  cases a with
  | nil => simp at h
  | cons y s => exact (br_not (h.2 y (by simp))).2.1
theorem rd_app (m : Bool) : ∀ (l h r : List UInt8), l.all nsQ = true → rdQ m false h (l ++ r) = rdQ m false (h ++ l) r
  | [], h, r, _ => by simp
  | b :: l, h, r, hl => by
    rw [List.all_cons, Bool.and_eq_true] at hl
    have hb : b ≠ 39 ∧ b ≠ 92 ∧ b ≠ 35 := by simpa [nsQ, and_assoc] using hl.1
    rw [List.cons_append, rdQ, if_neg hb.1, if_neg hb.2.2, if_neg (fun h => hb.2.1 h.1), rd_app m l (h ++ [b]) r hl.2]
    simp
/-- two lines joined by a backslash, and by a blank, are one line -/
theorem spL_joined {a b : List UInt8} (ha : bareQ a = true) (hb : bareQ b = true) (la : a.length ≤ 150) (lb : b.length ≤ 150) : spL (a ++ 92 :: 10 :: (b ++ [10])) = .ok [⟨a ++ 32 :: b, 1, false⟩] := by
  have na : a.all nsQ = true := br_ns (by unfold bareQ at ha; rw [Bool.and_eq_true] at ha; exact ha.2)
  have nb : b.all nsQ = true := br_ns (by unfold bareQ at hb; rw [Bool.and_eq_true] at hb; exact hb.2)
  have e1 : linQ (a ++ 92 :: 10 :: (b ++ [10])) = [a ++ [92], b] := by
    unfold linQ
    rw [show a ++ 92 :: 10 :: (b ++ [10]) = (a ++ [92]) ++ 10 :: (b ++ 10 :: []) by simp, lin_bare (a ++ [92]) [] [] _ (by
      intro x hx
      rcases List.mem_append.1 hx with hx | hx
      · exact bare_ne ha x hx
      · simp at hx; subst hx; decide), lin_bare b [] _ _ (bare_ne hb)]
    rfl
  unfold spL
  rw [if_neg (by simp; omega), e1, spA, if_neg (by rw [bare_rec ha]; simp), if_pos rfl, rd_app _ a [] [92] na]
  have e2 : rdQ (!([b] : List (List UInt8)).isEmpty) false ([] ++ a) [92] = some (a ++ [32], true) := by simp [rdQ]
  rw [e2]
  simp only [if_pos]
  rw [spA, if_neg (by simp), if_neg (by decide), rd_plain _ b _ nb]
  have e3 : a ++ [32] ++ b = a ++ 32 :: b := by simp
  simp only [e3, ab_tr ha hb]
  rw [if_neg (by simp; omega)]
  rfl
theorem spL_blank {a b : List UInt8} (ha : bareQ a = true) (hb : bareQ b = true) (la : a.length ≤ 150) (lb : b.length ≤ 150) : spL (a ++ 32 :: (b ++ [10])) = .ok [⟨a ++ 32 :: b, 1, false⟩] := by
  have na : a.all nsQ = true := br_ns (by unfold bareQ at ha; rw [Bool.and_eq_true] at ha; exact ha.2)
  have nb : b.all nsQ = true := br_ns (by unfold bareQ at hb; rw [Bool.and_eq_true] at hb; exact hb.2)
  have e1 : linQ (a ++ 32 :: (b ++ [10])) = [a ++ 32 :: b] := by
    unfold linQ
    rw [show a ++ 32 :: (b ++ [10]) = (a ++ 32 :: b) ++ 10 :: [] by simp, lin_bare (a ++ 32 :: b) [] [] _ (by
      intro x hx
      rcases List.mem_append.1 hx with hx | hx
      · exact bare_ne ha x hx
      · rcases List.mem_cons.1 hx with rfl | hx
        · decide
        · exact bare_ne hb x hx)]
    rfl
  unfold spL
  rw [if_neg (by simp; omega), e1, spA, if_neg (by rw [bare_rec ha]; simp), if_pos rfl, rd_plain _ _ _ (by rw [List.all_append, na, List.all_cons, nb]; rfl)]
  simp only [List.nil_append, ab_tr ha hb]
  rw [if_neg (by simp; omega)]
  rfl
end Go.Proofs.YtdganemgldocoaaGreatDoor
