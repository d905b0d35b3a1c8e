/- A node as steps: which there are, where each leads; what is reached from them is what the node spans; no step but those that are done once at a place is given out twice. The steps' run, by what has been done so far: what is to be done at a place and at the next one, and that the list holds just the places that are reached, rising. -/
import Derived.Test.YtlkjejmmoalliaaGreatDoorDenPlain
namespace Go.Proofs.YtlkjejmmoalliaaGreatDoor

/-- what a step does: adds the place to the list; goes over a byte; goes on at one place alone; goes on the first time at a place. What it goes on to: the numbers of steps, one behind the other -/
inductive Pr where
  | add
  | over (c : BitVec 256) (t : List Nat)
  | only (k : Nat) (t : List Nat)
  | once (t : List Nat)
def Pr.tgt : Pr → List Nat | .add => [] | .over _ t => t | .only _ t => t | .once t => t
mutual
/-- the steps through a node, with b behind it, from the number m on: those to begin with, and all -/
def thrN (e : Nat) : Ni → List Nat → Nat → List Nat × List Pr
  | .mk k _ c l, b, m =>
    if k = 1 then ([m], [.over c b])
    else if k = 2 then thrR e l b m
    else if k = 3 then ((thrA e l [m] (m + 1)).1, .once b :: (thrA e l [m] (m + 1)).2)
    else if k = 4 then ([m], .once (b ++ [m + 1]) :: .once (thrR e l [m] (m + 2)).1 :: (thrR e l [m] (m + 2)).2)
    else if k = 5 then ([m + 1], .once (b ++ [m + 1]) :: .once (thrR e l [m] (m + 2)).1 :: (thrR e l [m] (m + 2)).2)
    else if k = 6 then (m :: (thrR e l [m] (m + 1)).1, .once b :: (thrR e l [m] (m + 1)).2)
    else if k = 7 then thrR e l b m
    else if k = 8 then ([m], [.only 0 b])
    else if k = 9 then ([m], [.only e b])
    else (b, [])
def thrR (e : Nat) : List Ni → List Nat → Nat → List Nat × List Pr
  | [], b, _ => (b, [])
  | n :: l, b, m => ((thrN e n (thrR e l b m).1 (m + (thrR e l b m).2.length)).1, (thrR e l b m).2 ++ (thrN e n (thrR e l b m).1 (m + (thrR e l b m).2.length)).2)
def thrA (e : Nat) : List Ni → List Nat → Nat → List Nat × List Pr
  | [], _, _ => ([], [])
  | n :: l, b, m => ((thrN e n b m).1 ++ (thrA e l b (m + (thrN e n b m).2.length)).1, (thrN e n b m).2 ++ (thrA e l b (m + (thrN e n b m).2.length)).2)
end
theorem thr_eq (e : Nat) (n : Ni) (b : List Nat) (m : Nat) : thrN e n b m =
    if n.kind = 1 then ([m], [.over n.set b])
    else if n.kind = 2 then thrR e n.kids b m
    else if n.kind = 3 then ((thrA e n.kids [m] (m + 1)).1, .once b :: (thrA e n.kids [m] (m + 1)).2)
    else if n.kind = 4 then ([m], .once (b ++ [m + 1]) :: .once (thrR e n.kids [m] (m + 2)).1 :: (thrR e n.kids [m] (m + 2)).2)
    else if n.kind = 5 then ([m + 1], .once (b ++ [m + 1]) :: .once (thrR e n.kids [m] (m + 2)).1 :: (thrR e n.kids [m] (m + 2)).2)
    else if n.kind = 6 then (m :: (thrR e n.kids [m] (m + 1)).1, .once b :: (thrR e n.kids [m] (m + 1)).2)
    else if n.kind = 7 then thrR e n.kids b m
    else if n.kind = 8 then ([m], [.only 0 b])
    else if n.kind = 9 then ([m], [.only e b])
    else (b, []) := by cases n; rw [thrN]; rfl
theorem thrR_one (e : Nat) (n : Ni) (b : List Nat) (m : Nat) : thrR e [n] b m = thrN e n b m := by
  rw [thrR, thrR]; simp
mutual
/-- how many steps -/
def cnN : Ni → Nat
  | .mk k _ _ l => if k = 1 ∨ k = 8 ∨ k = 9 then 1 else if k = 2 ∨ k = 7 then cnL l else if k = 3 ∨ k = 6 then 1 + cnL l else if k = 4 ∨ k = 5 then 2 + cnL l else 0
def cnL : List Ni → Nat | [] => 0 | n :: l => cnN n + cnL l
end
mutual
theorem thr_len (e : Nat) : ∀ (n : Ni) (b : List Nat) (m : Nat), (thrN e n b m).2.length = cnN n
  | .mk k i c l, b, m => by
    have hR := thrR_len e l
    have hA := thrA_len e l
    rw [thrN, cnN]
    by_cases h1 : k = 1
    · simp [h1]
    by_cases h2 : k = 2
    · simp [h2, hR]
    by_cases h3 : k = 3
    · simp [h3, hA]; omega
    by_cases h4 : k = 4
    · simp [h4, hR]; omega
    by_cases h5 : k = 5
    · simp [h5, hR]; omega
    by_cases h6 : k = 6
    · simp [h6, hR]; omega
    by_cases h7 : k = 7
    · simp [h7, hR]
    by_cases h8 : k = 8
    · simp [h8]
    by_cases h9 : k = 9
    · simp [h9]
    simp [h1, h2, h3, h4, h5, h6, h7, h8, h9]
theorem thrR_len (e : Nat) : ∀ (l : List Ni) (b : List Nat) (m : Nat), (thrR e l b m).2.length = cnL l
  | [], b, m => by rw [thrR, cnL]; rfl
  | n :: l, b, m => by rw [thrR, cnL, List.length_append, thr_len e n, thrR_len e l]; omega
theorem thrA_len (e : Nat) : ∀ (l : List Ni) (b : List Nat) (m : Nat), (thrA e l b m).2.length = cnL l
  | [], b, m => by rw [thrA, cnL]; rfl
  | n :: l, b, m => by rw [thrA, cnL, List.length_append, thr_len e n, thrA_len e l]
end
mutual
theorem cn_le : ∀ n : Ni, cnN n ≤ 2 * szN n
  | .mk k i c l => by
    have h := cnL_le l
    rw [cnN, szN]; split <;> (try split) <;> (try split) <;> (try split) <;> omega
theorem cnL_le : ∀ l : List Ni, cnL l ≤ 2 * szL l
  | [] => by rw [cnL]; omega
  | n :: l => by have h1 := cn_le n; have h2 := cnL_le l; rw [cnL, szL]; omega
end

/-- steps as they lie among all -/
def AtG (G : List Pr) (m : Nat) (L : List Pr) : Prop := ∀ i p, L[i]? = some p → G[m + i]? = some p
theorem AtG.left {G : List Pr} {m : Nat} {L R : List Pr} (h : AtG G m (L ++ R)) : AtG G m L := fun i p hi => h i p (by
  rw [List.getElem?_append_left (List.getElem?_eq_some_iff.1 hi).1]; exact hi)
theorem AtG.right {G : List Pr} {m k : Nat} {L R : List Pr} (h : AtG G m (L ++ R)) (hk : m + L.length = k) : AtG G k R := fun i p hi => by
  have := h (L.length + i) p (by rw [List.getElem?_append_right (by omega)]; simpa using hi)
  rw [← hk, Nat.add_assoc]; exact this
theorem AtG.head {G : List Pr} {m : Nat} {x : Pr} {L : List Pr} (h : AtG G m (x :: L)) : G[m]? = some x := h 0 x rfl
theorem AtG.tail {G : List Pr} {m : Nat} {x : Pr} {L : List Pr} (h : AtG G m (x :: L)) : AtG G (m + 1) L := AtG.right (L := [x]) h rfl

/-- a step that is done at a place leads to the list's being given another one, by so many steps -/
inductive Acc (G : List Pr) (s : ByteArray) : Nat → Nat → Nat → Nat → Prop
  | add {u p : Nat} (h : G[u]? = some .add) : Acc G s 0 u p p
  | over {u p r k w : Nat} {c : BitVec 256} {t : List Nat} (h : G[u]? = some (.over c t)) (hb : byt9 s p c = true) (hw : w ∈ t) (ha : Acc G s k w (p + 1) r) : Acc G s (k + 1) u p r
  | only {u p r k w : Nat} {t : List Nat} (h : G[u]? = some (.only p t)) (hw : w ∈ t) (ha : Acc G s k w p r) : Acc G s (k + 1) u p r
  | once {u p r k w : Nat} {t : List Nat} (h : G[u]? = some (.once t)) (hw : w ∈ t) (ha : Acc G s k w p r) : Acc G s (k + 1) u p r
/-- one of some steps does -/
def AccL (G : List Pr) (s : ByteArray) (k : Nat) (l : List Nat) (p r : Nat) : Prop := ∃ w ∈ l, Acc G s k w p r
theorem accL_one {G : List Pr} {s : ByteArray} {k m p r : Nat} : AccL G s k [m] p r ↔ Acc G s k m p r := by unfold AccL; simp
theorem accL_app {G : List Pr} {s : ByteArray} {k p r : Nat} {l l' : List Nat} : AccL G s k (l ++ l') p r ↔ AccL G s k l p r ∨ AccL G s k l' p r := by
  unfold AccL
  constructor
  · rintro ⟨w, hw, h⟩
    rcases List.mem_append.1 hw with hw | hw
    · exact .inl ⟨w, hw, h⟩
    · exact .inr ⟨w, hw, h⟩
  · rintro (⟨w, hw, h⟩ | ⟨w, hw, h⟩)
    · exact ⟨w, List.mem_append_left _ hw, h⟩
    · exact ⟨w, List.mem_append_right _ hw, h⟩
theorem acc_over {G : List Pr} {s : ByteArray} {k m p r : Nat} {c : BitVec 256} {t : List Nat} (h : G[m]? = some (.over c t)) (ha : Acc G s k m p r) : byt9 s p c = true ∧ ∃ k', k = k' + 1 ∧ AccL G s k' t (p + 1) r := by
  cases ha with
  | add h' => rw [h] at h'; cases h'
  | over h' hb hw ha => rw [h] at h'; cases h'; exact ⟨hb, _, rfl, _, hw, ha⟩
  | only h' hw ha => rw [h] at h'; cases h'
  | once h' hw ha => rw [h] at h'; cases h'
theorem acc_only {G : List Pr} {s : ByteArray} {k m p q r : Nat} {t : List Nat} (h : G[m]? = some (.only q t)) (ha : Acc G s k m p r) : p = q ∧ ∃ k', k = k' + 1 ∧ AccL G s k' t p r := by
  cases ha with
  | add h' => rw [h] at h'; cases h'
  | over h' hb hw ha => rw [h] at h'; cases h'
  | only h' hw ha => rw [h] at h'; cases h'; exact ⟨rfl, _, rfl, _, hw, ha⟩
  | once h' hw ha => rw [h] at h'; cases h'
theorem acc_once {G : List Pr} {s : ByteArray} {k m p r : Nat} {t : List Nat} (h : G[m]? = some (.once t)) (ha : Acc G s k m p r) : ∃ k', k = k' + 1 ∧ AccL G s k' t p r := by
  cases ha with
  | add h' => rw [h] at h'; cases h'
  | over h' hb hw ha => rw [h] at h'; cases h'
  | only h' hw ha => rw [h] at h'; cases h'
  | once h' hw ha => rw [h] at h'; cases h'; exact ⟨_, rfl, _, hw, ha⟩
theorem Acc.le {G : List Pr} {s : ByteArray} {k u p r : Nat} (h : Acc G s k u p r) : p ≤ r := by
  induction h with
  | add => exact Nat.le_refl _
  | over _ _ _ _ ih => omega
  | only _ _ _ ih => exact ih
  | once _ _ _ ih => exact ih

/-- steps lead through R, and then go on with b -/
def Thru (G : List Pr) (s : ByteArray) (R : Nat → Nat → Prop) (v b : List Nat) : Prop :=
  (∀ k p r, AccL G s k v p r → ∃ q k', k' ≤ k ∧ R p q ∧ AccL G s k' b q r) ∧ (∀ k p q r, R p q → AccL G s k b q r → ∃ k', AccL G s k' v p r)
theorem thru_loop {G : List Pr} {s : ByteArray} {R : Nat → Nat → Prop} {v b : List Nat} {m : Nat} (h0 : G[m]? = some (.once (b ++ [m + 1]))) (h1 : G[m + 1]? = some (.once v)) (hR : Thru G s R v [m]) :
    Thru G s (RT R) [m] b := by
  constructor
  · intro k
    induction k using Nat.strongRecOn with
    | _ k ih =>
      intro p r h
      rw [accL_one] at h
      obtain ⟨k0, rfl, h'⟩ := acc_once h0 h
      replace h := h'; clear h'
      rcases accL_app.1 h with h | h
      · exact ⟨p, k0, by omega, .nil _, h⟩
      · rw [accL_one] at h
        obtain ⟨k1, rfl, h'⟩ := acc_once h1 h
        replace h := h'; clear h'
        obtain ⟨q1, k2, hk2, e1, h⟩ := hR.1 _ _ _ h
        obtain ⟨q, k3, hk3, e2, h⟩ := ih k2 (by omega) q1 r h
        exact ⟨q, k3, by omega, .cons e1 e2, h⟩
  · intro k p q r h
    induction h with
    | nil i =>
      rintro ⟨w, hw, ha⟩
      exact ⟨_, m, by simp, .once h0 (List.mem_append_left _ hw) ha⟩
    | cons e1 _ ih =>
      intro hb
      obtain ⟨k1, h⟩ := ih hb
      obtain ⟨k2, w, hw, ha⟩ := hR.2 _ _ _ _ e1 h
      exact ⟨_, m, by simp, .once h0 (List.mem_append_right _ (by simp)) (.once h1 hw ha)⟩
theorem spA_seq (s : ByteArray) {l : List Ni} (h : l.length = 1) : SpA s l = SpR s l := by
  obtain ⟨n, rfl⟩ := List.length_eq_one_iff.1 h
  funext i j; exact propext ((spA_one s n i j).trans (spR_one s n i j).symm)
mutual
theorem thr_acc {G : List Pr} {s : ByteArray} : ∀ (n : Ni) (b : List Nat) (m : Nat), rgtN n = true → AtG G m (thrN s.size n b m).2 → Thru G s (SpN s n) (thrN s.size n b m).1 b
  | .mk k x c l, b, m, hr, hG => by
    rw [rgtN] at hr
    simp only [Bool.and_eq_true] at hr
    obtain ⟨⟨⟨hk, _⟩, _⟩, hl⟩ := hr
    have hR := fun b m => thrR_acc (G := G) (s := s) l b m hl
    have hA := fun b m => thrA_acc (G := G) (s := s) l b m hl
    have hS : SpN s (.mk k x c l) = fun i j => if k = 0 then i = j
      else if k = 1 then j = i + 1 ∧ byt9 s i c = true
      else if k = 2 then SpR s l i j
      else if k = 3 then SpA s l i j
      else if k = 4 then RT (SpA s l) i j
      else if k = 5 then ∃ m, SpA s l i m ∧ RT (SpA s l) m j
      else if k = 6 then i = j ∨ SpA s l i j
      else if k = 7 then SpA s l i j
      else if k = 8 then i = j ∧ i = 0
      else i = j ∧ i = s.size := by funext i j; rw [SpN]
    rw [hS]
    rw [thrN] at hG ⊢
    by_cases h1 : k = 1
    · subst h1
      simp at hG ⊢
      have g0 := hG.head
      constructor
      · intro k p r h
        rw [accL_one] at h
        obtain ⟨hb, k', rfl, h'⟩ := acc_over g0 h
        exact ⟨p + 1, k', by omega, ⟨rfl, hb⟩, h'⟩
      · rintro k p q r ⟨rfl, hb⟩ ⟨w, hw, ha⟩
        exact ⟨_, m, by simp, .over g0 hb hw ha⟩
    by_cases h2 : k = 2
    · subst h2
      simp at hG ⊢
      exact hR b m hG
    by_cases h3 : k = 3
    · subst h3
      simp at hG ⊢
      have g0 := hG.head
      have := hA [m] (m + 1) hG.tail
      constructor
      · intro k p r h
        obtain ⟨q, k', hk', e, h⟩ := this.1 _ _ _ h
        rw [accL_one] at h
        obtain ⟨k2, rfl, h'⟩ := acc_once g0 h
        replace h := h'; clear h'
        exact ⟨q, k2, by omega, e, h⟩
      · rintro k p q r e ⟨w, hw, ha⟩
        exact this.2 _ _ _ _ e ⟨m, by simp, .once g0 hw ha⟩
    by_cases h4 : k = 4
    · subst h4
      simp at hG ⊢
      rw [spA_seq s (kids_single hk (by omega))]
      exact thru_loop hG.head hG.tail.head (hR [m] (m + 2) hG.tail.tail)
    by_cases h5 : k = 5
    · subst h5
      simp at hG ⊢
      rw [spA_seq s (kids_single hk (by omega))]
      have hT := hR [m] (m + 2) hG.tail.tail
      have hL := thru_loop hG.head hG.tail.head hT
      have g1 := hG.tail.head
      constructor
      · intro k p r h
        rw [accL_one] at h
        obtain ⟨k1, rfl, h'⟩ := acc_once g1 h
        replace h := h'; clear h'
        obtain ⟨q1, k2, hk2, e1, h⟩ := hT.1 _ _ _ h
        obtain ⟨q, k3, hk3, e2, h⟩ := hL.1 _ _ _ h
        exact ⟨q, k3, by omega, ⟨q1, e1, e2⟩, h⟩
      · rintro k p q r ⟨q1, e1, e2⟩ h
        obtain ⟨k1, h⟩ := hL.2 _ _ _ _ e2 h
        obtain ⟨k2, w, hw, ha⟩ := hT.2 _ _ _ _ e1 h
        exact ⟨_, m + 1, by simp, .once g1 hw ha⟩
    by_cases h6 : k = 6
    · subst h6
      simp at hG ⊢
      rw [spA_seq s (kids_single hk (by omega))]
      have g0 := hG.head
      have hT := hR [m] (m + 1) hG.tail
      constructor
      · intro k p r h
        rcases accL_app (l := [m]).1 h with h | h
        · rw [accL_one] at h
          obtain ⟨k2, rfl, h'⟩ := acc_once g0 h
          replace h := h'; clear h'
          exact ⟨p, k2, by omega, .inl rfl, h⟩
        · obtain ⟨q, k', hk', e, h⟩ := hT.1 _ _ _ h
          rw [accL_one] at h
          obtain ⟨k2, rfl, h'⟩ := acc_once g0 h
          replace h := h'; clear h'
          exact ⟨q, k2, by omega, .inr e, h⟩
      · rintro k p q r e ⟨w, hw, ha⟩
        have hm : AccL G s (k + 1) [m] q r := ⟨m, by simp, .once g0 hw ha⟩
        rcases e with rfl | e
        · exact ⟨_, accL_app (l := [m]).2 (.inl hm)⟩
        · obtain ⟨k', h⟩ := hT.2 _ _ _ _ e hm
          exact ⟨_, accL_app (l := [m]).2 (.inr h)⟩
    by_cases h7 : k = 7
    · subst h7
      simp at hG ⊢
      rw [spA_seq s (kids_single hk (by omega))]
      exact hR b m hG
    by_cases h8 : k = 8
    · subst h8
      simp at hG ⊢
      have g0 := hG.head
      constructor
      · intro k p r h
        rw [accL_one] at h
        obtain ⟨e, k', rfl, h'⟩ := acc_only g0 h
        exact ⟨p, k', by omega, ⟨rfl, e⟩, h'⟩
      · rintro k p q r ⟨rfl, rfl⟩ ⟨w, hw, ha⟩
        exact ⟨_, m, by simp, .only g0 hw ha⟩
    by_cases h9 : k = 9
    · subst h9
      simp at hG ⊢
      have g0 := hG.head
      constructor
      · intro k p r h
        rw [accL_one] at h
        obtain ⟨e, k', rfl, h'⟩ := acc_only g0 h
        exact ⟨p, k', by omega, ⟨rfl, e⟩, h'⟩
      · rintro k p q r ⟨rfl, rfl⟩ ⟨w, hw, ha⟩
        exact ⟨_, m, by simp, .only g0 hw ha⟩
    have hk := kids_kind hk
    have : k = 0 := by omega
    subst this
    simp
    exact ⟨fun k p r h => ⟨p, k, Nat.le_refl _, rfl, h⟩, fun k p q r e h => ⟨k, e ▸ h⟩⟩
theorem thrR_acc {G : List Pr} {s : ByteArray} : ∀ (l : List Ni) (b : List Nat) (m : Nat), rgtL l = true → AtG G m (thrR s.size l b m).2 → Thru G s (SpR s l) (thrR s.size l b m).1 b
  | [], b, m, _, _ => by
    rw [thrR]
    exact ⟨fun k p r h => ⟨p, k, Nat.le_refl _, by rw [SpR], h⟩, fun k p q r e h => ⟨k, by rw [SpR] at e; exact e ▸ h⟩⟩
  | n :: l, b, m, hr, hG => by
    rw [rgtL, Bool.and_eq_true] at hr
    rw [thrR] at hG ⊢
    have h1 := thrR_acc l b m hr.2 hG.left
    have h2 := thr_acc n _ _ hr.1 (hG.right rfl)
    constructor
    · intro k p r h
      obtain ⟨q1, k1, hk1, e1, h⟩ := h2.1 _ _ _ h
      obtain ⟨q, k2, hk2, e2, h⟩ := h1.1 _ _ _ h
      exact ⟨q, k2, by omega, by rw [SpR]; exact ⟨q1, e1, e2⟩, h⟩
    · intro k p q r e h
      rw [SpR] at e
      obtain ⟨q1, e1, e2⟩ := e
      obtain ⟨k1, h⟩ := h1.2 _ _ _ _ e2 h
      exact h2.2 _ _ _ _ e1 h
theorem thrA_acc {G : List Pr} {s : ByteArray} : ∀ (l : List Ni) (b : List Nat) (m : Nat), rgtL l = true → AtG G m (thrA s.size l b m).2 → Thru G s (SpA s l) (thrA s.size l b m).1 b
  | [], b, m, _, _ => by
    rw [thrA]
    exact ⟨fun k p r ⟨w, hw, _⟩ => absurd hw (by simp), fun k p q r e h => by rw [SpA] at e; exact e.elim⟩
  | n :: l, b, m, hr, hG => by
    rw [rgtL, Bool.and_eq_true] at hr
    rw [thrA] at hG ⊢
    have h1 := thr_acc n _ _ hr.1 hG.left
    have h2 := thrA_acc l b _ hr.2 (hG.right rfl)
    constructor
    · intro k p r h
      rcases accL_app.1 h with h | h
      · obtain ⟨q, k1, hk1, e, h⟩ := h1.1 _ _ _ h
        exact ⟨q, k1, hk1, by rw [SpA]; exact .inl e, h⟩
      · obtain ⟨q, k1, hk1, e, h⟩ := h2.1 _ _ _ h
        exact ⟨q, k1, hk1, by rw [SpA]; exact .inr e, h⟩
    · intro k p q r e h
      rw [SpA] at e
      rcases e with e | e
      · obtain ⟨k', h⟩ := h1.2 _ _ _ _ e h
        exact ⟨k', accL_app.2 (.inl h)⟩
      · obtain ⟨k', h⟩ := h2.2 _ _ _ _ e h
        exact ⟨k', accL_app.2 (.inr h)⟩
end

/-! each step that isn't done once is given out once -/
/-- how often a number is given out by steps -/
def cT (u : Nat) : List Pr → Nat | [] => 0 | p :: l => p.tgt.count u + cT u l
theorem cT_append (u : Nat) (l r : List Pr) : cT u (l ++ r) = cT u l + cT u r := by
  induction l with
  | nil => simp [cT]
  | cons p l ih => rw [List.cons_append, cT, cT, ih]; omega
/-- the number of a step that isn't done once -/
def Lin (G : List Pr) (u : Nat) : Prop := ∀ t, G[u]? ≠ some (.once t)
theorem Lin.ne {G : List Pr} {u m : Nat} {t : List Nat} (h : Lin G u) (hm : G[m]? = some (.once t)) : m ≠ u := fun e => h t (e ▸ hm)
theorem Lin.cnt {G : List Pr} {u m : Nat} {t : List Nat} (h : Lin G u) (hm : G[m]? = some (.once t)) : [m].count u = 0 := by
  have := h.ne hm
  simp [this]
/-- is a number one of m ones from a on? -/
def win (u a m : Nat) : Nat := if a ≤ u ∧ u < a + m then 1 else 0
theorem win_zero (u a : Nat) : win u a 0 = 0 := by unfold win; rw [if_neg (by omega)]
theorem win_add (u a m k : Nat) : win u a (m + k) = win u a m + win u (a + m) k := by
  unfold win; split <;> split <;> split <;> omega
theorem win_cons {u a : Nat} (h : a ≠ u) (m : Nat) : win u a (m + 1) = win u (a + 1) m := by
  unfold win; split <;> split <;> omega
theorem win_one (u a : Nat) : win u a 1 = [a].count u := by
  unfold win
  by_cases h : a = u
  · subst h; simp
  · rw [if_neg (by omega)]; simp [h]
mutual
theorem thr_lin {G : List Pr} {e u : Nat} (hu : Lin G u) : ∀ (n : Ni) (b : List Nat) (m : Nat), AtG G m (thrN e n b m).2 → (thrN e n b m).1.count u + cT u (thrN e n b m).2 = b.count u + win u m (thrN e n b m).2.length
  | .mk k x c l, b, m, hG => by
    have hR := fun b m => thrR_lin (G := G) (e := e) hu l b m
    have hA := fun b m h => thrA_lin (G := G) (e := e) hu l b m h
    rw [thrN] at hG ⊢
    have hone : ∀ p : Pr, p.tgt = b → [m].count u + cT u [p] = b.count u + win u m 1 := fun p hp => by
      rw [win_one]; simp only [cT, hp]; omega
    by_cases h1 : k = 1
    · subst h1; simp at hG ⊢; exact hone _ rfl
    by_cases h2 : k = 2
    · subst h2; simp at hG ⊢; exact hR b m hG
    by_cases h3 : k = 3
    · subst h3; simp at hG ⊢
      have g0 := hG.head
      have := hA [m] (m + 1) (hu.cnt g0) hG.tail
      rw [win_cons (hu.ne g0), cT]
      simp only [Pr.tgt]; omega
    by_cases h4 : k = 4
    · subst h4; simp at hG ⊢
      have g0 := hG.head
      have g1 := hG.tail.head
      have := hR [m] (m + 2) hG.tail.tail
      have c0 := hu.cnt g0
      have c1 := hu.cnt g1
      rw [win_cons (hu.ne g0), win_cons (hu.ne g1), cT, cT, show m + 1 + 1 = m + 2 from rfl]
      simp only [Pr.tgt, List.count_append]; omega
    by_cases h5 : k = 5
    · subst h5; simp at hG ⊢
      have g0 := hG.head
      have g1 := hG.tail.head
      have := hR [m] (m + 2) hG.tail.tail
      have c0 := hu.cnt g0
      have c1 := hu.cnt g1
      rw [win_cons (hu.ne g0), win_cons (hu.ne g1), cT, cT, show m + 1 + 1 = m + 2 from rfl]
      simp only [Pr.tgt, List.count_append]; omega
    by_cases h6 : k = 6
    · subst h6; simp at hG ⊢
      have g0 := hG.head
      have := hR [m] (m + 1) hG.tail
      have c0 := hu.cnt g0
      rw [win_cons (hu.ne g0), cT]
      rw [← List.singleton_append, List.count_append]
      simp only [Pr.tgt]; omega
    by_cases h7 : k = 7
    · subst h7; simp at hG ⊢; exact hR b m hG
    by_cases h8 : k = 8
    · subst h8; simp at hG ⊢; exact hone _ rfl
    by_cases h9 : k = 9
    · subst h9; simp at hG ⊢; exact hone _ rfl
    simp [h1, h2, h3, h4, h5, h6, h7, h8, h9, cT, win_zero]
theorem thrR_lin {G : List Pr} {e u : Nat} (hu : Lin G u) : ∀ (l : List Ni) (b : List Nat) (m : Nat), AtG G m (thrR e l b m).2 → (thrR e l b m).1.count u + cT u (thrR e l b m).2 = b.count u + win u m (thrR e l b m).2.length
  | [], b, m, _ => by rw [thrR]; simp [cT, win_zero]
  | n :: l, b, m, hG => by
    rw [thrR] at hG ⊢
    have h1 := thrR_lin hu l b m hG.left
    have h2 := thr_lin hu n _ _ (hG.right rfl)
    simp only
    rw [cT_append, List.length_append, win_add]; omega
theorem thrA_lin {G : List Pr} {e u : Nat} (hu : Lin G u) : ∀ (l : List Ni) (b : List Nat) (m : Nat), b.count u = 0 → AtG G m (thrA e l b m).2 → (thrA e l b m).1.count u + cT u (thrA e l b m).2 = win u m (thrA e l b m).2.length
  | [], b, m, _, _ => by rw [thrA]; simp [cT, win_zero]
  | n :: l, b, m, hb, hG => by
    rw [thrA] at hG ⊢
    have h1 := thr_lin hu n b m hG.left
    have h2 := thrA_lin hu l b _ hb (hG.right rfl)
    simp only
    rw [cT_append, List.length_append, win_add, List.count_append]; omega
end
/-- all steps of a node: the list's first -/
def stgN (e : Nat) (n : Ni) : List Pr := .add :: (thrN e n [0] 1).2
def strN (e : Nat) (n : Ni) : List Nat := (thrN e n [0] 1).1
theorem stg_at (e : Nat) (n : Ni) : AtG (stgN e n) 1 (thrN e n [0] 1).2 := fun i p h => by
  unfold stgN; rw [Nat.add_comm, List.getElem?_cons_succ]; exact h
theorem stg_len (e : Nat) (n : Ni) : (stgN e n).length = 1 + cnN n := by unfold stgN; rw [List.length_cons, thr_len]; omega
theorem stg_lin {e u : Nat} {n : Ni} (hu : Lin (stgN e n) u) : (strN e n).count u + cT u (stgN e n) ≤ 1 := by
  have := thr_lin (e := e) hu n [0] 1 (stg_at e n)
  have h0 : [0].count u + win u 1 (thrN e n [0] 1).2.length ≤ 1 := by
    rw [← win_one, ← win_add u 0 1]; unfold win; split <;> omega
  unfold strN stgN
  rw [cT]; simp only [Pr.tgt, List.count_nil]; omega
theorem stg_acc {s : ByteArray} {n : Ni} (h : rgtN n = true) (p r : Nat) : (∃ k, AccL (stgN s.size n) s k (strN s.size n) p r) ↔ SpN s n p r := by
  have hT := thr_acc (s := s) n [0] 1 h (stg_at s.size n)
  have h0 : (stgN s.size n)[0]? = some .add := rfl
  constructor
  · rintro ⟨k, h⟩
    obtain ⟨q, k', _, e, h⟩ := hT.1 _ _ _ h
    rw [accL_one] at h
    cases h with
    | add _ => exact e
    | over h' => rw [h0] at h'; cases h'
    | only h' => rw [h0] at h'; cases h'
    | once h' => rw [h0] at h'; cases h'
  · intro e
    exact hT.2 0 _ _ _ e ⟨0, by simp, .add h0⟩

end Go.Proofs.YtlkjejmmoalliaaGreatDoor

namespace Go.Proofs.YtlkjejmmoalliaaGreatDoor

/-- does a step that is done at a place go on? F: those that did so far -/
def firB (G : List Pr) (s : ByteArray) (F : List (Nat × Nat)) (u p : Nat) : Bool :=
  match G[u]? with
  | some .add => true
  | some (.over c _) => byt9 s p c
  | some (.only k _) => decide (p = k)
  | some (.once _) => decide ((u, p) ∉ F)
  | none => false
def ex1 (G : List Pr) (s : ByteArray) (p : Nat) (F : List (Nat × Nat)) (u : Nat) : List (Nat × Nat) := if firB G s F u p = true then F ++ [(u, p)] else F
def exL (G : List Pr) (s : ByteArray) (p : Nat) (F : List (Nat × Nat)) (l : List Nat) : List (Nat × Nat) := l.foldl (ex1 G s p) F
/-- what has gone on to a place -/
def psh (G : List Pr) (q : Nat) (x : Nat × Nat) : Bool :=
  match G[x.1]? with
  | some (.over _ _) => decide (x.2 + 1 = q)
  | some (.only _ _) => decide (x.2 = q)
  | some (.once _) => decide (x.2 = q)
  | _ => false
def tgtG (G : List Pr) (x : Nat × Nat) : List Nat := match G[x.1]? with | some p => p.tgt | none => []
def isAdd (G : List Pr) (x : Nat × Nat) : Bool := match G[x.1]? with | some .add => true | _ => false
/-- all that is to be done at a place: st first, if it is fr -/
def hrF (G : List Pr) (st : List Nat) (fr : Nat) (F : List (Nat × Nat)) (q : Nat) : List (List Nat) := (if q = fr then [st] else []) ++ (F.filter (psh G q)).map (tgtG G)
def outF (G : List Pr) (F : List (Nat × Nat)) : List Nat := (F.filter (isAdd G)).map (·.2)

theorem exL_nil (G : List Pr) (s : ByteArray) (p : Nat) (F : List (Nat × Nat)) : exL G s p F [] = F := rfl
theorem exL_cons (G : List Pr) (s : ByteArray) (p : Nat) (F : List (Nat × Nat)) (u : Nat) (l : List Nat) : exL G s p F (u :: l) = exL G s p (ex1 G s p F u) l := rfl
theorem exL_append (G : List Pr) (s : ByteArray) (p : Nat) (F : List (Nat × Nat)) (l r : List Nat) : exL G s p F (l ++ r) = exL G s p (exL G s p F l) r := List.foldl_append ..
theorem ex1_len (G : List Pr) (s : ByteArray) (p : Nat) (F : List (Nat × Nat)) (u : Nat) : F.length ≤ (ex1 G s p F u).length ∧ (ex1 G s p F u).length ≤ F.length + 1 := by
  unfold ex1; split <;> simp
theorem exL_len (G : List Pr) (s : ByteArray) (p : Nat) : ∀ (l : List Nat) (F : List (Nat × Nat)), F.length ≤ (exL G s p F l).length ∧ (exL G s p F l).length ≤ F.length + l.length
  | [], F => by rw [exL_nil]; simp
  | u :: l, F => by
    rw [exL_cons, List.length_cons]
    have h1 := ex1_len G s p F u; have h2 := exL_len G s p l (ex1 G s p F u); omega
theorem hrF_snoc (G : List Pr) (st : List Nat) (fr : Nat) (F : List (Nat × Nat)) (q : Nat) (x : Nat × Nat) : hrF G st fr (F ++ [x]) q = hrF G st fr F q ++ (if psh G q x = true then [tgtG G x] else []) := by
  unfold hrF
  rw [List.filter_append, List.map_append, List.append_assoc]
  congr 2
  by_cases h : psh G q x = true
  · rw [if_pos h, List.filter_cons_of_pos h]; rfl
  · rw [if_neg h, List.filter_cons_of_neg h]; rfl
theorem hrF_len (G : List Pr) (st : List Nat) (fr : Nat) (F : List (Nat × Nat)) (q : Nat) : (hrF G st fr F q).length ≤ F.length + 1 := by
  unfold hrF
  rw [List.length_append, List.length_map]
  have := List.length_filter_le (psh G q) F
  split <;> simp <;> omega
theorem outF_len (G : List Pr) (F : List (Nat × Nat)) : (outF G F).length ≤ F.length := by unfold outF; rw [List.length_map]; exact List.length_filter_le _ _
theorem outF_snoc (G : List Pr) (F : List (Nat × Nat)) (x : Nat × Nat) : outF G (F ++ [x]) = outF G F ++ (if isAdd G x = true then [x.2] else []) := by
  unfold outF
  rw [List.filter_append, List.map_append]
  congr 1
  by_cases h : isAdd G x = true
  · rw [if_pos h, List.filter_cons_of_pos h]; rfl
  · rw [if_neg h, List.filter_cons_of_neg h]; rfl

/-- what was done when a step was done at a place -/
def Dn (G : List Pr) (s : ByteArray) (F : List (Nat × Nat)) (u q : Nat) : Prop :=
  match G[u]? with
  | some .add => (u, q) ∈ F
  | some (.over c _) => byt9 s q c = true → (u, q) ∈ F
  | some (.only k _) => q = k → (u, q) ∈ F
  | some (.once _) => (u, q) ∈ F
  | none => True
/-- one that went on could -/
def Ok (G : List Pr) (s : ByteArray) (x : Nat × Nat) : Prop :=
  match G[x.1]? with
  | some .add => True
  | some (.over c _) => byt9 s x.2 c = true
  | some (.only k _) => x.2 = k
  | some (.once _) => True
  | none => False
theorem Dn.mono {G : List Pr} {s : ByteArray} {F F' : List (Nat × Nat)} {u q : Nat} (h : Dn G s F u q) (hF : ∀ x ∈ F, x ∈ F') : Dn G s F' u q := by
  unfold Dn at h ⊢
  split <;> rename_i e <;> rw [e] at h <;> simp only at h
  · exact hF _ h
  · exact fun b => hF _ (h b)
  · exact fun b => hF _ (h b)
  · exact hF _ h
  · trivial
theorem ex1_sub {G : List Pr} {s : ByteArray} {p : Nat} {F : List (Nat × Nat)} {u : Nat} : ∀ x ∈ F, x ∈ ex1 G s p F u := fun x h => by
  unfold ex1; split
  · exact List.mem_append_left _ h
  · exact h
theorem ex1_dn (G : List Pr) (s : ByteArray) (p : Nat) (F : List (Nat × Nat)) (u : Nat) : Dn G s (ex1 G s p F u) u p := by
  unfold Dn ex1 firB
  cases e : G[u]? with
  | none => trivial
  | some x =>
    cases x with
    | add => simp
    | over c t => simp only; intro b; rw [if_pos b]; simp
    | only k t => simp only; intro b; rw [if_pos (by simpa using b)]; simp
    | once t =>
      simp only
      by_cases h : (u, p) ∈ F
      · rw [if_neg (by simpa using h)]; exact h
      · rw [if_pos (by simpa using h)]; simp

theorem nodup_le : ∀ (n : Nat) (l : List Nat), l.Nodup → (∀ x ∈ l, x < n) → l.length ≤ n
  | 0, l, _, h => by
    cases l with
    | nil => simp
    | cons a l => exact absurd (h a (by simp)) (by omega)
  | n + 1, l, hd, h => by
    have h1 := nodup_le n (l.erase n) (hd.erase _) (fun x hx => by
      have hm := (hd.mem_erase_iff).1 hx
      have := h x hm.2; have := hm.1; omega)
    have h2 := List.length_erase (a := n) (l := l)
    rw [h2] at h1
    split at h1 <;> omega
/-- counted over all that went on to a place -/
theorem cnt_push {G : List Pr} {u q : Nat} : ∀ {F : List (Nat × Nat)}, F.Nodup → ((F.filter (psh G q)).map (tgtG G)).flatten.count u ≤ cT u G := by
  intro F hF
  have key : ∀ (L : List Pr) (a : Nat) (K : List (Nat × Nat)), (∀ i p, L[i]? = some p → G[a + i]? = some p) → K.Nodup → (∀ x ∈ K, psh G q x = true ∧ a ≤ x.1 ∧ x.1 < a + L.length) → (K.map (tgtG G)).flatten.count u ≤ cT u L := by
    intro L
    induction L with
    | nil =>
      intro a K _ _ h
      cases K with
      | nil => simp
      | cons x K => have := h x (by simp); simp at this; omega
    | cons p L ih =>
      intro a K hG hK h
      have g0 : G[a]? = some p := hG 0 p rfl
      rw [cT]
      -- those of the first number
      have hone : ∃ K' : List (Nat × Nat), K'.Nodup ∧ (∀ x ∈ K', x ∈ K ∧ x.1 ≠ a) ∧ (K.map (tgtG G)).flatten.count u ≤ p.tgt.count u + (K'.map (tgtG G)).flatten.count u := by
        clear hG ih
        have huq : ∀ x ∈ K, ∀ y ∈ K, x.1 = y.1 → x = y := fun x hx y hy e => by
          have h1 := (h x hx).1; have h2 := (h y hy).1
          unfold psh at h1 h2
          rw [e] at h1
          have : x.2 = y.2 := by
            cases e' : G[y.1]? with
            | none => rw [e'] at h1; simp at h1
            | some p =>
              rw [e'] at h1 h2
              cases p <;> simp at h1 h2 <;> omega
          exact Prod.ext e this
        clear h
        induction K with
        | nil => exact ⟨[], by simp, by simp, by simp⟩
        | cons x K ih =>
          rw [List.nodup_cons] at hK
          by_cases hx : x.1 = a
          · refine ⟨K, hK.2, fun y hy => ⟨List.mem_cons_of_mem _ hy, fun e => ?_⟩, ?_⟩
            · have := huq x (by simp) y (List.mem_cons_of_mem _ hy) (hx.trans e.symm)
              exact hK.1 (this ▸ hy)
            · rw [List.map_cons, List.flatten_cons, List.count_append]
              have : tgtG G x = p.tgt := by unfold tgtG; rw [hx, g0]
              rw [this]; exact Nat.le_refl _
          · obtain ⟨K', h1, h2, h3⟩ := ih hK.2 (fun y hy z hz => huq y (List.mem_cons_of_mem _ hy) z (List.mem_cons_of_mem _ hz))
            refine ⟨x :: K', ?_, ?_, ?_⟩
            · rw [List.nodup_cons]; exact ⟨fun hm => hK.1 (h2 x hm).1, h1⟩
            · intro y hy
              rcases List.mem_cons.1 hy with rfl | hy
              · exact ⟨by simp, hx⟩
              · exact ⟨List.mem_cons_of_mem _ (h2 y hy).1, (h2 y hy).2⟩
            · rw [List.map_cons, List.flatten_cons, List.count_append, List.map_cons, List.flatten_cons, List.count_append]; omega
      obtain ⟨K', h1, h2, h3⟩ := hone
      have := ih (a + 1) K' (fun i p hi => by have := hG (i + 1) p (by simpa using hi); rw [show a + 1 + i = a + (i + 1) by omega]; exact this) h1 (fun x hx => by
        have h4 := h x (h2 x hx).1; have h5 := (h2 x hx).2
        rw [List.length_cons] at h4
        exact ⟨h4.1, by omega, by omega⟩)
      omega
  refine key G 0 _ (fun i p h => by rw [Nat.zero_add]; exact h) (hF.filter _) (fun x hx => ?_)
  have h1 := (List.mem_filter.1 hx).2
  refine ⟨h1, Nat.zero_le _, ?_⟩
  rw [Nat.zero_add]
  unfold psh at h1
  split at h1
  · rename_i e; exact (List.getElem?_eq_some_iff.1 e).1
  · rename_i e; exact (List.getElem?_eq_some_iff.1 e).1
  · rename_i e; exact (List.getElem?_eq_some_iff.1 e).1
  · cases h1
/-- what holds while the i-th of all that is to be done at a place is done, l1 of its steps are done -/
structure PI (G : List Pr) (s : ByteArray) (st : List Nat) (fr : Nat) (F : List (Nat × Nat)) (p i : Nat) (l1 : List Nat) : Prop where
  nd : F.Nodup
  le : ∀ x ∈ F, fr ≤ x.2 ∧ x.2 ≤ p
  up : F.Pairwise (fun x y => x.2 ≤ y.2)
  ok : ∀ x ∈ F, Ok G s x ∧ ∀ k r, Acc G s k x.1 x.2 r → ∃ k, AccL G s k st fr r
  pr : fr ≤ p
  /-- what went on here was to be done here -/
  src : ∀ u, Lin G u → (u, p) ∈ F → u ∈ ((hrF G st fr F p).take i).flatten ++ l1
  dn : ∀ j l, (hrF G st fr F p)[j]? = some l → j < i → ∀ u ∈ l, Dn G s F u p
  d1 : ∀ u ∈ l1, Dn G s F u p
  old : ∀ q, q < p → ∀ l ∈ hrF G st fr F q, ∀ u ∈ l, Dn G s F u q
theorem mem_hrF {G : List Pr} {st : List Nat} {fr : Nat} {F : List (Nat × Nat)} {q : Nat} {l : List Nat} : l ∈ hrF G st fr F q ↔ (q = fr ∧ l = st) ∨ ∃ x ∈ F, psh G q x = true ∧ tgtG G x = l := by
  unfold hrF
  rw [List.mem_append, List.mem_map]
  constructor
  · rintro (h | ⟨x, hx, e⟩)
    · split at h
      · rename_i e; exact .inl ⟨e, by simpa using h⟩
      · cases h
    · exact .inr ⟨x, (List.mem_filter.1 hx).1, (List.mem_filter.1 hx).2, e⟩
  · rintro (⟨rfl, rfl⟩ | ⟨x, hx, h, e⟩)
    · exact .inl (by simp)
    · exact .inr ⟨x, List.mem_filter.2 ⟨hx, h⟩, e⟩
/-- each step that is to be done leads to what the first ones lead to -/
theorem PI.sound {G : List Pr} {s : ByteArray} {st : List Nat} {fr : Nat} {F : List (Nat × Nat)} {p i q : Nat} {l1 l : List Nat} (h : PI G s st fr F p i l1) (hl : l ∈ hrF G st fr F q) {u k r : Nat} (hu : u ∈ l) (ha : Acc G s k u q r) : ∃ k, AccL G s k st fr r := by
  rcases mem_hrF.1 hl with ⟨rfl, rfl⟩ | ⟨x, hx, hp, rfl⟩
  · exact ⟨k, u, hu, ha⟩
  · obtain ⟨h1, h2⟩ := h.ok x hx
    unfold psh at hp
    unfold tgtG at hu
    unfold Ok at h1
    split at hp
    · rename_i c t e
      rw [e] at h1 hu
      simp at hp
      subst hp
      exact h2 _ _ (.over e h1 hu ha)
    · rename_i k t e
      rw [e] at h1 hu
      simp only at h1
      simp at hp
      subst hp
      subst h1
      exact h2 _ _ (.only e hu ha)
    · rename_i t e
      rw [e] at hu
      simp at hp
      subst hp
      exact h2 _ _ (.once e hu ha)
    · cases hp
/-- no step but those that are done once is to be done twice at a place -/
theorem PI.once {G : List Pr} {s : ByteArray} {st : List Nat} {fr : Nat} {F : List (Nat × Nat)} {p i : Nat} {l1 : List Nat} (h : PI G s st fr F p i l1) {u : Nat} (hl : st.count u + cT u G ≤ 1) (q : Nat) : (hrF G st fr F q).flatten.count u ≤ 1 := by
  unfold hrF
  rw [List.flatten_append, List.count_append]
  have := cnt_push (G := G) (u := u) (q := q) h.nd
  split
  · simp; omega
  · simp; omega
theorem firB_ok {G : List Pr} {s : ByteArray} {F : List (Nat × Nat)} {u p : Nat} (h : firB G s F u p = true) : Ok G s (u, p) := by
  unfold firB at h; unfold Ok
  split at h <;> rename_i e <;> rw [e] <;> simp only
  · exact h
  · simpa using h
  · cases h
theorem psh_same {G : List Pr} {u p q : Nat} (h : psh G q (u, p) = true) : p ≤ q := by
  unfold psh at h
  split at h <;> simp at h <;> omega
theorem PI.step {G : List Pr} {s : ByteArray} {st : List Nat} {fr : Nat} {F : List (Nat × Nat)} {p i : Nat} {l1 l2 : List Nat} {u : Nat} (h : PI G s st fr F p i l1) (hlin : ∀ u, Lin G u → st.count u + cT u G ≤ 1)
    (hi : (hrF G st fr F p)[i]? = some (l1 ++ u :: l2)) : PI G s st fr (ex1 G s p F u) p i (l1 ++ [u]) ∧ (hrF G st fr (ex1 G s p F u) p)[i]? = some (l1 ++ u :: l2) := by
  have hlt : i < (hrF G st fr F p).length := (List.getElem?_eq_some_iff.1 hi).1
  have hd := ex1_dn G s p F u
  unfold ex1 at hd ⊢
  split at hd
  · rename_i hf
    rw [if_pos hf]
    have hsub : ∀ x ∈ F, x ∈ F ++ [(u, p)] := fun x hx => List.mem_append_left _ hx
    have hnew : (u, p) ∉ F := by
      by_cases hL : Lin G u
      · intro hm
        have h1 := h.src u hL hm
        have h2 := h.once (hlin u hL) p
        rw [← List.take_append_drop i (hrF G st fr F p), List.drop_eq_getElem_cons hlt, List.flatten_append, List.flatten_cons] at h2
        have e : (hrF G st fr F p)[i] = l1 ++ u :: l2 := (List.getElem?_eq_some_iff.1 hi).2
        rw [e, List.count_append, List.count_append, List.count_append, List.count_cons_self] at h2
        rcases List.mem_append.1 h1 with h1 | h1
        · have := List.count_pos_iff.2 h1; omega
        · have := List.count_pos_iff.2 h1; omega
      · unfold Lin at hL
        have hL : ∃ t, G[u]? = some (.once t) := Classical.byContradiction fun hn => hL fun t e => hn ⟨t, e⟩
        obtain ⟨t, e⟩ := hL
        unfold firB at hf
        rw [e] at hf
        simpa using hf
    have hlow : ∀ q, q < p → hrF G st fr (F ++ [(u, p)]) q = hrF G st fr F q := fun q hq => by
      rw [hrF_snoc, if_neg (fun e => by have := psh_same e; omega), List.append_nil]
    have hmem : (l1 ++ u :: l2) ∈ hrF G st fr F p := List.mem_of_getElem? hi
    refine ⟨⟨?_, ?_, ?_, ?_, h.pr, ?_, ?_, ?_, ?_⟩, ?_⟩
    · rw [List.nodup_append]
      exact ⟨h.nd, by simp, fun a ha b hb e => by simp at hb; subst hb; exact hnew (e ▸ ha)⟩
    · intro x hx
      rcases List.mem_append.1 hx with hx | hx
      · exact h.le x hx
      · simp at hx; subst hx; exact ⟨h.pr, Nat.le_refl _⟩
    · rw [List.pairwise_append]
      exact ⟨h.up, by simp, fun a ha b hb => by simp at hb; subst hb; exact (h.le a ha).2⟩
    · intro x hx
      rcases List.mem_append.1 hx with hx | hx
      · exact h.ok x hx
      · simp at hx; subst hx
        exact ⟨firB_ok hf, fun k r ha => h.sound hmem (by simp) ha⟩
    · intro v hv hm
      rw [hrF_snoc, List.take_append_of_le_length (Nat.le_of_lt hlt)]
      rcases List.mem_append.1 hm with hm | hm
      · rcases List.mem_append.1 (h.src v hv hm) with h1 | h1
        · exact List.mem_append_left _ h1
        · exact List.mem_append_right _ (List.mem_append_left _ h1)
      · simp at hm; subst hm
        exact List.mem_append_right _ (by simp)
    · intro j l hl hj v hv
      rw [hrF_snoc, List.getElem?_append_left (by omega)] at hl
      exact (h.dn j l hl hj v hv).mono hsub
    · intro v hv
      rcases List.mem_append.1 hv with hv | hv
      · exact (h.d1 v hv).mono hsub
      · simp at hv; subst hv; exact hd
    · intro q hq l hl v hv
      rw [hlow q hq] at hl
      exact (h.old q hq l hl v hv).mono hsub
    · rw [hrF_snoc, List.getElem?_append_left hlt]; exact hi
  · rename_i hf
    rw [if_neg hf]
    refine ⟨⟨h.nd, h.le, h.up, h.ok, h.pr, ?_, h.dn, ?_, h.old⟩, hi⟩
    · intro v hv hm
      rcases List.mem_append.1 (h.src v hv hm) with h1 | h1
      · exact List.mem_append_left _ h1
      · exact List.mem_append_right _ (List.mem_append_left _ h1)
    · intro v hv
      rcases List.mem_append.1 hv with hv | hv
      · exact h.d1 v hv
      · simp at hv; subst hv; exact hd
/-- one of all that is to be done at a place is done whole -/
theorem PI.item {G : List Pr} {s : ByteArray} {st : List Nat} {fr p i : Nat} (hlin : ∀ u, Lin G u → st.count u + cT u G ≤ 1) : ∀ {l2 l1 : List Nat} {F : List (Nat × Nat)}, PI G s st fr F p i l1 →
    (hrF G st fr F p)[i]? = some (l1 ++ l2) → PI G s st fr (exL G s p F l2) p (i + 1) []
  | [], l1, F, h, hi => by
    rw [List.append_nil] at hi
    rw [exL_nil]
    have hlt : i < (hrF G st fr F p).length := (List.getElem?_eq_some_iff.1 hi).1
    refine ⟨h.nd, h.le, h.up, h.ok, h.pr, ?_, ?_, ?_, h.old⟩
    · intro u hu hm
      rw [List.append_nil, List.take_add_one, hi, List.flatten_append]
      simpa using h.src u hu hm
    · intro j l hl hj u hu
      by_cases e : j = i
      · subst e; rw [hi] at hl; cases hl; exact h.d1 u hu
      · exact h.dn j l hl (by omega) u hu
    · intro u hu; cases hu
  | u :: l2, l1, F, h, hi => by
    obtain ⟨h1, h2⟩ := h.step hlin hi
    rw [exL_cons]
    exact PI.item hlin h1 (by rw [h2]; simp)
/-- on to the next place -/
theorem PI.next {G : List Pr} {s : ByteArray} {st : List Nat} {fr p : Nat} {F : List (Nat × Nat)} (h : PI G s st fr F p (hrF G st fr F p).length []) : PI G s st fr F (p + 1) 0 [] := by
  refine ⟨h.nd, fun x hx => ⟨(h.le x hx).1, Nat.le_succ_of_le (h.le x hx).2⟩, h.up, h.ok, Nat.le_succ_of_le h.pr, ?_, ?_, ?_, ?_⟩
  · intro u _ hm
    have := (h.le _ hm).2
    simp at this; omega
  · intro j l _ hj; omega
  · intro u hu; cases hu
  · intro q hq l hl u hu
    by_cases e : q = p
    · subst e
      obtain ⟨j, hj, e⟩ := List.getElem_of_mem hl
      exact h.dn j l (List.getElem?_eq_some_iff.2 ⟨hj, e⟩) hj u hu
    · exact h.old q (by omega) l hl u hu
theorem PI.start (G : List Pr) (s : ByteArray) (st : List Nat) (fr : Nat) : PI G s st fr [] fr 0 [] := by
  refine ⟨by simp, by simp, by simp, by simp, Nat.le_refl _, by simp, ?_, by simp, ?_⟩
  · intro j l _ hj; omega
  · intro q hq l hl u hu
    rcases mem_hrF.1 hl with ⟨rfl, rfl⟩ | ⟨x, hx, _⟩
    · omega
    · cases hx
/-- how often all could go on -/
theorem PI.bound {G : List Pr} {s : ByteArray} {st : List Nat} {fr p i : Nat} {l1 : List Nat} {F : List (Nat × Nat)} (h : PI G s st fr F p i l1) : F.length ≤ G.length * (p + 1) := by
  have h1 : ∀ x ∈ F, x.1 < G.length ∧ x.2 < p + 1 := fun x hx => by
    have h2 := (h.ok x hx).1
    unfold Ok at h2
    refine ⟨?_, by have := (h.le x hx).2; omega⟩
    rcases Nat.lt_or_ge x.1 G.length with h3 | h3
    · exact h3
    · rw [List.getElem?_eq_none h3] at h2; exact h2.elim
  have h2 : (F.map fun x => x.1 * (p + 1) + x.2).Nodup := by
    have hn := h.nd
    unfold List.Nodup at hn ⊢
    rw [List.pairwise_map]
    refine (List.Pairwise.imp_of_mem ?_ hn)
    intro a b ha hb hab e
    apply hab
    have ha := (h1 a ha).2
    have hb := (h1 b hb).2
    have e1 : a.2 = b.2 := by
      have := congrArg (· % (p + 1)) e
      simp only [Nat.mul_add_mod_self_right] at this
      rwa [Nat.mod_eq_of_lt ha, Nat.mod_eq_of_lt hb] at this
    have e2 : a.1 = b.1 := by
      rw [e1] at e
      have := Nat.add_right_cancel e
      exact Nat.eq_of_mul_eq_mul_right (by omega) this
    exact Prod.ext e2 e1
  have := nodup_le (G.length * (p + 1)) _ h2 (fun x hx => by
    obtain ⟨y, hy, rfl⟩ := List.mem_map.1 hx
    obtain ⟨a, b⟩ := h1 y hy
    have h3 : (y.1 + 1) * (p + 1) ≤ G.length * (p + 1) := Nat.mul_le_mul_right _ a
    rw [Nat.add_mul] at h3
    omega)
  simpa using this
theorem PI.ids {G : List Pr} {s : ByteArray} {st : List Nat} {fr p i : Nat} {l1 : List Nat} {F : List (Nat × Nat)} (h : PI G s st fr F p i l1) : ∀ x ∈ F, x.1 < G.length := fun x hx => by
  have h2 := (h.ok x hx).1
  unfold Ok at h2
  rcases Nat.lt_or_ge x.1 G.length with h3 | h3
  · exact h3
  · rw [List.getElem?_eq_none h3] at h2; exact h2.elim
/-- all of the items stay, more come behind them -/
theorem ex1_hr {G : List Pr} {s : ByteArray} {st : List Nat} {fr p : Nat} (F : List (Nat × Nat)) (u q : Nat) : ∃ K, hrF G st fr (ex1 G s p F u) q = hrF G st fr F q ++ K := by
  unfold ex1; split
  · exact ⟨_, hrF_snoc ..⟩
  · exact ⟨[], by simp⟩
theorem exL_hr {G : List Pr} {s : ByteArray} {st : List Nat} {fr p : Nat} : ∀ (l : List Nat) (F : List (Nat × Nat)) (q : Nat), ∃ K, hrF G st fr (exL G s p F l) q = hrF G st fr F q ++ K
  | [], F, q => ⟨[], by rw [exL_nil]; simp⟩
  | u :: l, F, q => by
    obtain ⟨K, e⟩ := ex1_hr (G := G) (s := s) (st := st) (fr := fr) (p := p) F u q
    obtain ⟨K', e'⟩ := exL_hr (G := G) (s := s) (st := st) (fr := fr) (p := p) l (ex1 G s p F u) q
    exact ⟨K ++ K', by rw [exL_cons, e', e, List.append_assoc]⟩

/-- at the end: P is the first place that wasn't gone through -/
theorem run_list {G : List Pr} {s : ByteArray} {st : List Nat} {fr P : Nat} {last : Int} {F : List (Nat × Nat)} (h : PI G s st fr F P 0 []) (hP : ∀ x ∈ F, x.2 < P) (hL : ∀ x ∈ F, (x.2 : Int) ≤ last) (he : last < P ∨ hrF G st fr F P = [])
    (h0 : G[0]? = some .add) (hu0 : ∀ u, G[u]? = some .add → u = 0) :
    (outF G F).Pairwise (· < ·) ∧ ∀ r, r ∈ outF G F ↔ ((r : Int) ≤ last ∧ ∃ k, AccL G s k st fr r) := by
  have hmem : ∀ r, r ∈ outF G F ↔ (0, r) ∈ F := fun r => by
    unfold outF
    rw [List.mem_map]
    constructor
    · rintro ⟨x, hx, rfl⟩
      obtain ⟨h1, h2⟩ := List.mem_filter.1 hx
      unfold isAdd at h2
      split at h2
      · rename_i e
        have := hu0 _ e
        rw [← this]; exact h1
      · cases h2
    · intro hm
      exact ⟨(0, r), List.mem_filter.2 ⟨hm, by unfold isAdd; rw [h0]⟩, rfl⟩
  constructor
  · unfold outF
    rw [List.pairwise_map]
    have h1 := (h.up.and h.nd).filter (isAdd G)
    refine h1.imp_of_mem ?_
    intro a b ha hb hab
    have e : ∀ x ∈ F.filter (isAdd G), x.1 = 0 := fun x hx => by
      have h2 := (List.mem_filter.1 hx).2
      unfold isAdd at h2
      split at h2
      · rename_i e; exact hu0 _ e
      · cases h2
    have e1 := e a ha; have e2 := e b hb
    rcases Nat.lt_or_eq_of_le hab.1 with h3 | h3
    · exact h3
    · exact absurd (Prod.ext (e1.trans e2.symm) h3) hab.2
  · intro r
    rw [hmem]
    constructor
    · intro hm
      refine ⟨hL _ hm, (h.ok _ hm).2 0 r (.add h0)⟩
    · rintro ⟨hr, k, w, hw, ha⟩
      have key : ∀ {k u q r}, Acc G s k u q r → (r : Int) ≤ last → (∃ l ∈ hrF G st fr F q, u ∈ l) → (0, r) ∈ F := by
        intro k u q r ha
        induction ha with
        | @add u p hu =>
          rintro hr ⟨l, hl, hul⟩
          have := hu0 _ hu
          subst this
          rcases Nat.lt_or_ge p P with hq | hq
          · have := h.old p hq l hl 0 hul
            unfold Dn at this
            rw [hu] at this
            exact this
          · rcases he with he | he
            · omega
            · rcases mem_hrF.1 hl with ⟨rfl, rfl⟩ | ⟨x, hx, hp, _⟩
              · have := h.pr
                have e : P = p := by omega
                subst e; rw [he] at hl; cases hl
              · have h1 := hP x hx
                have h2 : p ≤ x.2 + 1 := by unfold psh at hp; split at hp <;> simp at hp <;> omega
                have e : P = p := by omega
                subst e; rw [he] at hl; cases hl
        | @over u p r k w c t hu hb hw ha ih =>
          rintro hr ⟨l, hl, hul⟩
          have hle := ha.le
          refine ih hr ?_
          rcases Nat.lt_or_ge p P with hq | hq
          · have := h.old p hq l hl u hul
            unfold Dn at this
            rw [hu] at this
            exact ⟨t, mem_hrF.2 (.inr ⟨(u, p), this hb, by unfold psh; rw [hu]; simp, by unfold tgtG; rw [hu]; rfl⟩), hw⟩
          · exfalso
            rcases he with he | he
            · omega
            · rcases mem_hrF.1 hl with ⟨rfl, rfl⟩ | ⟨x, hx, hp, _⟩
              · have := h.pr
                have e : P = p := by omega
                subst e; rw [he] at hl; cases hl
              · have h1 := hP x hx
                have h2 : p ≤ x.2 + 1 := by unfold psh at hp; split at hp <;> simp at hp <;> omega
                have e : P = p := by omega
                subst e; rw [he] at hl; cases hl
        | @only u p r k w t hu hw ha ih =>
          rintro hr ⟨l, hl, hul⟩
          have hle := ha.le
          refine ih hr ?_
          rcases Nat.lt_or_ge p P with hq | hq
          · have := h.old p hq l hl u hul
            unfold Dn at this
            rw [hu] at this
            exact ⟨t, mem_hrF.2 (.inr ⟨(u, p), this rfl, by unfold psh; rw [hu]; simp, by unfold tgtG; rw [hu]; rfl⟩), hw⟩
          · exfalso
            rcases he with he | he
            · omega
            · rcases mem_hrF.1 hl with ⟨rfl, rfl⟩ | ⟨x, hx, hp, _⟩
              · have := h.pr
                have e : P = p := by omega
                subst e; rw [he] at hl; cases hl
              · have h1 := hP x hx
                have h2 : p ≤ x.2 + 1 := by unfold psh at hp; split at hp <;> simp at hp <;> omega
                have e : P = p := by omega
                subst e; rw [he] at hl; cases hl
        | @once u p r k w t hu hw ha ih =>
          rintro hr ⟨l, hl, hul⟩
          have hle := ha.le
          refine ih hr ?_
          rcases Nat.lt_or_ge p P with hq | hq
          · have := h.old p hq l hl u hul
            unfold Dn at this
            rw [hu] at this
            exact ⟨t, mem_hrF.2 (.inr ⟨(u, p), this, by unfold psh; rw [hu]; simp, by unfold tgtG; rw [hu]; rfl⟩), hw⟩
          · exfalso
            rcases he with he | he
            · omega
            · rcases mem_hrF.1 hl with ⟨rfl, rfl⟩ | ⟨x, hx, hp, _⟩
              · have := h.pr
                have e : P = p := by omega
                subst e; rw [he] at hl; cases hl
              · have h1 := hP x hx
                have h2 : p ≤ x.2 + 1 := by unfold psh at hp; split at hp <;> simp at hp <;> omega
                have e : P = p := by omega
                subst e; rw [he] at hl; cases hl
      exact key ha hr ⟨st, mem_hrF.2 (.inl ⟨rfl, rfl⟩), hw⟩

/-- two rising lists of the same places are one -/
theorem rising_same : ∀ {l r : List Nat}, l.Pairwise (· < ·) → r.Pairwise (· < ·) → (∀ x, x ∈ l ↔ x ∈ r) → l = r
  | [], [], _, _, _ => rfl
  | [], b :: r, _, _, h => absurd ((h b).2 (by simp)) (by simp)
  | a :: l, [], _, _, h => absurd ((h a).1 (by simp)) (by simp)
  | a :: l, b :: r, hl, hr, h => by
    rw [List.pairwise_cons] at hl hr
    have e : a = b := by
      have h1 := (h a).1 (by simp)
      have h2 := (h b).2 (by simp)
      rcases List.mem_cons.1 h1 with e | h1
      · exact e
      rcases List.mem_cons.1 h2 with e | h2
      · exact e.symm
      have := hl.1 b h2; have := hr.1 a h1; omega
    subst e
    rw [rising_same hl.2 hr.2 (fun x => ?_)]
    constructor
    · intro hx
      rcases List.mem_cons.1 ((h x).1 (List.mem_cons_of_mem _ hx)) with rfl | h1
      · have := hl.1 x hx; omega
      · exact h1
    · intro hx
      rcases List.mem_cons.1 ((h x).2 (List.mem_cons_of_mem _ hx)) with rfl | h1
      · have := hr.1 x hx; omega
      · exact h1
end Go.Proofs.YtlkjejmmoalliaaGreatDoor
