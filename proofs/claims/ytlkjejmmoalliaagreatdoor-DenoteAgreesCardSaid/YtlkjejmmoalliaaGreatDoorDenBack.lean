/- A node's program comes to a match just if the node spans the whole text: paths through a program, plainly. A path through a node's code that goes on behind it spans; so a program comes to a match just if its node spans the whole text. -/
import Derived.Test.YtlkjejmmoalliaaGreatDoorDenPlain
namespace Go.Proofs.YtlkjejmmoalliaaGreatDoor

/-- how a way goes on, without what it has kept -/
def nxI (s : ByteArray) (i : Ins) (a : Int) (q : Nat) : Option (List (Int × Nat)) :=
  if i.o = 0 then some (if byt9 s q i.s then [(a + 1, q + 1)] else [])
  else if i.o = 1 then some [(i.x, q), (i.y, q)]
  else if i.o = 2 then some [(i.x, q)]
  else if i.o = 3 then some [(a + 1, q)]
  else if i.o = 4 then some (if q = 0 then [(a + 1, q)] else [])
  else if i.o = 5 then some (if q = s.size then [(a + 1, q)] else [])
  else if i.o = 6 then (if q = s.size then none else some [])
  else some []
theorem nx_stp (s : ByteArray) (i : Ins) (x : Wy) : nxI s i x.at_ x.pl = (stp9 s i x).map (fun T => T.map fun t => (t.at_, t.pl)) := by
  unfold nxI stp9
  split
  · split <;> rfl
  split
  · rfl
  split
  · rfl
  split
  · rfl
  split
  · split <;> rfl
  split
  · split <;> rfl
  split
  · split <;> rfl
  · rfl
/-- a step of a program -/
def Mv (L : List Ins) (s : ByteArray) (x y : Int × Nat) : Prop := ∃ i T, 0 ≤ x.1 ∧ L[x.1.toNat]? = some i ∧ nxI s i x.1 x.2 = some T ∧ y ∈ T
def Won (L : List Ins) (s : ByteArray) (x : Int × Nat) : Prop := ∃ i, 0 ≤ x.1 ∧ L[x.1.toNat]? = some i ∧ nxI s i x.1 x.2 = none
inductive Pth (L : List Ins) (s : ByteArray) : Nat → Int × Nat → Int × Nat → Prop
  | nil (x) : Pth L s 0 x x
  | cons {m x y z} (h : Mv L s x y) (t : Pth L s m y z) : Pth L s (m + 1) x z
theorem Pth.trans {L : List Ins} {s : ByteArray} {m k : Nat} {x y z : Int × Nat} (h : Pth L s m x y) (t : Pth L s k y z) : Pth L s (m + k) x z := by
  induction h with
  | nil => rw [Nat.zero_add]; exact t
  | cons h _ ih => rw [Nat.add_right_comm]; exact .cons h (ih t)
theorem run_some9 {L : List Ins} {s : ByteArray} {S : List Wy} {V : Vis} {r : Option (List Int)} (h : Run9 L s S V r) (hr : r ≠ none) : ∃ x ∈ S, ∃ m z, Pth L s m (x.at_, x.pl) z ∧ Won L s z := by
  induction h with
  | nil V => exact (hr rfl).elim
  | skip hb h ih => obtain ⟨x, hx, g⟩ := ih hr; exact ⟨x, List.mem_cons_of_mem _ hx, g⟩
  | @win x S V i ho hs =>
    refine ⟨x, List.mem_cons_self .., 0, _, .nil _, i, ho.1, ho.2.1, ?_⟩
    rw [nx_stp, hs]; rfl
  | @go x S V i T r ho hs h ih =>
    obtain ⟨y, hy, m, z, hp, hz⟩ := ih hr
    rcases List.mem_append.1 hy with hy | hy
    · refine ⟨x, List.mem_cons_self .., m + 1, z, .cons ⟨i, T.map fun t => (t.at_, t.pl), ho.1, ho.2.1, ?_, List.mem_map.2 ⟨y, hy, rfl⟩⟩ hp, hz⟩
      rw [nx_stp, hs]; rfl
    · exact ⟨y, List.mem_cons_of_mem _ hy, m, z, hp, hz⟩
/-- an instruction that is there -/
def isI (L : List Ins) (x : Int × Nat) : Prop := 0 ≤ x.1 ∧ x.1.toNat < L.length
theorem run_none9 {L : List Ins} {s : ByteArray} {S : List Wy} {V : Vis} {r : Option (List Int)} (h : Run9 L s S V r) (hr : r = none) : ∃ V' : Vis,
    (∀ a q, V a q = true → V' a q = true) ∧ (∀ x ∈ S, isI L (x.at_, x.pl) → V' x.at_.toNat x.pl = true) ∧
    ∀ (a q : Nat), V' a q = true → V a q = true ∨ ∀ i, L[a]? = some i → ∃ T, nxI s i a q = some T ∧ ∀ t ∈ T, isI L t → V' t.1.toNat t.2 = true := by
  induction h with
  | nil V => exact ⟨V, fun _ _ h => h, (fun x hx => by cases hx), fun _ _ h => Or.inl h⟩
  | @skip x S V r hb h ih =>
    obtain ⟨V', h1, h2, h3⟩ := ih hr
    refine ⟨V', h1, fun y hy hi => ?_, h3⟩
    rcases List.mem_cons.1 hy with rfl | hy
    · rcases hb with hb | hb | hb
      · have := hi.1; simp only at this; omega
      · have := hi.2; simp only at this; omega
      · exact h1 _ _ hb
    · exact h2 y hy hi
  | win ho hs => cases hr
  | @go x S V i T r ho hs h ih =>
    obtain ⟨V', h1, h2, h3⟩ := ih hr
    have hm : ∀ a q, V a q = true → mrk V x.at_.toNat x.pl a q = true := fun a q h => by unfold mrk; rw [h, Bool.or_true]
    have hx : V' x.at_.toNat x.pl = true := h1 _ _ (by unfold mrk; simp)
    refine ⟨V', fun a q h => h1 _ _ (hm a q h), fun y hy hi => ?_, fun a q h => ?_⟩
    · rcases List.mem_cons.1 hy with rfl | hy
      · exact hx
      · exact h2 y (List.mem_append_right _ hy) hi
    · rcases h3 a q h with h | h
      · unfold mrk at h
        rw [Bool.or_eq_true] at h
        rcases h with h | h
        · simp only [Bool.and_eq_true, beq_iff_eq] at h
          obtain ⟨rfl, rfl⟩ := h
          refine .inr fun j hj => ⟨T.map fun t => (t.at_, t.pl), ?_, fun t ht hi => ?_⟩
          · obtain rfl : i = j := by have := ho.2.1.symm.trans hj; cases this; rfl
            have := nx_stp s i x
            rw [hs] at this
            rw [show ((x.at_.toNat : Nat) : Int) = x.at_ from Int.toNat_of_nonneg ho.1]
            exact this
          · obtain ⟨u, hu, rfl⟩ := List.mem_map.1 ht
            exact h2 u (List.mem_append_left _ hu) hi
        · exact .inl h
      · exact .inr h
/-- a program comes to a match just if a path leads to one -/
theorem run_path {L : List Ins} {s : ByteArray} {k : List Int} {r : Option (List Int)} (h : Run9 L s [⟨0, 0, k⟩] (fun _ _ => false) r) :
    r ≠ none ↔ ∃ m z, Pth L s m (0, 0) z ∧ Won L s z := by
  constructor
  · intro hr
    obtain ⟨x, hx, g⟩ := run_some9 h hr
    simp at hx; subst hx; exact g
  · rintro ⟨m, z, hp, hz⟩ hr
    obtain ⟨V', _, h2, h3⟩ := run_none9 h hr
    have key : ∀ m x z, Pth L s m x z → (isI L x → V' x.1.toNat x.2 = true) → isI L z → V' z.1.toNat z.2 = true := by
      intro m x z hp
      induction hp with
      | nil => intro h hi; exact h hi
      | @cons m x y z h _ ih =>
        intro hx hz
        refine ih (fun hy => ?_) hz
        obtain ⟨i, T, a1, a2, a3, a4⟩ := h
        have hxi : isI L x := ⟨a1, (List.getElem?_eq_some_iff.1 a2).1⟩
        rcases h3 _ _ (hx hxi) with h | h
        · cases h
        obtain ⟨T', b1, b2⟩ := h i a2
        rw [show ((x.1.toNat : Nat) : Int) = x.1 from Int.toNat_of_nonneg a1, a3] at b1
        cases b1
        exact b2 y a4 hy
    obtain ⟨i, a1, a2, a3⟩ := hz
    have hzi : isI L z := ⟨a1, (List.getElem?_eq_some_iff.1 a2).1⟩
    have := key m _ z hp (fun hi => h2 _ (List.mem_cons_self ..) hi) hzi
    rcases h3 _ _ this with h | h
    · cases h
    obtain ⟨T', b1, _⟩ := h i a2
    rw [show ((z.1.toNat : Nat) : Int) = z.1 from Int.toNat_of_nonneg a1, a3] at b1
    cases b1

/-! a node's code within a program -/
def AtP (L : List Ins) (p : Nat) (l : List Ins) : Prop := ∃ A B, L = A ++ (l ++ B) ∧ A.length = p
theorem AtP.left {L : List Ins} {p : Nat} {l r : List Ins} (h : AtP L p (l ++ r)) : AtP L p l := by
  obtain ⟨A, B, e, hA⟩ := h; exact ⟨A, r ++ B, by rw [e, List.append_assoc], hA⟩
theorem AtP.right {L : List Ins} {p q : Nat} {l r : List Ins} (h : AtP L p (l ++ r)) (hq : p + l.length = q) : AtP L q r := by
  obtain ⟨A, B, e, hA⟩ := h; exact ⟨A ++ l, B, by rw [e, List.append_assoc, List.append_assoc], by rw [List.length_append, hA, hq]⟩
theorem AtP.tail {L : List Ins} {p : Nat} {c : Ins} {r : List Ins} (h : AtP L p (c :: r)) : AtP L (p + 1) r := AtP.right (l := [c]) h rfl
theorem AtP.head {L : List Ins} {p : Nat} {c : Ins} {r : List Ins} (h : AtP L p (c :: r)) : L[p]? = some c := by
  obtain ⟨A, B, e, hA⟩ := h
  rw [e, ← hA, List.getElem?_append_right (Nat.le_refl _), Nat.sub_self]; rfl
abbrev Rc (L : List Ins) (s : ByteArray) (x y : Int × Nat) : Prop := ∃ m, Pth L s m x y
theorem Rc.trans {L : List Ins} {s : ByteArray} {x y z : Int × Nat} (h : Rc L s x y) (t : Rc L s y z) : Rc L s x z := by
  obtain ⟨m, h⟩ := h; obtain ⟨k, t⟩ := t; exact ⟨m + k, h.trans t⟩
theorem Rc.refl (L : List Ins) (s : ByteArray) (x : Int × Nat) : Rc L s x x := ⟨0, .nil _⟩
/-- a step from an instruction -/
theorem rc_at {L : List Ins} {s : ByteArray} {p i : Nat} {c : Ins} {T : List (Int × Nat)} {y : Int × Nat} (h : L[p]? = some c) (hT : nxI s c p i = some T) (hy : y ∈ T) : Rc L s ((p : Nat), i) y :=
  ⟨1, .cons ⟨c, T, Int.natCast_nonneg p, h, hT, hy⟩ (.nil _)⟩
theorem pth_at {L : List Ins} {s : ByteArray} {p i m : Nat} {c : Ins} {z : Int × Nat} (h : L[p]? = some c) (hp : Pth L s m ((p : Nat), i) z) (hz : (p : Int) < z.1) :
    ∃ k y T, m = k + 1 ∧ nxI s c p i = some T ∧ y ∈ T ∧ Pth L s k y z := by
  cases hp with
  | nil => simp at hz
  | @cons k _ y _ hm t =>
    obtain ⟨d, T, a1, a2, a3, a4⟩ := hm
    simp only [Int.toNat_natCast] at a2
    rw [h] at a2; cases a2
    exact ⟨k, y, T, rfl, a3, a4, t⟩
theorem spA_R (s : ByteArray) {l : List Ni} (h : l.length = 1) : SpA s l = SpR s l := by
  obtain ⟨n, rfl⟩ := List.length_eq_one_iff.1 h
  funext i j; exact propext ((spA_one s n i j).trans (spR_one s n i j).symm)
mutual
theorem sp_path {L : List Ins} {s : ByteArray} : ∀ (n : Ni) (p i j : Nat), rgtN n = true → AtP L p (codN n p) → SpN s n i j → Rc L s ((p : Nat), i) ((p + lenN n : Nat), j)
  | .mk k x c l, p, i, j, hr, ha, h => by
    rw [rgtN] at hr
    simp only [Bool.and_eq_true] at hr
    obtain ⟨⟨⟨hk, _⟩, _⟩, hl⟩ := hr
    have hR := fun p i j => spR_path (L := L) (s := s) l p i j hl
    have hA := fun p i j => spA_path (L := L) (s := s) l p i j hl
    have hcl := fun q => codL_len l q hl
    rw [codN] at ha
    rw [SpN] at h
    rw [lenN]
    have hkk := kids_kind hk
    by_cases h0 : k = 0
    · have := kids_none hk (by omega); have e := List.eq_nil_of_length_eq_zero this; subst e; subst h0
      simp at h; subst h; simp [lenL, ownC]; exact Rc.refl ..
    rw [if_neg h0] at h
    by_cases h1 : k = 1
    · have := kids_none hk (by omega); have e := List.eq_nil_of_length_eq_zero this; subst e; subst h1
      simp at h ha
      refine rc_at ha.head (T := [((p : Int) + 1, i + 1)]) ?_ ?_
      · unfold nxI; simp [h.2]
      · simp [lenL, ownC, h.1]
    rw [if_neg h1] at h ha
    by_cases h2 : k = 2
    · rw [if_pos h2] at h ha
      have := hR p i j ha h
      subst h2; simpa [ownC] using this
    rw [if_neg h2] at h ha
    by_cases h3 : k = 3
    · rw [if_pos h3] at h ha
      have := hA p i j (by have := kids_two hk (by omega); omega) ha h
      subst h3; simpa [ownC] using this
    rw [if_neg h3] at h ha
    by_cases h4 : k = 4
    · rw [if_pos h4] at h ha
      have ho : ownC k l.length = 2 := by subst h4; rfl
      rw [ho]
      have hk1 := kids_single hk (by omega)
      have ha1 := ha.head
      have ha2 := ha.tail.left
      have ha3 := (ha.tail.right (q := p + 1 + lenL l) (by rw [hcl])).head
      have e : (fun a b => SpA s l a b) = SpR s l := spA_R s hk1
      rw [e] at h
      induction h with
      | nil i =>
        refine rc_at ha1 (T := [(((p + 1 : Nat) : Int), i), (((p + lenL l + 2 : Nat) : Int), i)]) ?_ ?_
        · unfold nxI; simp
        · rw [show p + (lenL l + 2) = p + lenL l + 2 by omega]; simp
      | @cons i m j h t ih =>
        refine Rc.trans (rc_at ha1 (T := [(((p + 1 : Nat) : Int), i), (((p + lenL l + 2 : Nat) : Int), i)]) (y := (((p + 1 : Nat) : Int), i)) ?_ (by simp)) ?_
        · unfold nxI; simp
        refine Rc.trans (hR (p + 1) i m ha2 h) ?_
        refine Rc.trans (rc_at ha3 (T := [((p : Nat), m)]) (y := ((p : Nat), m)) ?_ (by simp)) ih
        unfold nxI; simp
    rw [if_neg h4] at h ha
    by_cases h5 : k = 5
    · rw [if_pos h5] at h ha
      have ho : ownC k l.length = 1 := by subst h5; rfl
      rw [ho]
      have hk1 := kids_single hk (by omega)
      have ha2 := ha.left
      have ha3 := (ha.right (q := p + lenL l) (by rw [hcl])).head
      have e : (fun a b => SpA s l a b) = SpR s l := spA_R s hk1
      rw [e, spA_R s hk1] at h
      obtain ⟨m, h, t⟩ := h
      refine Rc.trans (hR p i m ha2 h) ?_
      clear h
      induction t with
      | nil i =>
        refine rc_at ha3 (T := [((p : Nat), i), (((p + lenL l + 1 : Nat) : Int), i)]) ?_ ?_
        · unfold nxI; simp
        · rw [show p + (lenL l + 1) = p + lenL l + 1 by omega]; simp
      | @cons i m j h t ih =>
        refine Rc.trans (rc_at ha3 (T := [((p : Nat), i), (((p + lenL l + 1 : Nat) : Int), i)]) (y := ((p : Nat), i)) ?_ (by simp)) ?_
        · unfold nxI; simp
        exact Rc.trans (hR p i m ha2 h) ih
    rw [if_neg h5] at h ha
    by_cases h6 : k = 6
    · rw [if_pos h6] at h ha
      have ho : ownC k l.length = 1 := by subst h6; rfl
      rw [ho]
      have hk1 := kids_single hk (by omega)
      have ha1 := ha.head
      have hT : nxI s ⟨1, (p + 1 : Nat), (p + lenL l + 1 : Nat), emp⟩ p i = some [(((p + 1 : Nat) : Int), i), (((p + lenL l + 1 : Nat) : Int), i)] := by unfold nxI; simp
      rw [spA_R s hk1] at h
      rcases h with rfl | h
      · refine rc_at ha1 hT ?_
        rw [show p + (lenL l + 1) = p + lenL l + 1 by omega]; simp
      · refine Rc.trans (rc_at ha1 hT (y := (((p + 1 : Nat) : Int), i)) (by simp)) ?_
        have := hR (p + 1) i j ha.tail h
        rw [show p + (lenL l + 1) = p + 1 + lenL l by omega]; exact this
    rw [if_neg h6] at h ha
    by_cases h7 : k = 7
    · rw [if_pos h7] at h ha
      have ho : ownC k l.length = 2 := by subst h7; rfl
      rw [ho]
      have hk1 := kids_single hk (by omega)
      rw [spA_R s hk1] at h
      have ha3 := (ha.tail.right (q := p + 1 + lenL l) (by rw [hcl])).head
      refine Rc.trans (rc_at ha.head (T := [((p : Int) + 1, i)]) (y := (((p + 1 : Nat) : Int), i)) (by unfold nxI; simp) (by simp)) ?_
      refine Rc.trans (hR (p + 1) i j ha.tail.left h) ?_
      refine rc_at ha3 (T := [(((p + 1 + lenL l : Nat) : Int) + 1, j)]) (by unfold nxI; simp) ?_
      simp; omega
    rw [if_neg h7] at h ha
    have := kids_none hk (by omega); have e := List.eq_nil_of_length_eq_zero this; subst e
    by_cases h8 : k = 8
    · subst h8; simp at h ha
      obtain ⟨rfl, rfl⟩ := h
      refine rc_at ha.head (T := [((p : Int) + 1, 0)]) (by unfold nxI; simp) ?_
      simp [lenL, ownC]
    rw [if_neg h8] at h ha
    obtain rfl : k = 9 := by omega
    simp at ha
    obtain ⟨rfl, h⟩ := h
    refine rc_at ha.head (T := [((p : Int) + 1, i)]) (by unfold nxI; simp [h]) ?_
    simp [lenL, ownC]
theorem spR_path {L : List Ins} {s : ByteArray} : ∀ (l : List Ni) (p i j : Nat), rgtL l = true → AtP L p (codL l p) → SpR s l i j → Rc L s ((p : Nat), i) ((p + lenL l : Nat), j)
  | [], p, i, j, _, _, h => by rw [SpR] at h; subst h; rw [lenL]; exact Rc.refl ..
  | n :: l, p, i, j, hr, ha, h => by
    rw [rgtL, Bool.and_eq_true] at hr
    rw [codL] at ha
    rw [SpR] at h
    obtain ⟨m, h1, h2⟩ := h
    have a1 := sp_path n p i m hr.1 ha.left h1
    have a2 := spR_path l (p + lenN n) m j hr.2 (ha.right (by rw [cod_len n p hr.1])) h2
    rw [lenL, ← Nat.add_assoc]
    exact a1.trans a2
theorem spA_path {L : List Ins} {s : ByteArray} : ∀ (l : List Ni) (p i j : Nat), rgtL l = true → 1 ≤ l.length → AtP L p (codA (p + (lenL l + 2 * (l.length - 1))) l p) → SpA s l i j → Rc L s ((p : Nat), i) ((p + (lenL l + 2 * (l.length - 1)) : Nat), j)
  | [], p, i, j, _, _, _, h => by rw [SpA] at h; exact h.elim
  | n :: l, p, i, j, hr, _, ha, h => by
    rw [rgtL, Bool.and_eq_true] at hr
    rw [SpA] at h
    rw [lenL, List.length_cons] at ha ⊢
    rw [codA] at ha
    by_cases hl : l.length = 0
    · rw [if_pos hl] at ha
      have e := List.eq_nil_of_length_eq_zero hl; subst e
      rw [SpA] at h
      rcases h with h | h
      · have := sp_path n p i j hr.1 ha h
        simpa [lenL] using this
      · exact h.elim
    · rw [if_neg hl] at ha
      have e : p + (lenN n + lenL l + 2 * (l.length + 1 - 1)) = (p + 2 + lenN n) + (lenL l + 2 * (l.length - 1)) := by omega
      rw [e] at ha ⊢
      have hn := ha.tail.left
      have hj := ha.tail.right (q := p + 1 + lenN n) (by rw [cod_len n _ hr.1])
      have hT : nxI s ⟨1, (p + 1 : Nat), (p + 2 + lenN n : Nat), emp⟩ p i = some [(((p + 1 : Nat) : Int), i), (((p + 2 + lenN n : Nat) : Int), i)] := by unfold nxI; simp
      rcases h with h | h
      · refine Rc.trans (rc_at ha.head hT (y := (((p + 1 : Nat) : Int), i)) (by simp)) ?_
        refine Rc.trans (sp_path n (p + 1) i j hr.1 hn h) ?_
        exact rc_at hj.head (T := [((((p + 2 + lenN n) + (lenL l + 2 * (l.length - 1)) : Nat) : Int), j)]) (by unfold nxI; simp) (by simp)
      · refine Rc.trans (rc_at ha.head hT (y := (((p + 2 + lenN n : Nat) : Int), i)) (by simp)) ?_
        exact spA_path l (p + 2 + lenN n) i j hr.2 (by omega) (by have := hj.tail; rwa [show p + 1 + lenN n + 1 = p + 2 + lenN n by omega] at this) h
end
end Go.Proofs.YtlkjejmmoalliaaGreatDoor

namespace Go.Proofs.YtlkjejmmoalliaaGreatDoor

/-- a path from the code's first instruction goes through it -/
def Thr (L : List Ins) (s : ByteArray) (R : Nat → Nat → Prop) (p e : Nat) : Prop :=
  ∀ m i z, Pth L s m ((p : Nat), i) z → (e : Int) ≤ z.1 → ∃ j k, k ≤ m ∧ R i j ∧ Pth L s k ((e : Nat), j) z
mutual
theorem sp_back {L : List Ins} {s : ByteArray} : ∀ (n : Ni) (p : Nat), rgtN n = true → AtP L p (codN n p) → Thr L s (SpN s n) p (p + lenN n)
  | .mk k x c l, p, hr, ha => by
    rw [rgtN] at hr
    simp only [Bool.and_eq_true] at hr
    obtain ⟨⟨⟨hk, _⟩, _⟩, hl⟩ := hr
    have hR := fun p => spR_back (L := L) (s := s) l p hl
    have hA := fun p => spA_back (L := L) (s := s) l p hl
    have hcl := fun q => codL_len l q hl
    rw [codN] at ha
    rw [lenN]
    have hkk := kids_kind hk
    intro m i z hp hz
    simp only [SpN]
    by_cases h0 : k = 0
    · have := kids_none hk (by omega); have e := List.eq_nil_of_length_eq_zero this; subst e; subst h0
      refine ⟨i, m, Nat.le_refl _, by simp, ?_⟩
      simpa [lenL, ownC] using hp
    simp only [if_neg h0]
    by_cases h1 : k = 1
    · have := kids_none hk (by omega); have e := List.eq_nil_of_length_eq_zero this; subst e; subst h1
      simp at ha
      simp only [lenL, ownC] at hz ⊢
      obtain ⟨q, y, T, rfl, hT, hy, t⟩ := pth_at ha.head hp (by simp at hz ⊢; omega)
      unfold nxI at hT
      simp at hT
      subst hT
      split at hy
      · rename_i hb
        simp at hy; subst hy
        exact ⟨i + 1, q, by omega, by simp [hb], by simpa using t⟩
      · cases hy
    rw [if_neg h1] at ha; simp only [if_neg h1]
    by_cases h2 : k = 2
    · rw [if_pos h2] at ha; simp only [if_pos h2]
      have e : p + (lenL l + ownC k l.length) = p + lenL l := by subst h2; rfl
      rw [e] at hz ⊢
      exact hR p ha m i z hp hz
    rw [if_neg h2] at ha; simp only [if_neg h2]
    by_cases h3 : k = 3
    · rw [if_pos h3] at ha; simp only [if_pos h3]
      have e : p + (lenL l + ownC k l.length) = p + (lenL l + 2 * (l.length - 1)) := by subst h3; rfl
      rw [e] at hz ⊢
      exact hA p (by have := kids_two hk (by omega); omega) ha m i z hp hz
    rw [if_neg h3] at ha; simp only [if_neg h3]
    by_cases h4 : k = 4
    · rw [if_pos h4] at ha; simp only [if_pos h4]
      have ho : ownC k l.length = 2 := by subst h4; rfl
      have e : p + (lenL l + ownC k l.length) = p + lenL l + 2 := by omega
      rw [e] at hz ⊢
      have hk1 := kids_single hk (by omega)
      have ha1 := ha.head
      have ha2 := hR (p + 1) ha.tail.left
      have ha3 := (ha.tail.right (q := p + 1 + lenL l) (by rw [hcl])).head
      have e : (fun a b => SpA s l a b) = SpR s l := spA_R s hk1
      rw [e]
      induction m using Nat.strongRecOn generalizing i with
      | ind m ih =>
        obtain ⟨q, y, T, rfl, hT, hy, t⟩ := pth_at ha1 hp (by omega)
        unfold nxI at hT
        simp at hT
        subst hT
        simp at hy
        rcases hy with rfl | rfl
        · obtain ⟨j, q', hq, hj, t⟩ := ha2 q i z (by simpa using t) (by omega)
          obtain ⟨q2, y, T, rfl, hT, hy, t⟩ := pth_at ha3 t (by omega)
          unfold nxI at hT
          simp at hT
          subst hT
          simp at hy
          subst hy
          obtain ⟨j', q3, h3, hj', t⟩ := ih q2 (by omega) j t
          exact ⟨j', q3, by omega, .cons hj hj', t⟩
        · exact ⟨i, q, by omega, .nil _, by simpa using t⟩
    rw [if_neg h4] at ha; simp only [if_neg h4]
    by_cases h5 : k = 5
    · rw [if_pos h5] at ha; simp only [if_pos h5]
      have ho : ownC k l.length = 1 := by subst h5; rfl
      have e : p + (lenL l + ownC k l.length) = p + lenL l + 1 := by omega
      rw [e] at hz ⊢
      have hk1 := kids_single hk (by omega)
      have ha2 := hR p ha.left
      have ha3 := (ha.right (q := p + lenL l) (by rw [hcl])).head
      have e : (fun a b => SpA s l a b) = SpR s l := spA_R s hk1
      rw [e, spA_R s hk1]
      induction m using Nat.strongRecOn generalizing i with
      | ind m ih =>
        obtain ⟨j, q', hq, hj, t⟩ := ha2 m i z hp (by omega)
        obtain ⟨q2, y, T, rfl, hT, hy, t⟩ := pth_at ha3 t (by omega)
        unfold nxI at hT
        simp at hT
        subst hT
        simp at hy
        rcases hy with rfl | rfl
        · obtain ⟨j', q3, h3, ⟨g, hg, hj'⟩, t⟩ := ih q2 (by omega) j t
          exact ⟨j', q3, by omega, ⟨j, hj, .cons hg hj'⟩, t⟩
        · exact ⟨j, q2, by omega, ⟨j, hj, .nil _⟩, by simpa using t⟩
    rw [if_neg h5] at ha; simp only [if_neg h5]
    by_cases h6 : k = 6
    · rw [if_pos h6] at ha; simp only [if_pos h6]
      have ho : ownC k l.length = 1 := by subst h6; rfl
      have e : p + (lenL l + ownC k l.length) = p + lenL l + 1 := by omega
      rw [e] at hz ⊢
      have hk1 := kids_single hk (by omega)
      rw [spA_R s hk1]
      obtain ⟨q, y, T, rfl, hT, hy, t⟩ := pth_at ha.head hp (by omega)
      unfold nxI at hT
      simp at hT
      subst hT
      simp at hy
      rcases hy with rfl | rfl
      · obtain ⟨j, q', hq, hj, t⟩ := hR (p + 1) ha.tail q i z (by simpa using t) (by omega)
        refine ⟨j, q', by omega, .inr hj, ?_⟩
        rw [show p + lenL l + 1 = p + 1 + lenL l by omega]; exact t
      · exact ⟨i, q, by omega, .inl rfl, by simpa using t⟩
    rw [if_neg h6] at ha; simp only [if_neg h6]
    by_cases h7 : k = 7
    · rw [if_pos h7] at ha; simp only [if_pos h7]
      have ho : ownC k l.length = 2 := by subst h7; rfl
      have e : p + (lenL l + ownC k l.length) = p + lenL l + 2 := by omega
      rw [e] at hz ⊢
      have hk1 := kids_single hk (by omega)
      rw [spA_R s hk1]
      have ha3 := (ha.tail.right (q := p + 1 + lenL l) (by rw [hcl])).head
      obtain ⟨q, y, T, rfl, hT, hy, t⟩ := pth_at ha.head hp (by omega)
      unfold nxI at hT
      simp at hT
      subst hT
      simp at hy
      subst hy
      obtain ⟨j, q', hq, hj, t⟩ := hR (p + 1) ha.tail.left q i z (by simpa using t) (by omega)
      obtain ⟨q2, y, T, rfl, hT, hy, t⟩ := pth_at ha3 t (by omega)
      unfold nxI at hT
      simp at hT
      subst hT
      simp at hy
      subst hy
      refine ⟨j, q2, by omega, hj, ?_⟩
      rw [show p + lenL l + 2 = p + 1 + lenL l + 1 by omega]; simpa using t
    rw [if_neg h7] at ha; simp only [if_neg h7]
    have := kids_none hk (by omega); have e := List.eq_nil_of_length_eq_zero this; subst e
    by_cases h8 : k = 8
    · subst h8; simp at ha
      simp only [lenL, ownC] at hz ⊢
      obtain ⟨q, y, T, rfl, hT, hy, t⟩ := pth_at ha.head hp (by simp at hz ⊢; omega)
      unfold nxI at hT
      simp at hT
      subst hT
      split at hy
      · rename_i hb
        simp at hy; subst hy
        exact ⟨i, q, by omega, by simp [hb], by simpa using t⟩
      · cases hy
    rw [if_neg h8] at ha; simp only [if_neg h8]
    obtain rfl : k = 9 := by omega
    simp at ha
    simp only [lenL, ownC] at hz ⊢
    obtain ⟨q, y, T, rfl, hT, hy, t⟩ := pth_at ha.head hp (by simp at hz ⊢; omega)
    unfold nxI at hT
    simp at hT
    subst hT
    split at hy
    · rename_i hb
      simp at hy; subst hy
      exact ⟨i, q, by omega, by simp [hb], by simpa using t⟩
    · cases hy
theorem spR_back {L : List Ins} {s : ByteArray} : ∀ (l : List Ni) (p : Nat), rgtL l = true → AtP L p (codL l p) → Thr L s (SpR s l) p (p + lenL l)
  | [], p, _, _ => by intro m i z hp _; rw [lenL]; exact ⟨i, m, Nat.le_refl _, by rw [SpR], hp⟩
  | n :: l, p, hr, ha => by
    rw [rgtL, Bool.and_eq_true] at hr
    rw [codL] at ha
    rw [lenL, ← Nat.add_assoc]
    intro m i z hp hz
    obtain ⟨j, q, hq, hj, t⟩ := sp_back n p hr.1 ha.left m i z hp (by omega)
    obtain ⟨j', q', hq', hj', t⟩ := spR_back l (p + lenN n) hr.2 (ha.right (by rw [cod_len n p hr.1])) q j z t (by omega)
    exact ⟨j', q', by omega, by rw [SpR]; exact ⟨j, hj, hj'⟩, t⟩
theorem spA_back {L : List Ins} {s : ByteArray} : ∀ (l : List Ni) (p : Nat), rgtL l = true → 1 ≤ l.length → AtP L p (codA (p + (lenL l + 2 * (l.length - 1))) l p) → Thr L s (SpA s l) p (p + (lenL l + 2 * (l.length - 1)))
  | [], p, _, h, _ => by simp at h
  | n :: l, p, hr, _, ha => by
    rw [rgtL, Bool.and_eq_true] at hr
    rw [lenL, List.length_cons] at ha ⊢
    rw [codA] at ha
    intro m i z hp hz
    simp only [SpA]
    by_cases hl : l.length = 0
    · rw [if_pos hl] at ha
      have e := List.eq_nil_of_length_eq_zero hl; subst e
      have e : p + (lenN n + lenL [] + 2 * (([] : List Ni).length + 1 - 1)) = p + lenN n := by simp [lenL]
      rw [e] at hz ⊢
      obtain ⟨j, q, hq, hj, t⟩ := sp_back n p hr.1 ha m i z hp hz
      exact ⟨j, q, hq, .inl hj, t⟩
    · rw [if_neg hl] at ha
      have e : p + (lenN n + lenL l + 2 * (l.length + 1 - 1)) = (p + 2 + lenN n) + (lenL l + 2 * (l.length - 1)) := by omega
      rw [e] at ha hz ⊢
      have hj := ha.tail.right (q := p + 1 + lenN n) (by rw [cod_len n _ hr.1])
      obtain ⟨q, y, T, rfl, hT, hy, t⟩ := pth_at ha.head hp (by omega)
      unfold nxI at hT
      simp at hT
      subst hT
      simp at hy
      rcases hy with rfl | rfl
      · obtain ⟨j, q', hq, hj', t⟩ := sp_back n (p + 1) hr.1 ha.tail.left q i z (by simpa using t) (by omega)
        obtain ⟨q2, y, T, rfl, hT, hy, t⟩ := pth_at hj.head t (by omega)
        unfold nxI at hT
        simp at hT
        subst hT
        simp at hy
        subst hy
        exact ⟨j, q2, by omega, .inl hj', by simpa using t⟩
      · obtain ⟨j, q', hq, hj', t⟩ := spA_back l (p + 2 + lenN n) hr.2 (by omega) (by have := hj.tail; rwa [show p + 1 + lenN n + 1 = p + 2 + lenN n by omega] at this) q i z (by simpa using t) (by omega)
        exact ⟨j, q', by omega, .inr hj', t⟩
end
theorem prg_at (n : Ni) (h : rgtN n = true) : AtP (prgN n) 1 (codN n 1) ∧ (prgN n)[0]? = some ⟨3, 0, 0, emp⟩ ∧ (prgN n)[1 + lenN n]? = some ⟨3, 1, 0, emp⟩ ∧ (prgN n)[1 + lenN n + 1]? = some ⟨6, 0, 0, emp⟩ := by
  have h0 : AtP (prgN n) 0 (prgN n) := ⟨[], [], by simp, rfl⟩
  have h1 : AtP (prgN n) 0 (⟨3, 0, 0, emp⟩ :: (codN n 1 ++ [⟨3, 1, 0, emp⟩, ⟨6, 0, 0, emp⟩])) := h0
  have h2 := h1.tail.right (q := 1 + lenN n) (by rw [cod_len n 1 h])
  exact ⟨h1.tail.left, h1.head, h2.head, h2.tail.head⟩
/-- a node's program comes to a match just if it spans the whole text -/
theorem prg_spans {n : Ni} {s : ByteArray} (h : rgtN n = true) : (∃ m z, Pth (prgN n) s m (0, 0) z ∧ Won (prgN n) s z) ↔ SpN s n 0 s.size := by
  obtain ⟨ha, h0, h1, h2⟩ := prg_at n h
  have hlen := prg_len h
  have hok := cod_ok n 1 h
  constructor
  · rintro ⟨m, z, hp, i, b1, b2, b3⟩
    have hw : i.o = 6 ∧ z.2 = s.size := by
      unfold nxI at b3
      repeat' split at b3
      all_goals first | cases b3 | skip
      exact ⟨‹_›, ‹_›⟩
    have hz : z.1.toNat = 1 + lenN n + 1 := by
      have hlt := (List.getElem?_eq_some_iff.1 b2).1
      rw [hlen] at hlt
      apply Classical.byContradiction
      intro hne
      have : z.1.toNat = 0 ∨ (1 ≤ z.1.toNat ∧ z.1.toNat < 1 + lenN n) ∨ z.1.toNat = 1 + lenN n := by omega
      rcases this with e | e | e
      · rw [e, h0] at b2; cases b2; simp at hw
      · obtain ⟨A, B, e1, e2⟩ := ha
        rw [e1, List.getElem?_append_right (by omega), List.getElem?_append_left (by rw [cod_len n 1 h]; omega)] at b2
        exact (hok i (List.mem_of_getElem? b2)).1 hw.1
      · rw [e, h1] at b2; cases b2; simp at hw
    have hz' : z.1 = ((1 + lenN n + 1 : Nat) : Int) := by omega
    obtain ⟨q, y, T, rfl, hT, hy, t⟩ := pth_at (p := 0) h0 hp (by omega)
    unfold nxI at hT
    simp at hT
    subst hT
    simp at hy
    subst hy
    obtain ⟨j, q', hq, hj, t⟩ := sp_back n 1 h ha q 0 z (by simpa using t) (by omega)
    obtain ⟨q2, y, T, rfl, hT, hy, t⟩ := pth_at h1 t (by omega)
    unfold nxI at hT
    simp at hT
    subst hT
    simp at hy
    subst hy
    have e : (1 : Int) + (lenN n : Int) + 1 = ((1 + lenN n + 1 : Nat) : Int) := by omega
    rw [e] at t
    have : j = s.size := by
      cases t with
      | nil => exact hw.2
      | cons hm _ =>
        obtain ⟨d, T, a1, a2, a3, a4⟩ := hm
        simp only [Int.toNat_natCast] at a2
        rw [h2] at a2; cases a2
        unfold nxI at a3
        simp at a3
        obtain ⟨_, rfl⟩ := a3
        cases a4
    subst this; exact hj
  · intro hs
    have g1 : Rc (prgN n) s ((0 : Nat), 0) ((1 : Nat), 0) := rc_at h0 (T := [(((1 : Nat) : Int), 0)]) (by unfold nxI; simp) (by simp)
    have g2 := sp_path (L := prgN n) n 1 0 s.size h ha hs
    have g3 : Rc (prgN n) s ((1 + lenN n : Nat), s.size) ((1 + lenN n + 1 : Nat), s.size) := rc_at h1 (T := [(((1 + lenN n + 1 : Nat) : Int), s.size)]) (by unfold nxI; simp) (by simp)
    obtain ⟨m, hm⟩ := (g1.trans g2).trans g3
    refine ⟨m, _, hm, _, Int.natCast_nonneg _, by simp only [Int.toNat_natCast]; exact h2, ?_⟩
    unfold nxI; simp
/-- what the program answers beside what the node spans -/
theorem run_spans {n : Ni} {s : ByteArray} {k : List Int} {r : Option (List Int)} (h : rgtN n = true) (hr : Run9 (prgN n) s [⟨0, 0, k⟩] (fun _ _ => false) r) : r.isSome = true ↔ SpN s n 0 s.size := by
  rw [← prg_spans h, ← run_path hr]; cases r <;> simp
end Go.Proofs.YtlkjejmmoalliaaGreatDoor
