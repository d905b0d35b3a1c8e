/- Plain facts on bytes that need nothing of the translated code. -/
import Derived.WalkKit
import Derived.Lib.LastIndexByte
import Derived.Lib.Bytealg
import Derived.Lib.IndexLaws
namespace Go.Proofs.YtpedamncnimgpaaDoor
open Go.RowKit

/-- a byte of a right name -/
def okc (c : UInt8) : Bool := decide (33 ≤ (c.toNat : Int)) && decide ((c.toNat : Int) ≤ 126)
/-- a right name -/
def rightB (s : ByteArray) : Bool := decide (1 ≤ s.size) && decide (s.size ≤ 40) && s.data.toList.all okc

theorem ret_bool {a b : Bool} (h : a = b) : Ending.returned (.bool a) = .returned (.bool b) := by rw [h]
theorem ret_int {k : IntKind} {a b : Int} (h : a = b) : Ending.returned (.int k a) = .returned (.int k b) := by rw [h]
theorem take_snoc (s : ByteArray) (k : Nat) (h : k < s.size) : s.data.toList.take (k + 1) = s.data.toList.take k ++ [s[k]] := by
  rw [List.take_succ_eq_append_getElem (by simpa using h)]; rfl
theorem take_all (s : ByteArray) (k : Nat) (h : s.size ≤ k) : s.data.toList.take k = s.data.toList := List.take_of_length_le (by simpa using h)
theorem getElem_mem (s : ByteArray) (k : Nat) (h : k < s.size) : s[k] ∈ s.data.toList := by
  have : s[k] = s.data.toList[k]'(by simpa using h) := rfl
  rw [this]; exact List.getElem_mem _

theorem right_short (s : ByteArray) (h : s.size < 1) : rightB s = false := by
  unfold rightB; have : decide (1 ≤ s.size) = false := decide_eq_false (by omega)
  rw [this]; rfl
theorem right_long (s : ByteArray) (h : 40 < s.size) : rightB s = false := by
  unfold rightB; have : decide (s.size ≤ 40) = false := decide_eq_false (by omega)
  rw [this]; simp
theorem right_bad (s : ByteArray) (k : Nat) (h : k < s.size) (hc : okc s[k] = false) : rightB s = false := by
  unfold rightB
  have : s.data.toList.all okc = false := by
    rw [List.all_eq_false]; exact ⟨_, getElem_mem s k h, by simp [hc]⟩
  rw [this]; simp
theorem right_all (s : ByteArray) (h1 : 1 ≤ s.size) (h2 : s.size ≤ 40) (k : Nat) (hk : s.size ≤ k) (ha : (s.data.toList.take k).all okc = true) : rightB s = true := by
  rw [take_all s k hk] at ha
  unfold rightB; simp [h1, h2, ha]
theorem all_snoc (s : ByteArray) (k : Nat) (h : k < s.size) (p : UInt8 → Bool) (ha : (s.data.toList.take k).all p = true) (hc : p s[k] = true) : (s.data.toList.take (k + 1)).all p = true := by
  rw [take_snoc s k h, List.all_append, ha]; simp [hc]

theorem right_eq (s : ByteArray) (k : Nat) (hk : s.size ≤ k) (ha : (s.data.toList.take k).all okc = true) : rightB s = (decide (0 < (s.size : Int)) && decide ((s.size : Int) ≤ 40)) := by
  rw [take_all s k hk] at ha
  unfold rightB; rw [ha, Bool.and_true]
  congr 1 <;> apply decide_eq_decide.2 <;> omega

/-- how often a byte is there -/
def cnt (l : List UInt8) (c : Int) : Nat := l.countP (fun x => (x.toNat : Int) == c)
theorem cnt_snoc (s : ByteArray) (c : Int) (k : Nat) (h : k < s.size) : cnt (s.data.toList.take (k + 1)) c = cnt (s.data.toList.take k) c + if ((s[k].toNat : Int) == c) = true then 1 else 0 := by
  unfold cnt; rw [take_snoc s k h, List.countP_append]; simp [List.countP_cons]
theorem cnt_le (l : List UInt8) (c : Int) : cnt l c ≤ l.length := List.countP_le_length

/-- has a text no round brackets? -/
def noBr (c : UInt8) : Bool := !((c.toNat : Int) == 40) && !((c.toNat : Int) == 41)
def plainB (s : ByteArray) : Bool := s.data.toList.all noBr
theorem plain_bad (s : ByteArray) (k : Nat) (h : k < s.size) (hc : noBr s[k] = false) : plainB s = false := by
  unfold plainB; rw [List.all_eq_false]; exact ⟨_, getElem_mem s k h, by simp [hc]⟩
theorem plain_all (s : ByteArray) (k : Nat) (hk : s.size ≤ k) (ha : (s.data.toList.take k).all noBr = true) : plainB s = true := by
  rw [take_all s k hk] at ha; exact ha

/-- where the base begins -/
def baseN (s : ByteArray) : Nat := (Lib.lastIndexByte s 47 + 1).toNat
theorem byteBang (s : ByteArray) (k : Nat) (h : k < s.size) : s.data[k]! = s[k] := getElem!_pos s.data k h
theorem last_lo (s : ByteArray) (c : Int) (k : Nat) : -1 ≤ Lib.lastIdx s c k := by
  rcases Lib.lastIdx_spec s c k with ⟨e, _⟩ | ⟨i, _, e, _⟩ <;> omega
theorem last_hi (s : ByteArray) (c : Int) (k : Nat) : Lib.lastIdx s c k < k := by
  rcases Lib.lastIdx_spec s c k with ⟨e, _⟩ | ⟨i, _, e, _⟩ <;> omega
theorem baseN_int (s : ByteArray) : (baseN s : Int) = Lib.lastIndexByte s 47 + 1 := by
  have := last_lo s 47 s.size
  unfold baseN Lib.lastIndexByte; omega
theorem baseN_le (s : ByteArray) : baseN s ≤ s.size := by
  have h1 := last_hi s 47 s.size; have h2 := baseN_int s
  unfold Lib.lastIndexByte at h2; omega

/-- the suffix -/
def sufB (s : ByteArray) : ByteArray := if (baseN s : Int) < Lib.lastIndexByte s 46 then s.extract (Lib.lastIndexByte s 46).toNat s.size else ⟨#[]⟩

theorem ext_data (s : ByteArray) (a b : Nat) (k : Nat) (h : k < b - a) (hb : b ≤ s.size) : (s.extract a b).data[k]! = s.data[a + k]! := by
  have h1 : k < (s.extract a b).size := by rw [ByteArray.size_extract]; omega
  rw [byteBang _ k h1, byteBang s (a + k) (by omega)]
  exact ByteArray.getElem_extract _

theorem ext_empty (s : ByteArray) (k : Nat) (h : s.size ≤ k) : s.extract k s.size = ⟨#[]⟩ := by
  rw [Lib.extract_eq]
  have : (s.data.toList.drop k).take (s.size - k) = [] := by
    rw [show s.size - k = 0 by omega]; rfl
  rw [this]

/-- the last point of the base, seen from the base, and from the whole text -/
theorem suf_of_base (s : ByteArray) :
    (Lib.lastIndexByte (s.extract (baseN s) s.size) 46 < 1 → sufB s = ⟨#[]⟩) ∧
    (1 ≤ Lib.lastIndexByte (s.extract (baseN s) s.size) 46 → sufB s = (s.extract (baseN s) s.size).extract (Lib.lastIndexByte (s.extract (baseN s) s.size) 46).toNat (s.size - baseN s)) := by
  have hb := baseN_le s
  have hsz : (s.extract (baseN s) s.size).size = s.size - baseN s := by rw [ByteArray.size_extract]; omega
  rcases Lib.lastIndexByte_spec (s.extract (baseN s) s.size) 46 with ⟨e, hn⟩ | ⟨i, hi, e, hc, hn⟩
  · refine ⟨fun _ => ?_, fun h => by omega⟩
    have : ¬ (baseN s : Int) < Lib.lastIndexByte s 46 := by
      rcases Lib.lastIndexByte_spec s 46 with ⟨e', _⟩ | ⟨j, hj, e', hc', _⟩
      · omega
      · intro hlt
        have h2 := hn (j - baseN s) (by omega)
        rw [ext_data s _ _ _ (by omega) (Nat.le_refl _), show baseN s + (j - baseN s) = j by omega] at h2
        exact h2 hc'
    unfold sufB; rw [if_neg this]
  · rw [ext_data s _ _ _ (by omega) (Nat.le_refl _)] at hc
    have hlast : Lib.lastIndexByte s 46 = ((baseN s + i : Nat) : Int) := by
      rcases Lib.lastIndexByte_spec s 46 with ⟨e', hn'⟩ | ⟨j, hj, e', hc', hn'⟩
      · exact absurd hc (hn' _ (by omega))
      · rw [e']
        have h1 : ¬ j < baseN s + i := fun h => absurd hc (hn' _ h (by omega))
        have h2 : ¬ baseN s + i < j := fun h => by
          have h3 := hn (j - baseN s) (by omega) (by omega)
          rw [ext_data s _ _ _ (by omega) (Nat.le_refl _), show baseN s + (j - baseN s) = j by omega] at h3
          exact h3 hc'
        omega
    refine ⟨fun h => ?_, fun h => ?_⟩
    · unfold sufB; rw [if_neg (by omega)]
    · unfold sufB; rw [if_pos (by omega), e, hlast]
      have e1 : (((baseN s + i : Nat) : Int)).toNat = baseN s + i := by omega
      have e2 : ((i : Nat) : Int).toNat = i := by omega
      rw [e1, e2, ByteArray.extract_extract]
      congr 1; omega

/-- the walk of the document's own suffix, from behind -/
theorem suf_step (s : ByteArray) (j : Nat) (hj : j < s.size) (hb : (baseN s : Int) < j) (hl : Lib.lastIndexByte s 46 = Lib.lastIdx s 46 (j + 1)) :
    ((s[j].toNat : Int) = 46 → sufB s = s.extract j s.size) ∧ ((s[j].toNat : Int) ≠ 46 → Lib.lastIndexByte s 46 = Lib.lastIdx s 46 j) := by
  refine ⟨fun h => ?_, fun h => ?_⟩
  · rw [Lib.lastIdx_hit s 46 j (by rw [byteBang s j hj]; exact h)] at hl
    unfold sufB; rw [hl, if_pos hb]; rfl
  · rw [hl, Lib.lastIdx_miss s 46 j (by rw [byteBang s j hj]; exact h)]
theorem suf_none (s : ByteArray) (k : Nat) (hb : (k : Int) - 1 ≤ baseN s) (hl : Lib.lastIndexByte s 46 = Lib.lastIdx s 46 k) : sufB s = ⟨#[]⟩ := by
  have := last_hi s 46 k
  unfold sufB; rw [if_neg (by omega)]

/-! ### a member's name -/
/-- where the first opening bracket stands -/
def opn (s : ByteArray) : Nat := (Lib.indexByte s.data.toList 40).toNat
def memB (s : ByteArray) : Bool :=
  rightB s && decide (Lib.countByte s.data.toList 40 = 1) && decide (Lib.indexByte s.data.toList 41 = (s.size : Int) - 1) &&
    (!decide (Lib.indexByte s.data.toList 40 = 0) && !decide (Lib.indexByte s.data.toList 40 + 1 = (s.size : Int) - 1))

theorem right_lo (s : ByteArray) (h : rightB s = true) : 1 ≤ s.size ∧ s.size ≤ 40 := by
  unfold rightB at h; simp only [Bool.and_eq_true, decide_eq_true_eq] at h; exact h.1

theorem cnt_eq (l : List UInt8) (c : UInt8) : cnt l (c.toNat : Int) = Lib.countByte l c := by
  unfold cnt Lib.countByte List.count
  congr 1; funext x
  rw [Bool.eq_iff_iff]; simp only [beq_iff_eq]
  constructor
  · intro h; exact UInt8.toNat_inj.1 (by omega)
  · intro h; rw [h]

theorem cnt40 (l : List UInt8) : cnt l 40 = Lib.countByte l 40 := cnt_eq l 40
theorem cnt41 (l : List UInt8) : cnt l 41 = Lib.countByte l 41 := cnt_eq l 41

theorem get_some (s : ByteArray) (k : Nat) (h : k < s.size) : s.data.toList[k]? = some s[k] := by
  have h1 : k < s.data.toList.length := by simpa using h
  rw [List.getElem?_eq_getElem h1]; rfl

theorem u8_eq (x : UInt8) (c : UInt8) : (((x.toNat : Int) == (c.toNat : Int)) = true) ↔ x = c := by
  simp only [beq_iff_eq]
  constructor
  · intro h; exact UInt8.toNat_inj.1 (by omega)
  · intro h; rw [h]

/-- one byte there: its place -/
theorem one_place (l : List UInt8) (c : UInt8) (h : Lib.countByte l c = 1) : ∃ o : Nat, Lib.indexByte l c = o ∧ o < l.length := by
  have hm : c ∈ l := List.count_pos_iff.1 (by unfold Lib.countByte at h; omega)
  have hge := Lib.indexByte_ge l c
  by_cases he : Lib.indexByte l c = -1
  · obtain ⟨k, hk⟩ := List.getElem?_of_mem hm
    exact absurd hk (Lib.indexByte_none he k)
  · refine ⟨(Lib.indexByte l c).toNat, by omega, ?_⟩
    have := (Lib.indexByte_some (l := l) (c := c) (o := (Lib.indexByte l c).toNat) (by omega)).1
    exact (List.getElem?_eq_some_iff.1 this).1

/-- the one closing bracket stands last just if the first one does -/
theorem last_one (l : List UInt8) (c x : UInt8) : (x = c ∧ Lib.countByte (l ++ [x]) c = 1) ↔ Lib.indexByte (l ++ [x]) c = l.length := by
  constructor
  · rintro ⟨rfl, h⟩
    unfold Lib.countByte at h
    rw [List.count_append, List.count_singleton_self] at h
    have h0 : x ∉ l := List.count_eq_zero.1 (by omega)
    obtain ⟨o, ho, hl⟩ := one_place (l ++ [x]) x (by unfold Lib.countByte; rw [List.count_append, List.count_singleton_self]; omega)
    have hs := Lib.indexByte_some ho
    rw [ho]
    rw [List.length_append, List.length_singleton] at hl
    by_cases hlt : o < l.length
    · exfalso
      rw [List.getElem?_append_left hlt] at hs
      exact h0 (List.mem_of_getElem? hs.1)
    · congr 1; omega
  · intro h
    have hs := Lib.indexByte_some h
    have hx : x = c := by have h1 := hs.1; rw [List.getElem?_append_right (Nat.le_refl _)] at h1; simpa using h1
    refine ⟨hx, ?_⟩
    subst hx
    unfold Lib.countByte
    rw [List.count_append, List.count_singleton_self]
    have h0 : x ∉ l := fun hm => by
      obtain ⟨k, hk⟩ := List.getElem?_of_mem hm
      have hlt := (List.getElem?_eq_some_iff.1 hk).1
      exact hs.2 k hlt (by rw [List.getElem?_append_left hlt]; exact hk)
    rw [List.count_eq_zero.2 h0]

theorem last_split (s : ByteArray) (h : 1 ≤ s.size) : s.data.toList = s.data.toList.take (s.size - 1) ++ [s[s.size - 1]] := by
  rw [← take_snoc s (s.size - 1) (by omega), show s.size - 1 + 1 = s.size by omega, take_all s _ (Nat.le_refl _)]

theorem close_iff (s : ByteArray) (h : 1 ≤ s.size) : (s[s.size - 1] = 41 ∧ Lib.countByte s.data.toList 41 = 1) ↔ Lib.indexByte s.data.toList 41 = (s.size : Int) - 1 := by
  have hl := last_split s h
  have hn : (s.data.toList.take (s.size - 1)).length = s.size - 1 := by simp
  have := last_one (s.data.toList.take (s.size - 1)) 41 s[s.size - 1]
  rw [← hl, hn, show ((s.size - 1 : Nat) : Int) = (s.size : Int) - 1 by omega] at this
  exact this

theorem head_iff (s : ByteArray) (h : 1 ≤ s.size) (c : UInt8) : s[0] = c ↔ Lib.indexByte s.data.toList c = 0 := by
  constructor
  · intro he
    have h0 := get_some s 0 (by omega)
    rw [he] at h0
    cases hl : s.data.toList with
    | nil => rw [hl] at h0; simp at h0
    | cons b t => rw [hl] at h0; simp at h0; subst h0; simp [Lib.indexByte]
  · intro he
    have := (Lib.indexByte_some (o := 0) he).1
    rw [get_some s 0 (by omega)] at this
    exact Option.some.inj this

/-- what is known of a member's name -/
theorem mem_yes (s : ByteArray) (h : memB s = true) : rightB s = true ∧ 1 ≤ s.size ∧ s.size ≤ 40 ∧ Lib.countByte s.data.toList 40 = 1 ∧ Lib.indexByte s.data.toList 41 = (s.size : Int) - 1 ∧
    Lib.indexByte s.data.toList 40 = (opn s : Int) ∧ 1 ≤ opn s ∧ opn s + 2 < s.size ∧ (∀ (hp : opn s < s.size), s[opn s] = 40) ∧ (∀ k, k < opn s → ∀ (hk : k < s.size), s[k] ≠ 40) := by
  unfold memB at h
  simp only [Bool.and_eq_true, decide_eq_true_eq, Bool.not_eq_true', decide_eq_false_iff_not] at h
  obtain ⟨⟨⟨h1, h2⟩, h3⟩, h4, h5⟩ := h
  obtain ⟨o, ho, hlt⟩ := one_place _ _ h2
  obtain ⟨g1, g2⟩ := right_lo s h1
  have e : opn s = o := by unfold opn; omega
  have hs := Lib.indexByte_some ho
  have hlt' : o < s.size := by simpa using hlt
  refine ⟨h1, g1, g2, h2, h3, by rw [e]; exact ho, by omega, ?_, ?_, ?_⟩
  · by_cases hq : o = s.size - 1
    · exfalso
      have h6 := (Lib.indexByte_some (o := s.size - 1) (by rw [h3]; omega)).1
      rw [← hq, hs.1] at h6
      cases h6
    · omega
  · intro hp
    have := hs.1
    rw [← e, get_some s _ hp] at this
    exact Option.some.inj this
  · intro k hk hp he
    exact hs.2 k (by omega) (by rw [get_some s _ hp, he])

theorem mem_no (s : ByteArray) (h : memB s = false) : rightB s = false ∨ (rightB s = true ∧ 1 ≤ s.size ∧ s.size ≤ 40 ∧
    (Lib.countByte s.data.toList 40 ≠ 1 ∨ (Lib.countByte s.data.toList 40 = 1 ∧ (Lib.indexByte s.data.toList 41 ≠ (s.size : Int) - 1 ∨
      (Lib.indexByte s.data.toList 41 = (s.size : Int) - 1 ∧ Lib.indexByte s.data.toList 40 = (opn s : Int) ∧ opn s < s.size ∧ (opn s = 0 ∨ (1 ≤ opn s ∧ (opn s : Int) + 1 = (s.size : Int) - 1))))))) := by
  by_cases h1 : rightB s = true
  · right
    obtain ⟨g1, g2⟩ := right_lo s h1
    refine ⟨h1, g1, g2, ?_⟩
    by_cases h2 : Lib.countByte s.data.toList 40 = 1
    · right; refine ⟨h2, ?_⟩
      by_cases h3 : Lib.indexByte s.data.toList 41 = (s.size : Int) - 1
      · right
        obtain ⟨o, ho, hlt⟩ := one_place _ _ h2
        have e : opn s = o := by unfold opn; omega
        have hlt' : o < s.size := by simpa using hlt
        refine ⟨h3, by rw [e]; exact ho, by omega, ?_⟩
        by_cases h4 : opn s = 0
        · exact .inl h4
        · right; refine ⟨by omega, ?_⟩
          unfold memB at h
          rw [h1, decide_eq_true h2, decide_eq_true h3, decide_eq_false (show ¬ Lib.indexByte s.data.toList 40 = 0 by omega)] at h
          simp only [Bool.and_true, Bool.true_and, Bool.not_false, Bool.not_eq_false', decide_eq_true_eq] at h
          omega
      · exact .inl h3
    · exact .inl h2
  · left; simpa using h1

theorem u8_ne (x c : UInt8) (n : Int) (hn : (c.toNat : Int) = n) (h : x ≠ c) : ((x.toNat : Int) != n) = true := by
  subst hn; simp only [bne_iff_ne, ne_eq]; intro e; exact h (UInt8.toNat_inj.1 (by omega))
theorem u8_is (x c : UInt8) (n : Int) (hn : (c.toNat : Int) = n) (h : x = c) : ((x.toNat : Int) != n) = false := by subst hn; subst h; simp
theorem u8_ne' (x c : UInt8) (n : Int) (hn : (c.toNat : Int) = n) (h : x ≠ c) : ((x.toNat : Int) == n) = false := by
  subst hn; simp only [beq_eq_false_iff_ne, ne_eq]; intro e; exact h (UInt8.toNat_inj.1 (by omega))
theorem u8_is' (x c : UInt8) (n : Int) (hn : (c.toNat : Int) = n) (h : x = c) : ((x.toNat : Int) == n) = true := by subst hn; subst h; simp

/-- the document's own tests of a member's name -/
theorem ref_yes (s : ByteArray) (h : memB s = true) (hp : 1 ≤ s.size) : s[s.size - 1] = 41 ∧ cnt s.data.toList 40 = 1 ∧ cnt s.data.toList 41 = 1 ∧ s[0] ≠ 40 := by
  obtain ⟨h1, g1, g2, h2, h3, h40, ho1, ho2, -, hlt⟩ := mem_yes s h
  have hc := (close_iff s hp).2 h3
  exact ⟨hc.1, by rw [cnt40]; exact h2, by rw [cnt41]; exact hc.2, hlt 0 (by omega) (by omega)⟩

theorem ref_no (s : ByteArray) (h : memB s = false) (h1 : rightB s = true) (hp : 1 ≤ s.size) :
    s[s.size - 1] ≠ 41 ∨ (s[s.size - 1] = 41 ∧ (cnt s.data.toList 40 ≠ 1 ∨ (cnt s.data.toList 40 = 1 ∧ (cnt s.data.toList 41 ≠ 1 ∨ (cnt s.data.toList 41 = 1 ∧ (s[0] = 40 ∨
      (s[0] ≠ 40 ∧ 1 ≤ opn s ∧ opn s + 2 = s.size ∧ (∀ (hp : opn s < s.size), s[opn s] = 40) ∧ (∀ k, k < opn s → ∀ (hk : k < s.size), s[k] ≠ 40)))))))) := by
  rcases mem_no s h with h0 | ⟨-, g1, g2, h2⟩
  · rw [h1] at h0; cases h0
  by_cases c1 : s[s.size - 1] = 41
  · right; refine ⟨c1, ?_⟩
    by_cases c2 : cnt s.data.toList 40 = 1
    · right; refine ⟨c2, ?_⟩
      by_cases c3 : cnt s.data.toList 41 = 1
      · right; refine ⟨c3, ?_⟩
        by_cases c4 : s[0] = 40
        · exact .inl c4
        · right; refine ⟨c4, ?_⟩
          rw [cnt40] at c2
          rw [cnt41] at c3
          have c5 := (close_iff s hp).1 ⟨c1, c3⟩
          have c6 : ¬ Lib.indexByte s.data.toList 40 = 0 := fun e => c4 ((head_iff s hp 40).2 e)
          rcases h2 with h2 | ⟨-, h2⟩
          · exact absurd c2 h2
          rcases h2 with h2 | ⟨-, e40, hlt, h2⟩
          · exact absurd c5 h2
          rcases h2 with h2 | ⟨h2, h3⟩
          · exact absurd (by rw [e40, h2]; rfl) c6
          have hs := Lib.indexByte_some e40
          refine ⟨h2, by omega, ?_, ?_⟩
          · intro hp'
            have := hs.1
            rw [get_some s _ hp'] at this
            exact Option.some.inj this
          · intro k hk hp' he
            exact hs.2 k hk (by rw [get_some s _ hp', he])
      · exact .inl c3
    · exact .inl c2
  · exact .inl c1

/-! ### put together -/
theorem ba_ext {a b : ByteArray} (h : a.data.toList = b.data.toList) : a = b := by
  rw [← Lib.mk_data a, ← Lib.mk_data b, h]
theorem app_data (a b : ByteArray) : (a ++ b).data.toList = a.data.toList ++ b.data.toList := by simp
theorem dir_base (s : ByteArray) : s.extract 0 (baseN s) ++ s.extract (baseN s) s.size = s := by
  have hb := baseN_le s
  apply ba_ext
  rw [app_data, Lib.extract_data, Lib.extract_data, List.drop_zero, Nat.sub_zero]
  have : ((s.data.toList.drop (baseN s)).take (s.size - baseN s)) = s.data.toList.drop (baseN s) := List.take_of_length_le (by simp)
  rw [this, List.take_append_drop]

def joinS (a b : ByteArray) : ByteArray := a ++ ⟨#[40]⟩ ++ b ++ ⟨#[41]⟩
theorem join_data (a b : ByteArray) : (joinS a b).data.toList = a.data.toList ++ [40] ++ b.data.toList ++ [41] := by
  unfold joinS; rw [app_data, app_data, app_data]
theorem join_size (a b : ByteArray) : (joinS a b).size = a.size + b.size + 2 := by
  rw [Lib.size_eq, join_data]; simp; omega

theorem join_member (s : ByteArray) (h : memB s = true) : joinS (s.extract 0 (opn s)) (s.extract (opn s + 1) (s.size - 1)) = s := by
  obtain ⟨h1, g1, g2, h2, h3, h40, ho1, ho2, hat, -⟩ := mem_yes s h
  obtain ⟨hl, -⟩ := ref_yes s h g1
  have hat := hat (by omega)
  apply ba_ext
  rw [join_data, Lib.extract_data, Lib.extract_data, List.drop_zero, Nat.sub_zero]
  have e1 : s.data.toList.take (opn s) ++ [40] = s.data.toList.take (opn s + 1) := by rw [take_snoc s (opn s) (by omega), hat]
  have e2 : s.data.toList.take (opn s + 1) ++ (s.data.toList.drop (opn s + 1)).take (s.size - 1 - (opn s + 1)) = s.data.toList.take (s.size - 1) := by
    rw [← List.take_add]; congr 1; omega
  have e3 := last_split s g1
  rw [hl] at e3
  rw [e1, e2, ← e3]

theorem index_mid (a b : List UInt8) (c : UInt8) (h : c ∉ a) : Lib.indexByte (a ++ c :: b) c = a.length := by
  have hm : c ∈ a ++ c :: b := by simp
  have hge := Lib.indexByte_ge (a ++ c :: b) c
  have hne : Lib.indexByte (a ++ c :: b) c ≠ -1 := fun e => by
    obtain ⟨k, hk⟩ := List.getElem?_of_mem hm
    exact Lib.indexByte_none e k hk
  have hs := Lib.indexByte_some (l := a ++ c :: b) (c := c) (o := (Lib.indexByte (a ++ c :: b) c).toNat) (by omega)
  generalize ho : (Lib.indexByte (a ++ c :: b) c).toNat = o at hs
  have h1 : ¬ o < a.length := fun hlt => by
    rw [List.getElem?_append_left hlt] at hs; exact h (List.mem_of_getElem? hs.1)
  have h2 : ¬ a.length < o := fun hlt => hs.2 a.length hlt (by simp)
  omega

theorem no_br (s : ByteArray) (h : plainB s = true) : (40 : UInt8) ∉ s.data.toList ∧ (41 : UInt8) ∉ s.data.toList := by
  unfold plainB at h
  rw [List.all_eq_true] at h
  refine ⟨fun hm => ?_, fun hm => ?_⟩
  · have := h _ hm; revert this; decide
  · have := h _ hm; revert this; decide

theorem mem_join (a b : ByteArray) (ha : rightB a = true) (hb : rightB b = true) (pa : plainB a = true) (pb : plainB b = true) (hn : a.size + b.size ≤ 38) :
    memB (joinS a b) = true ∧ opn (joinS a b) = a.size := by
  obtain ⟨a1, a2⟩ := right_lo a ha
  obtain ⟨b1, b2⟩ := right_lo b hb
  obtain ⟨na, ma⟩ := no_br a pa
  obtain ⟨nb, mb⟩ := no_br b pb
  have hd := join_data a b
  have hz := join_size a b
  have i40 : Lib.indexByte (joinS a b).data.toList 40 = (a.size : Int) := by
    rw [hd, List.append_assoc, List.append_assoc]
    rw [show [(40 : UInt8)] ++ (b.data.toList ++ [41]) = 40 :: (b.data.toList ++ [41]) from rfl, index_mid _ _ _ na, Lib.size_eq]
  have c40 : Lib.countByte (joinS a b).data.toList 40 = 1 := by
    rw [hd]; unfold Lib.countByte
    simp [List.count_append, List.count_eq_zero.2 na, List.count_eq_zero.2 nb]
  have c41 : Lib.countByte (joinS a b).data.toList 41 = 1 := by
    rw [hd]; unfold Lib.countByte
    simp [List.count_append, List.count_eq_zero.2 ma, List.count_eq_zero.2 mb]
  have i41 : Lib.indexByte (joinS a b).data.toList 41 = ((joinS a b).size : Int) - 1 := by
    rw [hd] at c41 ⊢
    rw [(last_one _ 41 41).1 ⟨rfl, c41⟩, hz]
    simp; omega
  have hr : rightB (joinS a b) = true := by
    unfold rightB at ha hb ⊢
    simp only [Bool.and_eq_true, decide_eq_true_eq] at ha hb ⊢
    refine ⟨⟨by omega, by omega⟩, ?_⟩
    rw [hd, List.all_append, List.all_append, List.all_append, ha.2, hb.2]; decide
  refine ⟨?_, by unfold opn; omega⟩
  unfold memB
  rw [hr, decide_eq_true c40, decide_eq_true i41, decide_eq_false (show ¬ Lib.indexByte (joinS a b).data.toList 40 = 0 by omega), decide_eq_false (show ¬ Lib.indexByte (joinS a b).data.toList 40 + 1 = ((joinS a b).size : Int) - 1 by omega)]
  rfl

theorem join_lib (a b : ByteArray) : (joinS a b).extract 0 a.size = a := by
  apply ba_ext
  rw [Lib.extract_data, join_data, List.drop_zero, Nat.sub_zero, List.append_assoc, List.append_assoc]
  exact List.take_left' (Lib.size_eq a).symm
theorem join_mem (a b : ByteArray) : (joinS a b).extract (a.size + 1) ((joinS a b).size - 1) = b := by
  apply ba_ext
  rw [Lib.extract_data, join_data, join_size, List.append_assoc]
  rw [List.drop_left' (by rw [List.length_append, ← Lib.size_eq]; rfl)]
  exact List.take_left' (by rw [← Lib.size_eq]; omega)
end Go.Proofs.YtpedamncnimgpaaDoor
