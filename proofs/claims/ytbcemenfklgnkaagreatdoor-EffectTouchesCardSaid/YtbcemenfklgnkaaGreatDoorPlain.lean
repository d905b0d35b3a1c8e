/- Plain facts on bytes that need nothing of the translated code. Plain facts on files in a row, and on a map of files as it reads. Nothing here needs the translated code. Plain facts on lists of texts that need nothing of the translated code. Plain facts on members and archives that need nothing of the translated code. How the document puts a file into a row of files. Nothing here needs the translated code. -/
import Derived.WalkKit
import Derived.Lib.LastIndexByte
import Derived.Lib.Bytealg
import Derived.Lib.IndexLaws
import Derived.Maps.OwnSet
import Derived.Lib.Hide
import Derived.Sort.EncStr
import Derived.Sort.Walk0
import Derived.Lib.SlicesS
import Derived.Lib.ItoaNum
import Derived.Lib.Atoi
import Derived.Lib.TrimByte
import Derived.Lib.IndexAny
import Derived.Lib.RepeatB
import Derived.Laws.Cover1
namespace Go.Proofs.YtbcemenfklgnkaaGreatDoor
open Go.RowKit

/-- a byte of a right name -/
def okc (c : UInt8) : Bool := decide (33 ≤ (c.toNat : Int)) && decide ((c.toNat : Int) ≤ 126)
/-- a right name -/
def rightB (s : ByteArray) : Bool := decide (1 ≤ s.size) && decide (s.size ≤ 40) && s.data.toList.all okc

theorem ret_bool {a b : Bool} (h : a = b) : Ending.returned (.bool a) = .returned (.bool b) := by rw [h]
theorem ret_int {k : IntKind} {a b : Int} (h : a = b) : Ending.returned (.int k a) = .returned (.int k b) := by rw [h]
theorem take_snoc (s : ByteArray) (k : Nat) (h : k < s.size) : s.data.toList.take (k + 1) = s.data.toList.take k ++ [s[k]] := by
  rw [List.take_succ_eq_append_getElem (by simpa using h)]; rfl
theorem take_all (s : ByteArray) (k : Nat) (h : s.size ≤ k) : s.data.toList.take k = s.data.toList := List.take_of_length_le (by simpa using h)
theorem getElem_mem (s : ByteArray) (k : Nat) (h : k < s.size) : s[k] ∈ s.data.toList := by
  have : s[k] = s.data.toList[k]'(by simpa using h) := rfl
  rw [this]; exact List.getElem_mem _

theorem right_short (s : ByteArray) (h : s.size < 1) : rightB s = false := by
  unfold rightB; have : decide (1 ≤ s.size) = false := decide_eq_false (by omega)
  rw [this]; rfl
theorem right_long (s : ByteArray) (h : 40 < s.size) : rightB s = false := by
  unfold rightB; have : decide (s.size ≤ 40) = false := decide_eq_false (by omega)
  rw [this]; simp
theorem right_bad (s : ByteArray) (k : Nat) (h : k < s.size) (hc : okc s[k] = false) : rightB s = false := by
  unfold rightB
  have : s.data.toList.all okc = false := by
    rw [List.all_eq_false]; exact ⟨_, getElem_mem s k h, by simp [hc]⟩
  rw [this]; simp
theorem right_all (s : ByteArray) (h1 : 1 ≤ s.size) (h2 : s.size ≤ 40) (k : Nat) (hk : s.size ≤ k) (ha : (s.data.toList.take k).all okc = true) : rightB s = true := by
  rw [take_all s k hk] at ha
  unfold rightB; simp [h1, h2, ha]
theorem all_snoc (s : ByteArray) (k : Nat) (h : k < s.size) (p : UInt8 → Bool) (ha : (s.data.toList.take k).all p = true) (hc : p s[k] = true) : (s.data.toList.take (k + 1)).all p = true := by
  rw [take_snoc s k h, List.all_append, ha]; simp [hc]

theorem right_eq (s : ByteArray) (k : Nat) (hk : s.size ≤ k) (ha : (s.data.toList.take k).all okc = true) : rightB s = (decide (0 < (s.size : Int)) && decide ((s.size : Int) ≤ 40)) := by
  rw [take_all s k hk] at ha
  unfold rightB; rw [ha, Bool.and_true]
  congr 1 <;> apply decide_eq_decide.2 <;> omega

/-- how often a byte is there -/
def cnt (l : List UInt8) (c : Int) : Nat := l.countP (fun x => (x.toNat : Int) == c)
theorem cnt_snoc (s : ByteArray) (c : Int) (k : Nat) (h : k < s.size) : cnt (s.data.toList.take (k + 1)) c = cnt (s.data.toList.take k) c + if ((s[k].toNat : Int) == c) = true then 1 else 0 := by
  unfold cnt; rw [take_snoc s k h, List.countP_append]; simp [List.countP_cons]
theorem cnt_le (l : List UInt8) (c : Int) : cnt l c ≤ l.length := List.countP_le_length

/-- has a text no round brackets? -/
def noBr (c : UInt8) : Bool := !((c.toNat : Int) == 40) && !((c.toNat : Int) == 41)
def plainB (s : ByteArray) : Bool := s.data.toList.all noBr
theorem plain_bad (s : ByteArray) (k : Nat) (h : k < s.size) (hc : noBr s[k] = false) : plainB s = false := by
  unfold plainB; rw [List.all_eq_false]; exact ⟨_, getElem_mem s k h, by simp [hc]⟩
theorem plain_all (s : ByteArray) (k : Nat) (hk : s.size ≤ k) (ha : (s.data.toList.take k).all noBr = true) : plainB s = true := by
  rw [take_all s k hk] at ha; exact ha

/-- where the base begins -/
def baseN (s : ByteArray) : Nat := (Lib.lastIndexByte s 47 + 1).toNat
theorem byteBang (s : ByteArray) (k : Nat) (h : k < s.size) : s.data[k]! = s[k] := getElem!_pos s.data k h
theorem last_lo (s : ByteArray) (c : Int) (k : Nat) : -1 ≤ Lib.lastIdx s c k := by
  rcases Lib.lastIdx_spec s c k with ⟨e, _⟩ | ⟨i, _, e, _⟩ <;> omega
theorem last_hi (s : ByteArray) (c : Int) (k : Nat) : Lib.lastIdx s c k < k := by
  rcases Lib.lastIdx_spec s c k with ⟨e, _⟩ | ⟨i, _, e, _⟩ <;> omega
theorem baseN_int (s : ByteArray) : (baseN s : Int) = Lib.lastIndexByte s 47 + 1 := by
  have := last_lo s 47 s.size
  unfold baseN Lib.lastIndexByte; omega
theorem baseN_le (s : ByteArray) : baseN s ≤ s.size := by
  have h1 := last_hi s 47 s.size; have h2 := baseN_int s
  unfold Lib.lastIndexByte at h2; omega

/-- the suffix -/
def sufB (s : ByteArray) : ByteArray := if (baseN s : Int) < Lib.lastIndexByte s 46 then s.extract (Lib.lastIndexByte s 46).toNat s.size else ⟨#[]⟩

theorem ext_data (s : ByteArray) (a b : Nat) (k : Nat) (h : k < b - a) (hb : b ≤ s.size) : (s.extract a b).data[k]! = s.data[a + k]! := by
  have h1 : k < (s.extract a b).size := by rw [ByteArray.size_extract]; omega
  rw [byteBang _ k h1, byteBang s (a + k) (by omega)]
  exact ByteArray.getElem_extract _

theorem ext_empty (s : ByteArray) (k : Nat) (h : s.size ≤ k) : s.extract k s.size = ⟨#[]⟩ := by
  rw [Lib.extract_eq]
  have : (s.data.toList.drop k).take (s.size - k) = [] := by
    rw [show s.size - k = 0 by omega]; rfl
  rw [this]

/-- the last point of the base, seen from the base, and from the whole text -/
theorem suf_of_base (s : ByteArray) :
    (Lib.lastIndexByte (s.extract (baseN s) s.size) 46 < 1 → sufB s = ⟨#[]⟩) ∧
    (1 ≤ Lib.lastIndexByte (s.extract (baseN s) s.size) 46 → sufB s = (s.extract (baseN s) s.size).extract (Lib.lastIndexByte (s.extract (baseN s) s.size) 46).toNat (s.size - baseN s)) := by
  have hb := baseN_le s
  have hsz : (s.extract (baseN s) s.size).size = s.size - baseN s := by rw [ByteArray.size_extract]; omega
  rcases Lib.lastIndexByte_spec (s.extract (baseN s) s.size) 46 with ⟨e, hn⟩ | ⟨i, hi, e, hc, hn⟩
  · refine ⟨fun _ => ?_, fun h => by omega⟩
    have : ¬ (baseN s : Int) < Lib.lastIndexByte s 46 := by
      rcases Lib.lastIndexByte_spec s 46 with ⟨e', _⟩ | ⟨j, hj, e', hc', _⟩
      · omega
      · intro hlt
        have h2 := hn (j - baseN s) (by omega)
        rw [ext_data s _ _ _ (by omega) (Nat.le_refl _), show baseN s + (j - baseN s) = j by omega] at h2
        exact h2 hc'
    unfold sufB; rw [if_neg this]
  · rw [ext_data s _ _ _ (by omega) (Nat.le_refl _)] at hc
    have hlast : Lib.lastIndexByte s 46 = ((baseN s + i : Nat) : Int) := by
      rcases Lib.lastIndexByte_spec s 46 with ⟨e', hn'⟩ | ⟨j, hj, e', hc', hn'⟩
      · exact absurd hc (hn' _ (by omega))
      · rw [e']
        have h1 : ¬ j < baseN s + i := fun h => absurd hc (hn' _ h (by omega))
        have h2 : ¬ baseN s + i < j := fun h => by
          have h3 := hn (j - baseN s) (by omega) (by omega)
          rw [ext_data s _ _ _ (by omega) (Nat.le_refl _), show baseN s + (j - baseN s) = j by omega] at h3
          exact h3 hc'
        omega
    refine ⟨fun h => ?_, fun h => ?_⟩
    · unfold sufB; rw [if_neg (by omega)]
    · unfold sufB; rw [if_pos (by omega), e, hlast]
      have e1 : (((baseN s + i : Nat) : Int)).toNat = baseN s + i := by omega
      have e2 : ((i : Nat) : Int).toNat = i := by omega
      rw [e1, e2, ByteArray.extract_extract]
      congr 1; omega

/-- the walk of the document's own suffix, from behind -/
theorem suf_step (s : ByteArray) (j : Nat) (hj : j < s.size) (hb : (baseN s : Int) < j) (hl : Lib.lastIndexByte s 46 = Lib.lastIdx s 46 (j + 1)) :
    ((s[j].toNat : Int) = 46 → sufB s = s.extract j s.size) ∧ ((s[j].toNat : Int) ≠ 46 → Lib.lastIndexByte s 46 = Lib.lastIdx s 46 j) := by
  refine ⟨fun h => ?_, fun h => ?_⟩
  · rw [Lib.lastIdx_hit s 46 j (by rw [byteBang s j hj]; exact h)] at hl
    unfold sufB; rw [hl, if_pos hb]; rfl
  · rw [hl, Lib.lastIdx_miss s 46 j (by rw [byteBang s j hj]; exact h)]
theorem suf_none (s : ByteArray) (k : Nat) (hb : (k : Int) - 1 ≤ baseN s) (hl : Lib.lastIndexByte s 46 = Lib.lastIdx s 46 k) : sufB s = ⟨#[]⟩ := by
  have := last_hi s 46 k
  unfold sufB; rw [if_neg (by omega)]

/-! ### a member's name -/
/-- where the first opening bracket stands -/
def opn (s : ByteArray) : Nat := (Lib.indexByte s.data.toList 40).toNat
def memB (s : ByteArray) : Bool :=
  rightB s && decide (Lib.countByte s.data.toList 40 = 1) && decide (Lib.indexByte s.data.toList 41 = (s.size : Int) - 1) &&
    (!decide (Lib.indexByte s.data.toList 40 = 0) && !decide (Lib.indexByte s.data.toList 40 + 1 = (s.size : Int) - 1))

theorem right_lo (s : ByteArray) (h : rightB s = true) : 1 ≤ s.size ∧ s.size ≤ 40 := by
  unfold rightB at h; simp only [Bool.and_eq_true, decide_eq_true_eq] at h; exact h.1

theorem cnt_eq (l : List UInt8) (c : UInt8) : cnt l (c.toNat : Int) = Lib.countByte l c := by
  unfold cnt Lib.countByte List.count
  congr 1; funext x
  rw [Bool.eq_iff_iff]; simp only [beq_iff_eq]
  constructor
  · intro h; exact UInt8.toNat_inj.1 (by omega)
  · intro h; rw [h]

theorem cnt40 (l : List UInt8) : cnt l 40 = Lib.countByte l 40 := cnt_eq l 40
theorem cnt41 (l : List UInt8) : cnt l 41 = Lib.countByte l 41 := cnt_eq l 41

theorem get_some (s : ByteArray) (k : Nat) (h : k < s.size) : s.data.toList[k]? = some s[k] := by
  have h1 : k < s.data.toList.length := by simpa using h
  rw [List.getElem?_eq_getElem h1]; rfl

theorem u8_eq (x : UInt8) (c : UInt8) : (((x.toNat : Int) == (c.toNat : Int)) = true) ↔ x = c := by
  simp only [beq_iff_eq]
  constructor
  · intro h; exact UInt8.toNat_inj.1 (by omega)
  · intro h; rw [h]

/-- one byte there: its place -/
theorem one_place (l : List UInt8) (c : UInt8) (h : Lib.countByte l c = 1) : ∃ o : Nat, Lib.indexByte l c = o ∧ o < l.length := by
  have hm : c ∈ l := List.count_pos_iff.1 (by unfold Lib.countByte at h; omega)
  have hge := Lib.indexByte_ge l c
  by_cases he : Lib.indexByte l c = -1
  · obtain ⟨k, hk⟩ := List.getElem?_of_mem hm
    exact absurd hk (Lib.indexByte_none he k)
  · refine ⟨(Lib.indexByte l c).toNat, by omega, ?_⟩
    have := (Lib.indexByte_some (l := l) (c := c) (o := (Lib.indexByte l c).toNat) (by omega)).1
    exact (List.getElem?_eq_some_iff.1 this).1

/-- the one closing bracket stands last just if the first one does -/
theorem last_one (l : List UInt8) (c x : UInt8) : (x = c ∧ Lib.countByte (l ++ [x]) c = 1) ↔ Lib.indexByte (l ++ [x]) c = l.length := by
  constructor
  · rintro ⟨rfl, h⟩
    unfold Lib.countByte at h
    rw [List.count_append, List.count_singleton_self] at h
    have h0 : x ∉ l := List.count_eq_zero.1 (by omega)
    obtain ⟨o, ho, hl⟩ := one_place (l ++ [x]) x (by unfold Lib.countByte; rw [List.count_append, List.count_singleton_self]; omega)
    have hs := Lib.indexByte_some ho
    rw [ho]
    rw [List.length_append, List.length_singleton] at hl
    by_cases hlt : o < l.length
    · exfalso
      rw [List.getElem?_append_left hlt] at hs
      exact h0 (List.mem_of_getElem? hs.1)
    · congr 1; omega
  · intro h
    have hs := Lib.indexByte_some h
    have hx : x = c := by have h1 := hs.1; rw [List.getElem?_append_right (Nat.le_refl _)] at h1; simpa using h1
    refine ⟨hx, ?_⟩
    subst hx
    unfold Lib.countByte
    rw [List.count_append, List.count_singleton_self]
    have h0 : x ∉ l := fun hm => by
      obtain ⟨k, hk⟩ := List.getElem?_of_mem hm
      have hlt := (List.getElem?_eq_some_iff.1 hk).1
      exact hs.2 k hlt (by rw [List.getElem?_append_left hlt]; exact hk)
    rw [List.count_eq_zero.2 h0]

theorem last_split (s : ByteArray) (h : 1 ≤ s.size) : s.data.toList = s.data.toList.take (s.size - 1) ++ [s[s.size - 1]] := by
  rw [← take_snoc s (s.size - 1) (by omega), show s.size - 1 + 1 = s.size by omega, take_all s _ (Nat.le_refl _)]

theorem close_iff (s : ByteArray) (h : 1 ≤ s.size) : (s[s.size - 1] = 41 ∧ Lib.countByte s.data.toList 41 = 1) ↔ Lib.indexByte s.data.toList 41 = (s.size : Int) - 1 := by
  have hl := last_split s h
  have hn : (s.data.toList.take (s.size - 1)).length = s.size - 1 := by simp
  have := last_one (s.data.toList.take (s.size - 1)) 41 s[s.size - 1]
  rw [← hl, hn, show ((s.size - 1 : Nat) : Int) = (s.size : Int) - 1 by omega] at this
  exact this

theorem head_iff (s : ByteArray) (h : 1 ≤ s.size) (c : UInt8) : s[0] = c ↔ Lib.indexByte s.data.toList c = 0 := by
  constructor
  · intro he
    have h0 := get_some s 0 (by omega)
    rw [he] at h0
    cases hl : s.data.toList with
    | nil => rw [hl] at h0; simp at h0
    | cons b t => rw [hl] at h0; simp at h0; subst h0; simp [Lib.indexByte]
  · intro he
    have := (Lib.indexByte_some (o := 0) he).1
    rw [get_some s 0 (by omega)] at this
    exact Option.some.inj this

/-- what is known of a member's name -/
theorem mem_yes (s : ByteArray) (h : memB s = true) : rightB s = true ∧ 1 ≤ s.size ∧ s.size ≤ 40 ∧ Lib.countByte s.data.toList 40 = 1 ∧ Lib.indexByte s.data.toList 41 = (s.size : Int) - 1 ∧
    Lib.indexByte s.data.toList 40 = (opn s : Int) ∧ 1 ≤ opn s ∧ opn s + 2 < s.size ∧ (∀ (hp : opn s < s.size), s[opn s] = 40) ∧ (∀ k, k < opn s → ∀ (hk : k < s.size), s[k] ≠ 40) := by
  unfold memB at h
  simp only [Bool.and_eq_true, decide_eq_true_eq, Bool.not_eq_true', decide_eq_false_iff_not] at h
  obtain ⟨⟨⟨h1, h2⟩, h3⟩, h4, h5⟩ := h
  obtain ⟨o, ho, hlt⟩ := one_place _ _ h2
  obtain ⟨g1, g2⟩ := right_lo s h1
  have e : opn s = o := by unfold opn; omega
  have hs := Lib.indexByte_some ho
  have hlt' : o < s.size := by simpa using hlt
  refine ⟨h1, g1, g2, h2, h3, by rw [e]; exact ho, by omega, ?_, ?_, ?_⟩
  · by_cases hq : o = s.size - 1
    · exfalso
      have h6 := (Lib.indexByte_some (o := s.size - 1) (by rw [h3]; omega)).1
      rw [← hq, hs.1] at h6
      cases h6
    · omega
  · intro hp
    have := hs.1
    rw [← e, get_some s _ hp] at this
    exact Option.some.inj this
  · intro k hk hp he
    exact hs.2 k (by omega) (by rw [get_some s _ hp, he])

theorem mem_no (s : ByteArray) (h : memB s = false) : rightB s = false ∨ (rightB s = true ∧ 1 ≤ s.size ∧ s.size ≤ 40 ∧
    (Lib.countByte s.data.toList 40 ≠ 1 ∨ (Lib.countByte s.data.toList 40 = 1 ∧ (Lib.indexByte s.data.toList 41 ≠ (s.size : Int) - 1 ∨
      (Lib.indexByte s.data.toList 41 = (s.size : Int) - 1 ∧ Lib.indexByte s.data.toList 40 = (opn s : Int) ∧ opn s < s.size ∧ (opn s = 0 ∨ (1 ≤ opn s ∧ (opn s : Int) + 1 = (s.size : Int) - 1))))))) := by
  by_cases h1 : rightB s = true
  · right
    obtain ⟨g1, g2⟩ := right_lo s h1
    refine ⟨h1, g1, g2, ?_⟩
    by_cases h2 : Lib.countByte s.data.toList 40 = 1
    · right; refine ⟨h2, ?_⟩
      by_cases h3 : Lib.indexByte s.data.toList 41 = (s.size : Int) - 1
      · right
        obtain ⟨o, ho, hlt⟩ := one_place _ _ h2
        have e : opn s = o := by unfold opn; omega
        have hlt' : o < s.size := by simpa using hlt
        refine ⟨h3, by rw [e]; exact ho, by omega, ?_⟩
        by_cases h4 : opn s = 0
        · exact .inl h4
        · right; refine ⟨by omega, ?_⟩
          unfold memB at h
          rw [h1, decide_eq_true h2, decide_eq_true h3, decide_eq_false (show ¬ Lib.indexByte s.data.toList 40 = 0 by omega)] at h
          simp only [Bool.and_true, Bool.true_and, Bool.not_false, Bool.not_eq_false', decide_eq_true_eq] at h
          omega
      · exact .inl h3
    · exact .inl h2
  · left; simpa using h1

theorem u8_ne (x c : UInt8) (n : Int) (hn : (c.toNat : Int) = n) (h : x ≠ c) : ((x.toNat : Int) != n) = true := by
  subst hn; simp only [bne_iff_ne, ne_eq]; intro e; exact h (UInt8.toNat_inj.1 (by omega))
theorem u8_is (x c : UInt8) (n : Int) (hn : (c.toNat : Int) = n) (h : x = c) : ((x.toNat : Int) != n) = false := by subst hn; subst h; simp
theorem u8_ne' (x c : UInt8) (n : Int) (hn : (c.toNat : Int) = n) (h : x ≠ c) : ((x.toNat : Int) == n) = false := by
  subst hn; simp only [beq_eq_false_iff_ne, ne_eq]; intro e; exact h (UInt8.toNat_inj.1 (by omega))
theorem u8_is' (x c : UInt8) (n : Int) (hn : (c.toNat : Int) = n) (h : x = c) : ((x.toNat : Int) == n) = true := by subst hn; subst h; simp

/-- the document's own tests of a member's name -/
theorem ref_yes (s : ByteArray) (h : memB s = true) (hp : 1 ≤ s.size) : s[s.size - 1] = 41 ∧ cnt s.data.toList 40 = 1 ∧ cnt s.data.toList 41 = 1 ∧ s[0] ≠ 40 := by
  obtain ⟨h1, g1, g2, h2, h3, h40, ho1, ho2, -, hlt⟩ := mem_yes s h
  have hc := (close_iff s hp).2 h3
  exact ⟨hc.1, by rw [cnt40]; exact h2, by rw [cnt41]; exact hc.2, hlt 0 (by omega) (by omega)⟩

theorem ref_no (s : ByteArray) (h : memB s = false) (h1 : rightB s = true) (hp : 1 ≤ s.size) :
    s[s.size - 1] ≠ 41 ∨ (s[s.size - 1] = 41 ∧ (cnt s.data.toList 40 ≠ 1 ∨ (cnt s.data.toList 40 = 1 ∧ (cnt s.data.toList 41 ≠ 1 ∨ (cnt s.data.toList 41 = 1 ∧ (s[0] = 40 ∨
      (s[0] ≠ 40 ∧ 1 ≤ opn s ∧ opn s + 2 = s.size ∧ (∀ (hp : opn s < s.size), s[opn s] = 40) ∧ (∀ k, k < opn s → ∀ (hk : k < s.size), s[k] ≠ 40)))))))) := by
  rcases mem_no s h with h0 | ⟨-, g1, g2, h2⟩
  · rw [h1] at h0; cases h0
  by_cases c1 : s[s.size - 1] = 41
  · right; refine ⟨c1, ?_⟩
    by_cases c2 : cnt s.data.toList 40 = 1
    · right; refine ⟨c2, ?_⟩
      by_cases c3 : cnt s.data.toList 41 = 1
      · right; refine ⟨c3, ?_⟩
        by_cases c4 : s[0] = 40
        · exact .inl c4
        · right; refine ⟨c4, ?_⟩
          rw [cnt40] at c2
          rw [cnt41] at c3
          have c5 := (close_iff s hp).1 ⟨c1, c3⟩
          have c6 : ¬ Lib.indexByte s.data.toList 40 = 0 := fun e => c4 ((head_iff s hp 40).2 e)
          rcases h2 with h2 | ⟨-, h2⟩
          · exact absurd c2 h2
          rcases h2 with h2 | ⟨-, e40, hlt, h2⟩
          · exact absurd c5 h2
          rcases h2 with h2 | ⟨h2, h3⟩
          · exact absurd (by rw [e40, h2]; rfl) c6
          have hs := Lib.indexByte_some e40
          refine ⟨h2, by omega, ?_, ?_⟩
          · intro hp'
            have := hs.1
            rw [get_some s _ hp'] at this
            exact Option.some.inj this
          · intro k hk hp' he
            exact hs.2 k hk (by rw [get_some s _ hp', he])
      · exact .inl c3
    · exact .inl c2
  · exact .inl c1

/-! ### put together -/
theorem ba_ext {a b : ByteArray} (h : a.data.toList = b.data.toList) : a = b := by
  rw [← Lib.mk_data a, ← Lib.mk_data b, h]
theorem app_data (a b : ByteArray) : (a ++ b).data.toList = a.data.toList ++ b.data.toList := by simp
theorem dir_base (s : ByteArray) : s.extract 0 (baseN s) ++ s.extract (baseN s) s.size = s := by
  have hb := baseN_le s
  apply ba_ext
  rw [app_data, Lib.extract_data, Lib.extract_data, List.drop_zero, Nat.sub_zero]
  have : ((s.data.toList.drop (baseN s)).take (s.size - baseN s)) = s.data.toList.drop (baseN s) := List.take_of_length_le (by simp)
  rw [this, List.take_append_drop]

def joinS (a b : ByteArray) : ByteArray := a ++ ⟨#[40]⟩ ++ b ++ ⟨#[41]⟩
theorem join_data (a b : ByteArray) : (joinS a b).data.toList = a.data.toList ++ [40] ++ b.data.toList ++ [41] := by
  unfold joinS; rw [app_data, app_data, app_data]
theorem join_size (a b : ByteArray) : (joinS a b).size = a.size + b.size + 2 := by
  rw [Lib.size_eq, join_data]; simp; omega

theorem join_member (s : ByteArray) (h : memB s = true) : joinS (s.extract 0 (opn s)) (s.extract (opn s + 1) (s.size - 1)) = s := by
  obtain ⟨h1, g1, g2, h2, h3, h40, ho1, ho2, hat, -⟩ := mem_yes s h
  obtain ⟨hl, -⟩ := ref_yes s h g1
  have hat := hat (by omega)
  apply ba_ext
  rw [join_data, Lib.extract_data, Lib.extract_data, List.drop_zero, Nat.sub_zero]
  have e1 : s.data.toList.take (opn s) ++ [40] = s.data.toList.take (opn s + 1) := by rw [take_snoc s (opn s) (by omega), hat]
  have e2 : s.data.toList.take (opn s + 1) ++ (s.data.toList.drop (opn s + 1)).take (s.size - 1 - (opn s + 1)) = s.data.toList.take (s.size - 1) := by
    rw [← List.take_add]; congr 1; omega
  have e3 := last_split s g1
  rw [hl] at e3
  rw [e1, e2, ← e3]

theorem index_mid (a b : List UInt8) (c : UInt8) (h : c ∉ a) : Lib.indexByte (a ++ c :: b) c = a.length := by
  have hm : c ∈ a ++ c :: b := by simp
  have hge := Lib.indexByte_ge (a ++ c :: b) c
  have hne : Lib.indexByte (a ++ c :: b) c ≠ -1 := fun e => by
    obtain ⟨k, hk⟩ := List.getElem?_of_mem hm
    exact Lib.indexByte_none e k hk
  have hs := Lib.indexByte_some (l := a ++ c :: b) (c := c) (o := (Lib.indexByte (a ++ c :: b) c).toNat) (by omega)
  generalize ho : (Lib.indexByte (a ++ c :: b) c).toNat = o at hs
  have h1 : ¬ o < a.length := fun hlt => by
    rw [List.getElem?_append_left hlt] at hs; exact h (List.mem_of_getElem? hs.1)
  have h2 : ¬ a.length < o := fun hlt => hs.2 a.length hlt (by simp)
  omega

theorem no_br (s : ByteArray) (h : plainB s = true) : (40 : UInt8) ∉ s.data.toList ∧ (41 : UInt8) ∉ s.data.toList := by
  unfold plainB at h
  rw [List.all_eq_true] at h
  refine ⟨fun hm => ?_, fun hm => ?_⟩
  · have := h _ hm; revert this; decide
  · have := h _ hm; revert this; decide

theorem mem_join (a b : ByteArray) (ha : rightB a = true) (hb : rightB b = true) (pa : plainB a = true) (pb : plainB b = true) (hn : a.size + b.size ≤ 38) :
    memB (joinS a b) = true ∧ opn (joinS a b) = a.size := by
  obtain ⟨a1, a2⟩ := right_lo a ha
  obtain ⟨b1, b2⟩ := right_lo b hb
  obtain ⟨na, ma⟩ := no_br a pa
  obtain ⟨nb, mb⟩ := no_br b pb
  have hd := join_data a b
  have hz := join_size a b
  have i40 : Lib.indexByte (joinS a b).data.toList 40 = (a.size : Int) := by
    rw [hd, List.append_assoc, List.append_assoc]
    rw [show [(40 : UInt8)] ++ (b.data.toList ++ [41]) = 40 :: (b.data.toList ++ [41]) from rfl, index_mid _ _ _ na, Lib.size_eq]
  have c40 : Lib.countByte (joinS a b).data.toList 40 = 1 := by
    rw [hd]; unfold Lib.countByte
    simp [List.count_append, List.count_eq_zero.2 na, List.count_eq_zero.2 nb]
  have c41 : Lib.countByte (joinS a b).data.toList 41 = 1 := by
    rw [hd]; unfold Lib.countByte
    simp [List.count_append, List.count_eq_zero.2 ma, List.count_eq_zero.2 mb]
  have i41 : Lib.indexByte (joinS a b).data.toList 41 = ((joinS a b).size : Int) - 1 := by
    rw [hd] at c41 ⊢
    rw [(last_one _ 41 41).1 ⟨rfl, c41⟩, hz]
    simp; omega
  have hr : rightB (joinS a b) = true := by
    unfold rightB at ha hb ⊢
    simp only [Bool.and_eq_true, decide_eq_true_eq] at ha hb ⊢
    refine ⟨⟨by omega, by omega⟩, ?_⟩
    rw [hd, List.all_append, List.all_append, List.all_append, ha.2, hb.2]; decide
  refine ⟨?_, by unfold opn; omega⟩
  unfold memB
  rw [hr, decide_eq_true c40, decide_eq_true i41, decide_eq_false (show ¬ Lib.indexByte (joinS a b).data.toList 40 = 0 by omega), decide_eq_false (show ¬ Lib.indexByte (joinS a b).data.toList 40 + 1 = ((joinS a b).size : Int) - 1 by omega)]
  rfl

theorem join_lib (a b : ByteArray) : (joinS a b).extract 0 a.size = a := by
  apply ba_ext
  rw [Lib.extract_data, join_data, List.drop_zero, Nat.sub_zero, List.append_assoc, List.append_assoc]
  exact List.take_left' (Lib.size_eq a).symm
theorem join_mem (a b : ByteArray) : (joinS a b).extract (a.size + 1) ((joinS a b).size - 1) = b := by
  apply ba_ext
  rw [Lib.extract_data, join_data, join_size, List.append_assoc]
  rw [List.drop_left' (by rw [List.length_append, ← Lib.size_eq]; rfl)]
  exact List.take_left' (by rw [← Lib.size_eq]; omega)
end Go.Proofs.YtbcemenfklgnkaaGreatDoor

namespace Go.Proofs.YtbcemenfklgnkaaGreatDoor
open Go.RowKit Go.Maps

/-- a file -/
structure Fl where
  n : ByteArray
  c : ByteArray
  t : Int

def nilF : Fl := ⟨ByteArray.empty, ByteArray.empty, 0⟩
def valF (f : Fl) : Value := .agg #[.string f.n, .string f.c, .int .i64 f.t]
def datF (f : Fl) : DataW Unit := .agg [.lit (.string f.n.data.toList), .lit (.string f.c.data.toList), .lit (.int .i64 f.t)]
def keyS (s : ByteArray) : Lit := .string s.data.toList
def entF (f : Fl) : Lit × DataW Unit := (keyS f.n, datF f)
def toD (l : List Fl) : DataW Unit := .map (l.map entF)

theorem bytes_ext {a b : ByteArray} (h : a.data.toList = b.data.toList) : a = b := by
  cases a; cases b; simpa using h
theorem bytes_ne {a b : ByteArray} (h : a ≠ b) : a.data.toList ≠ b.data.toList := fun e => h (bytes_ext e)
theorem datF_inj {f g : Fl} (h : datF f = datF g) : f = g := by
  unfold datF at h
  simp only [DataW.agg.injEq, List.cons.injEq, DataW.lit.injEq, Lit.string.injEq, Lit.int.injEq, and_true, true_and] at h
  obtain ⟨h1, h2, h3⟩ := h
  cases f; cases g
  simp only at h1 h2 h3
  rw [bytes_ext h1, bytes_ext h2, h3]

def fileElem : Value → Option (DataW Unit × List MemPlace)
  | .agg cs => match cs.toList with
    | [.string n, .string c, .int .i64 t] => some (datF ⟨n, c, t⟩, [])
    | _ => none
  | _ => none
theorem fileElem_mk (f : Fl) : fileElem (valF f) = some (datF f, []) := rfl
theorem fileElem_inv {v : Value} {z : DataW Unit × List MemPlace} (h : fileElem v = some z) : ∃ f, v = valF f ∧ z = (datF f, []) := by
  unfold fileElem at h
  split at h
  · rename_i cs
    split at h
    · rename_i n c t e
      cases h
      refine ⟨⟨n, c, t⟩, ?_, rfl⟩
      unfold valF
      cases cs
      simp only at e
      rw [e]
    · cases h
  · cases h
theorem fileElem_is {v : Value} {f : Fl} {ps : List MemPlace} (h : fileElem v = some (datF f, ps)) : v = valF f := by
  obtain ⟨g, rfl, e⟩ := fileElem_inv h
  rw [Prod.mk.injEq] at e
  rw [datF_inj e.1]

/-- is a file of that name? -/
def isN (s : ByteArray) (f : Fl) : Bool := f.n.data.toList == s.data.toList
theorem isN_iff {s : ByteArray} {f : Fl} : isN s f = true ↔ f.n = s := by
  unfold isN
  rw [beq_iff_eq]
  exact ⟨bytes_ext, fun e => by rw [e]⟩
theorem isN_self (f : Fl) : isN f.n f = true := isN_iff.2 rfl
theorem isN_other {s : ByteArray} {f : Fl} (h : f.n ≠ s) : isN s f = false := by
  cases e : isN s f
  · rfl
  · exact absurd (isN_iff.1 e) h
def hasL (l : List Fl) (s : ByteArray) : Bool := l.any (isN s)
def getL (l : List Fl) (s : ByteArray) : Fl := (l.find? (isN s)).getD nilF
def delL (l : List Fl) (s : ByteArray) : List Fl := l.filter fun f => !isN s f
def insL (x : Fl) : List Fl → List Fl
  | [] => [x]
  | y :: r => if (keyS x.n).before (keyS y.n) = true then x :: y :: r else y :: insL x r
def putL (l : List Fl) (f : Fl) : List Fl := insL f (delL l f.n)

theorem same_isN (s : ByteArray) (f : Fl) : (entF f).1.sameKey (keyS s) = isN s f := rfl
theorem toD_has (l : List Fl) (s : ByteArray) : Maps.has (toD l) (keyS s) = hasL l s := by
  unfold toD hasL
  rw [has_eq, List.any_map]; rfl
theorem toD_size (l : List Fl) : Maps.size (toD l) = l.length := by
  unfold toD
  rw [size_eq, List.length_map]
theorem find_ent (l : List Fl) (s : ByteArray) : (l.map entF).find? (fun p => p.1.sameKey (keyS s)) = (l.find? (isN s)).map entF := by
  induction l with
  | nil => rfl
  | cons a r ih =>
    rw [List.map_cons, List.find?_cons, List.find?_cons, same_isN, ih]
    cases isN s a <;> rfl
theorem toD_at (l : List Fl) (s : ByteArray) : (toD l).atKey (keyS s) (datF nilF) = datF (getL l s) := by
  unfold toD DataW.atKey getL
  simp only
  rw [find_ent]
  cases l.find? (isN s) <;> rfl
theorem del_ent (l : List Fl) (s : ByteArray) : (l.map entF).filter (fun p => !p.1.sameKey (keyS s)) = (delL l s).map entF := by
  unfold delL
  induction l with
  | nil => rfl
  | cons a r ih =>
    rw [List.map_cons, List.filter_cons, List.filter_cons, same_isN, ih]
    cases isN s a <;> rfl
theorem toD_del (l : List Fl) (s : ByteArray) : (toD l).del (keyS s) = toD (delL l s) := by
  show DataW.map ((l.map entF).filter (fun p => !p.1.sameKey (keyS s))) = _
  rw [del_ent]; rfl
theorem ins_ent (x : Fl) (l : List Fl) : DataW.insert (entF x) (l.map entF) = (insL x l).map entF := by
  induction l with
  | nil => rfl
  | cons a r ih =>
    rw [List.map_cons]
    unfold DataW.insert insL
    show (if (keyS x.n).before (keyS a.n) = true then _ else _) = _
    by_cases h : (keyS x.n).before (keyS a.n) = true
    · rw [if_pos h, if_pos h]; rfl
    · rw [if_neg h, if_neg h, ih]; rfl
theorem toD_put (l : List Fl) (f : Fl) : (toD l).put (keyS f.n) (datF f) = toD (putL l f) := by
  show DataW.map (DataW.insert (entF f) ((l.map entF).filter (fun p => !p.1.sameKey (keyS f.n)))) = _
  rw [del_ent, ins_ent]; rfl

theorem insL_mem {x y : Fl} {l : List Fl} : y ∈ insL x l ↔ y = x ∨ y ∈ l := by
  induction l with
  | nil => simp [insL]
  | cons a r ih =>
    unfold insL
    by_cases h : (keyS x.n).before (keyS a.n) = true
    · rw [if_pos h]; simp
    · rw [if_neg h]; simp only [List.mem_cons, ih]
      constructor
      · rintro (h | h | h)
        · exact .inr (.inl h)
        · exact .inl h
        · exact .inr (.inr h)
      · rintro (h | h | h)
        · exact .inr (.inl h)
        · exact .inl h
        · exact .inr (.inr h)
theorem insL_len (x : Fl) (l : List Fl) : (insL x l).length = l.length + 1 := by
  induction l with
  | nil => rfl
  | cons a r ih =>
    unfold insL
    by_cases h : (keyS x.n).before (keyS a.n) = true
    · rw [if_pos h]; rfl
    · rw [if_neg h]; simp [ih]
theorem insL_find {x : Fl} {p : Fl → Bool} (h : p x = false) (l : List Fl) : (insL x l).find? p = l.find? p := by
  induction l with
  | nil => simp [insL, h]
  | cons a r ih =>
    unfold insL
    by_cases hb : (keyS x.n).before (keyS a.n) = true
    · rw [if_pos hb, List.find?_cons, h]
    · rw [if_neg hb, List.find?_cons, List.find?_cons, ih]
theorem insL_find_hit {x : Fl} {p : Fl → Bool} (h : p x = true) (l : List Fl) (hl : ∀ y ∈ l, p y = false) : (insL x l).find? p = some x := by
  induction l with
  | nil => simp [insL, h]
  | cons a r ih =>
    unfold insL
    by_cases hb : (keyS x.n).before (keyS a.n) = true
    · rw [if_pos hb, List.find?_cons, h]
    · rw [if_neg hb, List.find?_cons, hl a (by simp), ih (fun y hy => hl y (by simp [hy]))]
theorem delL_find {s s' : ByteArray} (h : s' ≠ s) (l : List Fl) : (delL l s).find? (isN s') = l.find? (isN s') := by
  unfold delL
  induction l with
  | nil => rfl
  | cons a r ih =>
    rw [List.filter_cons, List.find?_cons]
    cases hs : isN s a
    · rw [if_pos (by rfl), List.find?_cons, ih]
    · have e := isN_iff.1 hs
      rw [if_neg (by simp), ih, isN_other (by rw [e]; exact fun e => h e.symm)]
theorem delL_none (l : List Fl) (s : ByteArray) : ∀ y ∈ delL l s, isN s y = false := by
  intro y hy
  have := (List.mem_filter.1 hy).2
  simpa using this
theorem putL_find_same (l : List Fl) (f : Fl) : (putL l f).find? (isN f.n) = some f := insL_find_hit (isN_self f) _ (delL_none l f.n)
theorem putL_find_other {s : ByteArray} (l : List Fl) (f : Fl) (h : s ≠ f.n) : (putL l f).find? (isN s) = l.find? (isN s) := by
  unfold putL
  rw [insL_find (isN_other (fun e => h e.symm)), delL_find h]
theorem hasL_find {l : List Fl} {s : ByteArray} : hasL l s = true ↔ ∃ f, l.find? (isN s) = some f := by
  unfold hasL
  rw [List.any_eq_true, ← List.find?_isSome, Option.isSome_iff_exists]
theorem hasL_not {l : List Fl} {s : ByteArray} (h : hasL l s = false) : l.find? (isN s) = none := by
  cases e : l.find? (isN s) with
  | none => rfl
  | some f => rw [hasL_find.2 ⟨f, e⟩] at h; cases h
theorem getL_not {l : List Fl} {s : ByteArray} (h : hasL l s = false) : getL l s = nilF := by unfold getL; rw [hasL_not h]; rfl
theorem getL_find {l : List Fl} {s : ByteArray} {f : Fl} (h : l.find? (isN s) = some f) : getL l s = f := by unfold getL; rw [h]; rfl
theorem find_name {l : List Fl} {s : ByteArray} {f : Fl} (h : l.find? (isN s) = some f) : f.n = s := isN_iff.1 (List.find?_some (p := isN s) h)
theorem getL_has {l : List Fl} {s : ByteArray} (h : hasL l s = true) : (getL l s).n = s := by
  obtain ⟨f, hf⟩ := hasL_find.1 h
  rw [getL_find hf]; exact find_name hf
theorem delL_len (l : List Fl) (s : ByteArray) : (delL l s).length ≤ l.length := List.length_filter_le _ _
theorem delL_lt {l : List Fl} {s : ByteArray} (h : hasL l s = true) : (delL l s).length < l.length := by
  unfold delL
  unfold hasL at h
  rw [List.any_eq_true] at h
  obtain ⟨f, hf, he⟩ := h
  exact List.length_filter_lt_length_iff_exists.2 ⟨f, hf, by rw [he]; simp⟩
theorem delL_not {l : List Fl} {s : ByteArray} (h : hasL l s = false) : delL l s = l := by
  unfold delL
  rw [List.filter_eq_self]
  intro f hf
  unfold hasL at h
  rw [List.any_eq_false] at h
  simpa using h f hf
theorem putL_len_le (l : List Fl) (f : Fl) : (putL l f).length ≤ l.length + 1 := by
  unfold putL; rw [insL_len]; have := delL_len l f.n; omega
theorem putL_len_has {l : List Fl} {f : Fl} (h : hasL l f.n = true) : (putL l f).length ≤ l.length := by
  unfold putL; rw [insL_len]; have := delL_lt h; omega
theorem putL_len_new {l : List Fl} {f : Fl} (h : hasL l f.n = false) : (putL l f).length = l.length + 1 := by
  unfold putL; rw [insL_len, delL_not h]
end Go.Proofs.YtbcemenfklgnkaaGreatDoor

namespace Go.Proofs.YtbcemenfklgnkaaGreatDoor
open Go.RowKit

/-- the texts of a slice, as they lie in memory -/
def Row (w : World) (v : Value) (l : List ByteArray) : Prop :=
  ∃ a c, v = .slice a l.length c ∧ (l.length ≤ 9223372036854775807 ∧ (a = none → c = 0)) ∧
    (l ≠ [] → ∃ b off, a = some ⟨b, off, none⟩ ∧ b < w.heap.size ∧ ∀ j x, l[j]? = some x → w.cell? ⟨b, off + j, none⟩ = some (.string x))

theorem Row.later {w w' : World} {v : Value} {l : List ByteArray} (h : Row w v l) (hb : Below w.heap.size w w') : Row w' v l := by
  obtain ⟨a, c, e, hn, hr⟩ := h
  refine ⟨a, c, e, hn, fun hne => ?_⟩
  obtain ⟨b, off, ea, hlt, hc⟩ := hr hne
  exact ⟨b, off, ea, Nat.lt_of_lt_of_le hlt hb.size, fun j x hx => (hb.cell (p := ⟨b, off + j, none⟩) hlt).trans (hc j x hx)⟩

theorem eq_of_toList {a b : ByteArray} : (a.toList == b.toList) = true ↔ a = b := by
  rw [beq_iff_eq, Lib.toList_data, Lib.toList_data]
  exact ⟨ba_ext, fun h => by rw [h]⟩
theorem ne_of_toList {a b : ByteArray} : (a.toList == b.toList) = false ↔ a ≠ b := by
  rw [← Bool.not_eq_true, eq_of_toList]

theorem get_of (l : List ByteArray) (k : Nat) (h : k < l.length) : ∃ x, l[k]? = some x := ⟨l[k], List.getElem?_eq_getElem h⟩
theorem take_one (l : List ByteArray) (k : Nat) (x : ByteArray) (h : l[k]? = some x) : l.take (k + 1) = l.take k ++ [x] := by
  rw [List.take_add_one, h]; rfl

/-- too many texts, or one that is too long -/
def bigB (s : ByteArray) : Bool := decide ((100 : Int) < s.size)
def longB (l : List ByteArray) : Bool := decide ((40 : Int) < l.length) || l.any bigB
theorem long_many (l : List ByteArray) (h : 40 < l.length) : longB l = true := by
  unfold longB; rw [decide_eq_true (by omega)]; rfl
theorem long_hit (l : List ByteArray) (k : Nat) (x : ByteArray) (h : l[k]? = some x) (hx : 100 < x.size) : longB l = true := by
  unfold longB
  rw [List.any_eq_true.2 ⟨x, List.mem_of_getElem? h, by unfold bigB; exact decide_eq_true (by omega)⟩, Bool.or_true]
theorem long_not (l : List ByteArray) (h : l.length ≤ 40) (k : Nat) (hk : l.length ≤ k) (ha : (l.take k).any bigB = false) : longB l = false := by
  rw [List.take_of_length_le hk] at ha
  unfold longB; rw [ha, decide_eq_false (by omega)]; rfl
theorem big_snoc (l : List ByteArray) (k : Nat) (x : ByteArray) (h : l[k]? = some x) (hx : x.size ≤ 100) (ha : (l.take k).any bigB = false) : (l.take (k + 1)).any bigB = false := by
  rw [take_one l k x h, List.any_append, ha]; simp [bigB]; omega
theorem short_of (l : List ByteArray) (h : longB l = false) : l.length ≤ 40 ∧ ∀ x ∈ l, x.size ≤ 100 := by
  unfold longB at h
  simp only [Bool.or_eq_false_iff, decide_eq_false_iff_not, List.any_eq_false] at h
  refine ⟨by omega, fun x hx => ?_⟩
  have := h.2 x hx
  unfold bigB at this
  simp only [decide_eq_true_eq] at this
  omega

/-- is a text in a list? -/
def hasB (l : List ByteArray) (s : ByteArray) : Bool := l.any fun x => x.toList == s.toList
theorem has_iff (l : List ByteArray) (s : ByteArray) : hasB l s = true ↔ s ∈ l := by
  unfold hasB; rw [List.any_eq_true]
  exact ⟨fun ⟨x, hx, e⟩ => (eq_of_toList.1 e) ▸ hx, fun h => ⟨s, h, eq_of_toList.2 rfl⟩⟩
theorem has_false (l : List ByteArray) (s : ByteArray) : hasB l s = false ↔ s ∉ l := by rw [← has_iff, Bool.not_eq_true]
theorem has_hit (l : List ByteArray) (k : Nat) (x s : ByteArray) (h : l[k]? = some x) (hx : x = s) : hasB l s = true :=
  (has_iff l s).2 (hx ▸ List.mem_of_getElem? h)
theorem has_not (l : List ByteArray) (s : ByteArray) (k : Nat) (hk : l.length ≤ k) (ha : s ∉ l.take k) : hasB l s = false := by
  rw [List.take_of_length_le hk] at ha; exact (has_false l s).2 ha
theorem not_snoc (l : List ByteArray) (s : ByteArray) (k : Nat) (x : ByteArray) (h : l[k]? = some x) (hx : x ≠ s) (ha : s ∉ l.take k) : s ∉ l.take (k + 1) := by
  rw [take_one l k x h]; intro hm
  rcases List.mem_append.1 hm with hm | hm
  · exact ha hm
  · exact hx (List.mem_singleton.1 hm).symm
theorem has_lib (l : List ByteArray) (s : ByteArray) : Lib.containsS l s = hasB l s := by
  rw [Bool.eq_iff_iff, Lib.containsS_iff, has_iff]

/-- both, each once, in order -/
def addU (acc : List ByteArray) (s : ByteArray) : List ByteArray := if hasB acc s = true then acc else acc ++ [s]
def uni (l : List ByteArray) : List ByteArray := l.foldl addU []
theorem uni_snoc (l : List ByteArray) (s : ByteArray) : uni (l ++ [s]) = addU (uni l) s := by unfold uni; rw [List.foldl_append]; rfl
theorem add_old {acc : List ByteArray} {s : ByteArray} (h : hasB acc s = true) : addU acc s = acc := by unfold addU; rw [if_pos h]
theorem add_new {acc : List ByteArray} {s : ByteArray} (h : hasB acc s = false) : addU acc s = acc ++ [s] := by unfold addU; rw [if_neg (by rw [h]; decide)]
theorem add_mem (acc : List ByteArray) (s x : ByteArray) : x ∈ addU acc s ↔ x ∈ acc ∨ x = s := by
  unfold addU
  by_cases h : hasB acc s = true
  · rw [if_pos h]
    exact ⟨.inl, fun h' => h'.elim id fun e => e ▸ (has_iff acc s).1 h⟩
  · rw [if_neg h, List.mem_append, List.mem_singleton]
theorem fold_mem (x : ByteArray) : ∀ (l acc : List ByteArray), x ∈ List.foldl addU acc l ↔ x ∈ acc ∨ x ∈ l
  | [], acc => by simp
  | s :: l, acc => by rw [List.foldl_cons, fold_mem x l, add_mem, List.mem_cons, or_assoc]
theorem uni_mem (l : List ByteArray) (x : ByteArray) : x ∈ uni l ↔ x ∈ l := by unfold uni; rw [fold_mem]; simp
theorem uni_len (l : List ByteArray) : (uni l).length ≤ l.length := by
  suffices h : ∀ l acc, (List.foldl addU acc l).length ≤ acc.length + l.length by have := h l []; unfold uni; simpa using this
  intro l
  induction l with
  | nil => simp
  | cons s l ih =>
    intro acc; rw [List.foldl_cons]
    have h1 := ih (addU acc s)
    have h2 : (addU acc s).length ≤ acc.length + 1 := by unfold addU; split <;> simp
    simp only [List.length_cons]; omega
theorem uni_nodup (l : List ByteArray) : (uni l).Nodup := by
  suffices h : ∀ l acc, acc.Nodup → (List.foldl addU acc l).Nodup from h l [] List.nodup_nil
  intro l
  induction l with
  | nil => intro acc h; exact h
  | cons s l ih =>
    intro acc h
    rw [List.foldl_cons]
    apply ih
    unfold addU
    split
    · exact h
    · rename_i hs
      have hs : s ∉ acc := fun hm => hs ((has_iff acc s).2 hm)
      rw [List.nodup_append]
      exact ⟨h, by simp, fun a ha b hb e => hs (by rw [List.mem_singleton] at hb; rw [← hb, ← e]; exact ha)⟩

/-- those that aren't in the other one -/
def outB (b : List ByteArray) (s : ByteArray) : Bool := !hasB b s
theorem filter_snoc (l b : List ByteArray) (k : Nat) (x : ByteArray) (h : l[k]? = some x) : (l.take (k + 1)).filter (outB b) = (l.take k).filter (outB b) ++ if hasB b x = true then [] else [x] := by
  rw [take_one l k x h, List.filter_append]
  congr 1
  unfold outB
  cases hx : hasB b x <;> simp [hx]

/-! ### a set of texts, kept as a map from text to bool -/
open Go.Maps in
theorem atKey_fold {H : Type} (u z : DataW H) (k : Lit) : ∀ (acc : List Lit) (m : DataW H), IsMap m → (∀ x ∈ acc, WideAt.IsKeyLit x) →
    (acc.foldl (fun m x => m.put x u) m).atKey k z = if acc.any (fun x => x.sameKey k) = true then u else m.atKey k z
  | [], m, _, _ => by simp
  | x :: r, m, hm, h => by
    rw [List.foldl_cons, atKey_fold u z k r (m.put x u) (hm.put x u) (fun y hy => h y (by simp [hy])), List.any_cons]
    by_cases hr : r.any (fun x => x.sameKey k) = true
    · rw [if_pos hr, if_pos (by rw [hr, Bool.or_true])]
    · rw [if_neg hr]
      by_cases hx : x.sameKey k = true
      · rw [if_pos (by rw [hx]; rfl)]
        have e := WideAt.sameKey_eq hx
        subst e
        exact atKey_put_same hm (h x (by simp)) u z
      · rw [if_neg (by simpa using ⟨by simpa using hx, by simpa using hr⟩)]
        refine atKey_put_other (fun e => hx ?_) u z
        rw [e]; exact WideAt.sameKey_self (h x (by simp))

def keysOf (l : List ByteArray) : List Lit := l.map fun s => Lit.string s.data.toList
theorem keys_ok (l : List ByteArray) : ∀ x ∈ keysOf l, WideAt.IsKeyLit x := by
  intro x hx; obtain ⟨s, _, rfl⟩ := List.mem_map.1 hx; trivial
theorem keys_any (l : List ByteArray) (s : ByteArray) : (keysOf l).any (fun x => x.sameKey (Lit.string s.data.toList)) = hasB l s := by
  unfold keysOf hasB
  rw [List.any_map]
  congr 1; funext x
  show (x.data.toList == s.data.toList) = (x.toList == s.toList)
  rw [Lib.toList_data, Lib.toList_data]
open Go.Maps in
def strSet (l : List ByteArray) : DataW Unit := setOf (.lit (.bool true)) (keysOf l)
open Go.Maps in
theorem strSet_snoc (l : List ByteArray) (s : ByteArray) : strSet (l ++ [s]) = (strSet l).put (Lit.string s.data.toList) (.lit (.bool true)) := by
  unfold strSet keysOf; rw [List.map_append, List.map_singleton, setOf_snoc]
open Go.Maps in
theorem strSet_at (l : List ByteArray) (s : ByteArray) : (strSet l).atKey (Lit.string s.data.toList) (.lit (.bool false)) = .lit (.bool (hasB l s)) := by
  unfold strSet setOf
  rw [atKey_fold _ _ _ _ _ isMap_empty (keys_ok l), keys_any]
  cases hasB l s <;> rfl

theorem plainElem_bool_inv {H : Type} {P : Program} {e : TypeId} (he : P.underlying e = some .bool) {v : Value} {x : Bool} {ps : List MemPlace} (h : plainElem (H := H) P e v = some (.lit (.bool x), ps)) : v = .bool x := by
  unfold plainElem at h
  rw [he] at h
  cases v <;> simp at h
  rw [h.1]

/-- asking a set of texts that the call keeps -/
theorem look_set {P : Program} (w : World) {ops : Array Oper} {rest : List Oper} {o : Oper} {a : Act} {Q : Exit → Act → World → Prop}
    (hg : o.guard = none) (m x : Operand) (t : TypeId) (hop : o.op = Op.lookup t m x false)
    (k e : TypeId) (K : Go.Maps.Keyed P k) (ht : P.underlying t = some (.map k e)) (he : P.underlying e = some .bool) (hz : (zeroValue e).run P w = .ok (.bool false) w) (b n : Nat) (l : List ByteArray)
    (hm : a.eval m = .map (some b)) (hown : w.ownsMap P k (plainElem P e) b n (strSet l)) (s : ByteArray) (hx : a.eval x = .string s) (hkey : keyOf P k (.string s) = some (.string s.data.toList))
    (hK : wpList P ops Q rest (a.put o.dst (.bool (hasB l s))) w) :
    wpList P ops Q (o :: rest) a w := by
  refine wpList_plain hg fun K' hK' => ?_
  obtain ⟨v, ps, hrun, hv⟩ := hown.lookup K ht hz (plainElem_bool he false) hkey
  rw [strSet_at] at hv
  have hvb := plainElem_bool_inv he hv
  subst hvb
  unfold Oper.wp
  simp [execOp, hop, hm, hx, hrun, Result.andThen]
  exact hK' _ _ hK
end Go.Proofs.YtbcemenfklgnkaaGreatDoor

namespace Go.Proofs.YtbcemenfklgnkaaGreatDoor
open Go.RowKit

/-- a member -/
structure Mb where
  n : ByteArray
  t : Int
  c : ByteArray
instance : Inhabited Mb := ⟨⟨⟨#[]⟩, 0, ⟨#[]⟩⟩⟩
def nilM : Mb := ⟨⟨#[]⟩, 0, ⟨#[]⟩⟩
theorem mb_ext {a b : Mb} (h1 : a.n = b.n) (h2 : a.t = b.t) (h3 : a.c = b.c) : a = b := by cases a; cases b; simp_all

/-! ### names and times -/
def brc (c : UInt8) : Bool := ((c.toNat : Int) == 47) || ((c.toNat : Int) == 40) || ((c.toNat : Int) == 41)
def namc (c : UInt8) : Bool := okc c && !brc c
def nameB (s : ByteArray) : Bool := decide (1 ≤ s.size) && decide (s.size ≤ 15) && s.data.toList.all namc
def timeB (t : Int) : Bool := decide (1 ≤ t) && decide (t ≤ 549755813888)
theorem time_iff (t : Int) : timeB t = true ↔ 1 ≤ t ∧ t ≤ 549755813888 := by unfold timeB; simp
theorem time_not (t : Int) : timeB t = false ↔ t < 1 ∨ 549755813888 < t := by
  rw [← Bool.not_eq_true, time_iff]; omega
theorem brc_eq (c : UInt8) : brc c = [(47 : UInt8), 40, 41].contains c := by
  have e : ∀ k : UInt8, ((c.toNat : Int) == (k.toNat : Int)) = (c == k) := fun k => by rw [Bool.eq_iff_iff, u8_eq, beq_iff_eq]
  have e1 := e 47; have e2 := e 40; have e3 := e 41
  unfold brc
  simp only [List.contains_cons, List.contains_nil, Bool.or_false]
  rw [show ((47 : UInt8).toNat : Int) = 47 by rfl] at e1
  rw [show ((40 : UInt8).toNat : Int) = 40 by rfl] at e2
  rw [show ((41 : UInt8).toNat : Int) = 41 by rfl] at e3
  rw [e1, e2, e3, Bool.or_assoc]
theorem anyOf (cs : List UInt8) : ∀ l : List UInt8, Lib.containsAny l cs = l.any (fun c => cs.contains c)
  | [] => by simp [Lib.containsAny, Lib.indexAny]
  | b :: l => by
    have ih := anyOf cs l
    unfold Lib.containsAny at ih ⊢
    rw [Lib.indexAny, List.any_cons]
    cases h : cs.contains b
    · rw [if_neg (by simp), Bool.false_or, ← ih]
      have := Lib.indexAny_ge cs l
      by_cases e : Lib.indexAny l cs = -1
      · rw [if_pos (by simp [e]), e]
      · rw [if_neg (by simp [e])]
        congr 1
        exact propext ⟨fun _ => by omega, fun _ => by omega⟩
    · rw [if_pos rfl]; simp
theorem name_eq (s : ByteArray) : nameB s = (rightB s && decide (s.size ≤ 15) && !Lib.containsAny s.data.toList [47, 40, 41]) := by
  rw [anyOf, Bool.eq_iff_iff]
  unfold nameB rightB
  simp only [Bool.and_eq_true, decide_eq_true_eq, List.all_eq_true, Bool.not_eq_true', List.any_eq_false, namc, Bool.not_eq_true]
  constructor
  · rintro ⟨⟨h1, h2⟩, h3⟩
    exact ⟨⟨⟨⟨h1, by omega⟩, fun c hc => (h3 c hc).1⟩, h2⟩, fun c hc => by rw [← brc_eq]; exact (h3 c hc).2⟩
  · rintro ⟨⟨⟨⟨h1, -⟩, h3⟩, h2⟩, h4⟩
    exact ⟨⟨h1, h2⟩, fun c hc => ⟨h3 c hc, by rw [brc_eq]; exact h4 c hc⟩⟩
theorem name_no {s : ByteArray} (h : rightB s = false) : nameB s = false := by rw [name_eq, h]; rfl
theorem name_long {s : ByteArray} (h : 15 < s.size) : nameB s = false := by
  unfold nameB; rw [show decide (s.size ≤ 15) = false from decide_eq_false (by omega)]; simp
theorem name_any {s : ByteArray} (h : rightB s = true) (h2 : s.size ≤ 15) : nameB s = !Lib.containsAny s.data.toList [47, 40, 41] := by
  rw [name_eq, h, decide_eq_true h2]; rfl
theorem right_ascii {s : ByteArray} (h : rightB s = true) : ∀ (j : Nat) b, s.data.toList[j]? = some b → b.toNat < 128 := by
  intro j b hb
  unfold rightB at h
  simp only [Bool.and_eq_true, List.all_eq_true] at h
  have := h.2 b (List.mem_of_getElem? hb)
  unfold okc at this
  simp only [Bool.and_eq_true, decide_eq_true_eq] at this
  omega
theorem name_lo {s : ByteArray} (h : nameB s = true) : 1 ≤ s.size ∧ s.size ≤ 15 ∧ ∀ c ∈ s.data.toList, namc c = true := by
  unfold nameB at h
  simp only [Bool.and_eq_true, decide_eq_true_eq, List.all_eq_true] at h
  exact ⟨h.1.1, h.1.2, h.2⟩
theorem namc_ne {c : UInt8} (h : namc c = true) : c ≠ 32 := by
  rintro rfl; revert h; decide
theorem name_bad (s : ByteArray) (k : Nat) (h : k < s.size) (hc : namc s[k] = false) : nameB s = false := by
  unfold nameB
  have : s.data.toList.all namc = false := by
    rw [List.all_eq_false]; exact ⟨_, getElem_mem s k h, by simp [hc]⟩
  rw [this]; simp
theorem name_end (s : ByteArray) (k : Nat) (hk : s.size ≤ k) (ha : (s.data.toList.take k).all namc = true) : nameB s = (decide (1 ≤ s.size) && decide (s.size ≤ 15)) := by
  rw [take_all s k hk] at ha
  unfold nameB; rw [ha, Bool.and_true]

/-! ### figures and blanks -/
def padL (l : List UInt8) (n : Nat) : List UInt8 := l ++ List.replicate (n - l.length) 32
theorem pad_len {l : List UInt8} {n : Nat} (h : l.length ≤ n) : (padL l n).length = n := by unfold padL; simp; omega
theorem nDigits_le : ∀ (k u : Nat), u < 10 ^ (k + 1) → Lib.nDigits u ≤ k + 1
  | 0, u, h => by rw [Lib.nDigits_small (by simpa using h)]; exact Nat.le_refl _
  | k + 1, u, h => by
    by_cases h1 : u < 10
    · rw [Lib.nDigits_small h1]; omega
    · rw [Lib.nDigits_big h1]
      have := nDigits_le k (u / 10) (by rw [Nat.pow_succ] at h; omega)
      omega
theorem itoa_nat (u : Nat) : Lib.itoa (u : Int) = Lib.decDigits u := by unfold Lib.itoa; rw [if_neg (by omega)]; simp
theorem itoa_len {n : Int} {k : Nat} (h0 : 0 ≤ n) (h : n < (10 ^ (k + 1) : Nat)) : (Lib.itoa n).length ≤ k + 1 := by
  obtain ⟨u, rfl⟩ := Int.eq_ofNat_of_zero_le h0
  rw [itoa_nat, Lib.decDigits_length]
  exact nDigits_le k u (by exact_mod_cast h)
theorem dig_val (d : Nat) (h : d < 10) : Lib.digitVal (UInt8.ofNat (48 + d)) = some d := by
  have : ∀ d : Fin 10, Lib.digitVal (UInt8.ofNat (48 + d.1)) = some d.1 := by decide
  exact this ⟨d, h⟩
theorem decFrom_app : ∀ (l r : List UInt8) (acc : Nat), Lib.decFrom acc (l ++ r) = (Lib.decFrom acc l).bind fun m => Lib.decFrom m r
  | [], r, acc => rfl
  | b :: l, r, acc => by
    rw [List.cons_append, Lib.decFrom, Lib.decFrom]
    cases h : Lib.digitVal b with
    | none => rfl
    | some d => exact decFrom_app l r _
theorem decFrom_digits (u : Nat) : Lib.decFrom 0 (Lib.decDigits u) = some u := by
  induction u using Nat.strongRecOn with
  | _ u ih =>
    by_cases h : u < 10
    · rw [Lib.decDigits_one h, Lib.decFrom, dig_val u h]; simp [Lib.decFrom]
    · rw [Lib.decDigits, dif_neg h, decFrom_app, ih (u / 10) (by omega)]
      simp only [Option.bind_some]
      rw [Lib.decFrom, dig_val _ (by omega)]
      simp only [Lib.decFrom]
      congr 1; omega
theorem digits_all (u : Nat) : ∀ c ∈ Lib.decDigits u, 48 ≤ c.toNat ∧ c.toNat ≤ 57 := by
  intro c hc
  obtain ⟨k, hk⟩ := List.getElem?_of_mem hc
  obtain ⟨d, hd⟩ := Lib.digit_of_decFrom _ _ _ (decFrom_digits u) k c hk
  have := Lib.digitVal_eq hd
  exact ⟨this.1, this.2.1⟩
theorem digits_ne (u : Nat) : Lib.decDigits u ≠ [] := by
  intro h
  have := Lib.decDigits_length u
  rw [h] at this
  have := Lib.nDigits_pos u
  simp at *; omega
theorem atoi_nat (u : Nat) : Lib.atoi (Lib.decDigits u) = some (u : Int) := by
  have h1 := digits_all u
  have h2 := decFrom_digits u
  have h3 := digits_ne u
  generalize Lib.decDigits u = l at h1 h2 h3
  cases l with
  | nil => exact absurd rfl h3
  | cons b r =>
    have hb := h1 b (by simp)
    unfold Lib.atoi
    have n1 : (b == 45) = false := by rw [beq_eq_false_iff_ne]; rintro rfl; revert hb; decide
    have n2 : (b == 43) = false := by rw [beq_eq_false_iff_ne]; rintro rfl; revert hb; decide
    simp only [n1, n2, Bool.false_eq_true, if_false]
    unfold Lib.decNat
    rw [h2]; rfl
theorem atoi_itoa {n : Int} (h : 0 ≤ n) : Lib.atoi (Lib.itoa n) = some n := by
  obtain ⟨u, rfl⟩ := Int.eq_ofNat_of_zero_le h
  rw [itoa_nat]; exact atoi_nat u
theorem digits_snoc {n d : Nat} (hn : 0 < n) (hd : d < 10) : Lib.decDigits (n * 10 + d) = Lib.decDigits n ++ [UInt8.ofNat (48 + d)] := by
  rw [Lib.decDigits, dif_neg (by omega), show (n * 10 + d) / 10 = n by omega, show (n * 10 + d) % 10 = d by omega]
theorem digits_head {u : Nat} (h : (Lib.decDigits u)[0]? = some 48) : u = 0 := by
  induction u using Nat.strongRecOn with
  | _ u ih =>
    by_cases h1 : u < 10
    · rw [Lib.decDigits_one h1] at h
      have : ∀ d : Fin 10, ([UInt8.ofNat (48 + d.1)] : List UInt8)[0]? = some 48 → d.1 = 0 := by decide
      exact this ⟨u, h1⟩ h
    · rw [Lib.decDigits, dif_neg h1] at h
      have hl := Lib.decDigits_length (u / 10)
      have hp := Lib.nDigits_pos (u / 10)
      rw [List.getElem?_append_left (by omega)] at h
      have := ih (u / 10) (by omega) h
      omega
theorem trim_pad {l : List UInt8} (h : ∀ c, l.getLast? = some c → c ≠ 32) (k : Nat) : Lib.trimRightB (l ++ List.replicate k 32) 32 = l := by
  unfold Lib.trimRightB
  rw [List.reverse_append, List.reverse_replicate]
  have e : ∀ k : Nat, List.dropWhile (· == (32 : UInt8)) (List.replicate k 32 ++ l.reverse) = List.dropWhile (· == (32 : UInt8)) l.reverse := by
    intro k
    induction k with
    | zero => rfl
    | succ k ih => rw [List.replicate_succ, List.cons_append, List.dropWhile_cons_of_pos (by simp), ih]
  rw [e]
  cases hr : l.reverse with
  | nil => rw [List.reverse_eq_nil_iff] at hr; rw [hr]; rfl
  | cons c r =>
    have hc : c ≠ 32 := h c (by rw [← List.head?_reverse, hr]; rfl)
    rw [List.dropWhile_cons_of_neg (by simpa using hc), ← hr, List.reverse_reverse]
theorem pad_trim (l : List UInt8) : ∃ k, l = Lib.trimRightB l 32 ++ List.replicate k 32 := by
  unfold Lib.trimRightB
  refine ⟨(l.reverse.takeWhile (· == (32 : UInt8))).length, ?_⟩
  have h1 : l.reverse.takeWhile (· == (32 : UInt8)) = List.replicate (l.reverse.takeWhile (· == (32 : UInt8))).length 32 := by
    rw [List.eq_replicate_iff]
    refine ⟨rfl, fun b hb => ?_⟩
    have := List.all_takeWhile (p := (· == (32 : UInt8))) (l := l.reverse)
    rw [List.all_eq_true] at this
    simpa using this b hb
  have h2 := List.takeWhile_append_dropWhile (p := (· == (32 : UInt8))) (l := l.reverse)
  rw [h1] at h2
  have h3 := congrArg List.reverse h2
  rw [List.reverse_append, List.reverse_reverse, List.reverse_replicate] at h3
  exact h3.symm
theorem trim_len (l : List UInt8) : (Lib.trimRightB l 32).length ≤ l.length := by
  obtain ⟨k, h⟩ := pad_trim l
  have := congrArg List.length h
  rw [List.length_append] at this; omega
theorem pad_of_trim (l : List UInt8) (n : Nat) (h : l.length = n) : padL (Lib.trimRightB l 32) n = l := by
  obtain ⟨k, hk⟩ := pad_trim l
  have hl := congrArg List.length hk
  rw [List.length_append, List.length_replicate] at hl
  unfold padL
  rw [show n - (Lib.trimRightB l 32).length = k by omega]
  exact hk.symm
theorem digits_last (u : Nat) : ∀ c, (Lib.decDigits u).getLast? = some c → c ≠ 32 := by
  intro c hc
  have := digits_all u c (List.mem_of_getLast? hc)
  rintro rfl; revert this; decide
theorem itoa_last {n : Int} (h : 0 ≤ n) : ∀ c, (Lib.itoa n).getLast? = some c → c ≠ 32 := by
  obtain ⟨u, rfl⟩ := Int.eq_ofNat_of_zero_le h
  rw [itoa_nat]; exact digits_last u
theorem repeat_blank (c : Nat) : Lib.repeatL [32] c = List.replicate c 32 := by
  have := Lib.repeatL_replicate (32 : UInt8) 1 c
  simpa using this

/-! ### a member's bytes -/
def fixL : List UInt8 := [48, 32, 32, 32, 32, 32, 48, 32, 32, 32, 32, 32, 54, 52, 52, 32, 32, 32, 32, 32]
def magL : List UInt8 := [33, 60, 97, 114, 99, 104, 62, 10]
def oddL (c : ByteArray) : List UInt8 := if c.size % 2 = 1 then [10] else []
def oneL (m : Mb) : List UInt8 := padL m.n.data.toList 16 ++ (padL (Lib.itoa m.t) 12 ++ (fixL ++ (padL (Lib.itoa m.c.size) 10 ++ ([96, 10] ++ (m.c.data.toList ++ oddL m.c)))))
def sizeM (m : Mb) : Nat := 60 + m.c.size + m.c.size % 2
def sumM (l : List Mb) : Nat := (l.map sizeM).sum
def makeL (l : List Mb) : List UInt8 := magL ++ l.flatMap oneL
def uniqB (l : List Mb) : Bool := decide ((l.map Mb.n).Nodup)
def makeE (l : List Mb) : Nat :=
  if l.all (fun m => nameB m.n) = false then 4 else if l.all (fun m => timeB m.t) = false then 1 else if uniqB l = false then 9 else if 900 < 8 + sumM l then 2 else 0
theorem makeE_zero (l : List Mb) : makeE l = 0 ↔ (∀ m ∈ l, nameB m.n = true) ∧ (∀ m ∈ l, timeB m.t = true) ∧ (l.map Mb.n).Nodup ∧ 8 + sumM l ≤ 900 := by
  unfold makeE
  cases h1 : l.all (fun m => nameB m.n)
  · simp only [if_true]
    refine ⟨fun h => by omega, fun h => ?_⟩
    rw [List.all_eq_false] at h1
    obtain ⟨m, hm, hn⟩ := h1
    exact absurd (h.1 m hm) (by simpa using hn)
  cases h2 : l.all (fun m => timeB m.t)
  · simp only [Bool.true_eq_false, if_false, if_true]
    refine ⟨fun h => by omega, fun h => ?_⟩
    rw [List.all_eq_false] at h2
    obtain ⟨m, hm, hn⟩ := h2
    exact absurd (h.2.1 m hm) (by simpa using hn)
  rw [List.all_eq_true] at h1 h2
  cases h3 : uniqB l
  · simp only [Bool.true_eq_false, if_false, if_true]
    refine ⟨fun h => by omega, fun h => ?_⟩
    unfold uniqB at h3
    exact absurd h.2.2.1 (of_decide_eq_false h3)
  unfold uniqB at h3
  have h3 := of_decide_eq_true h3
  by_cases h4 : 900 < 8 + sumM l
  · simp only [Bool.true_eq_false, if_false, if_pos h4]
    exact ⟨fun h => by omega, fun h => by omega⟩
  · simp only [Bool.true_eq_false, if_false, if_neg h4, true_iff]
    exact ⟨h1, h2, h3, by omega⟩
theorem makeE_le (l : List Mb) : makeE l ≤ 18 := by
  unfold makeE
  repeat' split
  all_goals omega
theorem makeE_name {l : List Mb} (h : l.all (fun m => nameB m.n) = false) : makeE l = 4 := by unfold makeE; rw [if_pos h]
theorem makeE_time {l : List Mb} (h : l.all (fun m => nameB m.n) = true) (h2 : l.all (fun m => timeB m.t) = false) : makeE l = 1 := by
  unfold makeE; rw [if_neg (by rw [h]; decide), if_pos h2]
theorem makeE_dup {l : List Mb} (h : l.all (fun m => nameB m.n) = true) (h2 : l.all (fun m => timeB m.t) = true) (h3 : uniqB l = false) : makeE l = 9 := by
  unfold makeE; rw [if_neg (by rw [h]; decide), if_neg (by rw [h2]; decide), if_pos h3]
theorem makeE_end {l : List Mb} (h : l.all (fun m => nameB m.n) = true) (h2 : l.all (fun m => timeB m.t) = true) (h3 : uniqB l = true) : makeE l = if 900 < 8 + sumM l then 2 else 0 := by
  unfold makeE; rw [if_neg (by rw [h]; decide), if_neg (by rw [h2]; decide), if_neg (by rw [h3]; decide)]
theorem sumM_snoc (l : List Mb) (m : Mb) : sumM (l ++ [m]) = sumM l + sizeM m := by unfold sumM; simp
theorem sumM_take_le (l : List Mb) (k : Nat) : sumM (l.take k) ≤ sumM l := by
  have h : sumM (l.take k) + sumM (l.drop k) = sumM l := by
    unfold sumM; rw [← List.sum_append, ← List.map_append, List.take_append_drop]
  omega
theorem sizeM_mem {l : List Mb} {m : Mb} (h : m ∈ l) : sizeM m ≤ sumM l := by
  unfold sumM
  induction l with
  | nil => simp at h
  | cons x r ih =>
    rw [List.map_cons, List.sum_cons]
    rcases List.mem_cons.1 h with rfl | h
    · omega
    · have := ih h; omega

/-- a member that stands in an archive -/
def Good (m : Mb) : Prop := nameB m.n = true ∧ timeB m.t = true ∧ m.c.size ≤ 9999
theorem good_of {l : List Mb} (h : makeE l = 0) {m : Mb} (hm : m ∈ l) : Good m := by
  obtain ⟨h1, h2, -, h4⟩ := (makeE_zero l).1 h
  have := sizeM_mem hm
  unfold sizeM at this
  exact ⟨h1 m hm, h2 m hm, by omega⟩
/-- wide enough: each column has room -/
def Fits (m : Mb) : Prop := m.n.size ≤ 16 ∧ (Lib.itoa m.t).length ≤ 12 ∧ (Lib.itoa m.c.size).length ≤ 10
theorem bytes_len (s : ByteArray) : s.data.toList.length = s.size := by simp
theorem Good.fits {m : Mb} (h : Good m) : Fits m := by
  obtain ⟨h1, h2, h3⟩ := h
  rw [time_iff] at h2
  refine ⟨by have := (name_lo h1).2.1; omega, itoa_len (k := 11) (by omega) (by omega), itoa_len (k := 9) (by omega) ?_⟩
  have : (10 : Nat) ^ (9 + 1) = 10000000000 := by decide
  rw [this]; omega
theorem one_len {m : Mb} (h : Fits m) : (oneL m).length = sizeM m := by
  obtain ⟨h1, h2, h3⟩ := h
  have e1 := pad_len (l := m.n.data.toList) (n := 16) (by rw [bytes_len]; exact h1)
  have e2 := pad_len h2; have e3 := pad_len h3
  unfold oneL oddL sizeM
  simp only [List.length_append, e1, e2, e3, bytes_len]
  have : fixL.length = 20 := rfl
  have : ([96, 10] : List UInt8).length = 2 := rfl
  rcases Nat.mod_two_eq_zero_or_one m.c.size with h | h
  · rw [if_neg (by omega)]; simp only [List.length_nil]; omega
  · rw [if_pos h]; simp only [List.length_cons, List.length_nil]; omega
theorem one_ne (m : Mb) : oneL m ≠ [] := by
  intro h
  have := congrArg List.length h
  unfold oneL at this
  simp only [List.length_append, List.length_nil] at this
  have : fixL.length = 20 := rfl
  omega
theorem flat_len : ∀ {l : List Mb}, (∀ m ∈ l, Fits m) → (l.flatMap oneL).length = sumM l
  | [], _ => rfl
  | m :: r, h => by
    rw [List.flatMap_cons, List.length_append, one_len (h m (by simp)), flat_len (fun x hx => h x (by simp [hx]))]
    unfold sumM; simp
theorem make_len {l : List Mb} (h : ∀ m ∈ l, Fits m) : (makeL l).length = 8 + sumM l := by
  unfold makeL; rw [List.length_append, flat_len h]; rfl

/-- what is read of a member's bytes, place for place -/
theorem one_read {m : Mb} (h : Good m) (r : List UInt8) :
    Lib.trimRightB ((oneL m ++ r).take 16) 32 = m.n.data.toList ∧ ((oneL m ++ r).drop 16).take 12 = padL (Lib.itoa m.t) 12 ∧
    ((oneL m ++ r).drop 28).take 20 = fixL ∧ ((oneL m ++ r).drop 48).take 10 = padL (Lib.itoa m.c.size) 10 ∧
    ((oneL m ++ r).drop 58).take 2 = [96, 10] ∧ ((oneL m ++ r).drop 60).take m.c.size = m.c.data.toList ∧
    (m.c.size % 2 = 1 → (oneL m ++ r)[60 + m.c.size]? = some 10) ∧ (oneL m ++ r).drop (sizeM m) = r ∧ sizeM m ≤ (oneL m ++ r).length := by
  have hf := h.fits
  have hl := one_len hf
  obtain ⟨f1, f2, f3⟩ := hf
  have e1 := pad_len (l := m.n.data.toList) (n := 16) (by rw [bytes_len]; exact f1)
  have e2 := pad_len f2; have e3 := pad_len f3
  have e4 : fixL.length = 20 := rfl
  have e5 : ([96, 10] : List UInt8).length = 2 := rfl
  have hn : ∀ c, m.n.data.toList.getLast? = some c → c ≠ 32 := fun c hc => namc_ne ((name_lo h.1).2.2 c (List.mem_of_getLast? hc))
  have x : oneL m ++ r = padL m.n.data.toList 16 ++ (padL (Lib.itoa m.t) 12 ++ (fixL ++ (padL (Lib.itoa m.c.size) 10 ++ ([96, 10] ++ (m.c.data.toList ++ (oddL m.c ++ r)))))) := by
    unfold oneL; simp only [List.append_assoc]
  have d16 : (oneL m ++ r).drop 16 = padL (Lib.itoa m.t) 12 ++ (fixL ++ (padL (Lib.itoa m.c.size) 10 ++ ([96, 10] ++ (m.c.data.toList ++ (oddL m.c ++ r))))) := by
    rw [x, List.drop_append_of_le_length (by omega), List.drop_of_length_le (by omega), List.nil_append]
  have d28 : (oneL m ++ r).drop 28 = fixL ++ (padL (Lib.itoa m.c.size) 10 ++ ([96, 10] ++ (m.c.data.toList ++ (oddL m.c ++ r)))) := by
    rw [show 28 = 16 + 12 by rfl, ← List.drop_drop, d16, List.drop_append_of_le_length (by omega), List.drop_of_length_le (by omega), List.nil_append]
  have d48 : (oneL m ++ r).drop 48 = padL (Lib.itoa m.c.size) 10 ++ ([96, 10] ++ (m.c.data.toList ++ (oddL m.c ++ r))) := by
    rw [show 48 = 28 + 20 by rfl, ← List.drop_drop, d28, List.drop_append_of_le_length (by omega), List.drop_of_length_le (by omega), List.nil_append]
  have d58 : (oneL m ++ r).drop 58 = [96, 10] ++ (m.c.data.toList ++ (oddL m.c ++ r)) := by
    rw [show 58 = 48 + 10 by rfl, ← List.drop_drop, d48, List.drop_append_of_le_length (by omega), List.drop_of_length_le (by omega), List.nil_append]
  have d60 : (oneL m ++ r).drop 60 = m.c.data.toList ++ (oddL m.c ++ r) := by
    rw [show 60 = 58 + 2 by rfl, ← List.drop_drop, d58, List.drop_append_of_le_length (by omega), List.drop_of_length_le (by omega), List.nil_append]
  refine ⟨?_, ?_, ?_, ?_, ?_, ?_, ?_, ?_, ?_⟩
  · rw [x, List.take_append_of_le_length (by omega), List.take_of_length_le (by omega)]
    exact trim_pad hn _
  · rw [d16, List.take_append_of_le_length (by omega), List.take_of_length_le (by omega)]
  · rw [d28, List.take_append_of_le_length (by omega), List.take_of_length_le (by omega)]
  · rw [d48, List.take_append_of_le_length (by omega), List.take_of_length_le (by omega)]
  · rw [d58]; rfl
  · rw [d60, List.take_append_of_le_length (by rw [bytes_len]; exact Nat.le_refl _), List.take_of_length_le (by rw [bytes_len]; exact Nat.le_refl _)]
  · intro ho
    have : (oneL m ++ r)[60 + m.c.size]? = ((oneL m ++ r).drop 60)[m.c.size]? := by rw [List.getElem?_drop]
    rw [this, d60, List.getElem?_append_right (by rw [bytes_len]; exact Nat.le_refl _), bytes_len, Nat.sub_self]
    unfold oddL; rw [if_pos ho]; rfl
  · rw [← hl, List.drop_append_of_le_length (Nat.le_refl _), List.drop_of_length_le (Nat.le_refl _), List.nil_append]
  · rw [List.length_append]; omega

/-- s is the archive of l -/
def Arch (s : ByteArray) (l : List Mb) : Prop := makeE l = 0 ∧ s.data.toList = makeL l
/-- what is still to be read of s behind the members acc -/
def Rem (s : ByteArray) (acc : List Mb) (rest : List UInt8) : Prop := ∀ l, Arch s l → ∃ l2, l = acc ++ l2 ∧ rest = l2.flatMap oneL
/-- what a text begins with -/
def FirstOf (rest : List UInt8) (x : Mb) (ok : Bool) : Prop := (ok = true → sizeM x ≤ rest.length) ∧ ∀ m r, Good m → rest = oneL m ++ r → ok = true ∧ x = m
theorem rem_start {s : ByteArray} {rest : List UInt8} (h : s.data.toList = magL ++ rest) : Rem s [] rest := by
  intro l ha
  refine ⟨l, rfl, ?_⟩
  have := h.symm.trans ha.2
  unfold makeL at this
  exact List.append_cancel_left this
theorem rem_next {s : ByteArray} {acc : List Mb} {rest : List UInt8} (h : Rem s acc rest) {x : Mb} (hne : rest ≠ []) (hf : ∀ m r, Good m → rest = oneL m ++ r → x = m) : Rem s (acc ++ [x]) (rest.drop (sizeM x)) := by
  intro l ha
  obtain ⟨l2, rfl, hr⟩ := h l ha
  cases l2 with
  | nil => exact absurd (by rw [hr]; rfl) hne
  | cons m l3 =>
    have hg : Good m := good_of ha.1 (by simp)
    rw [List.flatMap_cons] at hr
    obtain rfl := hf m _ hg hr
    refine ⟨l3, by simp, ?_⟩
    rw [hr]; exact (one_read hg _).2.2.2.2.2.2.2.1
theorem rem_not {s : ByteArray} {acc : List Mb} {rest : List UInt8} (h : Rem s acc rest) (hne : rest ≠ []) (hf : ∀ m r, Good m → rest = oneL m ++ r → False) : ∀ l, ¬ Arch s l := by
  intro l ha
  obtain ⟨l2, rfl, hr⟩ := h l ha
  cases l2 with
  | nil => exact absurd (by rw [hr]; rfl) hne
  | cons m l3 =>
    have hg : Good m := good_of ha.1 (by simp)
    rw [List.flatMap_cons] at hr
    exact hf m _ hg hr
theorem rem_end {s : ByteArray} {acc : List Mb} (h : Rem s acc []) : ∀ l, Arch s l → l = acc := by
  intro l ha
  obtain ⟨l2, rfl, hr⟩ := h l ha
  cases l2 with
  | nil => simp
  | cons m l3 =>
    rw [List.flatMap_cons] at hr
    exact absurd (List.append_eq_nil_iff.1 hr.symm).1 (one_ne m)
theorem arch_mag {s : ByteArray} {l : List Mb} (h : Arch s l) : Lib.hasPrefix s.data.toList magL = true := by
  rw [h.2]; unfold makeL Lib.hasPrefix
  rw [List.isPrefixOf_iff_prefix]; exact List.prefix_append _ _
theorem mag_rest {s : ByteArray} (h : Lib.hasPrefix s.data.toList magL = true) : s.data.toList = magL ++ Lib.trimPrefix s.data.toList magL := by
  unfold Lib.trimPrefix
  rw [if_pos h]
  unfold Lib.hasPrefix at h
  rw [List.isPrefixOf_iff_prefix] at h
  obtain ⟨r, hr⟩ := h
  rw [← hr, List.drop_append_of_le_length (Nat.le_refl _), List.drop_of_length_le (Nat.le_refl _), List.nil_append]
theorem arch_len {s : ByteArray} {l : List Mb} (h : Arch s l) : s.size ≤ 900 := by
  have hf : ∀ m ∈ l, Fits m := fun m hm => (good_of h.1 hm).fits
  have := make_len hf
  rw [← h.2, bytes_len] at this
  have := ((makeE_zero l).1 h.1).2.2.2
  omega
theorem one_inj {a b : Mb} (ha : Good a) (hb : Good b) {r q : List UInt8} (h : oneL a ++ r = oneL b ++ q) : a = b ∧ r = q := by
  obtain ⟨a1, a2, -, a4, -, a6, -, a8, -⟩ := one_read ha r
  obtain ⟨b1, b2, -, b4, -, b6, -, b8, -⟩ := one_read hb q
  rw [← h] at b1 b2 b4 b6 b8
  have t1 := (time_iff _).1 ha.2.1
  have t2 := (time_iff _).1 hb.2.1
  have en : a.n = b.n := ba_ext (a1.symm.trans b1)
  have et : a.t = b.t := by
    have := a2.symm.trans b2
    have h2 := congrArg (fun l => Lib.atoi (Lib.trimRightB l 32)) this
    simp only [padL, trim_pad (itoa_last (show 0 ≤ a.t by omega)), trim_pad (itoa_last (show 0 ≤ b.t by omega))] at h2
    rw [atoi_itoa (by omega), atoi_itoa (by omega)] at h2
    exact Option.some.inj h2
  have es : a.c.size = b.c.size := by
    have := a4.symm.trans b4
    have h2 := congrArg (fun l => Lib.atoi (Lib.trimRightB l 32)) this
    simp only [padL, trim_pad (itoa_last (show (0 : Int) ≤ a.c.size by omega)), trim_pad (itoa_last (show (0 : Int) ≤ b.c.size by omega))] at h2
    rw [atoi_itoa (by omega), atoi_itoa (by omega)] at h2
    exact_mod_cast Option.some.inj h2
  have ec : a.c = b.c := by rw [es] at a6; exact ba_ext (a6.symm.trans b6)
  have e : a = b := mb_ext en et ec
  subst e
  exact ⟨rfl, a8.symm.trans b8⟩
theorem flat_inj : ∀ (l q : List Mb), (∀ m ∈ l, Good m) → (∀ m ∈ q, Good m) → l.flatMap oneL = q.flatMap oneL → l = q
  | [], [], _, _, _ => rfl
  | [], b :: q, _, _, h => by rw [List.flatMap_cons] at h; exact absurd (List.append_eq_nil_iff.1 h.symm).1 (one_ne b)
  | a :: l, [], _, _, h => by rw [List.flatMap_cons] at h; exact absurd (List.append_eq_nil_iff.1 h).1 (one_ne a)
  | a :: l, b :: q, hl, hq, h => by
    rw [List.flatMap_cons, List.flatMap_cons] at h
    obtain ⟨rfl, h2⟩ := one_inj (hl a (by simp)) (hq b (by simp)) h
    rw [flat_inj l q (fun m hm => hl m (by simp [hm])) (fun m hm => hq m (by simp [hm])) h2]
theorem arch_one {s : ByteArray} {l q : List Mb} (h : Arch s l) (g : Arch s q) : l = q := by
  have := h.2.symm.trans g.2
  unfold makeL at this
  exact flat_inj l q (fun m hm => good_of h.1 hm) (fun m hm => good_of g.1 hm) (List.append_cancel_left this)
open Classical in
/-- the members of which a text is the archive -/
noncomputable def archOf (s : ByteArray) : Option (List Mb) := if h : ∃ l, Arch s l then some h.choose else none
theorem archOf_some {s : ByteArray} {l : List Mb} (h : Arch s l) : archOf s = some l := by
  have hex : ∃ l, Arch s l := ⟨l, h⟩
  unfold archOf; rw [dif_pos hex, arch_one hex.choose_spec h]
theorem archOf_none {s : ByteArray} (h : ∀ l, ¬ Arch s l) : archOf s = none := by
  unfold archOf; rw [dif_neg (fun ⟨l, hl⟩ => h l hl)]
theorem archOf_get {s : ByteArray} {l : List Mb} (h : archOf s = some l) : Arch s l := by
  unfold archOf at h
  split at h
  · rename_i hex; rw [← Option.some.inj h]; exact hex.choose_spec
  · cases h
theorem archOf_not {s : ByteArray} (h : archOf s = none) : ∀ l, ¬ Arch s l := by
  intro l hl; rw [archOf_some hl] at h; cases h
theorem archOf_make {l : List Mb} (h : makeE l = 0) : archOf ⟨(makeL l).toArray⟩ = some l := archOf_some ⟨h, by simp⟩
end Go.Proofs.YtbcemenfklgnkaaGreatDoor

namespace Go.Proofs.YtbcemenfklgnkaaGreatDoor
open Go.RowKit Go.Maps

theorem less_before : ∀ (a b : List UInt8), Op.bytesLess a b = bytesBefore a b
  | [], [] => rfl
  | [], _ :: _ => rfl
  | _ :: _, [] => rfl
  | a :: r, b :: s => by
    unfold Op.bytesLess bytesBefore
    rw [less_before r s]
/-- Go's <= on two files' names -/
def leN (f x : Fl) : Bool := Op.bytesLess f.n.toList x.n.toList || f.n.toList == x.n.toList
def ltN (f x : Fl) : Bool := bytesBefore f.n.data.toList x.n.data.toList
theorem leN_eq (f x : Fl) : leN f x = (ltN f x || isN x.n f) := by
  unfold leN ltN isN
  rw [less_before, ByteArray.toList_eq, ByteArray.toList_eq]
def neN (f x : Fl) : Bool := !isN f.n x
/-- a round of the document's loop -/
def stepP (f : Fl) (st : List Fl × Bool) (x : Fl) : List Fl × Bool :=
  let s1 := if (!st.2 && leN f x) = true then (st.1 ++ [f], true) else st
  if neN f x = true then (s1.1 ++ [x], s1.2) else s1
def stP (f : Fl) (l : List Fl) : List Fl × Bool := l.foldl (stepP f) ([], false)
def refP (f : Fl) (l : List Fl) : List Fl := if (stP f l).2 = true then (stP f l).1 else (stP f l).1 ++ [f]
theorem stP_snoc {f : Fl} {l : List Fl} {k : Nat} {x : Fl} (h : l[k]? = some x) : stP f (l.take (k + 1)) = stepP f (stP f (l.take k)) x := by
  unfold stP
  rw [List.take_add_one, h, List.foldl_append]; rfl
theorem stepP_11 {f x : Fl} {st : List Fl × Bool} (h1 : st.2 = false) (h2 : leN f x = true) (h3 : neN f x = true) : stepP f st x = (st.1 ++ [f] ++ [x], true) := by
  unfold stepP; rw [h1, h2, h3]; rfl
theorem stepP_10 {f x : Fl} {st : List Fl × Bool} (h1 : st.2 = false) (h2 : leN f x = true) (h3 : neN f x = false) : stepP f st x = (st.1 ++ [f], true) := by
  unfold stepP; rw [h1, h2, h3]; rfl
theorem stepP_01 {f x : Fl} {st : List Fl × Bool} (h1 : st.2 = true ∨ leN f x = false) (h3 : neN f x = true) : stepP f st x = (st.1 ++ [x], st.2) := by
  unfold stepP
  have : (!st.2 && leN f x) = false := by rcases h1 with h | h <;> rw [h] <;> simp
  rw [this, h3]; rfl
theorem stepP_00 {f x : Fl} {st : List Fl × Bool} (h1 : st.2 = true ∨ leN f x = false) (h3 : neN f x = false) : stepP f st x = st := by
  unfold stepP
  have : (!st.2 && leN f x) = false := by rcases h1 with h | h <;> rw [h] <;> simp
  rw [this, h3]; rfl
theorem stP_len (f : Fl) (l : List Fl) : (stP f l).1.length ≤ 2 * l.length := by
  unfold stP
  have : ∀ (l : List Fl) (st : List Fl × Bool), (l.foldl (stepP f) st).1.length ≤ st.1.length + 2 * l.length := by
    intro l
    induction l with
    | nil => intro st; simp
    | cons a r ih =>
      intro st
      rw [List.foldl_cons]
      have h := ih (stepP f st a)
      have h2 : (stepP f st a).1.length ≤ st.1.length + 2 := by
        unfold stepP
        simp only
        split <;> split <;> simp
      simp only [List.length_cons]
      omega
  simpa using this l ([], false)

/-! the document's loop is the putting in order -/
theorem done_tail {f : Fl} : ∀ (l : List Fl) (o : List Fl), l.foldl (stepP f) (o, true) = (o ++ delL l f.n, true)
  | [], o => by simp [delL]
  | a :: r, o => by
    rw [List.foldl_cons]
    by_cases h : neN f a = true
    · rw [stepP_01 (.inl rfl) h, done_tail r]
      unfold neN at h
      have h' : (!isN f.n a) = true := h
      unfold delL
      rw [List.filter_cons, if_pos h']
      simp
    · have h' : neN f a = false := by simpa using h
      rw [stepP_00 (.inl rfl) h', done_tail r]
      have h'' : ¬ (!isN f.n a) = true := by unfold neN at h'; rw [h']; simp
      unfold delL
      rw [List.filter_cons, if_neg h'']
theorem keyS_before (a b : ByteArray) : (keyS a).before (keyS b) = bytesBefore a.data.toList b.data.toList := rfl
theorem insL_first {f : Fl} : ∀ {l : List Fl}, (∀ y ∈ l, ltN f y = true) → insL f l = f :: l
  | [], _ => rfl
  | a :: r, h => by
    unfold insL
    rw [keyS_before, if_pos (show bytesBefore f.n.data.toList a.n.data.toList = true from h a (by simp))]
theorem refP_go {f : Fl} : ∀ (l : List Fl) (o : List Fl), (l.Pairwise fun a b => ltN a b = true) →
    (if (l.foldl (stepP f) (o, false)).2 = true then (l.foldl (stepP f) (o, false)).1 else (l.foldl (stepP f) (o, false)).1 ++ [f]) = o ++ putL l f
  | [], o, _ => by simp [putL, delL, insL]
  | a :: r, o, h => by
    obtain ⟨ha, hr⟩ := List.pairwise_cons.1 h
    rw [List.foldl_cons]
    by_cases h1 : leN f a = true
    · have hb : ∀ y ∈ r, ltN f y = true := by
        intro y hy
        rw [leN_eq, Bool.or_eq_true] at h1
        rcases h1 with h1 | h1
        · exact Go.WideShapes.bytes_trans _ _ _ h1 (ha y hy)
        · have e := isN_iff.1 h1
          have := ha y hy
          unfold ltN at this ⊢
          rw [e]; exact this
      have hrd : delL r f.n = r := by
        unfold delL
        rw [List.filter_eq_self]
        intro y hy
        have := hb y hy
        rw [isN_other (fun e => by unfold ltN at this; rw [e, WideAt.bytes_irrefl] at this; cases this)]
        rfl
      by_cases h3 : neN f a = true
      · rw [stepP_11 rfl h1 h3, done_tail, if_pos rfl, hrd]
        have h3' : (!isN f.n a) = true := h3
        have hdel : delL (a :: r) f.n = a :: r := by
          have e1 : delL (a :: r) f.n = if (!isN f.n a) = true then a :: delL r f.n else delL r f.n := by unfold delL; rw [List.filter_cons]
          rw [e1, if_pos h3', hrd]
        unfold putL
        rw [hdel, insL_first]
        · simp
        · intro y hy
          rcases List.mem_cons.1 hy with rfl | hy
          · rw [leN_eq, Bool.or_eq_true] at h1
            rcases h1 with h1 | h1
            · exact h1
            · have e := isN_iff.1 h1
              rw [isN_iff.2 e.symm] at h3'; cases h3'
          · exact hb y hy
      · have h3' : neN f a = false := by simpa using h3
        rw [stepP_10 rfl h1 h3', done_tail, if_pos rfl, hrd]
        have hdel : delL (a :: r) f.n = r := by
          have e1 : delL (a :: r) f.n = if (!isN f.n a) = true then a :: delL r f.n else delL r f.n := by unfold delL; rw [List.filter_cons]
          have : ¬ (!isN f.n a) = true := by unfold neN at h3'; rw [h3']; simp
          rw [e1, if_neg this, hrd]
        unfold putL
        rw [hdel, insL_first hb]
        simp
    · have h1' : leN f a = false := by simpa using h1
      have hlt : ltN f a = false ∧ isN a.n f = false := by
        rw [leN_eq, Bool.or_eq_false_iff] at h1'; exact h1'
      have hne : f.n ≠ a.n := fun e => by rw [isN_iff.2 e] at hlt; cases hlt.2
      have h3 : neN f a = true := by unfold neN; rw [isN_other (fun e => hne e.symm)]; rfl
      rw [stepP_01 (.inr h1') h3, refP_go r (o ++ [a]) hr]
      have e1 : delL (a :: r) f.n = a :: delL r f.n := by
        have : delL (a :: r) f.n = if (!isN f.n a) = true then a :: delL r f.n else delL r f.n := by unfold delL; rw [List.filter_cons]
        have h3' : (!isN f.n a) = true := h3
        rw [this, if_pos h3']
      have e2 : putL (a :: r) f = a :: putL r f := by
        unfold putL
        rw [e1]
        have : insL f (a :: delL r f.n) = if (keyS f.n).before (keyS a.n) = true then f :: a :: delL r f.n else a :: insL f (delL r f.n) := rfl
        rw [this, keyS_before, if_neg (by have := hlt.1; unfold ltN at this; rw [this]; simp)]
      rw [e2]; simp
theorem refP_eq {f : Fl} {l : List Fl} (h : l.Pairwise fun a b => ltN a b = true) : refP f l = putL l f := by
  have := refP_go (f := f) l [] h
  unfold refP stP
  rw [this]; simp
end Go.Proofs.YtbcemenfklgnkaaGreatDoor
