/- Attributes, plainly: a letter's number, flags put one to another, the document's attributes of a text from the left and the program's (ahead of the first P, behind it), the letters of flags; what is right is parsed from its text as it was. Bits of any two numbers. -/
import Derived.Laws.BitsLemmas
import Derived.Laws.Bits64b
import Derived.Laws.BitsAllLaws
import Derived.Lib.IndexMore
import Derived.Lib.IndexAny
import Derived.Lib.Strings
namespace Go.Proofs.YtdganemgldocoaaGreatDoor
open Go

/-- a letter's number; 0: it is none -/
def vlA (b : UInt8) : Nat :=
  if b = 68 then 1 else if b = 69 then 2 else if b = 78 then 4 else if b = 110 then 8 else if b = 81 then 16 else if b = 82 then 32 else if b = 85 then 64 else if b = 86 then 128 else 0
/-- a flag put to flags -/
def adA (f v : Nat) : Nat := if f / v % 2 = 1 then f else f + v
/-- the document's way: from the left -/
def docA : Nat → List UInt8 → Except Nat (Nat × List UInt8)
  | f, [] => .ok (f, [])
  | f, c :: s => if c = 80 then (if s = [] then .error 7 else if 120 < s.length then .error 2 else .ok (f, s)) else if vlA c = 0 then .error 7 else docA (adA f (vlA c)) s
/-- the flags of letters, if each is one -/
def flA : Nat → List UInt8 → Option Nat
  | f, [] => some f
  | f, c :: s => if vlA c = 0 then none else flA (f ||| vlA c) s
/-- the program's way: letters, what stands behind the P, whether there is one -/
def parA (t p : List UInt8) (b : Bool) : Except Nat (Nat × List UInt8) :=
  match flA 0 t with
  | none => .error 7
  | some f => if b = true ∧ p = [] then .error 7 else if 120 < p.length then .error 2 else .ok (f, p)
def notP (b : UInt8) : Bool := b != 80
/-- ahead of the first P, behind it, is there one -/
def cutA : List UInt8 → List UInt8 × List UInt8 × Bool
  | [] => ([], [], false)
  | c :: s => if c = 80 then ([], s, true) else (c :: (cutA s).1, (cutA s).2.1, (cutA s).2.2)

theorem or_ad : ∀ (f v : Fin 256), (v.val = 1 ∨ v.val = 2 ∨ v.val = 4 ∨ v.val = 8 ∨ v.val = 16 ∨ v.val = 32 ∨ v.val = 64 ∨ v.val = 128) → adA f.val v.val = f.val ||| v.val := by
  intro f v h
  have key : ∀ f : Fin 256, ∀ v ∈ [1, 2, 4, 8, 16, 32, 64, 128], adA f.val v = f.val ||| v := by decide +kernel
  exact key f v.val (by simpa using h)
theorem vl_of (b : UInt8) : vlA b = 0 ∨ (vlA b = 1 ∨ vlA b = 2 ∨ vlA b = 4 ∨ vlA b = 8 ∨ vlA b = 16 ∨ vlA b = 32 ∨ vlA b = 64 ∨ vlA b = 128) := by
  unfold vlA
  repeat' split
  all_goals simp
theorem vl_lt (b : UInt8) : vlA b < 256 := by have := vl_of b; omega
theorem or_lt {f v : Nat} (hf : f < 256) (hv : v < 256) : f ||| v < 256 := Nat.or_lt_two_pow (n := 8) hf hv
theorem ad_or {f : Nat} {b : UInt8} (hf : f < 256) (hb : vlA b ≠ 0) : adA f (vlA b) = f ||| vlA b :=
  or_ad ⟨f, hf⟩ ⟨vlA b, vl_lt b⟩ ((vl_of b).resolve_left hb)
theorem fl_lt : ∀ {t : List UInt8} {f g : Nat}, f < 256 → flA f t = some g → g < 256
  | [], f, g, hf, h => by cases h; exact hf
  | c :: t, f, g, hf, h => by
    unfold flA at h
    split at h
    · cases h
    · exact fl_lt (or_lt hf (vl_lt c)) h
theorem doc_par : ∀ (s : List UInt8) (f : Nat), f < 256 → docA f s = match flA f (cutA s).1 with
    | none => .error 7
    | some g => if (cutA s).2.2 = true ∧ (cutA s).2.1 = [] then .error 7 else if 120 < (cutA s).2.1.length then .error 2 else .ok (g, (cutA s).2.1)
  | [], f, _ => by simp [docA, cutA, flA]
  | c :: s, f, hf => by
    unfold docA cutA
    by_cases h80 : c = 80
    · rw [if_pos h80, if_pos h80]
      simp [flA]
    · rw [if_neg h80, if_neg h80]
      unfold flA
      by_cases h0 : vlA c = 0
      · rw [if_pos h0]; simp [h0]
      · rw [if_neg h0, ad_or hf h0, doc_par s _ (or_lt hf (vl_lt c))]
        simp only [h0, if_false]
theorem cut_le : ∀ s : List UInt8, (cutA s).1.length ≤ s.length ∧ (cutA s).2.1.length ≤ s.length ∧ ((cutA s).2.2 = false → (cutA s).2.1 = [])
  | [] => ⟨Nat.le_refl _, Nat.le_refl _, fun _ => rfl⟩
  | c :: s => by
    obtain ⟨h1, h2, h3⟩ := cut_le s
    unfold cutA
    by_cases h : c = 80
    · rw [if_pos h]
      exact ⟨Nat.zero_le _, Nat.le_succ _, fun h => by cases h⟩
    · rw [if_neg h]
      exact ⟨Nat.succ_le_succ h1, Nat.le_succ_of_le h2, h3⟩
/-- both ways come to one -/
theorem par_doc (s : List UInt8) : parA (cutA s).1 (cutA s).2.1 (cutA s).2.2 = docA 0 s := (doc_par s 0 (by omega)).symm
theorem doc_lt : ∀ {s : List UInt8} {f g : Nat} {p : List UInt8}, f < 256 → docA f s = .ok (g, p) → g < 256 := by
  intro s f g p hf h
  rw [doc_par s f hf] at h
  cases hc : flA f (cutA s).1 with
  | none => rw [hc] at h; cases h
  | some k =>
    rw [hc] at h
    simp only at h
    split at h
    · cases h
    · split at h
      · cases h
      · cases h; exact fl_lt hf hc
theorem doc_err : ∀ {s : List UInt8} {f e : Nat}, docA f s = .error e → e = 7 ∨ e = 2
  | [], f, e, h => by cases h
  | c :: s, f, e, h => by
    unfold docA at h
    split at h
    · split at h
      · cases h; exact .inl rfl
      · split at h
        · cases h; exact .inr rfl
        · cases h
    · split at h
      · cases h; exact .inl rfl
      · exact doc_err h
/-- the library's cut at a P -/
theorem cut_lib : ∀ s : List UInt8, Lib.cut s [80] = cutA s
  | [] => rfl
  | c :: s => by
    have ih := cut_lib s
    unfold cutA
    unfold Lib.cut at ih ⊢
    rw [Lib.index_one] at ih ⊢
    have hg := Lib.indexByte_ge s 80
    by_cases h80 : c = 80
    · subst h80
      have e : Lib.indexByte ((80 : UInt8) :: s) 80 = 0 := by simp [Lib.indexByte]
      rw [e]
      rfl
    · rw [if_neg h80, ← ih]
      by_cases hm : Lib.indexByte s 80 = -1
      · have e : Lib.indexByte (c :: s) 80 = -1 := by simp [Lib.indexByte, h80, hm]
        rw [e, hm]
        rfl
      · obtain ⟨q, hq⟩ : ∃ q : Nat, Lib.indexByte s 80 = q := ⟨(Lib.indexByte s 80).toNat, by omega⟩
        have e : Lib.indexByte (c :: s) 80 = (q + 1 : Nat) := by simp [Lib.indexByte, h80, hq]
        rw [e, hq, if_pos (by omega), if_pos (by omega), Int.toNat_natCast, Int.toNat_natCast]
        simp
/-- the flags' letters, in their order -/
def bitA : List (UInt8 × Nat) := [(68, 1), (69, 2), (78, 4), (110, 8), (81, 16), (82, 32), (85, 64), (86, 128)]
/-- the letters of flags -/
def ltA (f : Nat) : List UInt8 := (bitA.filter fun x => decide (f / x.2 % 2 = 1)).map (·.1)
/-- attributes' letters -/
def txA (f : Nat) (p : List UInt8) : List UInt8 := ltA f ++ (if p = [] then [] else 80 :: p)
theorem lt_fl : ∀ f : Fin 256, flA 0 (ltA f.val) = some f.val ∧ (ltA f.val).all notP = true := by decide +kernel
theorem cut_ahead : ∀ {t : List UInt8} (r : List UInt8), t.all notP = true → cutA (t ++ r) = (t ++ (cutA r).1, (cutA r).2.1, (cutA r).2.2)
  | [], r, _ => rfl
  | c :: t, r, h => by
    rw [List.all_cons, Bool.and_eq_true] at h
    have hc : c ≠ 80 := by have := h.1; unfold notP at this; simpa using this
    rw [List.cons_append, cutA, if_neg hc, cut_ahead r h.2]
    rfl
/-- P18.2, plainly -/
theorem tx_back {f : Nat} {p : List UInt8} (hf : f < 256) (hp : p.length ≤ 120) : docA 0 (txA f p) = .ok (f, p) := by
  obtain ⟨h1, h2⟩ := lt_fl ⟨f, hf⟩
  have h1 : flA 0 (ltA f) = some f := h1
  have h2 : (ltA f).all notP = true := h2
  rw [← par_doc]
  unfold txA
  by_cases h : p = []
  · subst h
    rw [if_pos rfl, cut_ahead _ h2]
    unfold parA
    simp [cutA, h1]
  · rw [if_neg h, cut_ahead _ h2]
    unfold parA
    have : cutA (80 :: p) = ([], p, true) := by rw [cutA, if_pos rfl]
    rw [this]
    simp only [List.append_nil, h1]
    rw [if_neg (by simp [h]), if_neg (by omega)]
theorem lt_len : ∀ f : Fin 256, (ltA f.val).length ≤ 8 := by decide +kernel

/-- two numbers' bits as one number -/
theorem wrap_toInt (x : BitVec 64) : IntKind.i64.wrap (x.toNat : Int) = x.toInt := by
  rw [IntKind.wrap_i64, BitVec.toInt_eq_toNat_cond]
  have := x.isLt
  split <;> omega
theorem i_or (x y : Int) : bits .or .i64 x y = (BitVec.ofInt 64 x ||| BitVec.ofInt 64 y).toInt := wrap_toInt _
theorem i_and (x y : Int) : bits .and .i64 x y = (BitVec.ofInt 64 x &&& BitVec.ofInt 64 y).toInt := wrap_toInt _
theorem of_toInt (x : BitVec 64) : BitVec.ofInt 64 x.toInt = x := BitVec.ofInt_toInt
theorem toInt_of {x : Int} (h1 : -9223372036854775808 ≤ x) (h2 : x ≤ 9223372036854775807) : (BitVec.ofInt 64 x).toInt = x := by
  rw [BitVec.toInt_ofInt]
  exact Int.bmod_eq_of_le (by omega) (by omega)
/-- all bits of the first number are in both's -/
theorem or_and_left {x y : Int} (h1 : -9223372036854775808 ≤ x) (h2 : x ≤ 9223372036854775807) : bits .and .i64 (bits .or .i64 x y) x = x := by
  rw [i_or, i_and, of_toInt]
  have e : (BitVec.ofInt 64 x ||| BitVec.ofInt 64 y) &&& BitVec.ofInt 64 x = BitVec.ofInt 64 x := by
    ext i
    simp
    intro h; exact .inl h
  rw [e, toInt_of h1 h2]
theorem or_and_right {x y : Int} (h1 : -9223372036854775808 ≤ y) (h2 : y ≤ 9223372036854775807) : bits .and .i64 (bits .or .i64 x y) y = y := by
  rw [i_or, i_and, of_toInt]
  have e : (BitVec.ofInt 64 x ||| BitVec.ofInt 64 y) &&& BitVec.ofInt 64 y = BitVec.ofInt 64 y := by
    ext i
    simp
    intro h; exact .inr h
  rw [e, toInt_of h1 h2]
theorem or_self_i (x y : Int) : bits .or .i64 (bits .or .i64 x y) (bits .or .i64 x y) = bits .or .i64 x y := by
  rw [i_or x y, i_or, of_toInt]
  rw [BitVec.or_self]
theorem or_range (x y : Int) : -9223372036854775808 ≤ bits .or .i64 x y ∧ bits .or .i64 x y ≤ 9223372036854775807 := by
  rw [i_or]
  generalize BitVec.ofInt 64 x ||| BitVec.ofInt 64 y = z
  have h1 := z.toInt_lt
  have h2 := z.le_toInt
  omega
theorem nat_or {f v : Nat} (hf : f < 256) (hv : v < 256) : bits .or .i64 (f : Int) (v : Int) = ((f ||| v : Nat) : Int) := by
  have h := or_lt hf hv
  rw [i_or, BitVec.ofInt_natCast, BitVec.ofInt_natCast, ← BitVec.ofNat_or, BitVec.toInt_ofNat']
  exact Int.bmod_eq_of_le (by omega) (by omega)
theorem nat_and {f v : Nat} (hv : v < 256) : bits .and .i64 (f : Int) (v : Int) = ((f &&& v : Nat) : Int) := by
  have h : f &&& v < 256 := Nat.and_lt_two_pow (n := 8) _ hv
  rw [i_and, BitVec.ofInt_natCast, BitVec.ofInt_natCast, ← BitVec.ofNat_and, BitVec.toInt_ofNat']
  exact Int.bmod_eq_of_le (by omega) (by omega)
/-- a flag is among flags: by bits, by dividing -/
theorem has_div : ∀ f : Fin 256, ∀ v ∈ [1, 2, 4, 8, 16, 32, 64, 128], (f.val &&& v = v ↔ f.val / v % 2 = 1) := by decide +kernel
/-- what a call answers: the flags, the program, the error's number -/
def ansA (x : Except Nat (Nat × List UInt8)) : Nat × ByteArray × Nat :=
  match x with
  | .ok (f, p) => (f, ⟨p.toArray⟩, 0)
  | .error k => (0, ⟨#[]⟩, k)
theorem rest_a (s : ByteArray) (j : Nat) : (s.extract j s.size).data.toList = s.data.toList.drop j := by
  have e1 : (s.extract j s.size).data.toList = (s.data.toList.drop j).take (s.size - j) := by simp
  rw [e1, List.take_of_length_le (by simp)]
theorem cons_a {s : ByteArray} (h : 0 < s.size) : s.data.toList = s[0] :: (s.extract 1 s.size).data.toList := by
  have h2 : 0 < s.data.toList.length := by simpa using h
  rw [rest_a]
  have := List.drop_eq_getElem_cons h2
  show s.data.toList = s.data[0]'h :: s.data.toList.drop 1
  simpa using this
theorem none_a {s : ByteArray} (h : ¬ 0 < s.size) : s.data.toList = [] := List.eq_nil_of_length_eq_zero (show s.data.toList.length = 0 by simpa using h)
theorem nil_a {s : ByteArray} (h : s.size = 0) : s = ⟨#[]⟩ := by
  obtain ⟨⟨l⟩⟩ := s
  cases l with
  | nil => rfl
  | cons a t => simp [ByteArray.size] at h
theorem full_a {s : ByteArray} (h : s.size ≠ 0) : s.data.toList ≠ [] ∧ s.toList.isEmpty = false ∧ ¬s.toList = [] := by
  have h1 : s.data.toList ≠ [] := by
    intro e
    have h2 : s.data.toList.length = s.size := by simp
    rw [e] at h2
    exact h h2.symm
  have h3 : s.toList ≠ [] := by rw [Lib.toList_data]; exact h1
  exact ⟨h1, by rw [List.isEmpty_eq_false_iff]; exact h3, h3⟩
theorem ba_of {s : ByteArray} {l : List UInt8} (h : s.data.toList = l) : s = ⟨l.toArray⟩ := by subst h; simp
theorem ans_err {x : Except Nat (Nat × List UInt8)} {k : Nat} (h : x = .error k) : ansA x = (0, ⟨#[]⟩, k) := by subst h; rfl
theorem ans_ok {x : Except Nat (Nat × List UInt8)} {f : Nat} {p : ByteArray} (h : x = .ok (f, p.data.toList)) : ansA x = (f, p, 0) := by subst h; simp [ansA]
theorem vl_mem {b : UInt8} (h : vlA b ≠ 0) : vlA b ∈ [1, 2, 4, 8, 16, 32, 64, 128] := by have := vl_of b; simp; omega
/-- the letters of flags, of the first ones that are asked -/
def ltJ (f j : Nat) : List UInt8 := ((bitA.take j).filter fun x => decide (f / x.2 % 2 = 1)).map (·.1)
theorem ltJ_len (f j : Nat) : (ltJ f j).length ≤ j := by
  unfold ltJ
  rw [List.length_map]
  exact Nat.le_trans (List.length_filter_le _ _) (by simp; omega)
theorem ltJ_end {f j : Nat} (h : ¬ j < 8) : ltJ f j = ltA f := by
  unfold ltJ ltA
  rw [List.take_of_length_le (by simp [bitA]; omega)]
/-- a letter and its flag -/
def bitL (j : Nat) : UInt8 := (bitA.getD j (0, 0)).1
def bitF (j : Nat) : Nat := (bitA.getD j (0, 0)).2
theorem ltJ_on {f j : Nat} (h : j < 8) : ltJ f (j + 1) = ltJ f j ++ (if f / bitF j % 2 = 1 then [bitL j] else []) := by
  unfold ltJ
  have e : bitA.take (j + 1) = bitA.take j ++ [(bitL j, bitF j)] := by
    rw [List.take_add_one]
    congr 1
    unfold bitL bitF
    have hl : j < bitA.length := by simpa [bitA] using h
    rw [List.getD_eq_getElem?_getD, List.getElem?_eq_getElem hl]
    rfl
  rw [e, List.filter_append, List.map_append]
  congr 1
  by_cases hb : f / bitF j % 2 = 1 <;> simp [hb]
theorem vl_none {b : UInt8} (h : ∀ j, j < 8 → bitL j ≠ b) : vlA b = 0 := by
  have h0 : (68 : UInt8) ≠ b := h 0 (by omega)
  have h1 : (69 : UInt8) ≠ b := h 1 (by omega)
  have h2 : (78 : UInt8) ≠ b := h 2 (by omega)
  have h3 : (110 : UInt8) ≠ b := h 3 (by omega)
  have h4 : (81 : UInt8) ≠ b := h 4 (by omega)
  have h5 : (82 : UInt8) ≠ b := h 5 (by omega)
  have h6 : (85 : UInt8) ≠ b := h 6 (by omega)
  have h7 : (86 : UInt8) ≠ b := h 7 (by omega)
  unfold vlA
  rw [if_neg h0.symm, if_neg h1.symm, if_neg h2.symm, if_neg h3.symm, if_neg h4.symm, if_neg h5.symm, if_neg h6.symm, if_neg h7.symm]
theorem bit_vl : ∀ j : Fin 8, vlA (bitL j.val) = bitF j.val ∧ bitF j.val ∈ [1, 2, 4, 8, 16, 32, 64, 128] := by decide +kernel
end Go.Proofs.YtdganemgldocoaaGreatDoor
