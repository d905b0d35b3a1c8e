/- Plain facts on members and archives that need nothing of the translated code. -/
import Derived.Test.YtgicfbhhnohndaaGreatDoorPlain
import Derived.Lib.ItoaNum
import Derived.Lib.Atoi
import Derived.Lib.TrimByte
import Derived.Lib.IndexAny
import Derived.Lib.RepeatB
namespace Go.Proofs.YtgicfbhhnohndaaGreatDoor
open Go.RowKit

/-- a member -/
structure Mb where
  n : ByteArray
  t : Int
  c : ByteArray
instance : Inhabited Mb := ⟨⟨⟨#[]⟩, 0, ⟨#[]⟩⟩⟩
def nilM : Mb := ⟨⟨#[]⟩, 0, ⟨#[]⟩⟩
theorem mb_ext {a b : Mb} (h1 : a.n = b.n) (h2 : a.t = b.t) (h3 : a.c = b.c) : a = b := by cases a; cases b; simp_all

/-! ### names and times -/
def brc (c : UInt8) : Bool := ((c.toNat : Int) == 47) || ((c.toNat : Int) == 40) || ((c.toNat : Int) == 41)
def namc (c : UInt8) : Bool := okc c && !brc c
def nameB (s : ByteArray) : Bool := decide (1 ≤ s.size) && decide (s.size ≤ 15) && s.data.toList.all namc
def timeB (t : Int) : Bool := decide (1 ≤ t) && decide (t ≤ 549755813888)
theorem time_iff (t : Int) : timeB t = true ↔ 1 ≤ t ∧ t ≤ 549755813888 := by unfold timeB; simp
theorem time_not (t : Int) : timeB t = false ↔ t < 1 ∨ 549755813888 < t := by
  rw [← Bool.not_eq_true, time_iff]; omega
theorem brc_eq (c : UInt8) : brc c = [(47 : UInt8), 40, 41].contains c := by
  have e : ∀ k : UInt8, ((c.toNat : Int) == (k.toNat : Int)) = (c == k) := fun k => by rw [Bool.eq_iff_iff, u8_eq, beq_iff_eq]
  have e1 := e 47; have e2 := e 40; have e3 := e 41
  unfold brc
  simp only [List.contains_cons, List.contains_nil, Bool.or_false]
  rw [show ((47 : UInt8).toNat : Int) = 47 by rfl] at e1
  rw [show ((40 : UInt8).toNat : Int) = 40 by rfl] at e2
  rw [show ((41 : UInt8).toNat : Int) = 41 by rfl] at e3
  rw [e1, e2, e3, Bool.or_assoc]
theorem anyOf (cs : List UInt8) : ∀ l : List UInt8, Lib.containsAny l cs = l.any (fun c => cs.contains c)
  | [] => by simp [Lib.containsAny, Lib.indexAny]
  | b :: l => by
    have ih := anyOf cs l
    unfold Lib.containsAny at ih ⊢
    rw [Lib.indexAny, List.any_cons]
    cases h : cs.contains b
    · rw [if_neg (by simp), Bool.false_or, ← ih]
      have := Lib.indexAny_ge cs l
      by_cases e : Lib.indexAny l cs = -1
      · rw [if_pos (by simp [e]), e]
      · rw [if_neg (by simp [e])]
        congr 1
        exact propext ⟨fun _ => by omega, fun _ => by omega⟩
    · rw [if_pos rfl]; simp
theorem name_eq (s : ByteArray) : nameB s = (rightB s && decide (s.size ≤ 15) && !Lib.containsAny s.data.toList [47, 40, 41]) := by
  rw [anyOf, Bool.eq_iff_iff]
  unfold nameB rightB
  simp only [Bool.and_eq_true, decide_eq_true_eq, List.all_eq_true, Bool.not_eq_true', List.any_eq_false, namc, Bool.not_eq_true]
  constructor
  · rintro ⟨⟨h1, h2⟩, h3⟩
    exact ⟨⟨⟨⟨h1, by omega⟩, fun c hc => (h3 c hc).1⟩, h2⟩, fun c hc => by rw [← brc_eq]; exact (h3 c hc).2⟩
  · rintro ⟨⟨⟨⟨h1, -⟩, h3⟩, h2⟩, h4⟩
    exact ⟨⟨h1, h2⟩, fun c hc => ⟨h3 c hc, by rw [brc_eq]; exact h4 c hc⟩⟩
theorem name_no {s : ByteArray} (h : rightB s = false) : nameB s = false := by rw [name_eq, h]; rfl
theorem name_long {s : ByteArray} (h : 15 < s.size) : nameB s = false := by
  unfold nameB; rw [show decide (s.size ≤ 15) = false from decide_eq_false (by omega)]; simp
theorem name_any {s : ByteArray} (h : rightB s = true) (h2 : s.size ≤ 15) : nameB s = !Lib.containsAny s.data.toList [47, 40, 41] := by
  rw [name_eq, h, decide_eq_true h2]; rfl
theorem right_ascii {s : ByteArray} (h : rightB s = true) : ∀ (j : Nat) b, s.data.toList[j]? = some b → b.toNat < 128 := by
  intro j b hb
  unfold rightB at h
  simp only [Bool.and_eq_true, List.all_eq_true] at h
  have := h.2 b (List.mem_of_getElem? hb)
  unfold okc at this
  simp only [Bool.and_eq_true, decide_eq_true_eq] at this
  omega
theorem name_lo {s : ByteArray} (h : nameB s = true) : 1 ≤ s.size ∧ s.size ≤ 15 ∧ ∀ c ∈ s.data.toList, namc c = true := by
  unfold nameB at h
  simp only [Bool.and_eq_true, decide_eq_true_eq, List.all_eq_true] at h
  exact ⟨h.1.1, h.1.2, h.2⟩
theorem namc_ne {c : UInt8} (h : namc c = true) : c ≠ 32 := by
  rintro rfl; revert h; decide
theorem name_bad (s : ByteArray) (k : Nat) (h : k < s.size) (hc : namc s[k] = false) : nameB s = false := by
  unfold nameB
  have : s.data.toList.all namc = false := by
    rw [List.all_eq_false]; exact ⟨_, getElem_mem s k h, by simp [hc]⟩
  rw [this]; simp
theorem name_end (s : ByteArray) (k : Nat) (hk : s.size ≤ k) (ha : (s.data.toList.take k).all namc = true) : nameB s = (decide (1 ≤ s.size) && decide (s.size ≤ 15)) := by
  rw [take_all s k hk] at ha
  unfold nameB; rw [ha, Bool.and_true]

/-! ### figures and blanks -/
def padL (l : List UInt8) (n : Nat) : List UInt8 := l ++ List.replicate (n - l.length) 32
theorem pad_len {l : List UInt8} {n : Nat} (h : l.length ≤ n) : (padL l n).length = n := by unfold padL; simp; omega
theorem nDigits_le : ∀ (k u : Nat), u < 10 ^ (k + 1) → Lib.nDigits u ≤ k + 1
  | 0, u, h => by rw [Lib.nDigits_small (by simpa using h)]; exact Nat.le_refl _
  | k + 1, u, h => by
    by_cases h1 : u < 10
    · rw [Lib.nDigits_small h1]; omega
    · rw [Lib.nDigits_big h1]
      have := nDigits_le k (u / 10) (by rw [Nat.pow_succ] at h; omega)
      omega
theorem itoa_nat (u : Nat) : Lib.itoa (u : Int) = Lib.decDigits u := by unfold Lib.itoa; rw [if_neg (by omega)]; simp
theorem itoa_len {n : Int} {k : Nat} (h0 : 0 ≤ n) (h : n < (10 ^ (k + 1) : Nat)) : (Lib.itoa n).length ≤ k + 1 := by
  obtain ⟨u, rfl⟩ := Int.eq_ofNat_of_zero_le h0
  rw [itoa_nat, Lib.decDigits_length]
  exact nDigits_le k u (by exact_mod_cast h)
theorem dig_val (d : Nat) (h : d < 10) : Lib.digitVal (UInt8.ofNat (48 + d)) = some d := by
  have : ∀ d : Fin 10, Lib.digitVal (UInt8.ofNat (48 + d.1)) = some d.1 := by decide
  exact this ⟨d, h⟩
theorem decFrom_app : ∀ (l r : List UInt8) (acc : Nat), Lib.decFrom acc (l ++ r) = (Lib.decFrom acc l).bind fun m => Lib.decFrom m r
  | [], r, acc => rfl
  | b :: l, r, acc => by
    rw [List.cons_append, Lib.decFrom, Lib.decFrom]
    cases h : Lib.digitVal b with
    | none => rfl
    | some d => exact decFrom_app l r _
theorem decFrom_digits (u : Nat) : Lib.decFrom 0 (Lib.decDigits u) = some u := by
  induction u using Nat.strongRecOn with
  | _ u ih =>
    by_cases h : u < 10
    · rw [Lib.decDigits_one h, Lib.decFrom, dig_val u h]; simp [Lib.decFrom]
    · rw [Lib.decDigits, dif_neg h, decFrom_app, ih (u / 10) (by omega)]
      simp only [Option.bind_some]
      rw [Lib.decFrom, dig_val _ (by omega)]
      simp only [Lib.decFrom]
      congr 1; omega
theorem digits_all (u : Nat) : ∀ c ∈ Lib.decDigits u, 48 ≤ c.toNat ∧ c.toNat ≤ 57 := by
  intro c hc
  obtain ⟨k, hk⟩ := List.getElem?_of_mem hc
  obtain ⟨d, hd⟩ := Lib.digit_of_decFrom _ _ _ (decFrom_digits u) k c hk
  have := Lib.digitVal_eq hd
  exact ⟨this.1, this.2.1⟩
theorem digits_ne (u : Nat) : Lib.decDigits u ≠ [] := by
  intro h
  have := Lib.decDigits_length u
  rw [h] at this
  have := Lib.nDigits_pos u
  simp at *; omega
theorem atoi_nat (u : Nat) : Lib.atoi (Lib.decDigits u) = some (u : Int) := by
  have h1 := digits_all u
  have h2 := decFrom_digits u
  have h3 := digits_ne u
  generalize Lib.decDigits u = l at h1 h2 h3
  cases l with
  | nil => exact absurd rfl h3
  | cons b r =>
    have hb := h1 b (by simp)
    unfold Lib.atoi
    have n1 : (b == 45) = false := by rw [beq_eq_false_iff_ne]; rintro rfl; revert hb; decide
    have n2 : (b == 43) = false := by rw [beq_eq_false_iff_ne]; rintro rfl; revert hb; decide
    simp only [n1, n2, Bool.false_eq_true, if_false]
    unfold Lib.decNat
    rw [h2]; rfl
theorem atoi_itoa {n : Int} (h : 0 ≤ n) : Lib.atoi (Lib.itoa n) = some n := by
  obtain ⟨u, rfl⟩ := Int.eq_ofNat_of_zero_le h
  rw [itoa_nat]; exact atoi_nat u
theorem digits_snoc {n d : Nat} (hn : 0 < n) (hd : d < 10) : Lib.decDigits (n * 10 + d) = Lib.decDigits n ++ [UInt8.ofNat (48 + d)] := by
  rw [Lib.decDigits, dif_neg (by omega), show (n * 10 + d) / 10 = n by omega, show (n * 10 + d) % 10 = d by omega]
theorem digits_head {u : Nat} (h : (Lib.decDigits u)[0]? = some 48) : u = 0 := by
  induction u using Nat.strongRecOn with
  | _ u ih =>
    by_cases h1 : u < 10
    · rw [Lib.decDigits_one h1] at h
      have : ∀ d : Fin 10, ([UInt8.ofNat (48 + d.1)] : List UInt8)[0]? = some 48 → d.1 = 0 := by decide
      exact this ⟨u, h1⟩ h
    · rw [Lib.decDigits, dif_neg h1] at h
      have hl := Lib.decDigits_length (u / 10)
      have hp := Lib.nDigits_pos (u / 10)
      rw [List.getElem?_append_left (by omega)] at h
      have := ih (u / 10) (by omega) h
      omega
theorem trim_pad {l : List UInt8} (h : ∀ c, l.getLast? = some c → c ≠ 32) (k : Nat) : Lib.trimRightB (l ++ List.replicate k 32) 32 = l := by
  unfold Lib.trimRightB
  rw [List.reverse_append, List.reverse_replicate]
  have e : ∀ k : Nat, List.dropWhile (· == (32 : UInt8)) (List.replicate k 32 ++ l.reverse) = List.dropWhile (· == (32 : UInt8)) l.reverse := by
    intro k
    induction k with
    | zero => rfl
    | succ k ih => rw [List.replicate_succ, List.cons_append, List.dropWhile_cons_of_pos (by simp), ih]
  rw [e]
  cases hr : l.reverse with
  | nil => rw [List.reverse_eq_nil_iff] at hr; rw [hr]; rfl
  | cons c r =>
    have hc : c ≠ 32 := h c (by rw [← List.head?_reverse, hr]; rfl)
    rw [List.dropWhile_cons_of_neg (by simpa using hc), ← hr, List.reverse_reverse]
theorem pad_trim (l : List UInt8) : ∃ k, l = Lib.trimRightB l 32 ++ List.replicate k 32 := by
  unfold Lib.trimRightB
  refine ⟨(l.reverse.takeWhile (· == (32 : UInt8))).length, ?_⟩
  have h1 : l.reverse.takeWhile (· == (32 : UInt8)) = List.replicate (l.reverse.takeWhile (· == (32 : UInt8))).length 32 := by
    rw [List.eq_replicate_iff]
    refine ⟨rfl, fun b hb => ?_⟩
    have := List.all_takeWhile (p := (· == (32 : UInt8))) (l := l.reverse)
    rw [List.all_eq_true] at this
    simpa using this b hb
  have h2 := List.takeWhile_append_dropWhile (p := (· == (32 : UInt8))) (l := l.reverse)
  rw [h1] at h2
  have h3 := congrArg List.reverse h2
  rw [List.reverse_append, List.reverse_reverse, List.reverse_replicate] at h3
  exact h3.symm
theorem trim_len (l : List UInt8) : (Lib.trimRightB l 32).length ≤ l.length := by
  obtain ⟨k, h⟩ := pad_trim l
  have := congrArg List.length h
  rw [List.length_append] at this; omega
theorem pad_of_trim (l : List UInt8) (n : Nat) (h : l.length = n) : padL (Lib.trimRightB l 32) n = l := by
  obtain ⟨k, hk⟩ := pad_trim l
  have hl := congrArg List.length hk
  rw [List.length_append, List.length_replicate] at hl
  unfold padL
  rw [show n - (Lib.trimRightB l 32).length = k by omega]
  exact hk.symm
theorem digits_last (u : Nat) : ∀ c, (Lib.decDigits u).getLast? = some c → c ≠ 32 := by
  intro c hc
  have := digits_all u c (List.mem_of_getLast? hc)
  rintro rfl; revert this; decide
theorem itoa_last {n : Int} (h : 0 ≤ n) : ∀ c, (Lib.itoa n).getLast? = some c → c ≠ 32 := by
  obtain ⟨u, rfl⟩ := Int.eq_ofNat_of_zero_le h
  rw [itoa_nat]; exact digits_last u
theorem repeat_blank (c : Nat) : Lib.repeatL [32] c = List.replicate c 32 := by
  have := Lib.repeatL_replicate (32 : UInt8) 1 c
  simpa using this

/-! ### a member's bytes -/
def fixL : List UInt8 := [48, 32, 32, 32, 32, 32, 48, 32, 32, 32, 32, 32, 54, 52, 52, 32, 32, 32, 32, 32]
def magL : List UInt8 := [33, 60, 97, 114, 99, 104, 62, 10]
def oddL (c : ByteArray) : List UInt8 := if c.size % 2 = 1 then [10] else []
def oneL (m : Mb) : List UInt8 := padL m.n.data.toList 16 ++ (padL (Lib.itoa m.t) 12 ++ (fixL ++ (padL (Lib.itoa m.c.size) 10 ++ ([96, 10] ++ (m.c.data.toList ++ oddL m.c)))))
def sizeM (m : Mb) : Nat := 60 + m.c.size + m.c.size % 2
def sumM (l : List Mb) : Nat := (l.map sizeM).sum
def makeL (l : List Mb) : List UInt8 := magL ++ l.flatMap oneL
def uniqB (l : List Mb) : Bool := decide ((l.map Mb.n).Nodup)
def makeE (l : List Mb) : Nat :=
  if l.all (fun m => nameB m.n) = false then 4 else if l.all (fun m => timeB m.t) = false then 1 else if uniqB l = false then 9 else if 900 < 8 + sumM l then 2 else 0
theorem makeE_zero (l : List Mb) : makeE l = 0 ↔ (∀ m ∈ l, nameB m.n = true) ∧ (∀ m ∈ l, timeB m.t = true) ∧ (l.map Mb.n).Nodup ∧ 8 + sumM l ≤ 900 := by
  unfold makeE
  cases h1 : l.all (fun m => nameB m.n)
  · simp only [if_true]
    refine ⟨fun h => by omega, fun h => ?_⟩
    rw [List.all_eq_false] at h1
    obtain ⟨m, hm, hn⟩ := h1
    exact absurd (h.1 m hm) (by simpa using hn)
  cases h2 : l.all (fun m => timeB m.t)
  · simp only [Bool.true_eq_false, if_false, if_true]
    refine ⟨fun h => by omega, fun h => ?_⟩
    rw [List.all_eq_false] at h2
    obtain ⟨m, hm, hn⟩ := h2
    exact absurd (h.2.1 m hm) (by simpa using hn)
  rw [List.all_eq_true] at h1 h2
  cases h3 : uniqB l
  · simp only [Bool.true_eq_false, if_false, if_true]
    refine ⟨fun h => by omega, fun h => ?_⟩
    unfold uniqB at h3
    exact absurd h.2.2.1 (of_decide_eq_false h3)
  unfold uniqB at h3
  have h3 := of_decide_eq_true h3
  by_cases h4 : 900 < 8 + sumM l
  · simp only [Bool.true_eq_false, if_false, if_pos h4]
    exact ⟨fun h => by omega, fun h => by omega⟩
  · simp only [Bool.true_eq_false, if_false, if_neg h4, true_iff]
    exact ⟨h1, h2, h3, by omega⟩
theorem makeE_le (l : List Mb) : makeE l ≤ 18 := by
  unfold makeE
  repeat' split
  all_goals omega
theorem makeE_name {l : List Mb} (h : l.all (fun m => nameB m.n) = false) : makeE l = 4 := by unfold makeE; rw [if_pos h]
theorem makeE_time {l : List Mb} (h : l.all (fun m => nameB m.n) = true) (h2 : l.all (fun m => timeB m.t) = false) : makeE l = 1 := by
  unfold makeE; rw [if_neg (by rw [h]; decide), if_pos h2]
theorem makeE_dup {l : List Mb} (h : l.all (fun m => nameB m.n) = true) (h2 : l.all (fun m => timeB m.t) = true) (h3 : uniqB l = false) : makeE l = 9 := by
  unfold makeE; rw [if_neg (by rw [h]; decide), if_neg (by rw [h2]; decide), if_pos h3]
theorem makeE_end {l : List Mb} (h : l.all (fun m => nameB m.n) = true) (h2 : l.all (fun m => timeB m.t) = true) (h3 : uniqB l = true) : makeE l = if 900 < 8 + sumM l then 2 else 0 := by
  unfold makeE; rw [if_neg (by rw [h]; decide), if_neg (by rw [h2]; decide), if_neg (by rw [h3]; decide)]
theorem sumM_snoc (l : List Mb) (m : Mb) : sumM (l ++ [m]) = sumM l + sizeM m := by unfold sumM; simp
theorem sumM_take_le (l : List Mb) (k : Nat) : sumM (l.take k) ≤ sumM l := by
  have h : sumM (l.take k) + sumM (l.drop k) = sumM l := by
    unfold sumM; rw [← List.sum_append, ← List.map_append, List.take_append_drop]
  omega
theorem sizeM_mem {l : List Mb} {m : Mb} (h : m ∈ l) : sizeM m ≤ sumM l := by
  unfold sumM
  induction l with
  | nil => simp at h
  | cons x r ih =>
    rw [List.map_cons, List.sum_cons]
    rcases List.mem_cons.1 h with rfl | h
    · omega
    · have := ih h; omega

/-- a member that stands in an archive -/
def Good (m : Mb) : Prop := nameB m.n = true ∧ timeB m.t = true ∧ m.c.size ≤ 9999
theorem good_of {l : List Mb} (h : makeE l = 0) {m : Mb} (hm : m ∈ l) : Good m := by
  obtain ⟨h1, h2, -, h4⟩ := (makeE_zero l).1 h
  have := sizeM_mem hm
  unfold sizeM at this
  exact ⟨h1 m hm, h2 m hm, by omega⟩
/-- wide enough: each column has room -/
def Fits (m : Mb) : Prop := m.n.size ≤ 16 ∧ (Lib.itoa m.t).length ≤ 12 ∧ (Lib.itoa m.c.size).length ≤ 10
theorem bytes_len (s : ByteArray) : s.data.toList.length = s.size := by simp
theorem Good.fits {m : Mb} (h : Good m) : Fits m := by
  obtain ⟨h1, h2, h3⟩ := h
  rw [time_iff] at h2
  refine ⟨by have := (name_lo h1).2.1; omega, itoa_len (k := 11) (by omega) (by omega), itoa_len (k := 9) (by omega) ?_⟩
  have : (10 : Nat) ^ (9 + 1) = 10000000000 := by decide
  rw [this]; omega
theorem one_len {m : Mb} (h : Fits m) : (oneL m).length = sizeM m := by
  obtain ⟨h1, h2, h3⟩ := h
  have e1 := pad_len (l := m.n.data.toList) (n := 16) (by rw [bytes_len]; exact h1)
  have e2 := pad_len h2; have e3 := pad_len h3
  unfold oneL oddL sizeM
  simp only [List.length_append, e1, e2, e3, bytes_len]
  have : fixL.length = 20 := rfl
  have : ([96, 10] : List UInt8).length = 2 := rfl
  rcases Nat.mod_two_eq_zero_or_one m.c.size with h | h
  · rw [if_neg (by omega)]; simp only [List.length_nil]; omega
  · rw [if_pos h]; simp only [List.length_cons, List.length_nil]; omega
theorem one_ne (m : Mb) : oneL m ≠ [] := by
  intro h
  have := congrArg List.length h
  unfold oneL at this
  simp only [List.length_append, List.length_nil] at this
  have : fixL.length = 20 := rfl
  omega
theorem flat_len : ∀ {l : List Mb}, (∀ m ∈ l, Fits m) → (l.flatMap oneL).length = sumM l
  | [], _ => rfl
  | m :: r, h => by
    rw [List.flatMap_cons, List.length_append, one_len (h m (by simp)), flat_len (fun x hx => h x (by simp [hx]))]
    unfold sumM; simp
theorem make_len {l : List Mb} (h : ∀ m ∈ l, Fits m) : (makeL l).length = 8 + sumM l := by
  unfold makeL; rw [List.length_append, flat_len h]; rfl

/-- what is read of a member's bytes, place for place -/
theorem one_read {m : Mb} (h : Good m) (r : List UInt8) :
    Lib.trimRightB ((oneL m ++ r).take 16) 32 = m.n.data.toList ∧ ((oneL m ++ r).drop 16).take 12 = padL (Lib.itoa m.t) 12 ∧
    ((oneL m ++ r).drop 28).take 20 = fixL ∧ ((oneL m ++ r).drop 48).take 10 = padL (Lib.itoa m.c.size) 10 ∧
    ((oneL m ++ r).drop 58).take 2 = [96, 10] ∧ ((oneL m ++ r).drop 60).take m.c.size = m.c.data.toList ∧
    (m.c.size % 2 = 1 → (oneL m ++ r)[60 + m.c.size]? = some 10) ∧ (oneL m ++ r).drop (sizeM m) = r ∧ sizeM m ≤ (oneL m ++ r).length := by
  have hf := h.fits
  have hl := one_len hf
  obtain ⟨f1, f2, f3⟩ := hf
  have e1 := pad_len (l := m.n.data.toList) (n := 16) (by rw [bytes_len]; exact f1)
  have e2 := pad_len f2; have e3 := pad_len f3
  have e4 : fixL.length = 20 := rfl
  have e5 : ([96, 10] : List UInt8).length = 2 := rfl
  have hn : ∀ c, m.n.data.toList.getLast? = some c → c ≠ 32 := fun c hc => namc_ne ((name_lo h.1).2.2 c (List.mem_of_getLast? hc))
  have x : oneL m ++ r = padL m.n.data.toList 16 ++ (padL (Lib.itoa m.t) 12 ++ (fixL ++ (padL (Lib.itoa m.c.size) 10 ++ ([96, 10] ++ (m.c.data.toList ++ (oddL m.c ++ r)))))) := by
    unfold oneL; simp only [List.append_assoc]
  have d16 : (oneL m ++ r).drop 16 = padL (Lib.itoa m.t) 12 ++ (fixL ++ (padL (Lib.itoa m.c.size) 10 ++ ([96, 10] ++ (m.c.data.toList ++ (oddL m.c ++ r))))) := by
    rw [x, List.drop_append_of_le_length (by omega), List.drop_of_length_le (by omega), List.nil_append]
  have d28 : (oneL m ++ r).drop 28 = fixL ++ (padL (Lib.itoa m.c.size) 10 ++ ([96, 10] ++ (m.c.data.toList ++ (oddL m.c ++ r)))) := by
    rw [show 28 = 16 + 12 by rfl, ← List.drop_drop, d16, List.drop_append_of_le_length (by omega), List.drop_of_length_le (by omega), List.nil_append]
  have d48 : (oneL m ++ r).drop 48 = padL (Lib.itoa m.c.size) 10 ++ ([96, 10] ++ (m.c.data.toList ++ (oddL m.c ++ r))) := by
    rw [show 48 = 28 + 20 by rfl, ← List.drop_drop, d28, List.drop_append_of_le_length (by omega), List.drop_of_length_le (by omega), List.nil_append]
  have d58 : (oneL m ++ r).drop 58 = [96, 10] ++ (m.c.data.toList ++ (oddL m.c ++ r)) := by
    rw [show 58 = 48 + 10 by rfl, ← List.drop_drop, d48, List.drop_append_of_le_length (by omega), List.drop_of_length_le (by omega), List.nil_append]
  have d60 : (oneL m ++ r).drop 60 = m.c.data.toList ++ (oddL m.c ++ r) := by
    rw [show 60 = 58 + 2 by rfl, ← List.drop_drop, d58, List.drop_append_of_le_length (by omega), List.drop_of_length_le (by omega), List.nil_append]
  refine ⟨?_, ?_, ?_, ?_, ?_, ?_, ?_, ?_, ?_⟩
  · rw [x, List.take_append_of_le_length (by omega), List.take_of_length_le (by omega)]
    exact trim_pad hn _
  · rw [d16, List.take_append_of_le_length (by omega), List.take_of_length_le (by omega)]
  · rw [d28, List.take_append_of_le_length (by omega), List.take_of_length_le (by omega)]
  · rw [d48, List.take_append_of_le_length (by omega), List.take_of_length_le (by omega)]
  · rw [d58]; rfl
  · rw [d60, List.take_append_of_le_length (by rw [bytes_len]; exact Nat.le_refl _), List.take_of_length_le (by rw [bytes_len]; exact Nat.le_refl _)]
  · intro ho
    have : (oneL m ++ r)[60 + m.c.size]? = ((oneL m ++ r).drop 60)[m.c.size]? := by rw [List.getElem?_drop]
    rw [this, d60, List.getElem?_append_right (by rw [bytes_len]; exact Nat.le_refl _), bytes_len, Nat.sub_self]
    unfold oddL; rw [if_pos ho]; rfl
  · rw [← hl, List.drop_append_of_le_length (Nat.le_refl _), List.drop_of_length_le (Nat.le_refl _), List.nil_append]
  · rw [List.length_append]; omega

/-- s is the archive of l -/
def Arch (s : ByteArray) (l : List Mb) : Prop := makeE l = 0 ∧ s.data.toList = makeL l
/-- what is still to be read of s behind the members acc -/
def Rem (s : ByteArray) (acc : List Mb) (rest : List UInt8) : Prop := ∀ l, Arch s l → ∃ l2, l = acc ++ l2 ∧ rest = l2.flatMap oneL
/-- what a text begins with -/
def FirstOf (rest : List UInt8) (x : Mb) (ok : Bool) : Prop := (ok = true → sizeM x ≤ rest.length) ∧ ∀ m r, Good m → rest = oneL m ++ r → ok = true ∧ x = m
theorem rem_start {s : ByteArray} {rest : List UInt8} (h : s.data.toList = magL ++ rest) : Rem s [] rest := by
  intro l ha
  refine ⟨l, rfl, ?_⟩
  have := h.symm.trans ha.2
  unfold makeL at this
  exact List.append_cancel_left this
theorem rem_next {s : ByteArray} {acc : List Mb} {rest : List UInt8} (h : Rem s acc rest) {x : Mb} (hne : rest ≠ []) (hf : ∀ m r, Good m → rest = oneL m ++ r → x = m) : Rem s (acc ++ [x]) (rest.drop (sizeM x)) := by
  intro l ha
  obtain ⟨l2, rfl, hr⟩ := h l ha
  cases l2 with
  | nil => exact absurd (by rw [hr]; rfl) hne
  | cons m l3 =>
    have hg : Good m := good_of ha.1 (by simp)
    rw [List.flatMap_cons] at hr
    obtain rfl := hf m _ hg hr
    refine ⟨l3, by simp, ?_⟩
    rw [hr]; exact (one_read hg _).2.2.2.2.2.2.2.1
theorem rem_not {s : ByteArray} {acc : List Mb} {rest : List UInt8} (h : Rem s acc rest) (hne : rest ≠ []) (hf : ∀ m r, Good m → rest = oneL m ++ r → False) : ∀ l, ¬ Arch s l := by
  intro l ha
  obtain ⟨l2, rfl, hr⟩ := h l ha
  cases l2 with
  | nil => exact absurd (by rw [hr]; rfl) hne
  | cons m l3 =>
    have hg : Good m := good_of ha.1 (by simp)
    rw [List.flatMap_cons] at hr
    exact hf m _ hg hr
theorem rem_end {s : ByteArray} {acc : List Mb} (h : Rem s acc []) : ∀ l, Arch s l → l = acc := by
  intro l ha
  obtain ⟨l2, rfl, hr⟩ := h l ha
  cases l2 with
  | nil => simp
  | cons m l3 =>
    rw [List.flatMap_cons] at hr
    exact absurd (List.append_eq_nil_iff.1 hr.symm).1 (one_ne m)
theorem arch_mag {s : ByteArray} {l : List Mb} (h : Arch s l) : Lib.hasPrefix s.data.toList magL = true := by
  rw [h.2]; unfold makeL Lib.hasPrefix
  rw [List.isPrefixOf_iff_prefix]; exact List.prefix_append _ _
theorem mag_rest {s : ByteArray} (h : Lib.hasPrefix s.data.toList magL = true) : s.data.toList = magL ++ Lib.trimPrefix s.data.toList magL := by
  unfold Lib.trimPrefix
  rw [if_pos h]
  unfold Lib.hasPrefix at h
  rw [List.isPrefixOf_iff_prefix] at h
  obtain ⟨r, hr⟩ := h
  rw [← hr, List.drop_append_of_le_length (Nat.le_refl _), List.drop_of_length_le (Nat.le_refl _), List.nil_append]
theorem arch_len {s : ByteArray} {l : List Mb} (h : Arch s l) : s.size ≤ 900 := by
  have hf : ∀ m ∈ l, Fits m := fun m hm => (good_of h.1 hm).fits
  have := make_len hf
  rw [← h.2, bytes_len] at this
  have := ((makeE_zero l).1 h.1).2.2.2
  omega
theorem one_inj {a b : Mb} (ha : Good a) (hb : Good b) {r q : List UInt8} (h : oneL a ++ r = oneL b ++ q) : a = b ∧ r = q := by
  obtain ⟨a1, a2, -, a4, -, a6, -, a8, -⟩ := one_read ha r
  obtain ⟨b1, b2, -, b4, -, b6, -, b8, -⟩ := one_read hb q
  rw [← h] at b1 b2 b4 b6 b8
  have t1 := (time_iff _).1 ha.2.1
  have t2 := (time_iff _).1 hb.2.1
  have en : a.n = b.n := ba_ext (a1.symm.trans b1)
  have et : a.t = b.t := by
    have := a2.symm.trans b2
    have h2 := congrArg (fun l => Lib.atoi (Lib.trimRightB l 32)) this
    simp only [padL, trim_pad (itoa_last (show 0 ≤ a.t by omega)), trim_pad (itoa_last (show 0 ≤ b.t by omega))] at h2
    rw [atoi_itoa (by omega), atoi_itoa (by omega)] at h2
    exact Option.some.inj h2
  have es : a.c.size = b.c.size := by
    have := a4.symm.trans b4
    have h2 := congrArg (fun l => Lib.atoi (Lib.trimRightB l 32)) this
    simp only [padL, trim_pad (itoa_last (show (0 : Int) ≤ a.c.size by omega)), trim_pad (itoa_last (show (0 : Int) ≤ b.c.size by omega))] at h2
    rw [atoi_itoa (by omega), atoi_itoa (by omega)] at h2
    exact_mod_cast Option.some.inj h2
  have ec : a.c = b.c := by rw [es] at a6; exact ba_ext (a6.symm.trans b6)
  have e : a = b := mb_ext en et ec
  subst e
  exact ⟨rfl, a8.symm.trans b8⟩
theorem flat_inj : ∀ (l q : List Mb), (∀ m ∈ l, Good m) → (∀ m ∈ q, Good m) → l.flatMap oneL = q.flatMap oneL → l = q
  | [], [], _, _, _ => rfl
  | [], b :: q, _, _, h => by rw [List.flatMap_cons] at h; exact absurd (List.append_eq_nil_iff.1 h.symm).1 (one_ne b)
  | a :: l, [], _, _, h => by rw [List.flatMap_cons] at h; exact absurd (List.append_eq_nil_iff.1 h).1 (one_ne a)
  | a :: l, b :: q, hl, hq, h => by
    rw [List.flatMap_cons, List.flatMap_cons] at h
    obtain ⟨rfl, h2⟩ := one_inj (hl a (by simp)) (hq b (by simp)) h
    rw [flat_inj l q (fun m hm => hl m (by simp [hm])) (fun m hm => hq m (by simp [hm])) h2]
theorem arch_one {s : ByteArray} {l q : List Mb} (h : Arch s l) (g : Arch s q) : l = q := by
  have := h.2.symm.trans g.2
  unfold makeL at this
  exact flat_inj l q (fun m hm => good_of h.1 hm) (fun m hm => good_of g.1 hm) (List.append_cancel_left this)
open Classical in
/-- the members of which a text is the archive -/
noncomputable def archOf (s : ByteArray) : Option (List Mb) := if h : ∃ l, Arch s l then some h.choose else none
theorem archOf_some {s : ByteArray} {l : List Mb} (h : Arch s l) : archOf s = some l := by
  have hex : ∃ l, Arch s l := ⟨l, h⟩
  unfold archOf; rw [dif_pos hex, arch_one hex.choose_spec h]
theorem archOf_none {s : ByteArray} (h : ∀ l, ¬ Arch s l) : archOf s = none := by
  unfold archOf; rw [dif_neg (fun ⟨l, hl⟩ => h l hl)]
theorem archOf_get {s : ByteArray} {l : List Mb} (h : archOf s = some l) : Arch s l := by
  unfold archOf at h
  split at h
  · rename_i hex; rw [← Option.some.inj h]; exact hex.choose_spec
  · cases h
theorem archOf_not {s : ByteArray} (h : archOf s = none) : ∀ l, ¬ Arch s l := by
  intro l hl; rw [archOf_some hl] at h; cases h
theorem archOf_make {l : List Mb} (h : makeE l = 0) : archOf ⟨(makeL l).toArray⟩ = some l := archOf_some ⟨h, by simp⟩
end Go.Proofs.YtgicfbhhnohndaaGreatDoor
