/- A text behind another one that ends with an empty line: its lines and its statements, plainly; that statements' lines rise. The law StmtAlone, walked: a line gives the same statement wherever it stands, but for its number; numbers rise. -/
import Derived.Test.YtdganemgldocoaaDoorSmOut
import Derived.Test.YtdganemgldocoaaDoorLawSmT
namespace Go.Proofs.YtdganemgldocoaaDoor
open Go.RowKit

theorem lin_fold : ∀ (l w : List UInt8) (O : List (List UInt8)), ∃ w2 O2, l.foldl linS (w, O) = (w2, O2) := fun _ _ _ => ⟨_, _, rfl⟩
/-- a text that ends with an empty line: its physical lines, and those of more behind it -/
theorem lin_two (l q : List UInt8) : ∃ R : List (List UInt8), linQ (l ++ [10, 10]) = R ++ [[]] ∧ linQ (l ++ [10, 10] ++ q) = R ++ [] :: linQ q := by
  obtain ⟨w, O, h⟩ := lin_fold l [] []
  have e : ∀ r, linQ (l ++ r) = linA w O r := fun r => by unfold linQ linA; rw [List.foldl_append, h]
  refine ⟨O ++ [w], ?_, ?_⟩
  · rw [e, linA_feed, linA_feed, linA_nil]; simp
  · rw [List.append_assoc, e]
    show linA w O (10 :: 10 :: q) = _
    rw [linA_feed, linA_feed, linA_out]
    unfold linQ
    simp
theorem lin_one : ∀ (q w : List UInt8), (∀ b ∈ q, b ≠ 10) → q ≠ [] ∨ w ≠ [] → linA w [] q = [w ++ q]
  | [], w, _, h => by
    have hw : w ≠ [] := by rcases h with h | h; exact absurd rfl h; exact h
    rw [linA_nil, if_neg (by simpa using hw)]; simp
  | b :: q, w, hq, _ => by
    rw [linA_byte (hq b (by simp)), lin_one q (w ++ [b]) (fun x hx => hq x (List.mem_cons_of_mem _ hx)) (.inr (by simp))]
    simp
theorem spA_mt (o : Nat) (h : List UInt8) (O : List Lq) (k : Nat) (T : List (List UInt8)) : spA o h O k ([] :: T) =
    if 400 < (trQ (if o = 0 then [] else h)).length then .error (2, if o = 0 then k + 1 else o) else spA 0 [] (O ++ [⟨trQ (if o = 0 then [] else h), if o = 0 then k + 1 else o, false⟩]) (k + 1) T := by
  rw [spA, if_neg (by simp [recQ])]; rfl
/-- lines behind an empty one are read as if nothing stood ahead -/
theorem spA_two : ∀ (R : List (List UInt8)) (T : List (List UInt8)) (o : Nat) (h : List UInt8) (O : List Lq) (k : Nat),
    spA o h O k (R ++ [] :: T) = (match spA o h O k (R ++ [[]]) with | .error e => .error e | .ok L => spA 0 [] L (k + R.length + 1) T)
  | [], T, o, h, O, k => by
    rw [List.nil_append, List.nil_append, spA_mt, spA_mt]
    generalize trQ (if o = 0 then [] else h) = t
    generalize (if o = 0 then k + 1 else o) = m
    by_cases hl : 400 < t.length
    · rw [if_pos hl, if_pos hl]
    · rw [if_neg hl, if_neg hl]
      conv => rhs; rw [spA]
      rfl
  | s :: R, T, o, h, O, k => by
    rw [List.cons_append, List.cons_append, spA, spA]
    have hm : (!(R ++ [] :: T).isEmpty) = true := by simp
    have hm2 : (!(R ++ [[]]).isEmpty) = true := by simp
    rw [hm, hm2]
    have hk : k + 1 + R.length + 1 = k + (s :: R).length + 1 := by rw [List.length_cons]; omega
    split
    · split
      · rfl
      · rw [spA_two R T, hk]
    · split
      · rfl
      · rw [spA_two R T, hk]
      · split
        · rfl
        · rw [spA_two R T, hk]
theorem rd_last : ∀ (r : List UInt8) (q : Bool) (h h2 : List UInt8) (g : Bool), rdQ false q h r = some (h2, g) → g = false
  | [], q, h, h2, g, e => by
    cases q
    · simp [rdQ] at e; exact e.2
    · simp [rdQ] at e
  | b :: r, true, h, h2, g, e => by rw [rdQ] at e; exact rd_last r _ _ _ _ e
  | b :: r, false, h, h2, g, e => by
    rw [rdQ] at e
    split at e
    · exact rd_last r _ _ _ _ e
    · split at e
      · cases e; rfl
      · rw [if_neg (by simp)] at e
        exact rd_last r _ _ _ _ e
theorem spA_last {q : List UInt8} {O : List Lq} {k : Nat} (hr : recQ q = false) : spA 0 [] O k [q] = (match rdQ false false [] q with
    | none => .error (5, k + 1)
    | some (h2, _) => if 400 < (trQ h2).length then .error (2, k + 1) else .ok (O ++ [⟨trQ h2, k + 1, false⟩])) := by
  rw [spA, if_neg (by rw [hr]; simp)]
  have hm : (!([] : List (List UInt8)).isEmpty) = false := rfl
  rw [hm, if_pos rfl]
  cases hd : rdQ false false [] q with
  | none => rfl
  | some x =>
    obtain ⟨h2, g⟩ := x
    obtain rfl := rd_last _ _ _ _ _ hd
    simp only [if_true]
    split
    · rfl
    · rw [spA]
theorem spL_two {l q : List UInt8} {LA LB : List Lq} (hq : ∀ b ∈ q, b ≠ 10) (h0 : q ≠ []) (hr : recQ q = false) (hl : (l ++ [10, 10] ++ q).length ≤ 4000) (hA : spL (l ++ [10, 10]) = .ok LA) (hB : spL q = .ok LB) :
    ∃ (t : List UInt8) (k : Nat), LB = [⟨t, 1, false⟩] ∧ spL (l ++ [10, 10] ++ q) = .ok (LA ++ [⟨t, k, false⟩]) := by
  obtain ⟨R, e1, e2⟩ := lin_two l q
  have e3 : linQ q = [q] := by unfold linQ; rw [lin_one q [] hq (.inl h0)]; rfl
  unfold spL at hA hB ⊢
  rw [if_neg (by simp at hl ⊢; omega), e1] at hA
  rw [if_neg (by simp at hl; omega), e3, spA_last hr] at hB
  rw [if_neg (by omega), e2, e3, spA_two, hA]
  simp only
  rw [spA_last hr]
  cases hd : rdQ false false [] q with
  | none => rw [hd] at hB; cases hB
  | some x =>
    rw [hd] at hB
    simp only at hB ⊢
    split at hB
    · cases hB
    · rename_i hle
      rw [if_neg hle]
      cases hB
      exact ⟨trQ x.1, _, rfl, rfl⟩
theorem tw_end {A : List Li} {x : Li} (hx : x.r = false) : (A ++ [x]).takeWhile (·.r) = A.takeWhile (·.r) ∧ (A ++ [x]).dropWhile (·.r) = A.dropWhile (·.r) ++ [x] := by
  induction A with
  | nil => exact tw_stop hx
  | cons a A ih =>
    rw [List.cons_append]
    cases ha : a.r with
    | true =>
      obtain ⟨h1, h2⟩ := tw_cons (r := A ++ [x]) ha
      obtain ⟨h3, h4⟩ := tw_cons (r := A) ha
      rw [h1, h2, h3, h4, ih.1, ih.2]; exact ⟨rfl, rfl⟩
    | false =>
      obtain ⟨h1, h2⟩ := tw_stop (r := A ++ [x]) ha
      obtain ⟨h3, h4⟩ := tw_stop (r := A) ha
      rw [h1, h2, h3, h4]; exact ⟨rfl, rfl⟩
/-- a line that is no recipe's, behind others -/
theorem par_two {x : Li} (hx : x.r = false) : ∀ (n : Nat) (A : List Li) (O : List Sm), A.length ≤ n → parS O (A ++ [x]) = (match parS O A with | .error e => .error e | .ok S => parS S [x]) := by
  intro n
  induction n with
  | zero =>
    intro A O hl
    obtain rfl := List.eq_nil_of_length_eq_zero (Nat.le_zero.1 hl)
    rw [List.nil_append, parS.eq_def O []]
  | succ n ih =>
    intro A O hl
    cases A with
    | nil => rw [List.nil_append, parS.eq_def O []]
    | cons y r =>
      rw [List.length_cons] at hl
      rw [List.cons_append, parS.eq_def O (y :: r), parS.eq_def O (y :: (r ++ [x]))]
      simp only
      split
      · split
        · exact ih r O (by omega)
        · rfl
      · split
        · exact ih r O (by omega)
        · split
          · rfl
          · split
            · obtain ⟨h1, h2⟩ := tw_end (A := r) hx
              rw [h1, h2]
              exact ih _ _ (by have := (List.dropWhile_sublist (p := fun (z : Li) => z.r) (l := r)).length_le; omega)
            · exact ih r _ (by omega)
/-- one line's statement, behind others: the same but for its number -/
theorem par_last {t : ByteArray} {n m : Int} {SA SB : List Sm} (h : parS [] [⟨t, n, false⟩] = .ok SB) : SB.length ≤ 1 ∧ (∀ y ∈ SB, y.ln = n) ∧ parS SA [⟨t, m, false⟩] = .ok (SA ++ SB.map fun y => { y with ln := m }) := by
  rw [parS] at h ⊢
  have e0 : ¬ (⟨t, n, false⟩ : Li).r = true := by simp
  have e1 : ¬ (⟨t, m, false⟩ : Li).r = true := by simp
  rw [if_neg e0] at h
  rw [if_neg e1]
  have n0 : ∀ O : List Sm, parS O [] = .ok O := fun O => by rw [parS]
  by_cases hz : t.data.toList.isEmpty = true
  · rw [if_pos hz, n0] at h
    cases h
    rw [if_pos hz, n0]
    exact ⟨by simp, by simp, by simp⟩
  · rw [if_neg hz] at h ⊢
    cases ho : oneS t.data.toList with
    | error e => rw [ho] at h; cases h
    | ok s =>
      rw [ho] at h
      simp only at h ⊢
      by_cases hk : s.k = 2
      · rw [if_pos hk] at h ⊢
        simp only [List.dropWhile_nil, List.takeWhile_nil, n0] at h ⊢
        cases h
        exact ⟨by simp, by simp, by simp⟩
      · rw [if_neg hk, n0] at h ⊢
        cases h
        exact ⟨by simp, by simp, by simp⟩
/-- statements' lines rise -/
def RiseS (O : List Sm) : Prop := O.Pairwise fun a b => a.ln < b.ln
theorem par_rise : ∀ (n : Nat) (A : List Li) (O S : List Sm), A.length ≤ n → A.Pairwise (fun a b => a.n < b.n) → (∀ x ∈ A, 1 ≤ x.n) → RiseS O → (∀ y ∈ O, 1 ≤ y.ln ∧ ∀ x ∈ A, y.ln < x.n) → parS O A = .ok S → RiseS S ∧ ∀ y ∈ S, 1 ≤ y.ln := by
  intro n
  induction n with
  | zero =>
    intro A O S hl _ _ hO h1 h
    obtain rfl := List.eq_nil_of_length_eq_zero (Nat.le_zero.1 hl)
    rw [parS] at h; cases h
    exact ⟨hO, fun y hy => (h1 y hy).1⟩
  | succ n ih =>
    intro A O S hl hA hA1 hO h1 h
    cases A with
    | nil => rw [parS] at h; cases h; exact ⟨hO, fun y hy => (h1 y hy).1⟩
    | cons x r =>
      rw [List.length_cons] at hl
      obtain ⟨hx, hr⟩ := List.pairwise_cons.1 hA
      have hr1 : ∀ y ∈ r, 1 ≤ y.n := fun y hy => hA1 y (List.mem_cons_of_mem _ hy)
      have h2 : ∀ y ∈ O, 1 ≤ y.ln ∧ ∀ z ∈ r, y.ln < z.n := fun y hy => ⟨(h1 y hy).1, fun z hz => (h1 y hy).2 z (List.mem_cons_of_mem _ hz)⟩
      have snoc : ∀ (s : Sm) (r2 : List Li), s.ln = x.n → r2.Sublist r → RiseS (O ++ [s]) ∧ ∀ y ∈ O ++ [s], 1 ≤ y.ln ∧ ∀ z ∈ r2, y.ln < z.n := fun s r2 hs hsub => by
        refine ⟨List.pairwise_append.2 ⟨hO, by simp, fun a ha b hb => ?_⟩, fun y hy => ?_⟩
        · rw [List.mem_singleton.1 hb, hs]; exact (h1 a ha).2 x (List.mem_cons_self ..)
        · rcases List.mem_append.1 hy with hy | hy
          · exact ⟨(h1 y hy).1, fun z hz => (h2 y hy).2 z (hsub.mem hz)⟩
          · rw [List.mem_singleton.1 hy, hs]; exact ⟨hA1 x (List.mem_cons_self ..), fun z hz => hx z (hsub.mem hz)⟩
      rw [parS] at h
      split at h
      · split at h
        · exact ih r O S (by omega) hr hr1 hO h2 h
        · cases h
      · split at h
        · exact ih r O S (by omega) hr hr1 hO h2 h
        · split at h
          · cases h
          · rename_i s hs
            split at h
            · have hsub := List.dropWhile_sublist (p := fun (z : Li) => z.r) (l := r)
              obtain ⟨g1, g2⟩ := snoc { s with ln := x.n, rc := rcpS (r.takeWhile (·.r)) } _ rfl hsub
              exact ih _ _ S (by have := hsub.length_le; omega) (hr.sublist hsub) (fun y hy => hr1 y (hsub.mem hy)) g1 g2 h
            · obtain ⟨g1, g2⟩ := snoc { s with ln := x.n } _ rfl (List.Sublist.refl r)
              exact ih _ _ S (by omega) hr hr1 g1 g2 h
theorem of_rise {l : List UInt8} {S : List Sm} (h : ofS l = .ok S) : RiseS S ∧ ∀ y ∈ S, 1 ≤ y.ln := by
  unfold ofS at h
  split at h
  · cases h
  · rename_i L hL
    obtain ⟨h1, h2, -⟩ := spL_rise hL
    refine par_rise _ _ _ _ (Nat.le_refl _) (List.pairwise_map.2 (h1.imp fun {a b} hab => ?_)) (fun x hx => ?_) .nil (fun y hy => by cases hy) h
    · show ((a.num : Nat) : Int) < (b.num : Nat); omega
    · obtain ⟨y, hy, rfl⟩ := List.mem_map.1 hx
      have := (h2 y hy).1
      show (1 : Int) ≤ (y.num : Nat); omega
/-- P19.2: a line's statement is the same behind other lines, but for its number -/
theorem of_alone {l q : List UInt8} {SA SB : List Sm} (hq : ∀ b ∈ q, b ≠ 10) (h0 : q ≠ []) (hr : recQ q = false) (hl : (l ++ [10, 10] ++ q).length ≤ 4000) (hA : ofS (l ++ [10, 10]) = .ok SA) (hB : ofS q = .ok SB) :
    ∃ n : Int, SB.length ≤ 1 ∧ ofS (l ++ [10, 10] ++ q) = .ok (SA ++ SB.map fun y => { y with ln := n }) := by
  unfold ofS at hA hB
  split at hA
  · cases hA
  rename_i LA hLA
  split at hB
  · cases hB
  rename_i LB hLB
  obtain ⟨t, k, rfl, h3⟩ := spL_two hq h0 hr hl hLA hLB
  obtain ⟨g1, -, g2⟩ := par_last (SA := SA) (m := (k : Int)) hB
  refine ⟨k, g1, ?_⟩
  unfold ofS
  rw [h3]
  simp only [List.map_append, List.map_cons, List.map_nil]
  rw [par_two (by rfl) _ _ _ (Nat.le_refl _), hA]
  exact g2
end Go.Proofs.YtdganemgldocoaaDoor

namespace Go.Proofs.YtdganemgldocoaaDoor
open Go.RowKit

set_option maxRecDepth 100000 in
set_option maxHeartbeats 16000000 in
theorem lStmtAlone {A : Nat → Addr} {E : World → Prop} (C : SmC A E) (a s : ByteArray) (w : World) (hE : E w) : Calls Tryd.prog 3 #[.string a, .string s] w fun e w' => e = .returned (.bool true) ∧ w.grownBy w' none := by
  have CA := Lib.hid (lAlive19 C w hE)
  by_cases ha : 800 < a.size
  · have e1 : decide ((a.size : Int) > 800) = true := by simp; omega
    clear ha
    go_enter Tryd.func3, Tryd.ntmps3
    go_wp2_with (go_at_call 4; (with_reducible refine CA.out.mono ?_); rintro e w1 ⟨rfl, g1⟩; have G1 := Lib.hid g1; clear g1)
    go_ret
    exact ⟨rfl, G1.out⟩
  have e1 : decide ((a.size : Int) > 800) = false := by simp; omega
  have ha8 : a.size ≤ 800 := by omega
  clear ha
  by_cases hs : 300 < s.size
  · have e2 : decide ((s.size : Int) > 300) = true := by simp; omega
    clear hs
    go_enter Tryd.func3, Tryd.ntmps3
    go_wp2_with (go_at_call 4; (with_reducible refine CA.out.mono ?_); rintro e w1 ⟨rfl, g1⟩; have G1 := Lib.hid g1; clear g1)
    go_ret
    exact ⟨rfl, G1.out⟩
  have e2 : decide ((s.size : Int) > 300) = false := by simp; omega
  have hs3 : s.size ≤ 300 := by omega
  clear hs
  have y1 : (a ++ ⟨#[10, 10]⟩ : ByteArray).data.toList = a.data.toList ++ [10, 10] := by simp
  have y2 : (a ++ ⟨#[10, 10]⟩ : ByteArray).size = a.size + 2 := by simp; rfl
  have y3 : (a ++ ⟨#[10, 10]⟩ ++ s : ByteArray).data.toList = a.data.toList ++ [10, 10] ++ s.data.toList := by simp
  have y4 : (a ++ ⟨#[10, 10]⟩ ++ s : ByteArray).size = a.size + 2 + s.size := by rw [ByteArray.size_append, y2]
  have C1 := Lib.hid (fun W (g : w.grownBy W none) => C.of (a ++ ⟨#[10, 10]⟩) W (C.gr _ _ hE g) (by omega))
  have C2 := Lib.hid (fun W (g : w.grownBy W none) => C.of s W (C.gr _ _ hE g) (by omega))
  have C3 := Lib.hid (fun W (g : w.grownBy W none) => C.of (a ++ ⟨#[10, 10]⟩ ++ s) W (C.gr _ _ hE g) (by omega))
  have HE := Lib.hid (fun W (g : w.grownBy W none) => C.gr _ _ hE g)
  rw [y1] at C1
  rw [y3] at C3
  have hlen : s.data.toList.length = s.size := by simp
  have HLN := Lib.hid hlen
  have HAL := Lib.hid (show (a.data.toList ++ [10, 10] ++ s.data.toList).length ≤ 4000 by
    have la : a.data.toList.length = a.size := by simp
    rw [List.length_append, List.length_append, la, hlen]
    show a.size + 2 + s.size ≤ 4000
    omega)
  clear hE y1 y2 y3 y4 hlen
  go_enter Tryd.func3, Tryd.ntmps3
  go_upto_region 5 with (go_at_call 4; (with_reducible refine CA.out.mono ?_); rintro e w1 ⟨rfl, g1⟩; have G1 := Lib.hid g1; clear g1)
  clear CA
  go_wp2
  go_loopw [5] (fun i_ wr => ∃ i : Nat, i ≤ s.size ∧ i_ = .int .i64 i ∧ Hid (∀ b ∈ s.data.toList.take i, b ≠ 10) ∧ Hid (w1 = wr)) (fun i_ _ => s.size - (intOf i_).toNat)
  case atStart => exact ⟨0, Nat.zero_le _, rfl, Lib.hid (by simp), Lib.hid rfl⟩
  case round =>
    obtain ⟨i, hi, rfl, hN, hW⟩ := hrel
    have hw := hW.out
    subst hw
    clear hW
    by_cases hlt : i < s.size
    · have HJ := Lib.hid (list_at hlt)
      by_cases h10 : s[i] = 10
      · have f1 : (((s[i]).toNat : Int) == 10) = true := byte_eq 10 (by omega) h10
        clear h10
        go_wp2
        go_ret
        exact ⟨rfl, G1.out⟩
      have f1 : (((s[i]).toNat : Int) == 10) = false := byte_no 10 (by omega) h10
      by_cases h92 : s[i] = 92
      · have f2 : (((s[i]).toNat : Int) == 92) = true := byte_eq 92 (by omega) h92
        clear h10 h92
        go_wp2
        go_ret
        exact ⟨rfl, G1.out⟩
      have f2 : (((s[i]).toNat : Int) == 92) = false := byte_no 92 (by omega) h92
      have HN := Lib.hid (show ∀ b ∈ s.data.toList.take (i + 1), b ≠ 10 from fun b hb => by
        rw [List.take_add_one, HJ.out] at hb
        rcases List.mem_append.1 hb with h | h
        · exact hN.out b h
        · have h1 : b = s[i] := by simpa using h
          rw [h1]; exact h10)
      clear h10 h92
      go_wp2
      go_roundw
      case rel => exact ⟨i + 1, hlt, by go_num, HN, by first | exact Lib.hid rfl | exact Lib.hid trivial⟩
      case measure => simp [intOf]; omega
    · have HNA := Lib.hid (show ∀ b ∈ s.data.toList, b ≠ 10 from fun b hb => hN.out b (by rw [List.take_of_length_le (by rw [HLN.out]; omega)]; exact hb))
      clear hN
      by_cases h0 : s.size = 0
      · have f0 : ((s.size : Int) == 0) = true := by rw [h0]; rfl
        clear h0
        go_wp2
        go_ret
        exact ⟨rfl, G1.out⟩
      have hpos : 0 < s.size := by omega
      have f0 : ((s.size : Int) == 0) = false := by rw [beq_eq_false_iff_ne]; omega
      by_cases h32 : s[0] = 32
      · have f1 : (((s[0]).toNat : Int) == 32) = true := byte_eq 32 (by omega) h32
        clear h32
        go_wp2
        go_ret
        exact ⟨rfl, G1.out⟩
      have f1 : (((s[0]).toNat : Int) == 32) = false := byte_no 32 (by omega) h32
      by_cases h9 : s[0] = 9
      · have f2 : (((s[0]).toNat : Int) == 9) = true := byte_eq 9 (by omega) h9
        clear h32 h9
        go_wp2
        go_ret
        exact ⟨rfl, G1.out⟩
      have f2 : (((s[0]).toNat : Int) == 9) = false := byte_no 9 (by omega) h9
      have HRC := Lib.hid (show recQ s.data.toList = false by
        rw [cons_a hpos]
        show btQ s[0] = false
        unfold btQ
        rw [Bool.or_eq_false_iff]
        exact ⟨by simpa using h32, by simpa using h9⟩)
      have HNE := Lib.hid (full_a h0).1
      clear h32 h9 h0
      go_upto_region 12 with fail
      clear f0 f1 f2
      go_wp2_with fail
      refine (C1.out _ G1.out).mono ?_
      rintro e w2 ⟨g2, hout⟩
      have G2 := Lib.hid (G1.out.trans g2)
      have C22 := Lib.hid (C2.out _ G2.out)
      clear g2 C1 C2
      cases hA : ofS (a.data.toList ++ [10, 10]) with
      | error x =>
        rw [hA] at hout
        obtain ⟨a2, c2, q2, rfl, -⟩ := hout
        clear hA
        go_wp2_with fail
        refine C22.out.mono ?_
        rintro e w3 ⟨g3, hout⟩
        have G3 := Lib.hid (G2.out.trans g3)
        clear C22 g3 C3
        cases hB : ofS s.data.toList with
        | error y =>
          rw [hB] at hout
          obtain ⟨a3, c3, q3, rfl, -⟩ := hout
          clear hB
          go_wp2
          go_ret
          exact ⟨rfl, G3.out⟩
        | ok SB =>
          rw [hB] at hout
          obtain ⟨v3, LB, rfl, hRB, -⟩ := hout
          obtain ⟨vb, cb, rfl, -⟩ := hRB.shape
          clear hB hRB
          go_wp2
          go_ret
          exact ⟨rfl, G3.out⟩
      | ok SA =>
        rw [hA] at hout
        obtain ⟨v2, L, rfl, hR, hq⟩ := hout
        obtain ⟨va, vc, rfl, -⟩ := hR.shape
        have HA := Lib.hid hA; have HR := Lib.hid hR; have HQ := Lib.hid hq
        clear hA hR hq
        go_wp2_with fail
        refine C22.out.mono ?_
        rintro e w3 ⟨g3, hout⟩
        have G3 := Lib.hid (G2.out.trans g3)
        have R3 := Lib.hid (HR.out.grown g3)
        clear C22 g3 HR
        cases hB : ofS s.data.toList with
        | error y =>
          rw [hB] at hout
          obtain ⟨a3, c3, q3, rfl, -⟩ := hout
          clear hB
          go_wp2
          go_ret
          exact ⟨rfl, G3.out⟩
        | ok SB =>
          rw [hB] at hout
          obtain ⟨v3, LB, rfl, hRB, hqB⟩ := hout
          obtain ⟨vb, cb, rfl, -⟩ := hRB.shape
          obtain ⟨n0, hb1, hof⟩ := of_alone HNA.out HNE.out HRC.out HAL.out HA.out hB
          have HRS := Lib.hid (of_rise hof)
          have C33 := Lib.hid (C3.out _ G3.out)
          rw [hof] at C33
          have RB := Lib.hid hRB; have QB := Lib.hid hqB
          have hb1 : LB.length ≤ 1 := by have := congrArg List.length hqB; rw [List.length_map] at this; omega
          clear hB hRB hqB hof C3
          go_wp2_with fail
          refine C33.out.mono ?_
          rintro e w4 ⟨g4, v4, L3, rfl, hR3, hq3⟩
          obtain ⟨vd, cd, rfl, hm3⟩ := hR3.shape
          have hl3 : L3.length = L.length + LB.length := by
            have h1 := congrArg List.length hq3
            have h2 := congrArg List.length HQ.out
            have h3 := congrArg List.length QB.out
            rw [List.length_map] at h1 h2 h3
            rw [h1, List.length_append, List.length_map, h2, h3]
          have G4 := Lib.hid (G3.out.trans g4)
          have R4 := Lib.hid (R3.out.grown g4)
          have RB4 := Lib.hid (RB.out.grown g4)
          have RC4 := Lib.hid hR3
          have HL3 := Lib.hid hl3
          rw [← HQ.out, ← QB.out] at hq3
          have HI1 := Lib.hid (show ∀ i, i < L.length → L3[i]? = L[i]? from fun i hi => by
            have h1 := congrArg (fun l : List Sm => l[i]?) hq3
            simp only [List.getElem?_map] at h1
            rw [List.getElem?_append_left (by rw [List.length_map]; exact hi), List.getElem?_map] at h1
            have hi3 : i < L3.length := by omega
            rw [List.getElem?_eq_getElem hi3, List.getElem?_eq_getElem hi] at h1 ⊢
            exact congrArg some (Sb.q_inj (Option.some.inj h1)))
          have HI2 := Lib.hid (show ∀ x, L3[L.length]? = some x → ∃ y, LB[0]? = some y ∧ x = { y with ln := n0 } from fun x hx => by
            have hi := (List.getElem?_eq_some_iff.1 hx).1
            have h1 := congrArg (fun l : List Sm => l[L.length]?) hq3
            simp only [List.getElem?_map] at h1
            rw [List.getElem?_append_right (by rw [List.length_map]; exact Nat.le_refl _), hx, List.length_map, Nat.sub_self, List.getElem?_map, List.getElem?_map] at h1
            have hi2 : 0 < LB.length := by omega
            rw [List.getElem?_eq_getElem hi2] at h1
            exact ⟨LB[0], List.getElem?_eq_getElem hi2, Sb.q_inj (Option.some.inj h1)⟩)
          have HRI := Lib.hid (show (∀ x, L3[0]? = some x → 0 < x.ln) ∧ ∀ i x y, L3[i]? = some x → L3[i + 1]? = some y → x.ln < y.ln from by
            obtain ⟨r1, r2⟩ := HRS.out
            rw [HQ.out, QB.out] at hq3
            rw [← hq3] at r1 r2
            refine ⟨fun x hx => ?_, fun i x y hx hy => ?_⟩
            · have := r2 x.q (List.mem_map_of_mem (List.mem_of_getElem? hx))
              have h : 1 ≤ x.ln := this
              omega
            · have hi := (List.getElem?_eq_some_iff.1 hx)
              have hj := (List.getElem?_eq_some_iff.1 hy)
              obtain ⟨hi1, hi2⟩ := hi
              obtain ⟨hj1, hj2⟩ := hj
              have h := List.pairwise_iff_getElem.1 r1 i (i + 1) (by rw [List.length_map]; exact hi1) (by rw [List.length_map]; exact hj1) (Nat.lt_succ_self i)
              rw [List.getElem_map, List.getElem_map, hi2, hj2] at h
              exact h)
          clear hq3 hR3 g4 C33 R3 RB HRS HA HQ QB HNA HNE HRC HAL HLN
          have e3 : ((L3.length : Int) != (L.length : Int) + (LB.length : Int)) = false := by simp; omega
          have e4 : decide ((LB.length : Int) > 1) = false := by simp; omega
          have e5 : (L.length : Int) + (LB.length : Int) ≤ 9223372036854775807 := by omega
          clear hl3
          go_upto_region 19 with fail
          clear e3 e4 e5
          go_wp2
          go_loopw [12, 13, 14, 105] (fun last_ _ _ i_ wr => ∃ (i : Nat) (n : Int), i ≤ L3.length ∧ i_ = .int .i64 i ∧ last_ = .int .i64 n ∧ Hid (∀ x, L3[i]? = some x → n < x.ln) ∧ Hid (w4.grownBy wr none)) (fun _ _ _ i_ _ => L3.length - (intOf i_).toNat)
          case atStart => exact ⟨0, 0, Nat.zero_le _, rfl, rfl, Lib.hid HRI.out.1, Lib.hid (World.grownBy.refl _ _)⟩
          case round =>
            obtain ⟨i, n, hi, rfl, rfl, hN, hG⟩ := hrel
            by_cases hlt : i < L3.length
            · obtain ⟨pb, poff, pc, x, hv, wv, ev, hx, -, hc4, hrh, hrw⟩ := RC4.out.at i hlt
              have hc := fun n u h => hG.out.cell (hc4 n u h) (by simp)
              injection ev with k1 k2 k3
              subst k1 k3
              obtain ⟨ha, hac, rfl, -⟩ := hrh.shape
              obtain ⟨wa, wac, rfl, -⟩ := hrw.shape
              have c0 := hc 0 _ rfl; have c1 := hc 1 _ rfl; have c2 := hc 2 _ rfl; have c3 := hc 3 _ rfl; have c4 := hc 4 _ rfl; have c5 := hc 5 _ rfl; have c6 := hc 6 _ rfl; have c7 := hc 7 _ rfl; have c8 := hc 8 _ rfl; have c9 := hc 9 _ rfl
              rw [Nat.add_zero] at c0
              have ga := World.grownBy_alloc wr (.cells #[.int .i64 x.k, .int .i64 x.ln, .string x.nm, .slice ha x.hs.length hac, .slice wa x.ws.length wac, .int .i64 x.fl, .string x.pr, .string x.rc, .bool x.hd, .bool x.cm] 32) none
              have BS := Lib.hid (heap_alloc_new wr (.cells #[.int .i64 x.k, .int .i64 x.ln, .string x.nm, .slice ha x.hs.length hac, .slice wa x.ws.length wac, .int .i64 x.fl, .string x.pr, .string x.rc, .bool x.hd, .bool x.cm] 32))
              have Z7 := Lib.hid (hG.out.trans ga)
              have RX1 := Lib.hid hrh; have RX2 := Lib.hid hrw
              have HX := Lib.hid hx
              have hln := hN.out x hx
              have e6 : decide (x.ln ≤ n) = false := by simp; omega
              have HNX := Lib.hid (show ∀ y, L3[i + 1]? = some y → x.ln < y.ln from fun y hy => HRI.out.2 i x y hx hy)
              have HSB := Lib.hid (show w4.heap.size ≤ wr.heap.size from hG.out.size)
              clear hx hc hc4 hrh hrw ga hG hN hln
              go_upto_region 23 with fail
              generalize wr.alloc _ = w7 at BS Z7 ⊢
              obtain ⟨sb, esb⟩ : ∃ sb, wr.heap.size = sb := ⟨_, rfl⟩
              rw [esb] at BS HSB ⊢
              clear esb c0 c1 c2 c3 c4 c5 c6 c7 c8 c9
              have d1 := (ten_at BS.out).2.1
              by_cases hlA : i < L.length
              · have hxa : L[i]? = some x := by rw [← HI1.out i hlA]; exact HX.out
                obtain ⟨qb, qoff, qc, x2, hu, wu, ev2, hx2, -, hc2, hrh2, hrw2⟩ := R4.out.at i hlA
                obtain rfl : x2 = x := Option.some.inj (hx2.symm.trans hxa)
                injection ev2 with k4 k5 k6
                subst k4 k6
                obtain ⟨ka, kac, rfl, -⟩ := hrh2.shape
                obtain ⟨la, lac, rfl, -⟩ := hrw2.shape
                have HDX := Lib.hid hc2
                have RX3 := Lib.hid hrh2; have RX4 := Lib.hid hrw2
                have HLA := Lib.hid hlA
                clear hxa hx2 hc2 hrh2 hrw2
                go_upto_region 26 with fail
                have EW := Lib.hid (fun u : Gr w7 => HE.out _ (G4.out.trans (Z7.out.trans u.g)))
                have CS1 := Lib.hid (fun u : Gr w7 => (C.same x2 x2 _ _ _ _ u.W (EW.out u) (RX1.out.grown (Z7.out.trans u.g)) (RX2.out.grown (Z7.out.trans u.g)) (RX3.out.grown (Z7.out.trans u.g)) (RX4.out.grown (Z7.out.trans u.g))).mono (R' := fun e w' => e = .returned (.bool true) ∧ u.W.grownBy w' none) fun e w' ⟨⟨z1, h1, h2⟩, g'⟩ => ⟨by rw [h1, h2.2 rfl], g'⟩)
                clear d1
                have Ts := Lib.hid (fun v : Gr w7 => ten_at (kept_at v.g BS.out))
                have ms0 : ∀ v : Gr w7, v.W.cell? ⟨sb, 0, none⟩ = some (.int .i64 x2.k) := fun v => (Ts.out v).1
                have ms1 : ∀ v : Gr w7, v.W.cell? ⟨sb, 1, none⟩ = some (.int .i64 x2.ln) := fun v => (Ts.out v).2.1
                have ms2 : ∀ v : Gr w7, v.W.cell? ⟨sb, 2, none⟩ = some (.string x2.nm) := fun v => (Ts.out v).2.2.1
                have ms3 : ∀ v : Gr w7, v.W.cell? ⟨sb, 3, none⟩ = some (.slice ha x2.hs.length hac) := fun v => (Ts.out v).2.2.2.1
                have ms4 : ∀ v : Gr w7, v.W.cell? ⟨sb, 4, none⟩ = some (.slice wa x2.ws.length wac) := fun v => (Ts.out v).2.2.2.2.1
                have ms5 : ∀ v : Gr w7, v.W.cell? ⟨sb, 5, none⟩ = some (.int .i64 x2.fl) := fun v => (Ts.out v).2.2.2.2.2.1
                have ms6 : ∀ v : Gr w7, v.W.cell? ⟨sb, 6, none⟩ = some (.string x2.pr) := fun v => (Ts.out v).2.2.2.2.2.2.1
                have ms7 : ∀ v : Gr w7, v.W.cell? ⟨sb, 7, none⟩ = some (.string x2.rc) := fun v => (Ts.out v).2.2.2.2.2.2.2.1
                have ms8 : ∀ v : Gr w7, v.W.cell? ⟨sb, 8, none⟩ = some (.bool x2.hd) := fun v => (Ts.out v).2.2.2.2.2.2.2.2.1
                have ms9 : ∀ v : Gr w7, v.W.cell? ⟨sb, 9, none⟩ = some (.bool x2.cm) := fun v => (Ts.out v).2.2.2.2.2.2.2.2.2
                have md0 : ∀ v : Gr w7, v.W.cell? ⟨qb, qoff + i * 10, none⟩ = some (.int .i64 x2.k) := fun v => (Z7.out.trans v.g).cell (HDX.out 0 _ rfl) (by simp)
                have md1 : ∀ v : Gr w7, v.W.cell? ⟨qb, qoff + i * 10 + 1, none⟩ = some (.int .i64 x2.ln) := fun v => (Z7.out.trans v.g).cell (HDX.out 1 _ rfl) (by simp)
                have md2 : ∀ v : Gr w7, v.W.cell? ⟨qb, qoff + i * 10 + 2, none⟩ = some (.string x2.nm) := fun v => (Z7.out.trans v.g).cell (HDX.out 2 _ rfl) (by simp)
                have md3 : ∀ v : Gr w7, v.W.cell? ⟨qb, qoff + i * 10 + 3, none⟩ = some (.slice ka x2.hs.length kac) := fun v => (Z7.out.trans v.g).cell (HDX.out 3 _ rfl) (by simp)
                have md4 : ∀ v : Gr w7, v.W.cell? ⟨qb, qoff + i * 10 + 4, none⟩ = some (.slice la x2.ws.length lac) := fun v => (Z7.out.trans v.g).cell (HDX.out 4 _ rfl) (by simp)
                have md5 : ∀ v : Gr w7, v.W.cell? ⟨qb, qoff + i * 10 + 5, none⟩ = some (.int .i64 x2.fl) := fun v => (Z7.out.trans v.g).cell (HDX.out 5 _ rfl) (by simp)
                have md6 : ∀ v : Gr w7, v.W.cell? ⟨qb, qoff + i * 10 + 6, none⟩ = some (.string x2.pr) := fun v => (Z7.out.trans v.g).cell (HDX.out 6 _ rfl) (by simp)
                have md7 : ∀ v : Gr w7, v.W.cell? ⟨qb, qoff + i * 10 + 7, none⟩ = some (.string x2.rc) := fun v => (Z7.out.trans v.g).cell (HDX.out 7 _ rfl) (by simp)
                have md8 : ∀ v : Gr w7, v.W.cell? ⟨qb, qoff + i * 10 + 8, none⟩ = some (.bool x2.hd) := fun v => (Z7.out.trans v.g).cell (HDX.out 8 _ rfl) (by simp)
                have md9 : ∀ v : Gr w7, v.W.cell? ⟨qb, qoff + i * 10 + 9, none⟩ = some (.bool x2.cm) := fun v => (Z7.out.trans v.g).cell (HDX.out 9 _ rfl) (by simp)
                have inst : Nonempty (Gr w7) := ⟨⟨w7, World.grownBy.refl _ _⟩⟩
                refine wp_region_grows (by kernel_rfl) (by kernel_rfl) ?_
                repeat (go_big_quiet_step (first
                  | (go_at_call 6; refine (CS1.out _).mono ?_; rintro e w9 ⟨he, g9⟩; exact ⟨he, ⟨_, (Gr.g _).trans g9⟩, rfl⟩)))
                refine wpQuiet_nil ?_
                rintro _ ⟨⟨w9, g9⟩, rfl⟩
                have Y9 := Lib.hid (Z7.out.trans g9)
                clear ms0 ms1 ms2 ms3 ms4 ms5 ms6 ms7 ms8 ms9 md0 md1 md2 md3 md4 md5 md6 md7 md8 md9 Ts
                clear inst g9 CS1 EW
                have hlA := HLA.out
                go_wp2
                go_roundw
                case rel => exact ⟨i + 1, x2.ln, hlt, by go_num, rfl, HNX, Y9⟩
                case measure => simp [intOf]; omega
              · obtain rfl : i = L.length := by have := HL3.out; omega
                obtain ⟨y, hy, hxy⟩ := HI2.out x HX.out
                obtain ⟨qb, qoff, qc, y2, hu, wu, ev2, hy2, hqb, hc2, hrh2, hrw2⟩ := RB4.out.at 0 (by have := (List.getElem?_eq_some_iff.1 hy).1; exact this)
                obtain rfl : y2 = y := Option.some.inj (hy2.symm.trans hy)
                injection ev2 with k4 k5 k6
                subst k4 k6
                obtain ⟨ka, kac, rfl, -⟩ := hrh2.shape
                obtain ⟨la, lac, rfl, -⟩ := hrw2.shape
                have HDX := Lib.hid hc2
                have RX3 := Lib.hid hrh2; have RX4 := Lib.hid hrw2
                have HXY := Lib.hid hxy
                have hlb : 0 < LB.length := (List.getElem?_eq_some_iff.1 hy).1
                clear hy hy2 hc2 hrh2 hrw2 hxy
                go_upto_region 26 with fail
                go_quiet (fail)
                have BS8 := Lib.hid (show (w7.drewN nq).heap[sb]? = _ from BS.out)
                have Z8 := Lib.hid (grown_drewN Z7.out nq)
                generalize w7.drewN nq = w8 at BS8 Z8 ⊢
                clear d1
                have d1 := (ten_at BS8.out).2.1
                have fs := free_at BS8.out
                have q1 : w8.cell? ⟨qb, qoff + 1, none⟩ = some (.int .i64 y2.ln) := by have := Z8.out.cell (HDX.out 1 _ rfl) (by simp); rwa [Nat.zero_mul, Nat.add_zero] at this
                have B10 := Lib.hid (show (w8.setCell ⟨sb, 1, none⟩ (.int .i64 y2.ln)).heap[sb]? = some (.cells #[.int .i64 y2.k, .int .i64 y2.ln, .string y2.nm, .slice ha y2.hs.length hac, .slice wa y2.ws.length wac, .int .i64 y2.fl, .string y2.pr, .string y2.rc, .bool y2.hd, .bool y2.cm] 32 (0, 0)) by
                  have := set_t1 BS8.out (.int .i64 y2.ln)
                  revert this
                  rw [show x.k = y2.k by rw [HXY.out], show x.nm = y2.nm by rw [HXY.out], show x.hs = y2.hs by rw [HXY.out], show x.ws = y2.ws by rw [HXY.out], show x.fl = y2.fl by rw [HXY.out], show x.pr = y2.pr by rw [HXY.out], show x.rc = y2.rc by rw [HXY.out], show x.hd = y2.hd by rw [HXY.out], show x.cm = y2.cm by rw [HXY.out]]
                  exact fun h => h)
                have Z10 := Lib.hid (grown_at1 Z8.out 1 (.int .i64 y2.ln) HSB.out)
                have RY1 := Lib.hid (show RRow w4 (.slice ha y2.hs.length hac) y2.hs by have := RX1.out; rwa [show x.hs = y2.hs by rw [HXY.out]] at this)
                have RY2 := Lib.hid (show RRow w4 (.slice wa y2.ws.length wac) y2.ws by have := RX2.out; rwa [show x.ws = y2.ws by rw [HXY.out]] at this)
                go_upto_region 30 with fail
                generalize w8.setCell _ _ = w10 at B10 Z10 ⊢
                clear d1 fs q1
                have EW := Lib.hid (fun u : Gr w10 => HE.out _ (G4.out.trans (Z10.out.trans u.g)))
                have CS1 := Lib.hid (fun u : Gr w10 => (C.same y2 y2 _ _ _ _ u.W (EW.out u) (RY1.out.grown (Z10.out.trans u.g)) (RY2.out.grown (Z10.out.trans u.g)) (RX3.out.grown (Z10.out.trans u.g)) (RX4.out.grown (Z10.out.trans u.g))).mono (R' := fun e w' => e = .returned (.bool true) ∧ u.W.grownBy w' none) fun e w' ⟨⟨z1, h1, h2⟩, g'⟩ => ⟨by rw [h1, h2.2 rfl], g'⟩)
                have Ts := Lib.hid (fun v : Gr w10 => ten_at (kept_at v.g B10.out))
                have ms0 : ∀ v : Gr w10, v.W.cell? ⟨sb, 0, none⟩ = some (.int .i64 y2.k) := fun v => (Ts.out v).1
                have ms1 : ∀ v : Gr w10, v.W.cell? ⟨sb, 1, none⟩ = some (.int .i64 y2.ln) := fun v => (Ts.out v).2.1
                have ms2 : ∀ v : Gr w10, v.W.cell? ⟨sb, 2, none⟩ = some (.string y2.nm) := fun v => (Ts.out v).2.2.1
                have ms3 : ∀ v : Gr w10, v.W.cell? ⟨sb, 3, none⟩ = some (.slice ha y2.hs.length hac) := fun v => (Ts.out v).2.2.2.1
                have ms4 : ∀ v : Gr w10, v.W.cell? ⟨sb, 4, none⟩ = some (.slice wa y2.ws.length wac) := fun v => (Ts.out v).2.2.2.2.1
                have ms5 : ∀ v : Gr w10, v.W.cell? ⟨sb, 5, none⟩ = some (.int .i64 y2.fl) := fun v => (Ts.out v).2.2.2.2.2.1
                have ms6 : ∀ v : Gr w10, v.W.cell? ⟨sb, 6, none⟩ = some (.string y2.pr) := fun v => (Ts.out v).2.2.2.2.2.2.1
                have ms7 : ∀ v : Gr w10, v.W.cell? ⟨sb, 7, none⟩ = some (.string y2.rc) := fun v => (Ts.out v).2.2.2.2.2.2.2.1
                have ms8 : ∀ v : Gr w10, v.W.cell? ⟨sb, 8, none⟩ = some (.bool y2.hd) := fun v => (Ts.out v).2.2.2.2.2.2.2.2.1
                have ms9 : ∀ v : Gr w10, v.W.cell? ⟨sb, 9, none⟩ = some (.bool y2.cm) := fun v => (Ts.out v).2.2.2.2.2.2.2.2.2
                have md0 : ∀ v : Gr w10, v.W.cell? ⟨qb, qoff, none⟩ = some (.int .i64 y2.k) := fun v => by have := (Z10.out.trans v.g).cell (HDX.out 0 _ rfl) (by simp); simpa using this
                have md1 : ∀ v : Gr w10, v.W.cell? ⟨qb, qoff + 1, none⟩ = some (.int .i64 y2.ln) := fun v => by have := (Z10.out.trans v.g).cell (HDX.out 1 _ rfl) (by simp); simpa using this
                have md2 : ∀ v : Gr w10, v.W.cell? ⟨qb, qoff + 2, none⟩ = some (.string y2.nm) := fun v => by have := (Z10.out.trans v.g).cell (HDX.out 2 _ rfl) (by simp); simpa using this
                have md3 : ∀ v : Gr w10, v.W.cell? ⟨qb, qoff + 3, none⟩ = some (.slice ka y2.hs.length kac) := fun v => by have := (Z10.out.trans v.g).cell (HDX.out 3 _ rfl) (by simp); simpa using this
                have md4 : ∀ v : Gr w10, v.W.cell? ⟨qb, qoff + 4, none⟩ = some (.slice la y2.ws.length lac) := fun v => by have := (Z10.out.trans v.g).cell (HDX.out 4 _ rfl) (by simp); simpa using this
                have md5 : ∀ v : Gr w10, v.W.cell? ⟨qb, qoff + 5, none⟩ = some (.int .i64 y2.fl) := fun v => by have := (Z10.out.trans v.g).cell (HDX.out 5 _ rfl) (by simp); simpa using this
                have md6 : ∀ v : Gr w10, v.W.cell? ⟨qb, qoff + 6, none⟩ = some (.string y2.pr) := fun v => by have := (Z10.out.trans v.g).cell (HDX.out 6 _ rfl) (by simp); simpa using this
                have md7 : ∀ v : Gr w10, v.W.cell? ⟨qb, qoff + 7, none⟩ = some (.string y2.rc) := fun v => by have := (Z10.out.trans v.g).cell (HDX.out 7 _ rfl) (by simp); simpa using this
                have md8 : ∀ v : Gr w10, v.W.cell? ⟨qb, qoff + 8, none⟩ = some (.bool y2.hd) := fun v => by have := (Z10.out.trans v.g).cell (HDX.out 8 _ rfl) (by simp); simpa using this
                have md9 : ∀ v : Gr w10, v.W.cell? ⟨qb, qoff + 9, none⟩ = some (.bool y2.cm) := fun v => by have := (Z10.out.trans v.g).cell (HDX.out 9 _ rfl) (by simp); simpa using this
                have inst : Nonempty (Gr w10) := ⟨⟨w10, World.grownBy.refl _ _⟩⟩
                refine wp_region_grows (by kernel_rfl) (by kernel_rfl) ?_
                repeat (go_big_quiet_step (first
                  | (go_at_call 6; refine (CS1.out _).mono ?_; rintro e w9 ⟨he, g9⟩; exact ⟨he, ⟨_, (Gr.g _).trans g9⟩, rfl⟩)))
                refine wpQuiet_nil ?_
                rintro _ ⟨⟨w9, g9⟩, rfl⟩
                have Y9 := Lib.hid (Z10.out.trans g9)
                clear ms0 ms1 ms2 ms3 ms4 ms5 ms6 ms7 ms8 ms9 md0 md1 md2 md3 md4 md5 md6 md7 md8 md9 Ts
                clear inst g9 CS1 EW
                go_wp2
                go_roundw
                case rel => exact ⟨L.length + 1, x.ln, hlt, by go_num, rfl, HNX, Y9⟩
                case measure => simp [intOf]; omega
            · have GF := Lib.hid (G4.out.trans hG.out)
              go_wp2
              go_ret
              exact ⟨rfl, GF.out⟩
end Go.Proofs.YtdganemgldocoaaDoor
