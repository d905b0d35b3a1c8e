/- Walks of the document's layer 3: Parse. -/
import Derived.Test.YtbcemenfklgnkaaGreatDoorArU
import Derived.Test.YtbcemenfklgnkaaGreatDoorArX
import Derived.Deep.DeepCutAuto
import Derived.Deep.CutBlock
namespace Go.Proofs.YtbcemenfklgnkaaGreatDoor
open Go.RowKit

theorem take_drop (l : List UInt8) (a b : Nat) : l.drop a = (l.drop a).take b ++ l.drop (a + b) := by
  rw [← List.drop_drop, List.take_append_drop]
/-- a text whose places hold a member's parts begins with its bytes -/
theorem one_make {rest : List UInt8} {x : Mb} (hl : 60 ≤ rest.length) (hn : x.n.data.toList = Lib.trimRightB (rest.take 16) 32) (ht : (rest.drop 16).take 12 = padL (Lib.itoa x.t) 12) (hf : (rest.drop 28).take 20 = fixL)
    (hz : (rest.drop 48).take 10 = padL (Lib.itoa x.c.size) 10) (hb : (rest.drop 58).take 2 = [96, 10]) (hc : (rest.drop 60).take x.c.size = x.c.data.toList) (ho : x.c.size % 2 = 1 → rest[60 + x.c.size]? = some 10) : rest = oneL x ++ rest.drop (sizeM x) := by
  have e0 : rest = rest.take 16 ++ rest.drop 16 := (List.take_append_drop _ _).symm
  have e1 := take_drop rest 16 12
  have e2 := take_drop rest 28 20
  have e3 := take_drop rest 48 10
  have e4 := take_drop rest 58 2
  have e5 := take_drop rest 60 x.c.size
  have e6 : rest.drop (60 + x.c.size) = oddL x.c ++ rest.drop (sizeM x) := by
    unfold oddL sizeM
    rcases Nat.mod_two_eq_zero_or_one x.c.size with h | h
    · rw [if_neg (by omega), h]; rfl
    · rw [if_pos h, h]
      have := ho h
      obtain ⟨hlt, he⟩ := List.getElem?_eq_some_iff.1 this
      rw [List.drop_eq_getElem_cons hlt, he]; rfl
  have hp := pad_of_trim (rest.take 16) 16 (by rw [List.length_take]; omega)
  rw [← hn] at hp
  unfold oneL
  rw [hp, ← ht, ← hf, ← hz, ← hb, ← hc]
  simp only [List.append_assoc]
  rw [← e6, ← e5, ← e4, ← e3, ← e2, ← e1, ← e0]
/-- the same readings of any member with which the text begins -/
theorem one_same {rest r : List UInt8} {x m : Mb} (hg : Good m) (hr : rest = oneL m ++ r) (hn : x.n.data.toList = Lib.trimRightB (rest.take 16) 32) (ht : ∀ u : Nat, (rest.drop 16).take 12 = padL (Lib.itoa (u : Int)) 12 → x.t = u)
    (hz : ∀ u : Nat, (rest.drop 48).take 10 = padL (Lib.itoa (u : Int)) 10 → x.c.size = u) (hc : (rest.drop 60).take x.c.size = x.c.data.toList) : x = m := by
  obtain ⟨a1, a2, -, a4, -, a6, -, -, -⟩ := one_read hg r
  rw [← hr] at a1 a2 a4 a6
  have t1 := (time_iff _).1 hg.2.1
  have e1 : x.n = m.n := ba_ext (hn.trans a1)
  have e2 : x.t = m.t := by
    have := ht m.t.toNat (by rw [a2]; congr 2; omega)
    omega
  have e3 := hz m.c.size a4
  have e4 : x.c = m.c := by rw [e3] at hc; exact ba_ext (hc.symm.trans a6)
  exact mb_ext e1 e2 e4
theorem ext_at (s : ByteArray) (k a b : Nat) : (s.extract (k + a) (k + b)).data.toList = ((s.data.toList.drop k).drop a).take (b - a) := by
  rw [ext_list, List.drop_drop]; congr 1; omega
theorem arch_lo {s : ByteArray} {l : List Mb} (h : Arch s l) : 8 ≤ s.size := by
  have hf : ∀ m ∈ l, Fits m := fun m hm => (good_of h.1 hm).fits
  have := make_len hf
  rw [← h.2, bytes_len] at this
  omega

theorem infoMemberR : (Tryz.prog.info? 123).map (fun i => (i.zero, i.size, i.bytes)) = some (some (.agg #[.string ByteArray.empty, .int .i64 0, .string ByteArray.empty]), 3, 40) := by kernel_rfl
theorem own_newR (w : World) (base : Nat) (hb : base ≤ w.heap.size) : OwnM (w.alloc (.cells #[] 123)) base 123 (.slice (some ⟨w.heap.size, 0, none⟩) 0 0) [] :=
  ⟨⟨rfl, .inr ⟨w.heap.size, 0, #[], rfl, hb, heap_alloc_new w _, Nat.le_refl _, Nat.zero_le _, rfl, rfl⟩⟩, by simp⟩
theorem pad_le {l : List UInt8} {n : Nat} (h : (padL l n).length = n) : l.length ≤ n := by
  unfold padL at h
  rw [List.length_append, List.length_replicate] at h; omega
theorem parse_next {s : ByteArray} {k : Nat} {acc : List Mb} {x : Mb} (hR : Rem s acc (s.data.toList.drop k)) (hne : s.data.toList.drop k ≠ []) (hT : s.data.toList.take k = makeL acc)
    (hS : ∀ m r, Good m → s.data.toList.drop k = oneL m ++ r → x = m) (h1 : s.data.toList.drop k = oneL x ++ (s.data.toList.drop k).drop (sizeM x)) (hf : Fits x) :
    Rem s (acc ++ [x]) (s.data.toList.drop (k + sizeM x)) ∧ s.data.toList.take (k + sizeM x) = makeL (acc ++ [x]) := by
  refine ⟨by rw [← List.drop_drop]; exact rem_next hR hne hS, ?_⟩
  have e : (s.data.toList.drop k).take (sizeM x) = oneL x := by
    rw [h1, List.take_append_of_le_length (by rw [one_len hf]; exact Nat.le_refl _), List.take_of_length_le (by rw [one_len hf]; exact Nat.le_refl _)]
  rw [List.take_add, hT, e]
  unfold makeL
  rw [List.flatMap_append, List.append_assoc]; simp
theorem fig_at {q : ByteArray} {n N : Nat} {ok : Bool} {L : List UInt8} (h : FigOf q n ok) (hl : q.data.toList = L) (hn : q.size = N) : (ok = true → L = padL (Lib.itoa (n : Int)) N) ∧ ∀ m : Nat, L = padL (Lib.itoa (m : Int)) N → ok = true ∧ n = m := by
  subst hl; subst hn; exact h
/-- how a text ends: it is empty, a blank, another byte -/
theorem last_cases (y : ByteArray) : (0 < y.size ∧ ∃ h : y.size - 1 < y.size, ((y[y.size - 1].toNat : Int) == 32) = true ∧ Hid (y.data.toList = (y.extract 0 (y.size - 1)).data.toList ++ [32])) ∨
    (y.size ≤ 0 ∧ Hid (∀ c, y.data.toList.getLast? = some c → c ≠ 32)) ∨
    (0 < y.size ∧ ∃ h : y.size - 1 < y.size, ((y[y.size - 1].toNat : Int) == 32) = false ∧ Hid (∀ c, y.data.toList.getLast? = some c → c ≠ 32)) := by
  rcases Nat.eq_zero_or_pos y.size with h0 | h0
  · refine .inr (.inl ⟨by omega, Lib.hid fun c hc => ?_⟩)
    have : y.data.toList = [] := List.eq_nil_of_length_eq_zero (by rw [bytes_len]; exact h0)
    rw [this] at hc; cases hc
  · have hlt : y.size - 1 < y.size := by omega
    have hg := get_some y (y.size - 1) hlt
    have e32 : ((32 : UInt8).toNat : Int) = 32 := rfl
    have hlast : y.data.toList.getLast? = some y[y.size - 1] := by rw [List.getLast?_eq_getElem?, bytes_len]; exact hg
    cases e : ((y[y.size - 1].toNat : Int) == 32)
    · refine .inr (.inr ⟨h0, hlt, e, Lib.hid fun c hc => ?_⟩)
      rw [hlast] at hc; cases hc
      intro h; rw [h] at e; cases e
    · refine .inl ⟨h0, hlt, e, Lib.hid ?_⟩
      rw [← e32] at e
      have hc := (u8_eq _ _).1 e
      rw [ext_list, List.drop_zero, Nat.sub_zero]
      have h1 := take_snoc y (y.size - 1) hlt
      rw [show y.size - 1 + 1 = y.size by omega, take_all y y.size (Nat.le_refl _), hc] at h1
      exact h1
/-- what the document's Parse answers -/
def RParsePost (s : ByteArray) (w : World) (e : Ending) (w' : World) : Prop :=
  (archOf s = none ∧ ∃ (v : Value) (acc : List Mb), e = .returned (.tuple #[v, .bool false]) ∧ OwnM w' w.heap.size 123 v acc ∧ w.grownBy w' none) ∨
  (∃ (v : Value) (acc : List Mb), archOf s = some acc ∧ e = .returned (.tuple #[v, .bool true]) ∧ OwnM w' w.heap.size 123 v acc ∧ w.grownBy w' none)
theorem rparse_no {s : ByteArray} {w w' : World} (h : archOf s = none) (hg : w.grownBy w' none) : RParsePost s w (.returned (.tuple #[.slice none 0 0, .bool false])) w' :=
  .inl ⟨h, _, [], rfl, OwnM.nil _ _ _, hg⟩

set_option maxRecDepth 100000 in
set_option maxHeartbeats 8000000 in
theorem rParse (s : ByteArray) (w : World) (hs : s.size ≤ maxLen) :
    Calls Tryz.prog 75 #[.string s] w (RParsePost s w) := by
  unfold maxLen at hs
  by_cases h9 : 900 < s.size
  · have HN := Lib.hid (archOf_none (s := s) (fun l hl => by have := arch_len hl; omega))
    go_enter Tryz.func75, Tryz.ntmps75
    go_wp2
    go_ret2
    exact rparse_no HN.out (World.grownBy.refl _ _)
  by_cases h8 : s.size < 8
  · have HN := Lib.hid (archOf_none (s := s) (fun l hl => by have := arch_lo hl; omega))
    go_enter Tryz.func75, Tryz.ntmps75
    go_wp2
    go_ret2
    exact rparse_no HN.out (World.grownBy.refl _ _)
  have h900 : s.size ≤ 900 := by omega
  have hd8 : decide ((s.size : Int) < 8) = false := decide_eq_false (by omega)
  have hd9 : decide ((900 : Int) < (s.size : Int)) = false := decide_eq_false (by omega)
  have hi8 : (8 : Int) ≤ (s.size : Int) := by omega
  cases hq : ((s.extract 0 8).toList == [33, 60, 97, 114, 99, 104, 62, 10])
  · have HN := Lib.hid (archOf_none (s := s) (fun l hl => by
      have : (s.extract 0 8).data.toList = [33, 60, 97, 114, 99, 104, 62, 10] := by
        rw [ext_list, hl.2]; unfold makeL; rw [List.drop_zero, List.take_append_of_le_length (by decide)]; rfl
      rw [Lib.toList_data, this] at hq; cases hq))
    go_enter Tryz.func75, Tryz.ntmps75
    go_wp2
    go_ret2
    exact rparse_no HN.out (World.grownBy.refl _ _)
  have hmag : s.data.toList.take 8 = magL := by
    rw [Lib.toList_data, beq_iff_eq, ext_list] at hq
    exact hq
  have REM := Lib.hid (rem_start (s := s) (rest := s.data.toList.drop 8) (by rw [← hmag, List.take_append_drop]))
  have ST0 := Lib.hid (show s.data.toList.take 8 = makeL [] by rw [hmag, show makeL [] = magL from by unfold makeL; simp])
  obtain ⟨i0, hi, hz0, hz1, hz2⟩ := info_parts infoMemberR
  have I := Lib.hid hi; have Z0 := Lib.hid hz0; have Z1 := Lib.hid hz1; have Z2 := Lib.hid hz2
  have OWN := Lib.hid (own_newR w w.heap.size (Nat.le_refl _))
  have GW := Lib.hid (World.grownBy_alloc w (.cells #[] 123) none)
  clear hi hz0 hz1 hz2 hmag
  go_enter Tryz.func75, Tryz.ntmps75
  go_wp2
  generalize (w.alloc (.cells #[] 123)) = w1 at *
  generalize hp0 : (Value.slice (some ⟨w.heap.size, 0, none⟩) 0 0) = v0 at *
  clear hp0
  go_loopw [4, 5, 6, 7, 8, 9, 10, 11] (fun out at' _ _ _ _ _ _ wr => ∃ (k : Nat) (acc : List Mb), 8 ≤ k ∧ k ≤ s.size ∧ at' = .int .i64 k ∧ acc.length ≤ k ∧ Hid (OwnM wr w.heap.size 123 out acc) ∧ Hid (Rem s acc (s.data.toList.drop k)) ∧ Hid (s.data.toList.take k = makeL acc) ∧ Hid (∀ m ∈ acc, m.c.size ≤ 900) ∧ Hid (w.grownBy wr none)) (fun _ a _ _ _ _ _ _ _ => s.size - (intOf a).toNat)
  case atStart => exact ⟨8, [], Nat.le_refl _, by omega, rfl, by simp, OWN, REM, ST0, Lib.hid (by simp), GW⟩
  case round =>
    obtain ⟨k, acc, hk8, hk, rfl, hlen, hO, hR, hT, hC, hG⟩ := hrel
    by_cases hlt : k < s.size
    · have NE := Lib.hid (show s.data.toList.drop k ≠ [] by
        intro e; have := congrArg List.length e
        rw [List.length_drop, bytes_len] at this; simp at this; omega)
      have LR := Lib.hid (show (s.data.toList.drop k).length = s.size - k by rw [List.length_drop, bytes_len])
      by_cases h60 : (s.size : Int) - (k : Int) < 60
      · have HN := Lib.hid (archOf_none (rem_not hR.out NE.out (fun m r hg hr => by have := (first_good hg hr).1; have := LR.out; omega)))
        go_wp2
        go_ret2
        exact rparse_no HN.out hG.out
      have hd60 : decide ((s.size : Int) - (k : Int) < 60) = false := decide_eq_false h60
      have hb60 : (k : Int) + 60 ≤ (s.size : Int) := by omega
      have hk0 : (0 : Int) ≤ (k : Int) := by omega
      cases hf : ((s.extract (k + 28) (k + 48)).toList == [48, 32, 32, 32, 32, 32, 48, 32, 32, 32, 32, 32, 54, 52, 52, 32, 32, 32, 32, 32])
      · have HN := Lib.hid (archOf_none (rem_not hR.out NE.out (fun m r hg hr => by
          have := (one_read hg r).2.2.1
          rw [← hr] at this
          rw [Lib.toList_data, ext_at, this] at hf; cases hf)))
        go_wp2
        go_ret2
        exact rparse_no HN.out hG.out
      cases hb : ((s.extract (k + 58) (k + 60)).toList == [96, 10])
      · have HN := Lib.hid (archOf_none (rem_not hR.out NE.out (fun m r hg hr => by
          have := (one_read hg r).2.2.2.2.1
          rw [← hr] at this
          rw [Lib.toList_data, ext_at, this] at hb; cases hb)))
        go_wp2
        go_ret2
        exact rparse_no HN.out hG.out
      have FX := Lib.hid (show ((s.data.toList.drop k).drop 28).take 20 = fixL by rw [Lib.toList_data, beq_iff_eq, ext_at] at hf; exact hf)
      have FB := Lib.hid (show ((s.data.toList.drop k).drop 58).take 2 = [96, 10] by rw [Lib.toList_data, beq_iff_eq, ext_at] at hb; exact hb)
      have s1 : (s.extract (k + 16) (k + 28)).size = 12 := by rw [ByteArray.size_extract]; omega
      have s2 : (s.extract (k + 48) (k + 58)).size = 10 := by rw [ByteArray.size_extract]; omega
      have HF1 := Lib.hid (fun W => rFiguresOf (s.extract (k + 16) (k + 28)) W (by omega))
      have HF2 := Lib.hid (fun W => rFiguresOf (s.extract (k + 48) (k + 58)) W (by omega))
      have S1 := Lib.hid s1; have S2 := Lib.hid s2
      have N0 := Lib.hid (show (s.extract k (k + 16)).data.toList = (s.data.toList.drop k).take 16 by rw [ext_list]; congr 1; omega)
      have ys0 : (s.extract k (k + 16)).size ≤ 16 := by rw [ByteArray.size_extract]; omega
      have hb60' : 60 ≤ (s.size : Int) - (k : Int) := by omega
      clear s1 s2
      go_upto_block 2 with fail
      clear hf hb hq h9 h8 hd8 hd9 hd60
      go_cut [6] (fun r wi => ∃ y : ByteArray, r = .string y ∧ y.size ≤ 16 ∧ Hid (y.data.toList = Lib.trimRightB ((s.data.toList.drop k).take 16) 32) ∧ wr = wi)
      case first =>
        go_wp2
        go_loopg [6] (s.extract k (k + 16)).size (fun g r wi => ∃ (y : ByteArray) (j : Nat), r = .string y ∧ y.size ≤ 16 ∧ g = y.size ∧ Hid ((s.data.toList.drop k).take 16 = y.data.toList ++ List.replicate j 32) ∧ wr = wi)
        case atStart => exact ⟨_, 0, rfl, ys0, rfl, Lib.hid (by rw [N0.out]; simp), rfl⟩
        case round =>
          obtain ⟨y, j, rfl, hys, rfl, hy, rfl⟩ := hrel
          rcases last_cases y with ⟨h0, hlt2, h32, hl⟩ | ⟨h0, hl⟩ | ⟨h0, hlt2, h32, hl⟩
          · have hy1 : (1 : Int) ≤ (y.size : Int) := by omega
            have hy2 : (0 : Int) ≤ (y.size : Int) - 1 := by omega
            have hy3 : (0 : Int) < (y.size : Int) := by omega
            have HY := Lib.hid (show (s.data.toList.drop k).take 16 = (y.extract 0 (y.size - 1)).data.toList ++ List.replicate (j + 1) 32 by
              rw [hy.out]
              have := hl.out
              rw [this, List.append_assoc, List.replicate_succ]; rfl)
            go_wp2
            go_roundg (y.size - 1)
            case measure => omega
            case rel => exact ⟨_, j + 1, rfl, by rw [ByteArray.size_extract]; omega, by rw [ByteArray.size_extract]; omega, HY, rfl⟩
          all_goals
            have YT := Lib.hid (show y.data.toList = Lib.trimRightB ((s.data.toList.drop k).take 16) 32 by rw [hy.out, trim_pad hl.out])
            have hy0 : (0 : Int) ≤ (y.size : Int) := Int.natCast_nonneg _
            clear hy hl
            go_wp2
            go_meet
            exact ⟨y, rfl, hys, YT, rfl⟩
      case rest =>
        obtain ⟨y, rfl, hys, YT, rfl⟩ := hcut
        go_wp2_with fail
        refine (HF1.out _).mono ?_
        rintro e w2 ⟨n1, ok1, rfl, hf1, rfl⟩
        have A1 := Lib.hid (fig_at hf1 (ext_at s k 16 28) S1.out)
        clear hf1
        go_wp2_with fail
        refine (HF2.out _).mono ?_
        rintro e w2 ⟨z, ok2, rfl, hf2, rfl⟩
        have A2 := Lib.hid (fig_at hf2 (ext_at s k 48 58) S2.out)
        clear hf2 HF1 HF2 S1 S2 N0
        cases ok1
        · have HN := Lib.hid (archOf_none (rem_not hR.out NE.out (fun m r hg hr => by
            have a2 := (one_read hg r).2.1
            rw [← hr] at a2
            have t1 := (time_iff _).1 hg.2.1
            have := (A1.out.2 m.t.toNat (by rw [a2]; congr 2; omega)).1
            cases this)))
          go_wp2
          go_ret2
          exact rparse_no HN.out hG.out
        cases ok2
        · have HN := Lib.hid (archOf_none (rem_not hR.out NE.out (fun m r hg hr => by
            have a4 := (one_read hg r).2.2.2.1
            rw [← hr] at a4
            have := (A2.out.2 m.c.size a4).1
            cases this)))
          go_wp2
          go_ret2
          exact rparse_no HN.out hG.out
        by_cases hz : (s.size : Int) - (k : Int) - 60 < (z : Int)
        · have HN := Lib.hid (archOf_none (rem_not hR.out NE.out (fun m r hg hr => by
            have a4 := (one_read hg r).2.2.2.1
            rw [← hr] at a4
            have e1 := (A2.out.2 m.c.size a4).2
            have e2 := (first_good hg hr).2.2.2.1
            have := LR.out
            omega)))
          go_wp2
          go_ret2
          exact rparse_no HN.out hG.out
        have hz0 : (0 : Int) ≤ (z : Int) := Int.natCast_nonneg _
        have hb1 : (k : Int) + 60 + (z : Int) ≤ (s.size : Int) := by omega
        have hb2 : (k : Int) + 60 ≤ (k : Int) + 60 + (z : Int) := by omega
        have CL := Lib.hid (show (s.extract (k + 60) (k + 60 + z)).data.toList = ((s.data.toList.drop k).drop 60).take z by rw [ext_list, List.drop_drop]; congr 1; omega)
        have CZ := Lib.hid (show (s.extract (k + 60) (k + 60 + z)).size = z by rw [ByteArray.size_extract]; omega)
        have SAME := Lib.hid (show ∀ m r, Good m → s.data.toList.drop k = oneL m ++ r → (⟨y, n1, s.extract (k + 60) (k + 60 + z)⟩ : Mb) = m from fun m r hg hr =>
          one_same hg hr YT.out (fun u hu => by have := (A1.out.2 u hu).2; simp only; omega) (fun u hu => by have := (A2.out.2 u hu).2; have := CZ.out; simp only; omega) (by simp only; rw [CZ.out, CL.out]))
        have P1 := A1.out.1 rfl
        have P2 := A2.out.1 rfl
        have FIT := Lib.hid (show Fits ⟨y, n1, s.extract (k + 60) (k + 60 + z)⟩ from
          ⟨hys, pad_le (by rw [← P1, List.length_take, List.length_drop, LR.out]; omega), by
            simp only; rw [CZ.out]; exact pad_le (by rw [← P2, List.length_take, List.length_drop, LR.out]; omega)⟩)
        have MAKE := Lib.hid (show (z % 2 = 1 → (s.data.toList.drop k)[60 + z]? = some 10) → s.data.toList.drop k = oneL ⟨y, n1, s.extract (k + 60) (k + 60 + z)⟩ ++ (s.data.toList.drop k).drop (sizeM ⟨y, n1, s.extract (k + 60) (k + 60 + z)⟩) from fun ho =>
          one_make (by have := LR.out; omega) YT.out P1 FX.out (by simp only; rw [CZ.out]; exact P2) FB.out (by simp only; rw [CZ.out, CL.out]) (by simp only; rw [CZ.out]; exact ho))
        have SZ := Lib.hid (show sizeM ⟨y, n1, s.extract (k + 60) (k + 60 + z)⟩ = 60 + z + z % 2 by unfold sizeM; simp only; rw [CZ.out])
        have MS := Lib.hid (show y.size ≤ maxLen ∧ (s.extract (k + 60) (k + 60 + z)).size ≤ maxLen from ⟨by unfold maxLen; omega, by rw [CZ.out]; unfold maxLen; omega⟩)
        have HC2 := Lib.hid (show ∀ m ∈ acc ++ [(⟨y, n1, s.extract (k + 60) (k + 60 + z)⟩ : Mb)], m.c.size ≤ 900 from fun m hm => by
          rcases List.mem_append.1 hm with h | h
          · exact hC.out m h
          · rw [List.mem_singleton] at h; subst h; simp only; rw [CZ.out]; omega)
        have HB := Lib.hid hG.out.size
        clear P1 P2 A1 A2 CL FX FB hC
        rcases Nat.mod_two_eq_zero_or_one z with hev | hev
        · have NX := Lib.hid (parse_next hR.out NE.out hT.out SAME.out (MAKE.out (fun h => by omega)) FIT.out)
          rw [SZ.out, hev] at NX
          have hz2 : (((z : Int) % 2) == 1) = false := by rw [beq_eq_false_iff_ne]; omega
          have LEN := Lib.hid (show (acc ++ [(⟨y, n1, s.extract (k + 60) (k + 60 + z)⟩ : Mb)]).length ≤ k + (60 + z + 0) by rw [List.length_append, List.length_singleton]; omega)
          clear hev SZ MAKE SAME FIT CZ YT
          go_wp2_with (at_builtin; refine wpList_append_own _ rfl _ _ 120 rfl w.heap.size 123 i0 _ 3 40 Tryz.underlying120 I.out Z0.out Z1.out Z2.out rfl (by decide) _ _ _ rfl ((hO.out.1.alloc _).alloc _) ⟨_, 0, none⟩ 1 1 [.string y, .int .i64 n1, .string (s.extract (k + 60) (k + 60 + z))] rfl rfl (newsAtM _ ⟨y, n1, s.extract (k + 60) (k + 60 + z)⟩ _ _ (by simp)) (oneM ⟨y, n1, s.extract (k + 60) (k + 60 + z)⟩) (by unfold maxLen; omega) (by omega) (by have := HB.out; simp; omega) ?_; intro v' w2 hown' hgrow2 hnil2; have O3 := Lib.hid (OwnM.snoc (m := ⟨y, n1, s.extract (k + 60) (k + 60 + z)⟩) hO.out.2 MS.out.1 MS.out.2 hown' rfl rfl); have G3 := Lib.hid (((hG.out.trans (World.grownBy_alloc wr (.cells #[.string y, .int .i64 n1, .string (s.extract (k + 60) (k + 60 + z))] 123) none)).trans (World.grownBy_alloc _ (.cells #[.string y, .int .i64 n1, .string (s.extract (k + 60) (k + 60 + z))] 123) none)).andThen hgrow2 (fun j e => .inl (hO.out.1.lt j e).1)); clear hown' hgrow2 hnil2)
          go_roundw
          case rel => exact ⟨k + (60 + z + 0), _, by omega, by omega, by go_num, LEN.out, O3, Lib.hid NX.out.1, Lib.hid NX.out.2, HC2, G3⟩
          case measure => simp [intOf]; omega
        · have hz2 : (((z : Int) % 2) == 1) = true := by rw [beq_iff_eq]; omega
          by_cases hge : (s.size : Int) ≤ (k : Int) + (60 + (z : Int))
          · have HN := Lib.hid (archOf_none (rem_not hR.out NE.out (fun m r hg hr => by
              obtain rfl := SAME.out m r hg hr
              have := (first_good hg hr).2.2.2.2.2.2
              rw [SZ.out, LR.out] at this; omega)))
            clear hev SZ MAKE SAME FIT CZ YT
            go_wp2
            go_ret2
            exact rparse_no HN.out (hG.out.trans (World.grownBy_alloc _ _ _))
          have hd3 : decide ((s.size : Int) ≤ (k : Int) + (60 + (z : Int))) = false := decide_eq_false hge
          have hlt3 : k + (60 + z) < s.size := by omega
          have hlt4 : (k : Int) + (60 + (z : Int)) < (s.size : Int) := by omega
          have hlt5 : (0 : Int) ≤ (k : Int) + (60 + (z : Int)) := by omega
          have GE := Lib.hid (show (s.data.toList.drop k)[60 + z]? = some s[k + (60 + z)] by rw [List.getElem?_drop]; exact get_some s (k + (60 + z)) hlt3)
          cases e10 : ((s[k + (60 + z)].toNat : Int) == 10)
          · have HN := Lib.hid (archOf_none (rem_not hR.out NE.out (fun m r hg hr => by
              obtain rfl := SAME.out m r hg hr
              have := (one_read hg r).2.2.2.2.2.2.1
              rw [← hr] at this
              simp only [CZ.out] at this
              have := this hev
              rw [GE.out] at this
              have := Option.some.inj this
              rw [this] at e10; cases e10)))
            clear hev SZ MAKE SAME FIT CZ YT GE
            go_wp2
            go_ret2
            exact rparse_no HN.out (hG.out.trans (World.grownBy_alloc _ _ _))
          · have e10' : (10 : Int) = ((10 : UInt8).toNat : Int) := rfl
            have hc10 : s[k + (60 + z)] = 10 := by rw [e10'] at e10; exact (u8_eq _ _).1 e10
            have NX := Lib.hid (parse_next hR.out NE.out hT.out SAME.out (MAKE.out (fun _ => by rw [GE.out, hc10])) FIT.out)
            rw [SZ.out, hev] at NX
            have LEN := Lib.hid (show (acc ++ [(⟨y, n1, s.extract (k + 60) (k + 60 + z)⟩ : Mb)]).length ≤ k + (60 + z + 1) by rw [List.length_append, List.length_singleton]; omega)
            clear hev SZ MAKE SAME FIT CZ YT GE hc10 e10'
            go_wp2_with (at_builtin; refine wpList_append_own _ rfl _ _ 120 rfl w.heap.size 123 i0 _ 3 40 Tryz.underlying120 I.out Z0.out Z1.out Z2.out rfl (by decide) _ _ _ rfl ((hO.out.1.alloc _).alloc _) ⟨_, 0, none⟩ 1 1 [.string y, .int .i64 n1, .string (s.extract (k + 60) (k + 60 + z))] rfl rfl (newsAtM _ ⟨y, n1, s.extract (k + 60) (k + 60 + z)⟩ _ _ (by simp)) (oneM ⟨y, n1, s.extract (k + 60) (k + 60 + z)⟩) (by unfold maxLen; omega) (by omega) (by have := HB.out; simp; omega) ?_; intro v' w2 hown' hgrow2 hnil2; have O3 := Lib.hid (OwnM.snoc (m := ⟨y, n1, s.extract (k + 60) (k + 60 + z)⟩) hO.out.2 MS.out.1 MS.out.2 hown' rfl rfl); have G3 := Lib.hid (((hG.out.trans (World.grownBy_alloc wr (.cells #[.string y, .int .i64 n1, .string (s.extract (k + 60) (k + 60 + z))] 123) none)).trans (World.grownBy_alloc _ (.cells #[.string y, .int .i64 n1, .string (s.extract (k + 60) (k + 60 + z))] 123) none)).andThen hgrow2 (fun j e => .inl (hO.out.1.lt j e).1)); clear hown' hgrow2 hnil2)
            go_roundw
            case rel => exact ⟨k + (60 + z + 1), _, by omega, by omega, by go_num, LEN.out, O3, Lib.hid NX.out.1, Lib.hid NX.out.2, HC2, G3⟩
            case measure => simp [intOf]; omega
    · obtain rfl : k = s.size := by omega
      have REND := Lib.hid (rem_end (s := s) (acc := acc) (by have := hR.out; rwa [List.drop_of_length_le (by rw [bytes_len]; exact Nat.le_refl _)] at this))
      have HT := Lib.hid (show s.data.toList = makeL acc by have := hT.out; rwa [List.take_of_length_le (by rw [bytes_len]; exact Nat.le_refl _)] at this)
      have HM := Lib.hid (rMake _ acc w.heap.size wr hO.out (fun m hm => by have := hC.out m hm; omega))
      clear hR hT hC
      go_wp2_with fail
      refine HM.out.mono ?_
      rintro e w5 ⟨x, rfl, -, hg⟩
      have G5 := Lib.hid (hG.out.trans hg); have O5 := Lib.hid (hO.out.kept hg)
      clear hg HM hG hO
      by_cases hk0 : makeE acc = 0
      · have HA := Lib.hid (archOf_some (s := s) ⟨hk0, HT.out⟩)
        rw [hk0]
        clear hk0
        go_wp2
        go_ret2
        exact .inr ⟨_, acc, HA.out, rfl, O5.out, G5.out⟩
      · have HA := Lib.hid (archOf_none (s := s) (fun l hl => by
          have := REND.out l hl
          subst this
          exact hk0 hl.1))
        have he0 : (((makeE acc : Nat) : Int) == 0) = false := by rw [beq_eq_false_iff_ne]; omega
        generalize makeE acc = q at *
        go_wp2
        go_ret2
        exact .inl ⟨HA.out, _, acc, rfl, O5.out, G5.out⟩
end Go.Proofs.YtbcemenfklgnkaaGreatDoor
