/- Walks of package lex: where the first of some signs stands outside of pieces. Package stmt's small functions: the error of a line without a sign, words of which there is one at least, an Assign's words' text. Package stmt: an Include, an Assign. Package stmt: a Rule's attributes; a Rule, but for its Recipe. -/
import Derived.Test.YtdganemgldocoaaGreatDoorSmCell
import Derived.Test.YtdganemgldocoaaGreatDoorLxLib
import Derived.Test.YtdganemgldocoaaGreatDoorClsE
import Derived.Test.YtdganemgldocoaaGreatDoorAtRef
import Derived.Lib.ConvBytes
import Derived.Test.YtdganemgldocoaaGreatDoorSmDoc
import Derived.Test.YtdganemgldocoaaGreatDoorLnLog
import Derived.Test.YtdganemgldocoaaGreatDoorAtPar
namespace Go.Proofs.YtdganemgldocoaaGreatDoor
open Go.RowKit

/-- a text's bytes as numbers -/
def numB (g : ByteArray) : List Nat := g.data.toList.map (·.toNat)
theorem num_in (g : ByteArray) (b : UInt8) : inn (ofL (numB g)) b.toNat = ofB g b := by
  rw [inn_ofL _ _ b.toNat_lt]
  unfold numB ofB
  rw [Bool.eq_iff_iff, List.contains_iff_mem, List.contains_iff_mem, List.mem_map]
  exact ⟨fun ⟨c, h, e⟩ => by rw [← UInt8.toNat_inj.1 e]; exact h, fun h => ⟨b, h, rfl⟩⟩
/-- a text as a new row of its bytes -/
theorem conv_text (g : ByteArray) (w : World) (hg : g.size ≤ 300) : ∃ (v : Value) (wb : World), (convert 9 88 (.string g)).run Tryz.prog w = .ok v wb ∧ BRow wb v (numB g) ∧ w.grownBy wb none := by
  have hl : (numB g).length = g.size := by unfold numB; simp
  refine ⟨_, _, Lib.run_convert_string_bytes w 9 88 5 g Tryz.underlying9 Tryz.underlying88 Tryz.underlying5, ?_, ?_⟩
  · refine ⟨_, _, by rw [hl], ⟨by omega, fun b hb => ?_⟩, fun _ => ⟨w.heap.size, 0, rfl, by rw [Lib.bytesWorld_size]; omega, fun k x hx => ?_⟩⟩
    · unfold numB at hb
      obtain ⟨c, -, rfl⟩ := List.mem_map.1 hb
      exact c.toNat_lt
    · have hk : k < g.size := by rw [← hl]; exact (List.getElem?_eq_some_iff.1 hx).1
      rw [Nat.zero_add, Lib.bytesWorld_cell w 5 g k hk]
      unfold numB at hx
      rw [List.getElem?_map, Option.map_eq_some_iff] at hx
      obtain ⟨c, hc, rfl⟩ := hx
      rw [List.getD_eq_getElem?_getD, hc]
      rfl
  · refine ⟨rfl, rfl, rfl, by rw [Lib.bytesWorld_size]; omega, fun k hk _ => Lib.bytesWorld_at_old w _ _ k hk⟩
set_option maxRecDepth 100000 in
set_option maxHeartbeats 8000000 in
theorem xFind {M : World → Prop} (L : LbX M) (A : Nat → Addr) (s g : ByteArray) (w : World) (hM : M w) (hE : ThrE A w) (hs : s.size ≤ 5000) (hg : g.size ≤ 300) : Calls Tryz.prog 67 #[.string s, .string g] w fun e w' => e = .returned (.int .i64 (fnA (ofB g) s.data.toList 0)) ∧ w.grownBy w' none := by
  obtain ⟨X, hX⟩ : ∃ X, fnA (ofB g) s.data.toList 0 = X := ⟨_, rfl⟩
  rw [hX]
  have HX := Lib.hid hX
  have hlen : s.data.toList.length = s.size := by simp
  have HLN := Lib.hid hlen
  have HM := Lib.hid hM; have HE := Lib.hid hE
  obtain ⟨v, wb, cv, hr, gb⟩ := conv_text g w hg
  have HR := Lib.hid hr; have GB := Lib.hid gb
  obtain ⟨va, vc, rfl⟩ : ∃ a c, v = .slice a (numB g).length c := by obtain ⟨a, c, e, -⟩ := hr; exact ⟨a, c, e⟩
  have CO := Lib.hid (cOf _ (numB g) wb hr)
  have CH := Lib.hid (fun (b : UInt8) w => show Calls Tryz.prog 93 #[setV (ofL (numB g)), .int .u8 b.toNat] w fun e w' => e = .returned (.bool (ofB g b)) ∧ w.grownBy w' none by
    rw [← num_in]; exact cHas (ofL (numB g)) b.toNat w b.toNat_lt)
  generalize ofL (numB g) = z at CO CH
  clear hX hlen hM hE hr gb
  go_enter Tryz.func67, Tryz.ntmps67
  go_wp2
  go_step3
  go_wp2_with fail
  refine CO.out.mono ?_
  rintro e w1 ⟨rfl, g1⟩
  have G1 := Lib.hid (GB.out.trans g1)
  have B2 := Lib.hid (heap_alloc_new w1 (.cells #[.int .u64 (wd z 0), .int .u64 (wd z 1), .int .u64 (wd z 2), .int .u64 (wd z 3)] 166))
  have G2 := Lib.hid (G1.out.trans (World.grownBy_alloc w1 (.cells #[.int .u64 (wd z 0), .int .u64 (wd z 1), .int .u64 (wd z 2), .int .u64 (wd z 3)] 166) none))
  clear CO g1 cv HR GB G1
  go_wp2
  go_step3
  go_wp2
  generalize w1.alloc _ = w2 at B2 G2 ⊢
  obtain ⟨q, eq⟩ : ∃ q, w1.heap.size = q := ⟨_, rfl⟩
  rw [eq] at B2 ⊢
  clear eq
  go_loopw [6, 7, 8, 9, 10] (fun at_ _ _ _ _ wr => ∃ j : Nat, j ≤ s.size ∧ at_ = .int .i64 j ∧ Hid (fnA (ofB g) s.data.toList j = X) ∧ Hid (w.grownBy wr none) ∧ Hid (w2.grownBy wr none)) (fun at_ _ _ _ _ _ => s.size - (intOf at_).toNat)
  case atStart => exact ⟨0, Nat.zero_le _, rfl, HX, G2, Lib.hid (World.grownBy.refl _ _)⟩
  case round =>
    obtain ⟨j, hj, rfl, hF, hG, hG2⟩ := hrel
    clear HX
    by_cases hlt : j < s.size
    · have HJ := Lib.hid (list_at hlt)
      have CB := Lib.hid (fun w => pBlank0 s[j] w)
      cases hb : blkQ s[j]
      · rw [hb] at CB
        have CL := Lib.hid (fun w => xPlainByte s[j] w)
        cases hp : plcQ s[j]
        · rw [hp] at CL
          have CP := Lib.hid (xPieceAt L A s j wr (L.gr _ _ HM.out hG.out) (HE.out.grown hG.out) hs hlt hb)
          have HB := Lib.hid hb; have HP := Lib.hid hp
          clear hb hp
          go_wp2_with (first
            | (go_at_call 90; (with_reducible refine (CB.out _).mono ?_); rintro e w3 ⟨rfl, rfl⟩)
            | (go_at_call 91; (with_reducible refine (CL.out _).mono ?_); rintro e w3 ⟨rfl, rfl⟩))
          refine CP.out.mono ?_
          rintro e w3 ⟨g3, hout⟩
          have G3 := Lib.hid (hG.out.trans g3)
          have G32 := Lib.hid (hG2.out.trans g3)
          rcases hout with ⟨x, q, rfl, hq, hP⟩ | ⟨bad, rfl, hbd, hP⟩
          · have hqs : q ≤ s.size := by rw [← HLN.out]; exact hq
            have hjq : j < q := on_place HJ.out HB.out hP hq
            have HN := Lib.hid (show fnA (ofB g) s.data.toList q = X by rw [← fnA_piece HJ.out HB.out HP.out hP hq]; exact hF.out)
            clear hP hq g3 CP
            go_wp2
            go_roundw
            case rel => exact ⟨q, hqs, rfl, HN, Lib.hid (G3.out.trans (World.grownBy_alloc _ _ _)), Lib.hid (G32.out.trans (World.grownBy_alloc _ _ _))⟩
            case measure => simp [intOf]; omega
          · have HN := Lib.hid (show (-1 : Int) = X by rw [← hF.out, fnA_err HJ.out HB.out HP.out hP])
            clear hP g3 CP
            go_wp2
            try rw [Exit.noGoto_ret]
            go_ret
            exact ⟨ret_int HN.out, G3.out.trans (World.grownBy_alloc _ _ _)⟩
        · rw [hp] at CL
          have c4 := four_cells (kept_at hG2.out B2.out)
          have CQ := Lib.hid (CH.out s[j])
          cases ho : ofB g s[j]
          · rw [ho] at CQ
            have HN := Lib.hid (show fnA (ofB g) s.data.toList (j + 1) = X by rw [← fnA_on HJ.out hb hp ho]; exact hF.out)
            clear hb hp ho
            obtain ⟨c0, c1, c2, c3⟩ := c4
            go_wp2_with (first
              | (go_at_call 93; (with_reducible refine (CQ.out _).mono ?_); rintro e w4 ⟨rfl, g4⟩; have G4 := Lib.hid (hG.out.trans g4); have G42 := Lib.hid (hG2.out.trans g4); clear g4)
              | (go_at_call 90; (with_reducible refine (CB.out _).mono ?_); rintro e w3 ⟨rfl, rfl⟩)
              | (go_at_call 91; (with_reducible refine (CL.out _).mono ?_); rintro e w3 ⟨rfl, rfl⟩))
            go_roundw
            case rel => exact ⟨j + 1, by omega, by go_num, HN, G4, G42⟩
            case measure => simp [intOf]; omega
          · rw [ho] at CQ
            have HN := Lib.hid (show (j : Int) = X by rw [← hF.out, fnA_sign HJ.out hb hp ho])
            clear hb hp ho
            obtain ⟨c0, c1, c2, c3⟩ := c4
            go_wp2_with (first
              | (go_at_call 93; (with_reducible refine (CQ.out _).mono ?_); rintro e w4 ⟨rfl, g4⟩; have G4 := Lib.hid (hG.out.trans g4); clear g4)
              | (go_at_call 90; (with_reducible refine (CB.out _).mono ?_); rintro e w3 ⟨rfl, rfl⟩)
              | (go_at_call 91; (with_reducible refine (CL.out _).mono ?_); rintro e w3 ⟨rfl, rfl⟩))
            try rw [Exit.noGoto_ret]
            go_ret
            exact ⟨ret_int HN.out, G4.out⟩
      · rw [hb] at CB
        have HN := Lib.hid (show fnA (ofB g) s.data.toList (j + 1) = X by rw [← fnA_blank HJ.out hb]; exact hF.out)
        clear hb
        go_wp2_with (go_at_call 90; (with_reducible refine (CB.out _).mono ?_); rintro e w3 ⟨rfl, rfl⟩)
        go_roundw
        case rel => exact ⟨j + 1, by omega, by go_num, HN, hG, hG2⟩
        case measure => simp [intOf]; omega
    · have HN := Lib.hid (show (-1 : Int) = X by rw [← hF.out, fnA_end (by rw [HLN.out]; omega)])
      go_wp2
      try rw [Exit.noGoto_ret]
      go_ret
      exact ⟨ret_int HN.out, hG.out⟩
end Go.Proofs.YtdganemgldocoaaGreatDoor

namespace Go.Proofs.YtdganemgldocoaaGreatDoor
open Go.RowKit

/-- what package stmt reads: the errors that it answers with, the flags' letters, that the library's variable holds a number -/
structure SpE (A : Nat → Addr) (w : World) : Prop where
  t : ThrE A w
  a : AtE A w
theorem SpE.grown {A : Nat → Addr} {w w' : World} (h : SpE A w) (g : w.grownBy w' none) : SpE A w' := ⟨h.t.grown g, h.a.grown g⟩
theorem SpE.m {A : Nat → Addr} {w : World} (h : SpE A w) : MaxI w := h.a.m
theorem SpE.words {A : Nat → Addr} {w : World} (h : SpE A w) (s : ByteArray) (hs : s.size ≤ 5000) : Calls Tryz.prog 94 #[.string s] w (PWdo s.data.toList A w) := xWordsO lbX A s w h.m h.t hs
theorem SpE.find {A : Nat → Addr} {w : World} (h : SpE A w) (s g : ByteArray) (hs : s.size ≤ 5000) (hg : g.size ≤ 300) : Calls Tryz.prog 67 #[.string s, .string g] w fun e w' => e = .returned (.int .i64 (fnA (ofB g) s.data.toList 0)) ∧ w.grownBy w' none := xFind lbX A s g w h.m h.t hs hg
theorem dw_nil {p : UInt8 → Bool} : ∀ {l : List UInt8}, l.dropWhile p = [] ↔ ∀ x ∈ l, p x = true
  | [] => by simp
  | a :: l => by
    cases h : p a with
    | true =>
      rw [List.dropWhile_cons_of_pos h, dw_nil]
      exact ⟨fun g x hx => by rcases List.mem_cons.1 hx with rfl | hx; exact h; exact g x hx, fun g x hx => g x (List.mem_cons_of_mem _ hx)⟩
    | false =>
      rw [List.dropWhile_cons_of_neg (by rw [h]; simp)]
      exact ⟨fun g => (by cases g), fun g => (by have := g a (List.mem_cons_self ..); rw [h] at this; cases this)⟩
theorem trim_all (l : List UInt8) : Lib.trimS l [85] = [] ↔ l.all (· == 85) = true := by
  have e : (fun x => ([85] : List UInt8).contains x) = (· == 85) := by
    funext b
    rw [Bool.eq_iff_iff, List.contains_iff_mem, List.mem_singleton, beq_iff_eq]
  unfold Lib.trimS Lib.trimLeftS Lib.trimRightS
  rw [show (fun x => ([85] : List UInt8).contains x) = (· == 85) from e, List.all_eq_true]
  constructor
  · intro h x hx
    have h1 : ∀ y ∈ (l.reverse.dropWhile (· == 85)).reverse, (y == 85) = true := by
      have := dw_nil.1 h
      exact this
    have h2 : x ∈ l.reverse.takeWhile (· == 85) ++ l.reverse.dropWhile (· == 85) := by rw [List.takeWhile_append_dropWhile]; simpa using hx
    rcases List.mem_append.1 h2 with h3 | h3
    · have := List.all_takeWhile (p := (· == (85 : UInt8))) (l := l.reverse)
      exact List.all_eq_true.1 this x h3
    · exact h1 x (by simpa using h3)
  · intro h
    rw [dw_nil]
    intro x hx
    have h2 := (List.dropWhile_sublist _).mem (List.mem_reverse.1 hx)
    exact h x (by simpa using h2)
theorem pTrimU (t : ByteArray) (w : World) (ht : t.size ≤ 5001) : Calls Tryz.prog 35 #[.string t, .string ⟨#[85]⟩] w fun e w' => (∃ u : ByteArray, e = .returned (.string u) ∧ (u.size = 0 ↔ t.data.toList.all (· == 85) = true)) ∧ w.grownBy w' none := by
  refine (Any.strings_Trim_ascii Tryz.lays160 setZero (by kernel_rfl) t ⟨#[85]⟩ w (by omega) (by decide) (fun j b hj => ?_)).mono fun e w' ⟨he, hw⟩ => ⟨?_, grown_of_below hw⟩
  · match j, hj with
    | 0, hj => obtain rfl : 85 = b := by simpa using hj
               decide
    | j + 1, hj => simp at hj
  · refine ⟨_, he, ?_⟩
    rw [Lib.size_mk, List.length_eq_zero_iff]
    exact trim_all t.data.toList
theorem pTrimB (t : ByteArray) (w : World) (ht : t.size ≤ 5001) : Calls Tryz.prog 35 #[.string t, .string ⟨#[32, 9]⟩] w fun e w' => (∃ u : ByteArray, e = .returned (.string u) ∧ u.data.toList = trQ t.data.toList ∧ u.size ≤ t.size) ∧ w.grownBy w' none :=
  (pTrim t w ht).mono fun _ _ ⟨h1, h2⟩ => ⟨h1, grown_of_below h2⟩
set_option maxRecDepth 100000 in
set_option maxHeartbeats 2000000 in
theorem sUnsigned (A : Nat → Addr) (s : ByteArray) (w : World) (hE : SpE A w) (hs : s.size ≤ 5000) : Calls Tryz.prog 68 #[.string s] w fun e w' => e = .returned (errV A (nonS s.data.toList)) ∧ w.grownBy w' none := by
  have CW := Lib.hid (hE.words s hs)
  have HE := Lib.hid hE
  clear hE
  go_enter Tryz.func68, Tryz.ntmps68
  go_wp2_with fail
  refine CW.out.mono ?_
  rintro e w1 ⟨g1, hout⟩
  have G1 := Lib.hid g1
  have e3 := (HE.out.grown g1).t.form
  clear CW
  cases hw : wdQ [] [] s.data.toList with
  | ok L =>
    rw [hw] at hout
    obtain ⟨v, LB, rfl, ho, -, -⟩ := hout
    obtain ⟨va, vc, rfl⟩ := ho.shape
    have HN := Lib.hid (show nonS s.data.toList = 3 by unfold nonS; rw [hw])
    clear hw ho g1
    go_wp2
    go_ret
    exact ⟨by rw [HN.out]; rfl, G1.out⟩
  | error bad =>
    rw [hw] at hout
    obtain ⟨a, c, rfl⟩ := hout
    have hb : bad ≠ 0 := by have := wd_bad _ s.data.toList [] [] bad (Nat.le_refl _) hw; omega
    have HN := Lib.hid (show errV A (nonS s.data.toList) = .iface 202 (.pointer (some (A bad))) by unfold nonS; rw [hw]; exact errV_ne hb)
    rw [errV_ne hb]
    clear hw g1 hb e3
    go_wp2
    go_ret
    exact ⟨by rw [HN.out]; rfl, G1.out⟩
/-- words, of which there must be one at least -/
def smeS (l : List UInt8) : Except Nat (List (List Pq)) := match wdQ [] [] l with | .error e => .error e | .ok L => if L.isEmpty then .error 3 else .ok L
def PSome (R : Except Nat (List (List Pq))) (A : Nat → Addr) (w : World) (e : Ending) (w' : World) : Prop :=
  w.grownBy w' none ∧ match R with
    | .ok L => ∃ (va : Option Addr) (vc : Nat) (LB : List (List Pb)), e = .returned (.tuple #[.slice va LB.length vc, .nilIface]) ∧ OwnRR w' w.heap.size 105 102 (.slice va LB.length vc) LB ∧ LB.length ≤ 5000 ∧ pcLL LB = L
    | .error k => ∃ a n c, k ≠ 0 ∧ e = .returned (.tuple #[.slice a n c, errV A k])
set_option maxRecDepth 100000 in
set_option maxHeartbeats 2000000 in
theorem sSome (A : Nat → Addr) (s : ByteArray) (w : World) (hE : SpE A w) (hs : s.size ≤ 5000) : Calls Tryz.prog 88 #[.string s] w (PSome (smeS s.data.toList) A w) := by
  have CW := Lib.hid (hE.words s hs)
  have HE := Lib.hid hE
  clear hE
  go_enter Tryz.func88, Tryz.ntmps88
  go_wp2_with fail
  refine CW.out.mono ?_
  rintro e w1 ⟨g1, hout⟩
  have G1 := Lib.hid g1
  have e3 := (HE.out.grown g1).t.form
  clear CW
  cases hw : wdQ [] [] s.data.toList with
  | ok L =>
    rw [hw] at hout
    obtain ⟨v, LB, rfl, ho, hl, hp⟩ := hout
    obtain ⟨va, vc, rfl⟩ := ho.shape
    by_cases h0 : LB.length = 0
    · have HN := Lib.hid (show smeS s.data.toList = .error 3 by unfold smeS; rw [hw]; simp only; rw [if_pos (by rw [← hp, List.length_eq_zero_iff.1 h0]; rfl)])
      rw [h0]
      have e0 : (((0 : Nat) : Int) == 0) = true := rfl
      clear hw ho g1 hl hp h0
      go_wp2
      go_region
      go_wp2
      go_ret2
      exact ⟨grown_drew G1.out, by rw [HN.out]; exact ⟨_, _, _, by decide, rfl⟩⟩
    · have HN := Lib.hid (show smeS s.data.toList = .ok L by unfold smeS; rw [hw]; simp only; rw [if_neg (by rw [← hp]; intro h; exact h0 (by simpa using congrArg List.length (List.isEmpty_iff.1 h)))])
      have HO := Lib.hid ho; have HL := Lib.hid hl; have HP := Lib.hid hp
      have e0 : ((LB.length : Int) == 0) = false := by rw [beq_eq_false_iff_ne]; omega
      clear hw ho g1 hl hp h0 e3
      go_wp2
      go_ret2
      exact ⟨G1.out, by rw [HN.out]; exact ⟨_, _, LB, rfl, HO.out, HL.out, HP.out⟩⟩
  | error bad =>
    rw [hw] at hout
    obtain ⟨a, c, rfl⟩ := hout
    have hb : bad ≠ 0 := by have := wd_bad _ s.data.toList [] [] bad (Nat.le_refl _) hw; omega
    have HN := Lib.hid (show smeS s.data.toList = .error bad by unfold smeS; rw [hw])
    have HB := Lib.hid hb
    rw [errV_ne hb]
    clear hw g1 hb e3
    go_wp2
    go_ret2
    exact ⟨G1.out, by rw [HN.out]; exact ⟨a, 0, c, HB.out, by rw [errV_ne HB.out]; rfl⟩⟩
theorem hid_take {l : List UInt8} {k : Nat} (h : fnQ (· == 61) l = some k) : hidS l = if allU (trQ (l.take k)) then (true, l.drop (k + 1)) else (false, l) := by unfold hidS; rw [h]
set_option maxRecDepth 100000 in
set_option maxHeartbeats 4000000 in
theorem sValueOf (A : Nat → Addr) (s : ByteArray) (w : World) (hE : SpE A w) (hs : s.size ≤ 1000) : Calls Tryz.prog 96 #[.string s] w fun e w' => (∃ t : ByteArray, e = .returned (.tuple #[.string t, .bool (hidS s.data.toList).1]) ∧ t.data.toList = (hidS s.data.toList).2 ∧ t.size ≤ s.size) ∧ w.grownBy w' none := by
  have CF := Lib.hid (hE.find s ⟨#[61]⟩ (by omega) (by decide))
  rw [of_eq, fn_zero] at CF
  have CT := Lib.hid (fun (t : ByteArray) (h : t.size ≤ 5001) w => pTrimB t w h)
  have CU := Lib.hid (fun (t : ByteArray) (h : t.size ≤ 5001) w => pTrimU t w h)
  have hlen : s.data.toList.length = s.size := by simp
  have HLN := Lib.hid hlen
  clear hE hlen
  cases hf : fnQ (· == 61) s.data.toList with
  | none =>
    rw [hf] at CF
    have HN := Lib.hid (show hidS s.data.toList = (false, s.data.toList) by unfold hidS; rw [hf])
    clear hf
    go_enter Tryz.func96, Tryz.ntmps96
    go_wp2_with (go_at_call 67; (with_reducible refine CF.out.mono ?_); rintro e w1 ⟨rfl, g1⟩; have G1 := Lib.hid g1; clear g1)
    go_ret2
    exact ⟨⟨s, by rw [HN.out]; rfl, by rw [HN.out], Nat.le_refl _⟩, G1.out⟩
  | some k =>
    rw [hf] at CF
    obtain ⟨b, hb, -, -⟩ := fnQ_lt _ (Nat.le_refl _) hf
    have hk : k < s.size := by have := (List.getElem?_eq_some_iff.1 hb).1; have := HLN.out; omega
    have HI := Lib.hid (hid_take hf)
    have hz : (s.extract 0 k).size ≤ 5001 := by simp; omega
    have CT1 := Lib.hid (CT.out (s.extract 0 k) hz)
    rw [ex_take] at CT1
    have e1 : ((k : Int) == -1) = false := by rw [beq_eq_false_iff_ne]; omega
    clear hf hb CT
    go_enter Tryz.func96, Tryz.ntmps96
    go_upto_region 5 with (first
      | (go_at_call 35; (with_reducible refine (CT1.out _).mono ?_); rintro e w2 ⟨⟨u, rfl, hu, hz2⟩, g2⟩; have G2 := Lib.hid (G1.out.trans g2); have HU := Lib.hid hu; clear g2 hu)
      | (go_at_call 67; (with_reducible refine CF.out.mono ?_); rintro e w1 ⟨rfl, g1⟩; have G1 := Lib.hid g1; clear g1))
    have CU1 := Lib.hid (CU.out u (by omega))
    rw [← HU.out] at HI
    clear HU CT1 CF
    by_cases h0 : u.size = 0
    · obtain rfl := nil_a h0
      have HN := Lib.hid (show hidS s.data.toList = (false, s.data.toList) by rw [HI.out]; rfl)
      clear h0 HI
      go_wp2
      go_ret2
      exact ⟨⟨s, by rw [HN.out]; rfl, by rw [HN.out], Nat.le_refl _⟩, G2.out⟩
    · obtain ⟨f1, f2, f3⟩ := full_a h0
      have HI2 := Lib.hid (show hidS s.data.toList = if u.data.toList.all (· == 85) then (true, s.data.toList.drop (k + 1)) else (false, s.data.toList) by
        rw [HI.out]; unfold allU
        have : u.data.toList.isEmpty = false := by cases hq : u.data.toList.isEmpty; rfl; exact absurd (List.isEmpty_iff.1 hq) f1
        rw [this]; rfl)
      clear h0 HI f1
      cases ha : u.data.toList.all (· == 85) with
      | true =>
        rw [ha] at HI2 CU1
        have HN := Lib.hid (show hidS s.data.toList = (true, s.data.toList.drop (k + 1)) from HI2.out)
        clear ha HI2
        go_wp2_with (go_at_call 35; (with_reducible refine (CU1.out _).mono ?_); rintro e w3 ⟨⟨u3, rfl, hu3⟩, g3⟩; have G3 := Lib.hid (G2.out.trans g3); obtain rfl := nil_a (hu3.2 rfl); clear g3 hu3)
        go_ret2
        exact ⟨⟨s.extract (k + 1) s.size, by rw [HN.out]; rfl, by rw [HN.out, ex_drop], by simp⟩, G3.out⟩
      | false =>
        rw [ha] at HI2 CU1
        have HN := Lib.hid (show hidS s.data.toList = (false, s.data.toList) from HI2.out)
        clear ha HI2
        go_wp2_with (go_at_call 35; (with_reducible refine (CU1.out _).mono ?_); rintro e w3 ⟨⟨u3, rfl, hu3⟩, g3⟩; have G3 := Lib.hid (G2.out.trans g3); obtain ⟨-, q2, q3⟩ := full_a (s := u3) (fun h => by have := hu3.1 h; cases this); clear g3 hu3)
        go_ret2
        exact ⟨⟨s, by rw [HN.out]; rfl, by rw [HN.out], Nat.le_refl _⟩, G3.out⟩
end Go.Proofs.YtdganemgldocoaaGreatDoor

namespace Go.Proofs.YtdganemgldocoaaGreatDoor
open Go.RowKit

theorem sizeSp : (Tryz.prog.info? 46).map (·.size) = some 10 := by kernel_rfl
/-- a statement that package stmt makes, or an error -/
abbrev PSt (A : Nat → Addr) (R : Except Nat Sm) (w : World) : Ending → World → Prop := POne 105 102 .nilIface (errV A) R w
/-- the cells of a statement that is none yet -/
abbrev zSt : Array Value := #[.int .i64 0, .int .i64 0, .string ⟨#[]⟩, .slice none 0 0, .slice none 0 0, .int .i64 0, .string ⟨#[]⟩, .string ⟨#[]⟩, .bool false, .bool false]
theorem drew_heap (w : World) : w.drew.heap = w.heap := rfl
/-- none is stored, behind a drawn order -/
theorem fin_zero {w w2 : World} {p : Nat} {t : TypeId} {a0 a1 a2 a3 a4 a5 a6 a7 a8 a9 : Value} (hB : w2.heap[p]? = some (.cells #[a0, a1, a2, a3, a4, a5, a6, a7, a8, a9] t (0, 0))) (hG : w.grownBy w2 none) (hP : w.heap.size ≤ p) :
    ∃ W, W = ((((((((((w2.setCell ⟨p, 0, none⟩ (.int .i64 0)).setCell ⟨p, 1, none⟩ (.int .i64 0)).setCell ⟨p, 2, none⟩ (.string ⟨#[]⟩)).setCell ⟨p, 3, none⟩ (.slice none 0 0)).setCell ⟨p, 4, none⟩ (.slice none 0 0)).setCell ⟨p, 5, none⟩ (.int .i64 0)).setCell ⟨p, 6, none⟩ (.string ⟨#[]⟩)).setCell ⟨p, 7, none⟩ (.string ⟨#[]⟩)).setCell ⟨p, 8, none⟩ (.bool false)).setCell ⟨p, 9, none⟩ (.bool false)).drew ∧ W.heap[p]? = some (.cells #[.int .i64 0, .int .i64 0, .string ⟨#[]⟩, .slice none 0 0, .slice none 0 0, .int .i64 0, .string ⟨#[]⟩, .string ⟨#[]⟩, .bool false, .bool false] t (0, 0)) ∧ w.grownBy W none :=
  ⟨_, rfl, by rw [drew_heap]; exact set_ten hB (.int .i64 0) (.int .i64 0) (.string ⟨#[]⟩) (.slice none 0 0) (.slice none 0 0) (.int .i64 0) (.string ⟨#[]⟩) (.string ⟨#[]⟩) (.bool false) (.bool false), grown_drew (grown_ten hG hP (.int .i64 0) (.int .i64 0) (.string ⟨#[]⟩) (.slice none 0 0) (.slice none 0 0) (.int .i64 0) (.string ⟨#[]⟩) (.string ⟨#[]⟩) (.bool false) (.bool false))⟩
set_option maxRecDepth 100000 in
set_option maxHeartbeats 4000000 in
theorem sInclude (A : Nat → Addr) (s : ByteArray) (w : World) (hE : SpE A w) (hs : s.size ≤ 1000) : Calls Tryz.prog 66 #[.string s] w (PSt A (incS s.data.toList) w) := by
  have B0 := Lib.hid (heap_alloc_new w (.cells #[.int .i64 0, .int .i64 0, .string ⟨#[]⟩, .slice none 0 0, .slice none 0 0, .int .i64 0, .string ⟨#[]⟩, .string ⟨#[]⟩, .bool false, .bool false] 46))
  have G0 := Lib.hid (World.grownBy_alloc w (.cells #[.int .i64 0, .int .i64 0, .string ⟨#[]⟩, .slice none 0 0, .slice none 0 0, .int .i64 0, .string ⟨#[]⟩, .string ⟨#[]⟩, .bool false, .bool false] 46) none)
  have hlen : s.data.toList.length = s.size := by simp
  have HLN := Lib.hid hlen
  have HE := Lib.hid hE
  have hgr : 1 < w.heap.size := cell_block hE.t.form
  have hpre : Lib.hasPrefix s.data.toList (⟨#[124]⟩ : ByteArray).data.toList = decide (s.data.toList.head? = some 124) := by
    unfold Lib.hasPrefix
    cases hl : s.data.toList with
    | nil => rfl
    | cons b r =>
      by_cases hb : (124 : UInt8) = b
      · subst hb; simp [List.isPrefixOf]
      · have hb2 : ¬b = 124 := fun x => hb x.symm
        simp [List.isPrefixOf, hb, hb2]
  have CP := Lib.hid (lbX.cutp s ⟨#[124]⟩)
  unfold Lib.trimPrefix at CP
  rw [hpre] at CP
  have CT := Lib.hid (fun (t : ByteArray) (h : t.size ≤ 5001) w => pTrimB t w h)
  clear hE hlen hpre
  by_cases h124 : s.data.toList.head? = some 124
  · rw [decide_eq_true h124] at CP
    have hz : (⟨(s.data.toList.drop 1).toArray⟩ : ByteArray).size ≤ s.size := by rw [Lib.size_mk, List.length_drop, HLN.out]; omega
    have CT1 := Lib.hid (CT.out ⟨(s.data.toList.drop 1).toArray⟩ (by omega))
    have HI := Lib.hid (show incS s.data.toList = if (trQ (s.data.toList.drop 1)).isEmpty then .error 3 else .ok ⟨3, 0, trQ (s.data.toList.drop 1), [], [], 0, [], [], false, true⟩ by unfold incS; rw [if_pos h124])
    have CP1 := Lib.hid (show ∀ w, Calls Tryz.prog 65 #[.string s, .string ⟨#[124]⟩] w fun e w' => e = .returned (.tuple #[.string ⟨(s.data.toList.drop 1).toArray⟩, .bool true]) ∧ w = w' from CP.out)
    generalize hx : (⟨(s.data.toList.drop 1).toArray⟩ : ByteArray) = x at CT1 CP1 hz
    have hxl : x.data.toList = s.data.toList.drop 1 := by rw [← hx]
    rw [hxl] at CT1
    clear hx hxl h124 CP CT
    go_enter Tryz.func66, Tryz.ntmps66
    go_upto_region 1 with fail
    generalize w.alloc _ = w1 at B0 G0 ⊢
    obtain ⟨p, ep⟩ : ∃ p, w.heap.size = p := ⟨_, rfl⟩
    rw [ep] at B0 hgr ⊢
    have HP := Lib.hid (show w.heap.size ≤ p by omega)
    have q1 : ¬p = 1 := by omega
    have q2 : ¬1 = p := by omega
    clear ep hgr
    go_upto_region 4 with (first
      | (go_at_call 35; (with_reducible refine (CT1.out _).mono ?_); rintro e w2 ⟨⟨t, rfl, ht, hz2⟩, g2⟩; have HT := Lib.hid ht; have G2 := Lib.hid (G0.out.trans g2); have B2 := Lib.hid (kept_at g2 B0.out); clear g2 ht)
      | (go_at_call 65; (with_reducible refine (CP1.out _).mono ?_); rintro e w3 ⟨rfl, rfl⟩))
    obtain ⟨b0, b1, b2, b3, b4, b5, b6, b7, b8, b9⟩ := ten_at B2.out
    have fb := free_at B2.out
    by_cases ht0 : t.size = 0
    · obtain rfl := nil_a ht0
      have HN := Lib.hid (show incS s.data.toList = .error 3 by rw [HI.out, ← HT.out]; rfl)
      have e3 := (HE.out.grown G2.out).t.form
      clear ht0 HI HT
      go_wp2
      go_region
      obtain ⟨wF, eF, BF, GF⟩ := fin_zero B2.out G2.out HP.out
      rw [← eF]
      clear eF
      go_wp2
      refine bodyPost_ret (back_ten 46 Tryz.underlying46 sizeSp Tryz.results66 rfl rfl BF) rfl ?_
      exact ⟨GF, by rw [HN.out]; rfl⟩
    · obtain ⟨f1, f2, f3⟩ := full_a ht0
      have HN := Lib.hid (show incS s.data.toList = .ok ⟨3, 0, t.data.toList, [], [], 0, [], [], false, true⟩ by rw [HI.out, if_neg (by rw [← HT.out]; intro h; exact f1 (List.isEmpty_iff.1 h)), HT.out])
      clear ht0 f1 HI HT
      go_wp2
      refine bodyPost_ret (back_ten 46 Tryz.underlying46 sizeSp Tryz.results66 rfl rfl (set_ten B2.out _ _ _ _ _ _ _ _ _ _)) rfl ?_
      refine ⟨grown_ten G2.out HP.out _ _ _ _ _ _ _ _ _ _, ?_⟩
      rw [HN.out]
      exact ⟨⟨3, 0, t, [], [], 0, ⟨#[]⟩, ⟨#[]⟩, false, true⟩, .slice none 0 0, .slice none 0 0, rfl, rfl, ⟨Nat.zero_le _, Nat.zero_le _, by show t.size ≤ 5000; omega, by show 0 < 256; omega, Nat.zero_le _, rfl, rfl⟩, ownRR_nil _ _ _ _, ownRR_nil _ _ _ _⟩
  · rw [decide_eq_false h124] at CP
    have HI := Lib.hid (show incS s.data.toList = match smeS s.data.toList with | .error e => .error e | .ok L => .ok ⟨3, 0, [], [], L, 0, [], [], false, false⟩ by
      unfold incS smeS; rw [if_neg h124]
      cases wdQ [] [] s.data.toList with
      | error e => rfl
      | ok L => simp only; split <;> rfl)
    have es : (⟨s.data.toList.toArray⟩ : ByteArray) = s := by simp
    have CP1 := Lib.hid (show ∀ w, Calls Tryz.prog 65 #[.string s, .string ⟨#[124]⟩] w fun e w' => e = .returned (.tuple #[.string s, .bool false]) ∧ w = w' from fun w => (CP.out w).mono fun e w' ⟨h1, h2⟩ => ⟨by rw [h1]; simp, h2⟩)
    have CS := Lib.hid (fun w' (g : w.grownBy w' none) => sSome A s w' (HE.out.grown g) (by omega))
    clear h124 CP CT es
    go_enter Tryz.func66, Tryz.ntmps66
    go_upto_region 1 with fail
    generalize w.alloc _ = w1 at B0 G0 ⊢
    obtain ⟨p, ep⟩ : ∃ p, w.heap.size = p := ⟨_, rfl⟩
    rw [ep] at B0 hgr ⊢
    have HP := Lib.hid (show w.heap.size ≤ p by omega)
    clear ep hgr
    have CS1 := Lib.hid (CS.out _ G0.out)
    clear CS
    go_wp2_with (go_at_call 65; (with_reducible refine (CP1.out _).mono ?_); rintro e w3 ⟨rfl, rfl⟩)
    refine CS1.out.mono ?_
    rintro e w2 ⟨g2, hout⟩
    have G2 := Lib.hid (G0.out.trans g2)
    have B2 := Lib.hid (kept_at g2 B0.out)
    obtain ⟨b0, b1, b2, b3, b4, b5, b6, b7, b8, b9⟩ := ten_at B2.out
    have fb := free_at B2.out
    cases hw : smeS s.data.toList with
    | error k =>
      rw [hw] at hout
      obtain ⟨a, n, c, hk, rfl⟩ := hout
      have HN := Lib.hid (show incS s.data.toList = .error k by rw [HI.out, hw])
      have HK := Lib.hid (errV_ne (A := A) hk)
      rw [errV_ne hk]
      clear hw g2 CS1 hk HI
      go_wp2
      refine bodyPost_ret (back_ten 46 Tryz.underlying46 sizeSp Tryz.results66 rfl rfl (set_ten B2.out _ _ _ _ _ _ _ _ _ _)) rfl ?_
      exact ⟨grown_ten G2.out HP.out _ _ _ _ _ _ _ _ _ _, by rw [HN.out]; show _ = Ending.returned (.tuple #[smZ, errV A k]); rw [HK.out]; rfl⟩
    | ok L =>
      rw [hw] at hout
      obtain ⟨va, vc, LB, rfl, ho, hl, hp⟩ := hout
      have HN := Lib.hid (show incS s.data.toList = .ok ⟨3, 0, [], [], L, 0, [], [], false, false⟩ by rw [HI.out, hw])
      have HO := Lib.hid (OwnRR.up ho (show w.heap.size ≤ w1.heap.size from G0.out.size)); have HL := Lib.hid hl; have HP2 := Lib.hid hp
      clear hw g2 CS1 hp ho hl HI
      go_wp2
      refine bodyPost_ret (back_ten 46 Tryz.underlying46 sizeSp Tryz.results66 rfl rfl (set_ten B2.out _ _ _ _ _ _ _ _ _ _)) rfl ?_
      refine ⟨grown_ten G2.out HP.out _ _ _ _ _ _ _ _ _ _, ?_⟩
      rw [HN.out]
      exact ⟨⟨3, 0, ⟨#[]⟩, [], LB, 0, ⟨#[]⟩, ⟨#[]⟩, false, false⟩, .slice none 0 0, .slice va LB.length vc, rfl, by unfold Sb.q; rw [HP2.out]; rfl, ⟨Nat.zero_le _, by have := HL.out; show LB.length ≤ 5001; omega, Nat.zero_le _, by show 0 < 256; omega, Nat.zero_le _, rfl, rfl⟩, ownRR_nil _ _ _ _, OwnRR.setT HO.out B2.out (by decide) (by decide) _ _ _ _ _ _ _ _ _ _⟩
set_option maxRecDepth 100000 in
set_option maxHeartbeats 4000000 in
theorem sAssign (A : Nat → Addr) (a s : ByteArray) (w : World) (hE : SpE A w) (ha : a.size ≤ 1000) (hs : s.size ≤ 1000) : Calls Tryz.prog 69 #[.string a, .string s] w (PSt A (asgS a.data.toList s.data.toList) w) := by
  have B0 := Lib.hid (heap_alloc_new w (.cells #[.int .i64 0, .int .i64 0, .string ⟨#[]⟩, .slice none 0 0, .slice none 0 0, .int .i64 0, .string ⟨#[]⟩, .string ⟨#[]⟩, .bool false, .bool false] 46))
  have G0 := Lib.hid (World.grownBy_alloc w (.cells #[.int .i64 0, .int .i64 0, .string ⟨#[]⟩, .slice none 0 0, .slice none 0 0, .int .i64 0, .string ⟨#[]⟩, .string ⟨#[]⟩, .bool false, .bool false] 46) none)
  have HE := Lib.hid hE
  have hgr : 4 < w.heap.size := cell_block hE.t.name
  have CT := Lib.hid (fun w => pTrimB a w (by omega))
  have CV := Lib.hid (fun w' (g : w.grownBy w' none) => sValueOf A s w' (HE.out.grown g) hs)
  have CW := Lib.hid (fun (t : ByteArray) (h : t.size ≤ 5000) w' (g : w.grownBy w' none) => (HE.out.grown g).words t h)
  clear hE
  go_enter Tryz.func69, Tryz.ntmps69
  go_upto_region 1 with fail
  generalize w.alloc _ = w1 at B0 G0 ⊢
  obtain ⟨p, ep⟩ : ∃ p, w.heap.size = p := ⟨_, rfl⟩
  rw [ep] at B0 hgr ⊢
  have HP := Lib.hid (show w.heap.size ≤ p by omega)
  have q1 : ¬p = 4 := by omega
  have q2 : ¬4 = p := by omega
  clear ep hgr
  go_upto_region 2 with (go_at_call 35; (with_reducible refine (CT.out _).mono ?_); rintro e w2 ⟨⟨t, rfl, ht, hz2⟩, g2⟩; have HT := Lib.hid ht; have G2 := Lib.hid (G0.out.trans g2); have B2 := Lib.hid (kept_at g2 B0.out); clear g2 ht)
  have CX := Lib.hid (fun w => xName t w (by omega))
  cases hn : namQ t.data.toList with
  | false =>
    rw [hn] at CX
    have HN := Lib.hid (show asgS a.data.toList s.data.toList = .error 4 by unfold asgS; rw [← HT.out, if_pos hn])
    have e3 := (HE.out.grown G2.out).t.name
    obtain ⟨b0, b1, b2, b3, b4, b5, b6, b7, b8, b9⟩ := ten_at B2.out
    have fb := free_at B2.out
    clear hn HT CT CV CW
    go_wp2_with (go_at_call 95; (with_reducible refine (CX.out _).mono ?_); rintro e w3 ⟨rfl, rfl⟩)
    go_region
    obtain ⟨wF, eF, BF, GF⟩ := fin_zero B2.out G2.out HP.out
    rw [← eF]
    clear eF
    go_wp2
    refine bodyPost_ret (back_ten 46 Tryz.underlying46 sizeSp Tryz.results69 rfl rfl BF) rfl ?_
    exact ⟨GF, by rw [HN.out]; rfl⟩
  | true =>
    rw [hn] at CX
    have CV2 := Lib.hid (CV.out _ G2.out)
    have HI := Lib.hid (show asgS a.data.toList s.data.toList = match wdQ [] [] (hidS s.data.toList).2 with | .error e => .error e | .ok L => .ok ⟨1, 0, t.data.toList, [], L, 0, [], [], (hidS s.data.toList).1, false⟩ by
      unfold asgS; rw [← HT.out, if_neg (by rw [hn]; simp)]; rfl)
    obtain ⟨hd, ehd⟩ : ∃ hd, (hidS s.data.toList).1 = hd := ⟨_, rfl⟩
    rw [ehd] at HI CV2
    clear hn HT CT CV ehd
    go_upto_region 5 with (first
      | (go_at_call 96; (with_reducible refine CV2.out.mono ?_); rintro e w3 ⟨⟨v, rfl, hv, hvz⟩, g3⟩; have HV := Lib.hid hv; have G3 := Lib.hid (G2.out.trans g3); have B3 := Lib.hid (kept_at g3 B2.out); clear g3 hv)
      | (go_at_call 95; (with_reducible refine (CX.out _).mono ?_); rintro e w3 ⟨rfl, rfl⟩))
    have CW1 := Lib.hid (CW.out v (by omega) _ G3.out)
    rw [← HV.out] at HI
    clear CW HV CV2 CX
    go_wp2_with fail
    refine CW1.out.mono ?_
    rintro e w4 ⟨g4, hout⟩
    have G4 := Lib.hid (G3.out.trans g4)
    have B4 := Lib.hid (kept_at g4 B3.out)
    obtain ⟨b0, b1, b2, b3, b4, b5, b6, b7, b8, b9⟩ := ten_at B4.out
    have fb := free_at B4.out
    cases hw : wdQ [] [] v.data.toList with
    | error bad =>
      rw [hw] at hout
      obtain ⟨a1, c1, rfl⟩ := hout
      have hk : bad ≠ 0 := by have := wd_bad _ v.data.toList [] [] bad (Nat.le_refl _) hw; omega
      have HN := Lib.hid (show asgS a.data.toList s.data.toList = .error bad by rw [HI.out, hw])
      have HK := Lib.hid (errV_ne (A := A) hk)
      rw [errV_ne hk]
      clear hw g4 CW1 hk HI
      go_wp2
      refine bodyPost_ret (back_ten 46 Tryz.underlying46 sizeSp Tryz.results69 rfl rfl (set_ten B4.out _ _ _ _ _ _ _ _ _ _)) rfl ?_
      exact ⟨grown_ten G4.out HP.out _ _ _ _ _ _ _ _ _ _, by rw [HN.out]; show _ = Ending.returned (.tuple #[smZ, errV A bad]); rw [HK.out]; rfl⟩
    | ok L =>
      rw [hw] at hout
      obtain ⟨vv, LB, rfl, ho, hl, hp⟩ := hout
      obtain ⟨va, vc, rfl⟩ := ho.shape
      have HN := Lib.hid (show asgS a.data.toList s.data.toList = .ok ⟨1, 0, t.data.toList, [], L, 0, [], [], hd, false⟩ by rw [HI.out, hw])
      have HO := Lib.hid (OwnRR.up ho (show w.heap.size ≤ w3.heap.size from G3.out.size)); have HL := Lib.hid hl; have HP2 := Lib.hid hp
      clear hw g4 CW1 hp ho hl HI
      go_wp2
      refine bodyPost_ret (back_ten 46 Tryz.underlying46 sizeSp Tryz.results69 rfl rfl (set_ten B4.out _ _ _ _ _ _ _ _ _ _)) rfl ?_
      refine ⟨grown_ten G4.out HP.out _ _ _ _ _ _ _ _ _ _, ?_⟩
      rw [HN.out]
      exact ⟨⟨1, 0, t, [], LB, 0, ⟨#[]⟩, ⟨#[]⟩, hd, false⟩, .slice none 0 0, .slice va LB.length vc, rfl, by unfold Sb.q; rw [HP2.out]; rfl, ⟨Nat.zero_le _, by have := HL.out; show LB.length ≤ 5001; omega, by show t.size ≤ 5000; omega, by show 0 < 256; omega, Nat.zero_le _, rfl, rfl⟩, ownRR_nil _ _ _ _, OwnRR.setT HO.out B4.out (by decide) (by decide) _ _ _ _ _ _ _ _ _ _⟩
end Go.Proofs.YtdganemgldocoaaGreatDoor

namespace Go.Proofs.YtdganemgldocoaaGreatDoor
open Go.RowKit

theorem all_58 (l : List UInt8) : l.all (· != 58) = !l.contains 58 := by
  induction l with
  | nil => rfl
  | cons b l ih =>
    rw [List.all_cons, List.contains_cons, ih, Bool.not_or]
    congr 1
    show (!(b == 58)) = !(58 == b)
    rw [show (b == 58) = ((58 : UInt8) == b) from by rw [Bool.eq_iff_iff, beq_iff_eq, beq_iff_eq]; exact eq_comm]
theorem cut_58 (l : List UInt8) : (l.all (· != 58) = true ∧ (Lib.cut l [58]).2.2 = false) ∨ (l.all (· != 58) = false ∧ Lib.cut l [58] = (l.takeWhile (· != 58), (l.dropWhile (· != 58)).drop 1, true)) := by
  unfold Lib.cut
  rw [Lib.index_one, all_58, Lib.contains_iff_indexByte]
  have hg := Lib.indexByte_ge l 58
  by_cases h : 0 ≤ Lib.indexByte l 58
  · rw [if_pos h, decide_eq_true h]
    obtain ⟨q, hq⟩ : ∃ q : Nat, Lib.indexByte l 58 = q := ⟨(Lib.indexByte l 58).toNat, by omega⟩
    have h1 := (ix_take hq).1
    have e : (fun b : UInt8 => !(b == 58)) = (· != 58) := rfl
    rw [e] at h1
    have h2 : l.dropWhile (· != 58) = l.drop q := by
      have a := List.takeWhile_append_dropWhile (p := (· != (58 : UInt8))) (l := l)
      have b := List.take_append_drop q l
      rw [← h1] at a
      exact List.append_cancel_left (a.trans b.symm)
    refine .inr ⟨rfl, ?_⟩
    rw [hq, Int.toNat_natCast, h1, h2, List.drop_drop]
    rfl
  · rw [if_neg h, decide_eq_false h]
    exact .inl ⟨rfl, rfl⟩
theorem sCutNo (s : ByteArray) (w : World) (hM : MaxI w) (hs : s.size ≤ 1000) (ha : s.data.toList.all (· != 58) = true) : Calls Tryz.prog 114 #[.string s, .string ⟨#[58]⟩] w fun e w' => (∃ T R : ByteArray, e = .returned (.tuple #[.string T, .string R, .bool false])) ∧ w.grownBy w' none := by
  refine (lbX.cut s ⟨#[58]⟩ w hM (by omega)).mono fun e w' ⟨he, n, hn⟩ => ⟨?_, by rw [hn]; exact grown_drewN (World.grownBy.refl _ _) n⟩
  rcases cut_58 s.data.toList with ⟨-, h⟩ | ⟨h, -⟩
  · have h' : (Lib.cut s.data.toList (⟨#[58]⟩ : ByteArray).data.toList).2.2 = false := h
    rw [h'] at he
    exact ⟨_, _, he⟩
  · rw [ha] at h; cases h
theorem sCutYes (s : ByteArray) (w : World) (hM : MaxI w) (hs : s.size ≤ 1000) (ha : s.data.toList.all (· != 58) = false) : Calls Tryz.prog 114 #[.string s, .string ⟨#[58]⟩] w fun e w' => (∃ T R : ByteArray, e = .returned (.tuple #[.string T, .string R, .bool true]) ∧ T.data.toList = s.data.toList.takeWhile (· != 58) ∧ R.data.toList = (s.data.toList.dropWhile (· != 58)).drop 1 ∧ T.size ≤ 1000 ∧ R.size ≤ 1000) ∧ w.grownBy w' none := by
  refine (lbX.cut s ⟨#[58]⟩ w hM (by omega)).mono fun e w' ⟨he, n, hn⟩ => ⟨?_, by rw [hn]; exact grown_drewN (World.grownBy.refl _ _) n⟩
  rcases cut_58 s.data.toList with ⟨h, -⟩ | ⟨-, h⟩
  · rw [ha] at h; cases h
  · have h' : Lib.cut s.data.toList (⟨#[58]⟩ : ByteArray).data.toList = (s.data.toList.takeWhile (· != 58), (s.data.toList.dropWhile (· != 58)).drop 1, true) := h
    rw [h'] at he
    have hl : s.data.toList.length = s.size := by simp
    refine ⟨_, _, he, by simp, by simp, ?_, ?_⟩
    · rw [Lib.size_mk]
      have := (List.takeWhile_sublist (p := (· != (58 : UInt8))) (l := s.data.toList)).length_le
      show (s.data.toList.takeWhile (· != 58)).length ≤ 1000
      omega
    · rw [Lib.size_mk]
      have := (List.dropWhile_sublist (p := (· != (58 : UInt8))) (l := s.data.toList)).length_le
      show ((s.data.toList.dropWhile (· != 58)).drop 1).length ≤ 1000
      rw [List.length_drop]
      omega
theorem back_at3 (T : TypeId) {fs : Array Field} (hT : Tryz.prog.underlying T = some (.struct fs)) (hi : (Tryz.prog.info? T).map (·.size) = some 2) {fn : Func} {p q r : Tmp} {w : World} {g : Nat} {a0 a1 u v : Value} {tmps : Array Value} (hf : fn.results = #[.cell p T, .tmp q, .tmp r])
    (hp : tmps.getD p undef = .pointer (some ⟨g, 0, none⟩)) (hq : tmps.getD q undef = u) (hr : tmps.getD r undef = v) (hg : w.heap[g]? = some (.cells #[a0, a1] T (0, 0))) :
    (results fn tmps).run Tryz.prog w = .ok (.tuple #[.agg #[a0, a1], u, v]) w := by
  have hp' : tmps[p]?.getD undef = .pointer (some ⟨g, 0, none⟩) := by simpa using hp
  have hq' : tmps[q]?.getD undef = u := by simpa using hq
  have hr' : tmps[r]?.getD undef = v := by simpa using hr
  have hl := run_loadVar_row (P := Tryz.prog) w g T T _ (0, 0) _ hg hT rfl hi
  simp [results, hf, hp', hq', hr', asAddr, hl]
/-- a rule's attributes and its words' text, or an error -/
def PAtr (R : Except Nat (Nat × List UInt8 × List UInt8)) (A : Nat → Addr) (w : World) (e : Ending) (w' : World) : Prop :=
  w.grownBy w' none ∧ match R with
    | .ok x => ∃ p t : ByteArray, e = .returned (.tuple #[atV x.1 p, .string t, .nilIface]) ∧ p.data.toList = x.2.1 ∧ t.data.toList = x.2.2 ∧ t.size ≤ 1000 ∧ p.size ≤ 5000 ∧ x.1 < 256
    | .error k => k ≠ 0 ∧ e = .returned (.tuple #[atV 0 ⟨#[]⟩, .string ⟨#[]⟩, errV A k])
set_option maxRecDepth 100000 in
set_option maxHeartbeats 4000000 in
theorem sAttributes (A : Nat → Addr) (s : ByteArray) (w : World) (hE : SpE A w) (hs : s.size ≤ 1000) : Calls Tryz.prog 97 #[.string s] w (PAtr (atrS s.data.toList) A w) := by
  have B0 := Lib.hid (heap_alloc_new w (.cells #[.int .i64 0, .string ⟨#[]⟩] 44))
  have G0 := Lib.hid (World.grownBy_alloc w (.cells #[.int .i64 0, .string ⟨#[]⟩] 44) none)
  have HE := Lib.hid hE
  have hgr : 7 < w.heap.size := cell_block hE.a.e7
  clear hE
  by_cases h0 : s.size = 0
  · obtain rfl := nil_a h0
    have HN := Lib.hid (show atrS (⟨#[]⟩ : ByteArray).data.toList = .ok (0, [], []) from rfl)
    clear h0 hgr
    go_enter Tryz.func97, Tryz.ntmps97
    go_upto_region 1 with fail
    generalize w.alloc _ = w1 at B0 G0 ⊢
    obtain ⟨p, ep⟩ : ∃ p, w.heap.size = p := ⟨_, rfl⟩
    rw [ep] at B0 ⊢
    have HP := Lib.hid (show w.heap.size ≤ p by omega)
    clear ep
    obtain ⟨b0, b1⟩ := two_at B0.out
    have fb := free_at B0.out
    go_wp2
    refine bodyPost_ret (back_at3 44 Tryz.underlying44 sizeAp Tryz.results97 rfl rfl rfl (set_at2 B0.out _ _)) rfl ?_
    exact ⟨grown_at2 G0.out _ _ HP.out, by rw [HN.out]; exact ⟨⟨#[]⟩, ⟨#[]⟩, rfl, rfl, rfl, Nat.zero_le _, Nat.zero_le _, by show 0 < 256; omega⟩⟩
  obtain ⟨f1, f2, f3⟩ := full_a h0
  have hpos : 0 < s.size := by omega
  have hrec : recQ s.data.toList = decide (0 ≤ Lib.indexByte [32, 9] s[0]) := by rw [cons_a hpos]; exact rec_byte
  have hemp : s.data.toList.isEmpty = false := by cases hq : s.data.toList.isEmpty; rfl; exact absurd (List.isEmpty_iff.1 hq) f1
  have hge := Lib.indexByte_ge [32, 9] s[0]
  obtain ⟨z, hz⟩ : ∃ z, Lib.indexByte [32, 9] s[0] = z := ⟨_, rfl⟩
  have CI := Lib.hid (show ∀ w, Calls Tryz.prog 79 #[.string ⟨#[32, 9]⟩, .int .u8 s[0].toNat] w fun e w' => e = .returned (.int .i64 z) ∧ w = w' from fun w =>
    (Tryz.strings_IndexByte ⟨#[32, 9]⟩ (s[0].toNat : Int) w).mono fun e w' ⟨h1, h2⟩ => ⟨by rw [h1, ← hz]; simp, by first | exact h2.symm | exact h2⟩)
  rw [hz] at hrec hge
  have HI := Lib.hid (show atrS s.data.toList = if recQ s.data.toList then .ok (0, [], s.data.toList) else (if s.data.toList.all (· != 58) then .error 7 else match docA 0 (s.data.toList.takeWhile (· != 58)) with | .error e => .error e | .ok x => .ok (x.1, x.2, (s.data.toList.dropWhile (· != 58)).drop 1)) by
    unfold atrS; rw [hemp, Bool.false_or]; rfl)
  rw [show recQ s.data.toList = decide ((0 : Int) ≤ z) from hrec] at HI
  clear f1 hz hemp hrec h0
  by_cases hz0 : 0 ≤ z
  · rw [decide_eq_true hz0] at HI
    have HN := Lib.hid (show atrS s.data.toList = .ok (0, [], s.data.toList) from HI.out)
    have e1 : (z == -1) = false := by rw [beq_eq_false_iff_ne]; omega
    clear hz0 hge HI hgr
    go_enter Tryz.func97, Tryz.ntmps97
    go_upto_region 1 with fail
    generalize w.alloc _ = w1 at B0 G0 ⊢
    obtain ⟨p, ep⟩ : ∃ p, w.heap.size = p := ⟨_, rfl⟩
    rw [ep] at B0 ⊢
    have HP := Lib.hid (show w.heap.size ≤ p by omega)
    clear ep
    obtain ⟨b0, b1⟩ := two_at B0.out
    have fb := free_at B0.out
    go_wp2_with (go_at_call 79; (with_reducible refine (CI.out _).mono ?_); rintro e w4 ⟨rfl, rfl⟩)
    refine bodyPost_ret (back_at3 44 Tryz.underlying44 sizeAp Tryz.results97 rfl rfl rfl (set_at2 B0.out _ _)) rfl ?_
    exact ⟨grown_at2 G0.out _ _ HP.out, by rw [HN.out]; exact ⟨⟨#[]⟩, s, rfl, rfl, rfl, hs, Nat.zero_le _, by show 0 < 256; omega⟩⟩
  obtain rfl : z = -1 := by omega
  rw [decide_eq_false (by omega)] at HI
  have HI2 := Lib.hid (show atrS s.data.toList = (if s.data.toList.all (· != 58) then .error 7 else match docA 0 (s.data.toList.takeWhile (· != 58)) with | .error e => .error e | .ok x => .ok (x.1, x.2, (s.data.toList.dropWhile (· != 58)).drop 1)) from HI.out)
  clear HI hz0 hge
  cases ha : s.data.toList.all (· != 58) with
  | true =>
    have HN := Lib.hid (show atrS s.data.toList = .error 7 by rw [HI2.out, if_pos ha])
    have CC := Lib.hid (fun w' (g : w.grownBy w' none) => sCutNo s w' (HE.out.m.grown g) hs ha)
    clear ha HI2
    go_enter Tryz.func97, Tryz.ntmps97
    go_upto_region 1 with fail
    generalize w.alloc _ = w1 at B0 G0 ⊢
    obtain ⟨p, ep⟩ : ∃ p, w.heap.size = p := ⟨_, rfl⟩
    rw [ep] at B0 hgr ⊢
    have HP := Lib.hid (show w.heap.size ≤ p by omega)
    have q1 : ¬p = 7 := by omega
    have q2 : ¬7 = p := by omega
    clear ep hgr
    have CC1 := Lib.hid (CC.out _ G0.out)
    go_upto_region 4 with (first
      | (go_at_call 114; (with_reducible refine CC1.out.mono ?_); rintro e w2 ⟨⟨T, R, rfl⟩, g2⟩; have G2 := Lib.hid (G0.out.trans g2); have B2 := Lib.hid (kept_at g2 B0.out); clear g2)
      | (go_at_call 79; (with_reducible refine (CI.out _).mono ?_); rintro e w4 ⟨rfl, rfl⟩))
    obtain ⟨b0, b1⟩ := two_at B2.out
    have fb := free_at B2.out
    have e7 := (HE.out.grown G2.out).a.e7
    go_wp2
    go_region
    go_wp2
    refine bodyPost_ret (back_at3 44 Tryz.underlying44 sizeAp Tryz.results97 rfl rfl rfl (set_at2 B2.out _ _)) rfl ?_
    exact ⟨grown_drew (grown_at2 G2.out _ _ HP.out), by rw [HN.out]; exact ⟨by decide, rfl⟩⟩
  | false =>
    have HI3 := Lib.hid (show atrS s.data.toList = match docA 0 (s.data.toList.takeWhile (· != 58)) with | .error e => .error e | .ok x => .ok (x.1, x.2, (s.data.toList.dropWhile (· != 58)).drop 1) by rw [HI2.out, if_neg (by rw [ha]; simp)])
    have CC := Lib.hid (fun w' (g : w.grownBy w' none) => sCutYes s w' (HE.out.m.grown g) hs ha)
    clear ha HI2 hgr
    go_enter Tryz.func97, Tryz.ntmps97
    go_upto_region 1 with fail
    generalize w.alloc _ = w1 at B0 G0 ⊢
    obtain ⟨p, ep⟩ : ∃ p, w.heap.size = p := ⟨_, rfl⟩
    rw [ep] at B0 ⊢
    have HP := Lib.hid (show w.heap.size ≤ p by omega)
    clear ep
    have CC1 := Lib.hid (CC.out _ G0.out)
    go_upto_region 6 with (first
      | (go_at_call 114; (with_reducible refine CC1.out.mono ?_); rintro e w2 ⟨⟨T, R, rfl, hT, hR, hTz, hRz⟩, g2⟩; have HT := Lib.hid hT; have HR := Lib.hid hR; have G2 := Lib.hid (G0.out.trans g2); have B2 := Lib.hid (kept_at g2 B0.out); clear g2 hT hR)
      | (go_at_call 79; (with_reducible refine (CI.out _).mono ?_); rintro e w4 ⟨rfl, rfl⟩))
    have CP := Lib.hid (pParse A T w2 (HE.out.grown G2.out).a hTz)
    rw [← HT.out, ← HR.out] at HI3
    clear HT HR CC CC1 CI
    cases hd : docA 0 T.data.toList with
    | error k =>
      rw [hd] at CP HI3
      have hk : k ≠ 0 := by rcases doc_err hd with h | h <;> omega
      have CP1 := Lib.hid (show Calls Tryz.prog 115 #[.string T] w2 fun e w' => e = .returned (.tuple #[atV 0 ⟨#[]⟩, .iface 202 (.pointer (some (A k)))]) ∧ w2.grownBy w' none by
        have := CP.out
        rw [ans_err rfl] at this
        simp only at this
        rw [errV_ne hk] at this
        exact this)
      have HK := Lib.hid (errV_ne (A := A) hk)
      have HKK := Lib.hid hk
      clear hd CP hk
      go_upto_region 7 with (go_at_call 115; (with_reducible refine CP1.out.mono ?_); rintro e w3 ⟨rfl, g3⟩; have G3 := Lib.hid (G2.out.trans g3); have B3 := Lib.hid (kept_at g3 B2.out); obtain ⟨c0, c1⟩ := two_at B3.out; have fc := free_at B3.out; have B4 := Lib.hid (set_at2 B3.out (.int .i64 0) (.string ⟨#[]⟩)); have G4 := Lib.hid (grown_at2 G3.out (.int .i64 0) (.string ⟨#[]⟩) HP.out); clear g3)
      generalize (w3.setCell _ _).setCell _ _ = w4 at B4 G4 ⊢
      clear c0 c1 fc
      obtain ⟨b0, b1⟩ := two_at B4.out
      have fb := free_at B4.out
      go_wp2
      refine bodyPost_ret (back_at3 44 Tryz.underlying44 sizeAp Tryz.results97 rfl rfl rfl (set_at2 B4.out _ _)) rfl ?_
      exact ⟨grown_at2 G4.out _ _ HP.out, by rw [HI3.out]; exact ⟨HKK.out, by rw [HK.out]; rfl⟩⟩
    | ok x =>
      obtain ⟨f, pl⟩ := x
      rw [hd] at CP HI3
      have hpl := doc_prog hd
      have hfl := doc_lt (show 0 < 256 by omega) hd
      obtain ⟨pb, hpb⟩ : ∃ pb : ByteArray, pb.data.toList = pl := ⟨⟨pl.toArray⟩, by simp⟩
      have hpz : pb.size ≤ 5000 := by have h1 : pb.data.toList.length = pb.size := by simp
                                      rw [hpb] at h1; omega
      have CP1 := Lib.hid (show Calls Tryz.prog 115 #[.string T] w2 fun e w' => e = .returned (.tuple #[atV f pb, .nilIface]) ∧ w2.grownBy w' none by
        have := CP.out
        rw [ans_ok (p := pb) (by rw [hpb])] at this
        exact this)
      have HN := Lib.hid (show atrS s.data.toList = .ok (f, pl, R.data.toList) from HI3.out)
      have HPB := Lib.hid hpb
      clear hd CP HI3 hpl hpb
      go_upto_region 7 with (go_at_call 115; (with_reducible refine CP1.out.mono ?_); rintro e w3 ⟨rfl, g3⟩; have G3 := Lib.hid (G2.out.trans g3); have B3 := Lib.hid (kept_at g3 B2.out); obtain ⟨c0, c1⟩ := two_at B3.out; have fc := free_at B3.out; have B4 := Lib.hid (set_at2 B3.out (.int .i64 f) (.string pb)); have G4 := Lib.hid (grown_at2 G3.out (.int .i64 f) (.string pb) HP.out); clear g3)
      generalize (w3.setCell _ _).setCell _ _ = w4 at B4 G4 ⊢
      clear c0 c1 fc
      obtain ⟨b0, b1⟩ := two_at B4.out
      have fb := free_at B4.out
      go_wp2
      refine bodyPost_ret (back_at3 44 Tryz.underlying44 sizeAp Tryz.results97 rfl rfl rfl (set_at2 B4.out _ _)) rfl ?_
      exact ⟨grown_at2 G4.out _ _ HP.out, by rw [HN.out]; exact ⟨pb, R, rfl, HPB.out, rfl, hRz, hpz, hfl⟩⟩
theorem rul_some (a b : List UInt8) : rulS a b = match smeS a with | .error e => .error e | .ok H => match atrS b with | .error e => .error e | .ok x => match wdQ [] [] x.2.2 with | .error e => .error e | .ok L => .ok ⟨2, 0, [], H, L, x.1, x.2.1, [], false, false⟩ := by
  unfold rulS smeS
  cases wdQ [] [] a with
  | error e => rfl
  | ok H =>
    simp only
    split <;> rfl
set_option maxRecDepth 100000 in
set_option maxHeartbeats 4000000 in
theorem sRule (A : Nat → Addr) (a s : ByteArray) (w : World) (hE : SpE A w) (ha : a.size ≤ 1000) (hs : s.size ≤ 1000) : Calls Tryz.prog 70 #[.string a, .string s] w (PSt A (rulS a.data.toList s.data.toList) w) := by
  have B0 := Lib.hid (heap_alloc_new w (.cells #[.int .i64 0, .int .i64 0, .string ⟨#[]⟩, .slice none 0 0, .slice none 0 0, .int .i64 0, .string ⟨#[]⟩, .string ⟨#[]⟩, .bool false, .bool false] 46))
  have G0 := Lib.hid (World.grownBy_alloc w (.cells #[.int .i64 0, .int .i64 0, .string ⟨#[]⟩, .slice none 0 0, .slice none 0 0, .int .i64 0, .string ⟨#[]⟩, .string ⟨#[]⟩, .bool false, .bool false] 46) none)
  have HE := Lib.hid hE
  have HI := Lib.hid (rul_some a.data.toList s.data.toList)
  have CS := Lib.hid (fun w' (g : w.grownBy w' none) => sSome A a w' (HE.out.grown g) (by omega))
  have CA := Lib.hid (fun w' (g : w.grownBy w' none) => sAttributes A s w' (HE.out.grown g) hs)
  have CW := Lib.hid (fun (t : ByteArray) (h : t.size ≤ 5000) w' (g : w.grownBy w' none) => (HE.out.grown g).words t h)
  clear hE
  go_enter Tryz.func70, Tryz.ntmps70
  go_upto_region 1 with fail
  generalize w.alloc _ = w1 at B0 G0 ⊢
  obtain ⟨p, ep⟩ : ∃ p, w.heap.size = p := ⟨_, rfl⟩
  rw [ep] at B0 ⊢
  have HP := Lib.hid (show w.heap.size ≤ p by omega)
  clear ep
  have CS1 := Lib.hid (CS.out _ G0.out)
  clear CS
  go_wp2_with fail
  refine CS1.out.mono ?_
  rintro e w2 ⟨g2, hout⟩
  have G2 := Lib.hid (G0.out.trans g2)
  have B2 := Lib.hid (kept_at g2 B0.out)
  obtain ⟨b0, b1, b2, b3, b4, b5, b6, b7, b8, b9⟩ := ten_at B2.out
  have fb := free_at B2.out
  cases hw : smeS a.data.toList with
  | error k =>
    rw [hw] at hout
    obtain ⟨a1, n, c, hk, rfl⟩ := hout
    have HN := Lib.hid (show rulS a.data.toList s.data.toList = .error k by rw [HI.out, hw])
    have HK := Lib.hid (errV_ne (A := A) hk)
    rw [errV_ne hk]
    clear hw g2 CS1 hk HI
    go_wp2
    refine bodyPost_ret (back_ten 46 Tryz.underlying46 sizeSp Tryz.results70 rfl rfl (set_ten B2.out _ _ _ _ _ _ _ _ _ _)) rfl ?_
    exact ⟨grown_ten G2.out HP.out _ _ _ _ _ _ _ _ _ _, by rw [HN.out]; show _ = Ending.returned (.tuple #[smZ, errV A k]); rw [HK.out]; rfl⟩
  | ok H =>
    rw [hw] at hout
    obtain ⟨va, vc, LB, rfl, ho, hl, hp⟩ := hout
    have HI2 := Lib.hid (show rulS a.data.toList s.data.toList = match atrS s.data.toList with | .error e => .error e | .ok x => match wdQ [] [] x.2.2 with | .error e => .error e | .ok L => .ok ⟨2, 0, [], H, L, x.1, x.2.1, [], false, false⟩ by rw [HI.out, hw])
    have HO := Lib.hid (OwnRR.up ho (show w.heap.size ≤ w1.heap.size from G0.out.size)); have HL := Lib.hid hl; have HP2 := Lib.hid hp
    have CA1 := Lib.hid (CA.out _ G2.out)
    clear hw g2 CS1 hp ho hl HI CA b0 b1 b2 b3 b4 b5 b6 b7 b8 b9 fb
    go_wp2_with fail
    refine CA1.out.mono ?_
    rintro e w3 ⟨g3, hout⟩
    have G3 := Lib.hid (G2.out.trans g3)
    have B3 := Lib.hid (kept_at g3 B2.out)
    have O3 := Lib.hid (HO.out.keep g3)
    cases hx : atrS s.data.toList with
    | error k =>
      rw [hx] at hout
      obtain ⟨hk, rfl⟩ := hout
      have HN := Lib.hid (show rulS a.data.toList s.data.toList = .error k by rw [HI2.out, hx])
      have HK := Lib.hid (errV_ne (A := A) hk)
      rw [errV_ne hk]
      have g4 := World.grownBy_alloc w3 (.cells #[.int .i64 0, .string ⟨#[]⟩] 44) none
      have B4 := Lib.hid (kept_at g4 B3.out)
      have G4 := Lib.hid (G3.out.trans g4)
      clear hx g3 CA1 hk HI2 g4
      go_upto_region 5 with fail
      generalize w3.alloc _ = w4 at B4 G4 ⊢
      obtain ⟨b0, b1, b2, b3, b4, b5, b6, b7, b8, b9⟩ := ten_at B4.out
      have fb := free_at B4.out
      go_wp2
      refine bodyPost_ret (back_ten 46 Tryz.underlying46 sizeSp Tryz.results70 rfl rfl (set_ten B4.out _ _ _ _ _ _ _ _ _ _)) rfl ?_
      exact ⟨grown_ten G4.out HP.out _ _ _ _ _ _ _ _ _ _, by rw [HN.out]; show _ = Ending.returned (.tuple #[smZ, errV A k]); rw [HK.out]; rfl⟩
    | ok x =>
      rw [hx] at hout
      obtain ⟨pb, t, rfl, hpb, ht, htz, hpz, hfl⟩ := hout
      have HI3 := Lib.hid (show rulS a.data.toList s.data.toList = match wdQ [] [] t.data.toList with | .error e => .error e | .ok L => .ok ⟨2, 0, [], H, L, x.1, pb.data.toList, [], false, false⟩ by rw [HI2.out, hx, hpb, ht])
      have HFL := Lib.hid (show x.1 < 256 ∧ pb.size ≤ 5000 from ⟨hfl, hpz⟩)
      obtain ⟨fl, hfx⟩ : ∃ fl, x.1 = fl := ⟨_, rfl⟩
      rw [hfx] at HI3 HFL ⊢
      have g4 := World.grownBy_alloc w3 (.cells #[.int .i64 fl, .string pb] 44) none
      have BA := Lib.hid (heap_alloc_new w3 (.cells #[.int .i64 fl, .string pb] 44))
      have B4 := Lib.hid (kept_at g4 B3.out)
      have G4 := Lib.hid (G3.out.trans g4)
      have O4 := Lib.hid (O3.out.keep g4)
      have HPL := Lib.hid (show p < w3.heap.size from (Array.getElem?_eq_some_iff.1 B3.out).1)
      clear hx g3 CA1 HI2 g4 hpb ht hpz hfl hfx
      go_upto_region 5 with fail
      generalize w3.alloc _ = w4 at BA B4 G4 O4 ⊢
      obtain ⟨q, eq⟩ : ∃ q, w3.heap.size = q := ⟨_, rfl⟩
      rw [eq] at BA HPL ⊢
      have CW1 := Lib.hid (CW.out t (by omega) _ G4.out)
      clear CW eq
      go_wp2_with fail
      refine CW1.out.mono ?_
      rintro e w5 ⟨g5, hout⟩
      have G5 := Lib.hid (G4.out.trans g5)
      have B5 := Lib.hid (kept_at g5 B4.out)
      have BA5 := Lib.hid (kept_at g5 BA.out)
      have O5 := Lib.hid (O4.out.keep g5)
      obtain ⟨b0, b1, b2, b3, b4, b5, b6, b7, b8, b9⟩ := ten_at B5.out
      have fb := free_at B5.out
      obtain ⟨a0, a1⟩ := two_at BA5.out
      cases hw2 : wdQ [] [] t.data.toList with
      | error bad =>
        rw [hw2] at hout
        obtain ⟨a2, c2, rfl⟩ := hout
        have hk : bad ≠ 0 := by have := wd_bad _ t.data.toList [] [] bad (Nat.le_refl _) hw2; omega
        have HN := Lib.hid (show rulS a.data.toList s.data.toList = .error bad by rw [HI3.out, hw2])
        have HK := Lib.hid (errV_ne (A := A) hk)
        rw [errV_ne hk]
        clear hw2 g5 CW1 hk HI3
        go_wp2
        refine bodyPost_ret (back_ten 46 Tryz.underlying46 sizeSp Tryz.results70 rfl rfl (set_ten B5.out _ _ _ _ _ _ _ _ _ _)) rfl ?_
        exact ⟨grown_ten G5.out HP.out _ _ _ _ _ _ _ _ _ _, by rw [HN.out]; show _ = Ending.returned (.tuple #[smZ, errV A bad]); rw [HK.out]; rfl⟩
      | ok L =>
        rw [hw2] at hout
        obtain ⟨vv, LW, rfl, ho2, hl2, hp2⟩ := hout
        obtain ⟨ua, uc, rfl⟩ := ho2.shape
        have HN := Lib.hid (show rulS a.data.toList s.data.toList = .ok ⟨2, 0, [], H, L, fl, pb.data.toList, [], false, false⟩ by rw [HI3.out, hw2])
        have HO2 := Lib.hid (OwnRR.up ho2 (show w.heap.size ≤ w4.heap.size from G4.out.size)); have HL2 := Lib.hid hl2; have HP3 := Lib.hid hp2
        have hne : ¬q = p := by have := HPL.out; omega
        clear hw2 g5 CW1 hp2 ho2 hl2 HI3
        go_wp2
        refine bodyPost_ret (back_ten 46 Tryz.underlying46 sizeSp Tryz.results70 rfl rfl (set_ten B5.out _ _ _ _ _ _ _ _ _ _)) rfl ?_
        refine ⟨grown_ten G5.out HP.out _ _ _ _ _ _ _ _ _ _, ?_⟩
        rw [HN.out]
        exact ⟨⟨2, 0, ⟨#[]⟩, LB, LW, fl, pb, ⟨#[]⟩, false, false⟩, .slice va LB.length vc, .slice ua LW.length uc, rfl, by unfold Sb.q; rw [HP2.out, HP3.out], ⟨by have := HL.out; show LB.length ≤ 5001; omega, by have := HL2.out; show LW.length ≤ 5001; omega, Nat.zero_le _, HFL.out.1, HFL.out.2, rfl, rfl⟩, OwnRR.setT O5.out B5.out (by decide) (by decide) _ _ _ _ _ _ _ _ _ _, OwnRR.setT HO2.out B5.out (by decide) (by decide) _ _ _ _ _ _ _ _ _ _⟩
end Go.Proofs.YtdganemgldocoaaGreatDoor
