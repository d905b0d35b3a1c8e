/- Walks of package lines: how many lines a text has, its lines, whether a line is a recipe's, where a comment begins. The walk of a logical line: its physical lines, one behind the other, byte by byte. -/
import Derived.Test.YtdganemgldocoaaGreatDoorLnRead
import Derived.Test.YtdganemgldocoaaGreatDoorLnWhere
import Derived.Test.YtdganemgldocoaaGreatDoorQtBld
import Derived.Shelf.Strings.PiecesUse
import Derived.Deep.LoopGhost
import Derived.Shelf.Strings.SlTrimAscii
namespace Go.Proofs.YtdganemgldocoaaGreatDoor
open Go.RowKit

theorem no_bytes {s : ByteArray} (h : s.size = 0) : s = ⟨#[]⟩ := by
  obtain ⟨⟨l⟩⟩ := s
  cases l with
  | nil => rfl
  | cons a t => simp [ByteArray.size] at h
theorem has_bytes {s : ByteArray} (h : 0 < s.size) : s.data.toList ≠ [] ∧ s.toList.isEmpty = false ∧ ¬s.toList = [] := by
  have h1 : s.data.toList ≠ [] := by
    intro e
    have h2 : s.data.toList.length = s.size := by simp
    rw [e] at h2
    simp at h2; omega
  have h3 : s.toList ≠ [] := by rw [Lib.toList_data]; exact h1
  refine ⟨h1, ?_, h3⟩
  cases he : s.toList.isEmpty
  · rfl
  · exact (h3 (List.isEmpty_iff.1 he)).elim
theorem last_at {s : ByteArray} (h : 0 < s.size) : s.data.toList.getLast? = some (s[s.size - 1]'(by omega)) := by
  rw [List.getLast?_eq_getElem?]
  have e : s.data.toList.length = s.size := by simp
  rw [e]
  exact list_at (by omega)
set_option maxRecDepth 100000 in
set_option maxHeartbeats 1000000 in
theorem pCount (s : ByteArray) (w : World) (hs : s.size ≤ 5000) : Calls Tryz.prog 48 #[.string s] w fun e w' => e = .returned (.int .i64 (linQ s.data.toList).length) ∧ w' = w := by
  obtain ⟨k, hk⟩ : ∃ k, s.data.toList.count 10 = k := ⟨_, rfl⟩
  have hkl : k ≤ s.size := by rw [← hk]; have := List.count_le_length (a := (10 : UInt8)) (l := s.data.toList); simpa using this
  have CC := Lib.hid (show Calls Tryz.prog 78 #[.string s, .string ⟨#[10]⟩] w fun e w' => e = .returned (.int .i64 k) ∧ w' = w by
    refine (Tryz.strings_Count_one s 10 w).mono fun e w' ⟨he, hw⟩ => ⟨?_, hw⟩
    rw [he, ← hk]; rfl)
  have hc := linQ_count s.data.toList
  rw [hk] at hc
  by_cases h0 : s.size = 0
  · obtain rfl := no_bytes h0
    have HZ := Lib.hid (show ((linQ (⟨#[]⟩ : ByteArray).data.toList).length : Int) = k by rw [hc]; simp)
    clear hc hk h0
    go_enter Tryz.func48, Tryz.ntmps48
    go_wp2_with (go_at_call 78; (with_reducible refine CC.out.mono ?_); rintro e w1 ⟨rfl, rfl⟩)
    go_ret
    exact ⟨ret_int HZ.out.symm, rfl⟩
  · have hp : 0 < s.size := by omega
    obtain ⟨hne, e0, e00⟩ := has_bytes hp
    have hl := last_at hp
    by_cases h10 : s[s.size - 1] = 10
    · have HZ := Lib.hid (show ((linQ s.data.toList).length : Int) = k by rw [hc, if_pos (.inr (by rw [hl, h10]))]; simp)
      have e1 : (((s[s.size - 1]).toNat : Int) == 10) = true := by rw [h10]; rfl
      clear hc hk hne hl h10
      go_enter Tryz.func48, Tryz.ntmps48
      go_wp2_with (go_at_call 78; (with_reducible refine CC.out.mono ?_); rintro e w1 ⟨rfl, rfl⟩)
      go_ret
      exact ⟨ret_int HZ.out.symm, rfl⟩
    · have HZ := Lib.hid (show ((linQ s.data.toList).length : Int) = k + 1 by
        rw [hc, if_neg (by rw [hl]; simp only [Option.some.injEq]; rintro (h | h); exact hne h; exact h10 h)]; simp)
      have e1 : (((s[s.size - 1]).toNat : Int) == 10) = false := by
        rw [beq_eq_false_iff_ne]
        intro h
        exact h10 (UInt8.toNat_inj.1 (by show (s[s.size - 1]).toNat = 10; omega))
      clear hc hk hne hl h10
      go_enter Tryz.func48, Tryz.ntmps48
      go_wp2_with (go_at_call 78; (with_reducible refine CC.out.mono ?_); rintro e w1 ⟨rfl, rfl⟩)
      go_ret
      exact ⟨ret_int (by rw [HZ.out]), rfl⟩
set_option maxRecDepth 100000 in
set_option maxHeartbeats 1000000 in
theorem pRecipe (s : ByteArray) (w : World) : Calls Tryz.prog 49 #[.string s] w fun e w' => e = .returned (.bool (recQ s.data.toList)) ∧ w' = w := by
  by_cases h0 : s.size = 0
  · obtain rfl := no_bytes h0
    clear h0
    go_enter Tryz.func49, Tryz.ntmps49
    go_wp2
    go_ret
    exact ⟨rfl, rfl⟩
  · have hp : 0 < s.size := by omega
    obtain ⟨-, e0, e00⟩ := has_bytes hp
    obtain ⟨b, hb⟩ : ∃ b, s[0] = b := ⟨_, rfl⟩
    obtain ⟨k, hk⟩ : ∃ k, Lib.indexByte [32, 9] b = k := ⟨_, rfl⟩
    have HR := Lib.hid (show recQ s.data.toList = decide (0 ≤ k) by
      have h := list_at hp
      cases hl : s.data.toList with
      | nil => rw [hl] at h; simp at h
      | cons a r =>
        rw [hl] at h
        obtain rfl : a = b := by simpa [hb] using h
        rw [rec_byte, hk])
    have CI := Lib.hid (show ∀ w, Calls Tryz.prog 79 #[.string ⟨#[32, 9]⟩, .int .u8 ((s[0]).toNat : Int)] w fun e w' => e = .returned (.int .i64 k) ∧ w' = w from fun w => by
      refine (Tryz.strings_IndexByte ⟨#[32, 9]⟩ ((s[0]).toNat : Int) w).mono fun e w' ⟨he, hw⟩ => ⟨?_, hw⟩
      rw [he, ← hk, ← hb]; simp)
    clear hk hb h0
    go_enter Tryz.func49, Tryz.ntmps49
    go_wp2_with (go_at_call 79; (with_reducible refine (CI.out _).mono ?_); rintro e w1 ⟨rfl, rfl⟩)
    go_ret
    exact ⟨ret_bool (by rw [HR.out]), rfl⟩
/-- a text cut at each line feed, as the program's slice of it -/
theorem pPhysical (s : ByteArray) (w : World) (hM : MaxI w) (hs : s.size ≤ 5000) : Calls Tryz.prog 26 #[.string s] w fun e w' =>
    w.grownBy w' none ∧ ∃ v l, e = .returned v ∧ TxRow w' v l ∧ txL l = linQ s.data.toList := by
  obtain ⟨m, hm⟩ := hM
  obtain ⟨P, hP⟩ : ∃ P, Lib.splitB ⟨#[10]⟩ 0 (Lib.countB s ⟨#[10]⟩) s = P := ⟨_, rfl⟩
  have hPl : P.length = Lib.countB s ⟨#[10]⟩ + 1 := by rw [← hP]; exact Lib.splitB_all ⟨#[10]⟩ (by decide) 0 _ s rfl
  have hPq : P.map (·.data.toList) = pcs [] s.data.toList := by rw [← hP, Lib.splitB_data]; exact split_pcs s.data.toList
  have hcl := Lib.countB_le ⟨#[10]⟩ (by decide) s.size s (Nat.le_refl _)
  obtain ⟨n, hn⟩ : ∃ n, (linQ s.data.toList).length = n := ⟨_, rfl⟩
  have hq : linQ s.data.toList = (P.take n).map (·.data.toList) := by rw [List.map_take, hPq, ← hn]; exact linA_pcs s.data.toList []
  have hnP : n ≤ P.length := by
    have := congrArg List.length hq
    rw [hn, List.length_map, List.length_take] at this; omega
  have CS := Lib.hid (show Calls Tryz.prog 47 #[.string s, .string ⟨#[10]⟩] w fun e w' => e = .returned (.slice (some ⟨w.heap.size, 0, none⟩) P.length P.length) ∧ w' = w.alloc (.cells (P.map Value.string).toArray 9) by
    refine (Tryz.strings_Split s ⟨#[10]⟩ m w (by omega) hm (by decide)).mono fun e w' ⟨he, hw⟩ => ⟨?_, ?_⟩
    · rw [he, hPl]
    · rw [hw, hP])
  have CC := Lib.hid (fun w => show Calls Tryz.prog 48 #[.string s] w fun e w' => e = .returned (.int .i64 n) ∧ w' = w by rw [← hn]; exact pCount s w hs)
  have HQ := Lib.hid hq
  have hPm : P.length ≤ 5001 := by omega
  clear hP hPl hPq hcl hn hq hm
  go_enter Tryz.func26, Tryz.ntmps26
  go_wp2_with (first
    | (go_at_call 47; (with_reducible refine CS.out.mono ?_); rintro e w1 ⟨rfl, rfl⟩)
    | (go_at_call 48; (with_reducible refine (CC.out _).mono ?_); rintro e w2 ⟨rfl, rfl⟩))
  go_ret
  refine ⟨World.grownBy_alloc _ _ _, .slice (some ⟨w.heap.size, 0, none⟩) n P.length, P.take n, rfl, ⟨some ⟨w.heap.size, 0, none⟩, P.length, by rw [List.length_take, Nat.min_eq_left hnP], ⟨by rw [List.length_take]; omega, fun e => by cases e⟩, fun hne => ⟨w.heap.size, 0, rfl, by simp, fun j x hj => ?_⟩⟩, HQ.out.symm⟩
  have hj2 : P[j]? = some x := by
    rw [List.getElem?_take] at hj
    split at hj
    · exact hj
    · cases hj
  exact Lib.pieces_cell w P _ j x hj2
end Go.Proofs.YtdganemgldocoaaGreatDoor

namespace Go.Proofs.YtdganemgldocoaaGreatDoor
open Go.RowKit

/-- what comes of the line that begins at place k, and is no recipe's -/
def PLog (A : Nat → Addr) (L : List (List UInt8)) (k : Nat) (w : World) (e : Ending) (w' : World) : Prop :=
  w.grownBy w' none ∧
  ((∃ q line : Nat, e = .returned (.tuple #[.string ⟨#[]⟩, .int .i64 0, fltV q]) ∧ FltAt w' q line (errV A 5) ∧ ∀ O, spA (k + 1) [] O k (L.drop k) = .error (5, line)) ∨
   (∃ (t : ByteArray) (n : Nat), e = .returned (.tuple #[.string t, .int .i64 n, .nilIface]) ∧ k < n ∧ n ≤ L.length ∧ t.size ≤ 5001 ∧
      ∀ O, spA (k + 1) [] O k (L.drop k) = if 400 < t.data.toList.length then .error (2, k + 1) else spA 0 [] (O ++ [⟨t.data.toList, k + 1, false⟩]) n (L.drop n)))
theorem txt_of (l : List UInt8) : ∃ t : ByteArray, (⟨l.toArray⟩ : ByteArray) = t ∧ t.data.toList = l ∧ t.size = l.length := ⟨_, rfl, by simp, Lib.size_mk l⟩
theorem results3 {fn : Func} {t u v : Tmp} (h : fn.results = #[.tmp t, .tmp u, .tmp v]) (tmps : Array Value) (P : Program) (w : World) : (results fn tmps).run P w = .ok (.tuple #[tmps.getD t undef, tmps.getD u undef, tmps.getD v undef]) w := by
  simp [results, h]
theorem tx_drop {P : List ByteArray} {k : Nat} {x : ByteArray} (h : P[k]? = some x) : (txL P).drop k = x.data.toList :: (txL P).drop (k + 1) := by
  have h2 : (txL P)[k]? = some x.data.toList := by rw [List.getElem?_map, h]; rfl
  obtain ⟨hk, e⟩ := List.getElem?_eq_some_iff.1 h2
  rw [List.drop_eq_getElem_cons hk, e]
set_option maxRecDepth 100000 in
theorem setZero (w : World) : (zeroValue (Tryz.lays160_ren.t 116)).run Tryz.prog w = .ok (.agg (Array.replicate 256 (.bool false))) w := by
  have h := Tryz.zeroValue129 w
  exact h
theorem pTrim (t : ByteArray) (w : World) (ht : t.size ≤ 5001) : Calls Tryz.prog 35 #[.string t, .string ⟨#[32, 9]⟩] w fun e w' => (∃ u : ByteArray, e = .returned (.string u) ∧ u.data.toList = trQ t.data.toList ∧ u.size ≤ t.size) ∧ Below w.heap.size w w' := by
  refine (Any.strings_Trim_ascii Tryz.lays160 setZero (by kernel_rfl) t ⟨#[32, 9]⟩ w (by omega) (by decide) (fun j b hj => ?_)).mono fun e w' ⟨he, hw⟩ => ⟨?_, hw⟩
  · match j, hj with
    | 0, hj => obtain rfl : 32 = b := by simpa using hj
               decide
    | 1, hj => obtain rfl : 9 = b := by simpa using hj
               decide
    | j + 2, hj => simp at hj
  · refine ⟨⟨(trQ t.data.toList).toArray⟩, ?_, by simp, ?_⟩
    · rw [he, show Lib.trimS t.data.toList (⟨#[32, 9]⟩ : ByteArray).data.toList = trQ t.data.toList from trim_tr _]
    · have := tr_len t.data.toList
      simp only [Array.length_toList] at this
      rw [Lib.size_mk]
      exact this
set_option maxRecDepth 100000 in
set_option maxHeartbeats 4000000 in
theorem pLogical (A : Nat → Addr) (va : Option Addr) (vc : Nat) (P : List ByteArray) (k0 : Nat) (w : World) (hP : TxRow w (.slice va P.length vc) P) (hk0 : k0 < P.length) (hT : totQ ((txL P).drop k0) ≤ 5001)
    (hE : w.cell? ⟨5, 0, none⟩ = some (.iface 202 (.pointer (some (A 5))))) :
    Calls Tryz.prog 50 #[.slice va P.length vc, .int .i64 k0] w (PLog A (txL P) k0 w) := by
  obtain ⟨a', c', ea, ⟨hPm, -⟩, hrow⟩ := hP
  injection ea with ea1 ea2 ea3
  subst ea1 ea3
  obtain ⟨rb, ro, rfl, hrb, hrc⟩ := hrow (by intro e; rw [e] at hk0; simp at hk0)
  have HRB := Lib.hid hrb; have HRC := Lib.hid hrc; have HE := Lib.hid hE
  have BD := Lib.hid (Lib.fresh_isBuilder 90 5 w)
  have BL := Lib.hid ((Below.refl w.heap.size w).alloc (Nat.le_refl _) (.cells #[.pointer none, .slice none 0 0] 90))
  obtain ⟨L, hL⟩ : ∃ L, txL P = L := ⟨_, rfl⟩
  have HL := Lib.hid hL
  have hLl : L.length = P.length := by rw [← hL]; simp
  have HLL := Lib.hid hLl
  rw [hL] at hT ⊢
  have HT := Lib.hid hT
  clear hrow hrb hrc hE hT hL hLl
  go_enter Tryz.func50, Tryz.ntmps50
  go_wp2
  go_step3
  go_wp2
  go_step3
  go_wp2
  generalize w.alloc (.cells #[.pointer none, .slice none 0 0] 90) = wb at *
  obtain ⟨b, hb⟩ : ∃ b, w.heap.size = b := ⟨_, rfl⟩
  rw [hb] at BD BL ⊢
  have HB := Lib.hid hb
  clear hb
  have GR0 := Lib.hid (show ∀ W : World, Below b w W → w.grownBy W none from fun W h => grown_of_below (by rw [HB.out]; exact h))
  go_loopg [1] (P.length - k0) (fun g at_ wr => ∃ (k : Nat) (W : List UInt8), at_ = .int .i64 k ∧ g = P.length - k ∧ k0 ≤ k ∧ k < P.length ∧ Hid (W.length + totQ (L.drop k) ≤ 5001) ∧ Hid (∀ O, spA (k0 + 1) [] O k0 (L.drop k0) = spA (k0 + 1) W O k (L.drop k)) ∧ Hid (BldQ b W wr) ∧ Hid (Below b w wr))
  case atStart => exact ⟨k0, [], rfl, rfl, Nat.le_refl _, hk0, Lib.hid (by have := HT.out; simpa using this), Lib.hid (fun O => rfl), BD, BL⟩
  case round =>
    obtain ⟨k, W, rfl, hg, hkk, hk, hW, hF, hBD, hBL⟩ := hrel
    obtain ⟨x, hx⟩ := tx_get P k hk
    have hcell : wr.cell? ⟨rb, ro + k, none⟩ = some (.string x) := (hBL.out.cell (p := ⟨rb, ro + k, none⟩) (by show rb < b; have := HRB.out; have := HB.out; omega)).trans (HRC.out k x hx)
    have hD : L.drop k = x.data.toList :: L.drop (k + 1) := by rw [← HL.out]; exact tx_drop hx
    have hm : (!(L.drop (k + 1)).isEmpty) = decide (k + 1 < P.length) := by
      have h1 : (L.drop (k + 1)).length = P.length - (k + 1) := by rw [List.length_drop, HLL.out]
      cases h : L.drop (k + 1) with
      | nil => rw [h] at h1; simp at h1 ⊢; omega
      | cons a r => rw [h] at h1; simp at h1 ⊢; omega
    obtain ⟨m, hmm⟩ : ∃ m, decide (k + 1 < P.length) = m := ⟨_, rfl⟩
    have hxl : x.data.toList.length = x.size := by simp
    have HTK := Lib.hid (show W.length + x.size + 1 + totQ (L.drop (k + 1)) ≤ 5001 by have := hW.out; rw [hD, totQ_cons, hxl] at this; omega)
    have HFK := Lib.hid (show ∀ O, spA (k0 + 1) [] O k0 (L.drop k0) = nxA (k0 + 1) k (L.drop (k + 1)) O (rdA m x.data.toList W 0) from fun O => by
      rw [hF.out, hD, spA_nx (Nat.succ_ne_zero k0), hm, hmm]; rfl)
    have HM := Lib.hid hmm
    have HXL := Lib.hid hxl
    have HGG := Lib.hid hg
    clear hD hm hmm hxl hx hW hF hg
    go_wp2
    clear hcell
    have hx5 : x.size ≤ 5000 := by have := HTK.out; omega
    obtain ⟨g1, rfl⟩ : ∃ g1, g1 = gk := ⟨_, rfl⟩
    obtain ⟨wo, rfl⟩ : ∃ wo : World, wo = wr := ⟨_, rfl⟩
    go_loopg [9] x.size (fun g2 i_ wi => ∃ (j : Nat) (V : List UInt8), i_ = .int .i64 j ∧ g2 = x.size - j ∧ j ≤ x.size ∧ Hid (V.length + (x.size - j) + 1 + totQ (L.drop (k + 1)) ≤ 5001) ∧ Hid (∀ O, spA (k0 + 1) [] O k0 (L.drop k0) = nxA (k0 + 1) k (L.drop (k + 1)) O (rdA m x.data.toList V j)) ∧ Hid (BldQ b V wi) ∧ Hid (Below b w wi))
    case atStart => exact ⟨0, W, rfl, rfl, Nat.zero_le _, Lib.hid (by have := HTK.out; omega), HFK, hBD, hBL⟩
    case round =>
      clear HTK HFK hBD hBL
      obtain ⟨j, V, rfl, hg2, hj, hV, hF, hBD, hBL⟩ := hrel
      have GR := Lib.hid (GR0.out _ hBL.out)
      have hbs : b ≤ wr.heap.size := by have := hBL.out.size; have := HB.out; omega
      have HG2 := Lib.hid hg2
      clear hg2
      by_cases hlt : j < x.size
      · have HJ := Lib.hid (list_at hlt)
        by_cases h39 : x[j] = 39
        · have e1 : (((x[j]).toNat : Int) == 39) = true := by rw [h39]; rfl
          have hq : x.data.toList[j]? = some 39 := by rw [HJ.out, h39]
          have CE := Lib.hid (fun w => pEnd0 x j w hx5)
          rcases endAt_val hq with ⟨he, hv⟩ | ⟨f, he, hv, hf1, hf2⟩
          · rw [hv] at CE
            have HN := Lib.hid (show ∀ O, spA (k0 + 1) [] O k0 (L.drop k0) = .error (5, k + 1) from fun O => by rw [hF.out, rdA_none hq he]; rfl)
            have H5 : wr.cell? ⟨5, 0, none⟩ = some (.iface 202 (.pointer (some (A 5)))) := GR.out.cell HE.out (by simp)
            clear h39 hq he hv hF hV hBD hBL
            go_wp2_with (go_at_call 80; (with_reducible refine (CE.out _).mono ?_); rintro e w4 ⟨rfl, rfl⟩)
            go_region
            go_wp2
            try rw [Exit.noGoto_ret]
            refine bodyPost_ret (results3 Tryz.results50 _ _ _) rfl ?_
            exact ⟨grown_drew (GR.out.trans (World.grownBy_alloc _ _ _)), .inl ⟨wr.heap.size, k + 1, rfl, heap_alloc_new wr _, HN.out⟩⟩
          · rw [hv] at CE
            have hf2 : f + 1 ≤ x.size := by rw [← HXL.out]; exact hf2
            obtain ⟨y, hy⟩ : ∃ y, x.extract j (f + 1) = y := ⟨_, rfl⟩
            have hyl : y.data.toList = (x.data.toList.take (f + 1)).drop j := by rw [← hy]; exact toList_cut _ _
            have hyz : y.data.toList.length = f + 1 - j := by rw [hyl, List.length_drop, List.length_take, HXL.out]; omega
            have hyz2 : y.size = f + 1 - j := by rw [← hyz]; simp
            have HN := Lib.hid (show ∀ O, spA (k0 + 1) [] O k0 (L.drop k0) = nxA (k0 + 1) k (L.drop (k + 1)) O (rdA m x.data.toList (V ++ y.data.toList) (f + 1)) from fun O => by rw [hF.out, rdA_part hq he, hyl])
            have HVN := Lib.hid (show (V ++ y.data.toList).length + (x.size - (f + 1)) + 1 + totQ (L.drop (k + 1)) ≤ 5001 by have := hV.out; rw [List.length_append, hyz]; omega)
            have CW := Lib.hid (show Calls Tryz.prog 37 #[.pointer (some ⟨b, 0, none⟩), .string y] wr fun e w' => e = .returned (.tuple #[.int .i64 y.size, .nilIface]) ∧ BldQ b (V ++ y.data.toList) w' ∧ Below b w w' by
              have := hV.out
              refine (bText b V y wr hBD.out (by omega) hbs).mono fun e w' ⟨h1, h2, h3⟩ => ⟨h1, h2, hBL.out.trans h3⟩)
            have HY := Lib.hid hy
            clear h39 hq he hv hy hyl hyz hyz2 hF hV hBD hBL
            go_wp2_with (first
              | (go_at_call 80; (with_reducible refine (CE.out _).mono ?_); rintro e w4 ⟨rfl, rfl⟩)
              | (go_at_call 37; rw [HY.out]; (with_reducible refine CW.out.mono ?_); rintro e w6 ⟨rfl, b6, l6⟩; have B6 := Lib.hid b6; have L6 := Lib.hid l6; clear b6 l6))
            go_roundg (x.size - (f + 1))
            case measure => have := HG2.out; omega
            case rel => exact ⟨f + 1, _, by go_num, rfl, by omega, HVN, HN, B6, L6⟩
        · have e1 : (((x[j]).toNat : Int) == 39) = false := by
            rw [beq_eq_false_iff_ne]; intro h; exact h39 (UInt8.toNat_inj.1 (by show (x[j]).toNat = 39; omega))
          by_cases h35 : x[j] = 35
          · have e2 : (((x[j]).toNat : Int) == 35) = true := by rw [h35]; rfl
            obtain ⟨t1, ht1, hl1, hz1⟩ := txt_of V
            have HN := Lib.hid (show ∀ O, spA (k0 + 1) [] O k0 (L.drop k0) = nxA (k0 + 1) k (L.drop (k + 1)) O (some (V, false)) from fun O => by rw [hF.out, rdA_sharp (by rw [HJ.out, h35])])
            have hz5 : t1.size ≤ 5001 := by have := hV.out; omega
            have CS := Lib.hid (show Calls Tryz.prog 39 #[.pointer (some ⟨b, 0, none⟩)] wr fun e w' => e = .returned (.string t1) ∧ Below b w w' by
              refine (bSaid b V wr hBD.out hbs).mono fun e w' ⟨h1, h2⟩ => ⟨by rw [h1, ht1], hBL.out.trans h2⟩)
            have CT := Lib.hid (fun w2 : World => pTrim t1 w2 hz5)
            rw [hl1] at CT
            clear h39 h35 ht1 hl1 hF hV hBD
            go_wp2_with (first
              | (go_at_call 39; (with_reducible refine CS.out.mono ?_); rintro e w3 ⟨rfl, l3⟩; have L3 := Lib.hid l3; clear l3)
              | (go_at_call 35; (with_reducible refine (CT.out _).mono ?_); rintro e w4 ⟨⟨t2, rfl, ht2, hz2⟩, l4⟩; have L4 := Lib.hid l4; have HT2 := Lib.hid ht2; clear l4 ht2))
            try rw [Exit.noGoto_ret]
            refine bodyPost_ret (results3 Tryz.results50 _ _ _) rfl ?_
            have hl4 : Below b w w4 := L3.out.trans (L4.out.mono (by have := L3.out.size; have := HB.out; omega))
            refine ⟨GR0.out _ hl4, .inr ⟨t2, k + 1, rfl, by omega, by rw [HLL.out]; omega, by omega, fun O => ?_⟩⟩
            rw [HN.out, HT2.out]; rfl
          · have e2 : (((x[j]).toNat : Int) == 35) = false := by
              rw [beq_eq_false_iff_ne]; intro h; exact h35 (UInt8.toNat_inj.1 (by show (x[j]).toNat = 35; omega))
            by_cases h92 : x[j] = 92
            · have e3 : (((x[j]).toNat : Int) == 92) = true := by rw [h92]; rfl
              by_cases hlast : j + 1 = x.size
              · have e4 : ((j : Int) + 1 == (x.size : Int)) = true := by simp; omega
                by_cases hnext : k + 1 < P.length
                · have HN := Lib.hid (show ∀ O, spA (k0 + 1) [] O k0 (L.drop k0) = spA (k0 + 1) (V ++ [32]) O (k + 1) (L.drop (k + 1)) from fun O => by rw [hF.out, rdA_goes (by rw [HJ.out, h92]) (by rw [HXL.out]; exact hlast) (by rw [← HM.out]; exact decide_eq_true hnext)]; rfl)
                  have HVN := Lib.hid (show (V ++ [32]).length + totQ (L.drop (k + 1)) ≤ 5001 by have := hV.out; rw [List.length_append, List.length_singleton]; omega)
                  have CW := Lib.hid (show Calls Tryz.prog 38 #[.pointer (some ⟨b, 0, none⟩), .int .u8 32] wr fun e w' => e = .returned .nilIface ∧ BldQ b (V ++ [32]) w' ∧ Below b w w' by
                    have := hV.out
                    refine (bByte b V 32 wr hBD.out (by omega) hbs).mono fun e w' ⟨h1, h2, h3⟩ => ⟨h1, h2, hBL.out.trans h3⟩)
                  clear h39 h35 h92 hF hV hBD hBL
                  go_wp2_with (go_at_call 38; (with_reducible refine CW.out.mono ?_); rintro e w6 ⟨rfl, b6, l6⟩; have B6 := Lib.hid b6; have L6 := Lib.hid l6; clear b6 l6)
                  go_roundg (P.length - (k + 1))
                  case measure => have := HGG.out; omega
                  case rel => exact ⟨k + 1, _, by go_num, rfl, by omega, hnext, HVN, HN, B6, L6⟩
                · have HN := Lib.hid (show ∀ O, spA (k0 + 1) [] O k0 (L.drop k0) = nxA (k0 + 1) k (L.drop (k + 1)) O (rdA m x.data.toList (V ++ [x[j]]) (j + 1)) from fun O => by rw [hF.out, rdA_byte HJ.out h39 h35 (fun h => hnext (by have h3 := h.2.2; rw [← HM.out] at h3; exact of_decide_eq_true h3))])
                  have HVN := Lib.hid (show (V ++ [x[j]]).length + (x.size - (j + 1)) + 1 + totQ (L.drop (k + 1)) ≤ 5001 by have := hV.out; rw [List.length_append, List.length_singleton]; omega)
                  have CW := Lib.hid (show Calls Tryz.prog 38 #[.pointer (some ⟨b, 0, none⟩), .int .u8 (x[j]).toNat] wr fun e w' => e = .returned .nilIface ∧ BldQ b (V ++ [x[j]]) w' ∧ Below b w w' by
                    have := hV.out
                    refine (bByte b V x[j] wr hBD.out (by omega) hbs).mono fun e w' ⟨h1, h2, h3⟩ => ⟨h1, h2, hBL.out.trans h3⟩)
                  clear h39 h35 h92 hF hV hBD hBL
                  go_wp2_with (go_at_call 38; (with_reducible refine CW.out.mono ?_); rintro e w6 ⟨rfl, b6, l6⟩; have B6 := Lib.hid b6; have L6 := Lib.hid l6; clear b6 l6)
                  go_roundg (x.size - (j + 1))
                  case measure => have := HG2.out; omega
                  case rel => exact ⟨j + 1, _, by go_num, rfl, by omega, HVN, HN, B6, L6⟩
              · have e4 : ((j : Int) + 1 == (x.size : Int)) = false := by simp; omega
                have HN := Lib.hid (show ∀ O, spA (k0 + 1) [] O k0 (L.drop k0) = nxA (k0 + 1) k (L.drop (k + 1)) O (rdA m x.data.toList (V ++ [x[j]]) (j + 1)) from fun O => by rw [hF.out, rdA_byte HJ.out h39 h35 (fun h => hlast (by have h2 := h.2.1; rw [HXL.out] at h2; exact h2))])
                have HVN := Lib.hid (show (V ++ [x[j]]).length + (x.size - (j + 1)) + 1 + totQ (L.drop (k + 1)) ≤ 5001 by have := hV.out; rw [List.length_append, List.length_singleton]; omega)
                have CW := Lib.hid (show Calls Tryz.prog 38 #[.pointer (some ⟨b, 0, none⟩), .int .u8 (x[j]).toNat] wr fun e w' => e = .returned .nilIface ∧ BldQ b (V ++ [x[j]]) w' ∧ Below b w w' by
                  have := hV.out
                  refine (bByte b V x[j] wr hBD.out (by omega) hbs).mono fun e w' ⟨h1, h2, h3⟩ => ⟨h1, h2, hBL.out.trans h3⟩)
                clear h39 h35 h92 hF hV hBD hBL
                go_wp2_with (go_at_call 38; (with_reducible refine CW.out.mono ?_); rintro e w6 ⟨rfl, b6, l6⟩; have B6 := Lib.hid b6; have L6 := Lib.hid l6; clear b6 l6)
                go_roundg (x.size - (j + 1))
                case measure => have := HG2.out; omega
                case rel => exact ⟨j + 1, _, by go_num, rfl, by omega, HVN, HN, B6, L6⟩
            · have e3 : (((x[j]).toNat : Int) == 92) = false := by
                rw [beq_eq_false_iff_ne]; intro h; exact h92 (UInt8.toNat_inj.1 (by show (x[j]).toNat = 92; omega))
              have HN := Lib.hid (show ∀ O, spA (k0 + 1) [] O k0 (L.drop k0) = nxA (k0 + 1) k (L.drop (k + 1)) O (rdA m x.data.toList (V ++ [x[j]]) (j + 1)) from fun O => by rw [hF.out, rdA_byte HJ.out h39 h35 (fun h => h92 h.1)])
              have HVN := Lib.hid (show (V ++ [x[j]]).length + (x.size - (j + 1)) + 1 + totQ (L.drop (k + 1)) ≤ 5001 by have := hV.out; rw [List.length_append, List.length_singleton]; omega)
              have CW := Lib.hid (show Calls Tryz.prog 38 #[.pointer (some ⟨b, 0, none⟩), .int .u8 (x[j]).toNat] wr fun e w' => e = .returned .nilIface ∧ BldQ b (V ++ [x[j]]) w' ∧ Below b w w' by
                have := hV.out
                refine (bByte b V x[j] wr hBD.out (by omega) hbs).mono fun e w' ⟨h1, h2, h3⟩ => ⟨h1, h2, hBL.out.trans h3⟩)
              clear h39 h35 h92 hF hV hBD hBL
              go_wp2_with (go_at_call 38; (with_reducible refine CW.out.mono ?_); rintro e w6 ⟨rfl, b6, l6⟩; have B6 := Lib.hid b6; have L6 := Lib.hid l6; clear b6 l6)
              go_roundg (x.size - (j + 1))
              case measure => have := HG2.out; omega
              case rel => exact ⟨j + 1, _, by go_num, rfl, by omega, HVN, HN, B6, L6⟩
      · obtain rfl : j = x.size := by omega
        obtain ⟨t1, ht1, hl1, hz1⟩ := txt_of V
        have HN := Lib.hid (show ∀ O, spA (k0 + 1) [] O k0 (L.drop k0) = nxA (k0 + 1) k (L.drop (k + 1)) O (some (V, false)) from fun O => by rw [hF.out, rdA_end (by rw [HXL.out]; exact Nat.le_refl _)])
        have hz5 : t1.size ≤ 5001 := by have := hV.out; omega
        have CS := Lib.hid (show Calls Tryz.prog 39 #[.pointer (some ⟨b, 0, none⟩)] wr fun e w' => e = .returned (.string t1) ∧ Below b w w' by
          refine (bSaid b V wr hBD.out hbs).mono fun e w' ⟨h1, h2⟩ => ⟨by rw [h1, ht1], hBL.out.trans h2⟩)
        have CT := Lib.hid (fun w2 : World => pTrim t1 w2 hz5)
        rw [hl1] at CT
        clear hlt ht1 hl1 hF hV hBD
        go_wp2_with (first
          | (go_at_call 39; (with_reducible refine CS.out.mono ?_); rintro e w3 ⟨rfl, l3⟩; have L3 := Lib.hid l3; clear l3)
          | (go_at_call 35; (with_reducible refine (CT.out _).mono ?_); rintro e w4 ⟨⟨t2, rfl, ht2, hz2⟩, l4⟩; have L4 := Lib.hid l4; have HT2 := Lib.hid ht2; clear l4 ht2))
        try rw [Exit.noGoto_ret]
        refine bodyPost_ret (results3 Tryz.results50 _ _ _) rfl ?_
        have hl4 : Below b w w4 := L3.out.trans (L4.out.mono (by have := L3.out.size; have := HB.out; omega))
        refine ⟨GR0.out _ hl4, .inr ⟨t2, k + 1, rfl, by omega, by rw [HLL.out]; omega, by omega, fun O => ?_⟩⟩
        rw [HN.out, HT2.out]; rfl
end Go.Proofs.YtdganemgldocoaaGreatDoor
