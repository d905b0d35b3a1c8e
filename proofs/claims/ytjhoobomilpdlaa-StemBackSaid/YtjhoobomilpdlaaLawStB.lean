/- The law StemBack, walked: a filled pattern fits, with its stem. -/
import Derived.Test.YtjhoobomilpdlaaLawStM
namespace Go.Proofs.Ytjhoobomilpdlaa
open Go.RowKit

theorem pat_list (a z : ByteArray) (c : UInt8) : (a ++ ⟨#[c]⟩ ++ z).data.toList = a.data.toList ++ c :: z.data.toList := by
  rw [app_st, app_st]; simp
theorem full_list (a s z : ByteArray) : (a ++ s ++ z).data.toList = a.data.toList ++ s.data.toList ++ z.data.toList := by
  rw [app_st, app_st]
set_option maxRecDepth 100000 in
set_option maxHeartbeats 4000000 in
theorem lStemBack (a z s : ByteArray) (w : World) : Calls Try.prog 5 #[.string a, .string z, .string s] w fun e w' => e = .returned (.bool true) ∧ w.grownBy w' none := by
  have CA := Lib.hid (lAlive15 w)
  by_cases h1 : 60 < a.size
  · go_enter Try.func5, Try.ntmps5
    go_wp2_with (go_at_call 6; (with_reducible refine CA.out.mono ?_); rintro e w1 ⟨rfl, g1⟩; have G1 := Lib.hid g1; clear g1)
    go_ret
    exact ⟨rfl, G1.out⟩
  by_cases h2 : 60 < z.size
  · go_enter Try.func5, Try.ntmps5
    go_wp2_with (go_at_call 6; (with_reducible refine CA.out.mono ?_); rintro e w1 ⟨rfl, g1⟩; have G1 := Lib.hid g1; clear g1)
    go_ret
    exact ⟨rfl, G1.out⟩
  by_cases h3 : 60 < s.size
  · go_enter Try.func5, Try.ntmps5
    go_wp2_with (go_at_call 6; (with_reducible refine CA.out.mono ?_); rintro e w1 ⟨rfl, g1⟩; have G1 := Lib.hid g1; clear g1)
    go_ret
    exact ⟨rfl, G1.out⟩
  have CWa := Lib.hid (fun w => pWild a w (by omega))
  by_cases ha : a.data.toList.any wldB = false
  case neg =>
    have hn : (0 : Int) ≤ wldN a.data.toList := by
      rcases Int.lt_or_le (wldN a.data.toList) 0 with h | h
      · exact absurd (wldN_neg.1 h) ha
      · exact h
    clear ha
    generalize wldN a.data.toList = v at CWa hn
    go_enter Try.func5, Try.ntmps5
    go_wp2_with (first
      | (go_at_call 6; (with_reducible refine CA.out.mono ?_); rintro e w1 ⟨rfl, g1⟩; have G1 := Lib.hid g1; clear g1)
      | (go_at_call 9; (with_reducible refine (CWa.out _).mono ?_); rintro e w2 ⟨rfl, g2⟩; have G2 := Lib.hid (G1.out.trans g2); clear g2))
    go_ret
    exact ⟨rfl, G2.out⟩
  have CWz := Lib.hid (fun w => pWild z w (by omega))
  rw [wldN_none ha] at CWa
  by_cases hz : z.data.toList.any wldB = false
  case neg =>
    have hn : (0 : Int) ≤ wldN z.data.toList := by
      rcases Int.lt_or_le (wldN z.data.toList) 0 with h | h
      · exact absurd (wldN_neg.1 h) hz
      · exact h
    clear ha hz
    generalize wldN z.data.toList = v at CWz hn
    go_enter Try.func5, Try.ntmps5
    go_wp2_with (first
      | (go_at_call 6; (with_reducible refine CA.out.mono ?_); rintro e w1 ⟨rfl, g1⟩; have G1 := Lib.hid g1; clear g1)
      | (go_at_call 9; first
          | ((with_reducible refine (CWa.out _).mono ?_); rintro e w2 ⟨rfl, g2⟩; have G2 := Lib.hid (G1.out.trans g2); clear g2)
          | ((with_reducible refine (CWz.out _).mono ?_); rintro e w3 ⟨rfl, g3⟩; have G3 := Lib.hid (G2.out.trans g3); clear g3)))
    go_ret
    exact ⟨rfl, G3.out⟩
  rw [wldN_none hz] at CWz
  have c37 : wldB 37 = true := by decide
  have c38 : wldB 38 = true := by decide
  have CWp := Lib.hid (fun w => pWild (a ++ ⟨#[37]⟩ ++ z) w (by simp only [ByteArray.size_append]; show a.size + 1 + z.size ≤ _; omega))
  rw [pat_list, wldN_at ha c37, ← Lib.size_eq] at CWp
  have CFp := Lib.hid (fun w => pFill (a ++ ⟨#[37]⟩ ++ z) s w (by simp only [ByteArray.size_append]; show a.size + 1 + z.size ≤ _; omega) (by omega))
  rw [pat_list, fil_at ha c37, fil_none hz, ← ba_st (full_list a s z)] at CFp
  have CFq := Lib.hid (fun w => pFill (a ++ ⟨#[38]⟩ ++ z) s w (by simp only [ByteArray.size_append]; show a.size + 1 + z.size ≤ _; omega) (by omega))
  rw [pat_list, fil_at ha c38, fil_none hz, ← ba_st (full_list a s z)] at CFq
  have CMp := Lib.hid (fun w => pMatch (a ++ ⟨#[37]⟩ ++ z) (a ++ s ++ z) w (by simp only [ByteArray.size_append]; show a.size + 1 + z.size ≤ _; omega) (by simp only [ByteArray.size_append]; omega))
  unfold PMt at CMp
  rw [pat_list, full_list, mtc_fits ha c37, show fitS 37 s.data.toList = some s.data.toList from rfl] at CMp
  have CMq := Lib.hid (fun w => pMatch (a ++ ⟨#[38]⟩ ++ z) (a ++ s ++ z) w (by simp only [ByteArray.size_append]; show a.size + 1 + z.size ≤ _; omega) (by simp only [ByteArray.size_append]; omega))
  unfold PMt at CMq
  rw [pat_list, full_list, mtc_fits ha c38] at CMq
  have CN := Lib.hid (fun w => pNarrow s w (by omega))
  have HQ := Lib.hid (show fitS 38 s.data.toList = if nrwS s.data.toList then some s.data.toList else none by unfold fitS; cases nrwS s.data.toList <;> rfl)
  have CMs := Lib.hid (fun w => pMatch (a ++ ⟨#[37]⟩ ++ z) s w (by simp only [ByteArray.size_append]; show a.size + 1 + z.size ≤ _; omega) (by omega))
  unfold PMt at CMs
  rw [pat_list] at CMs
  have HS := Lib.hid (fun t (h : mtcS (a.data.toList ++ 37 :: z.data.toList) s.data.toList = some t) => mtc_back ha c37 h)
  generalize mtcS (a.data.toList ++ 37 :: z.data.toList) s.data.toList = R at CMs HS
  generalize fitS 38 s.data.toList = Q at CMq HQ
  generalize nrwS s.data.toList = f at CN HQ
  clear ha hz c37 c38
  have z37 : (⟨#[37]⟩ : ByteArray).size = 1 := rfl
  have z38 : (⟨#[38]⟩ : ByteArray).size = 1 := rfl
  go_enter Try.func5, Try.ntmps5
  go_upto_region 9 with (first
      | (go_at_call 6; (with_reducible refine CA.out.mono ?_); rintro e w1 ⟨rfl, g1⟩; have G1 := Lib.hid g1; clear g1)
      | (go_at_call 9; first
          | ((with_reducible refine (CWa.out _).mono ?_); rintro e w2 ⟨rfl, g2⟩; have G2 := Lib.hid (G1.out.trans g2); clear g2)
          | ((with_reducible refine (CWz.out _).mono ?_); rintro e w3 ⟨rfl, g3⟩; have G3 := Lib.hid (G2.out.trans g3); clear g3)))
  generalize a ++ ⟨#[37]⟩ ++ z = p at CWp CFp CMp CMs ⊢
  generalize a ++ ⟨#[38]⟩ ++ z = q at CFq CMq ⊢
  clear CA CWa CWz
  have hfin : ∀ (t : ByteArray) x, R = some x → t.data.toList = x → ((a ++ t ++ z).toList == s.toList) = true ∧ t.size ≤ 60 := fun t x h ht => by
    have e := HS.out x h
    refine ⟨?_, ?_⟩
    · rw [str_eq, full_list, ht, e]; exact decide_eq_true rfl
    · have := congrArg List.length e
      rw [← Lib.size_eq, List.length_append, List.length_append, ← ht] at this
      have h2 := Lib.size_eq t
      omega
  have HF := Lib.hid hfin
  clear hfin HS
  cases f
  · obtain rfl : Q = none := HQ.out
    cases R
    · go_wp2_with (first
        | (go_at_call 9; (with_reducible refine (CWp.out _).mono ?_); rintro e w4 ⟨rfl, g4⟩; have G4 := Lib.hid (G3.out.trans g4); clear g4)
        | (go_at_call 14; first
            | ((with_reducible refine (CFp.out _).mono ?_); rintro e w5 ⟨rfl, g5⟩; have G5 := Lib.hid (G4.out.trans g5); clear g5)
            | ((with_reducible refine (CFq.out _).mono ?_); rintro e w6 ⟨rfl, g6⟩; have G6 := Lib.hid (G5.out.trans g6); clear g6))
        | (go_at_call 7; first
            | ((with_reducible refine (CMp.out _).mono ?_); rintro e w7 ⟨g7, t, rfl, ht⟩; have G7 := Lib.hid (G6.out.trans g7); obtain rfl : s = t := (ba_st rfl).trans (ba_st ht).symm; clear g7 ht)
            | ((with_reducible refine (CMq.out _).mono ?_); rintro e w8 ⟨g8, u, rfl, hu⟩; have G8 := Lib.hid (G7.out.trans g8); obtain rfl : u = ⟨#[]⟩ := ba_st hu; clear g8 hu)
            | ((with_reducible refine (CMs.out _).mono ?_); rintro e w9 ⟨g9, x, rfl, hx⟩; have G9 := Lib.hid (G10.out.trans g9); skip; clear g9 hx))
        | (go_at_call 17; (with_reducible refine (CN.out _).mono ?_); rintro e w10 ⟨rfl, g10⟩; have G10 := Lib.hid (G8.out.trans g10); clear g10))
      go_ret
      exact ⟨rfl, G9.out⟩
    · go_wp2_with (first
        | (go_at_call 9; (with_reducible refine (CWp.out _).mono ?_); rintro e w4 ⟨rfl, g4⟩; have G4 := Lib.hid (G3.out.trans g4); clear g4)
        | (go_at_call 14; first
            | ((with_reducible refine (CFp.out _).mono ?_); rintro e w5 ⟨rfl, g5⟩; have G5 := Lib.hid (G4.out.trans g5); clear g5)
            | ((with_reducible refine (CFq.out _).mono ?_); rintro e w6 ⟨rfl, g6⟩; have G6 := Lib.hid (G5.out.trans g6); clear g6))
        | (go_at_call 7; first
            | ((with_reducible refine (CMp.out _).mono ?_); rintro e w7 ⟨g7, t, rfl, ht⟩; have G7 := Lib.hid (G6.out.trans g7); obtain rfl : s = t := (ba_st rfl).trans (ba_st ht).symm; clear g7 ht)
            | ((with_reducible refine (CMq.out _).mono ?_); rintro e w8 ⟨g8, u, rfl, hu⟩; have G8 := Lib.hid (G7.out.trans g8); obtain rfl : u = ⟨#[]⟩ := ba_st hu; clear g8 hu)
            | ((with_reducible refine (CMs.out _).mono ?_); rintro e w9 ⟨g9, x, rfl, hx⟩; have G9 := Lib.hid (G10.out.trans g9); obtain ⟨e9, z9⟩ := HF.out x _ rfl hx; clear g9 hx))
        | (go_at_call 17; (with_reducible refine (CN.out _).mono ?_); rintro e w10 ⟨rfl, g10⟩; have G10 := Lib.hid (G8.out.trans g10); clear g10))
      go_ret
      exact ⟨rfl, G9.out⟩
  · obtain rfl : Q = some s.data.toList := HQ.out
    cases R
    · go_wp2_with (first
        | (go_at_call 9; (with_reducible refine (CWp.out _).mono ?_); rintro e w4 ⟨rfl, g4⟩; have G4 := Lib.hid (G3.out.trans g4); clear g4)
        | (go_at_call 14; first
            | ((with_reducible refine (CFp.out _).mono ?_); rintro e w5 ⟨rfl, g5⟩; have G5 := Lib.hid (G4.out.trans g5); clear g5)
            | ((with_reducible refine (CFq.out _).mono ?_); rintro e w6 ⟨rfl, g6⟩; have G6 := Lib.hid (G5.out.trans g6); clear g6))
        | (go_at_call 7; first
            | ((with_reducible refine (CMp.out _).mono ?_); rintro e w7 ⟨g7, t, rfl, ht⟩; have G7 := Lib.hid (G6.out.trans g7); obtain rfl : s = t := (ba_st rfl).trans (ba_st ht).symm; clear g7 ht)
            | ((with_reducible refine (CMq.out _).mono ?_); rintro e w8 ⟨g8, u, rfl, hu⟩; have G8 := Lib.hid (G7.out.trans g8); obtain rfl : s = u := (ba_st rfl).trans (ba_st hu).symm; clear g8 hu)
            | ((with_reducible refine (CMs.out _).mono ?_); rintro e w9 ⟨g9, x, rfl, hx⟩; have G9 := Lib.hid (G10.out.trans g9); skip; clear g9 hx))
        | (go_at_call 17; (with_reducible refine (CN.out _).mono ?_); rintro e w10 ⟨rfl, g10⟩; have G10 := Lib.hid (G8.out.trans g10); clear g10))
      go_ret
      exact ⟨rfl, G9.out⟩
    · go_wp2_with (first
        | (go_at_call 9; (with_reducible refine (CWp.out _).mono ?_); rintro e w4 ⟨rfl, g4⟩; have G4 := Lib.hid (G3.out.trans g4); clear g4)
        | (go_at_call 14; first
            | ((with_reducible refine (CFp.out _).mono ?_); rintro e w5 ⟨rfl, g5⟩; have G5 := Lib.hid (G4.out.trans g5); clear g5)
            | ((with_reducible refine (CFq.out _).mono ?_); rintro e w6 ⟨rfl, g6⟩; have G6 := Lib.hid (G5.out.trans g6); clear g6))
        | (go_at_call 7; first
            | ((with_reducible refine (CMp.out _).mono ?_); rintro e w7 ⟨g7, t, rfl, ht⟩; have G7 := Lib.hid (G6.out.trans g7); obtain rfl : s = t := (ba_st rfl).trans (ba_st ht).symm; clear g7 ht)
            | ((with_reducible refine (CMq.out _).mono ?_); rintro e w8 ⟨g8, u, rfl, hu⟩; have G8 := Lib.hid (G7.out.trans g8); obtain rfl : s = u := (ba_st rfl).trans (ba_st hu).symm; clear g8 hu)
            | ((with_reducible refine (CMs.out _).mono ?_); rintro e w9 ⟨g9, x, rfl, hx⟩; have G9 := Lib.hid (G10.out.trans g9); obtain ⟨e9, z9⟩ := HF.out x _ rfl hx; clear g9 hx))
        | (go_at_call 17; (with_reducible refine (CN.out _).mono ?_); rintro e w10 ⟨rfl, g10⟩; have G10 := Lib.hid (G8.out.trans g10); clear g10))
      go_ret
      exact ⟨rfl, G9.out⟩
end Go.Proofs.Ytjhoobomilpdlaa
