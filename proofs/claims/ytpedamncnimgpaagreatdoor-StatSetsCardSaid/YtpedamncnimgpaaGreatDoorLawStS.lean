/- What becomes of every tree, if a name is given a time. No condition on the files, on the name or on the time. -/
import Derived.Test.YtpedamncnimgpaaGreatDoorLawStA
import Derived.Test.YtpedamncnimgpaaGreatDoorShows
namespace Go.Proofs.YtpedamncnimgpaaGreatDoor.statSets
open Go.RowKit Go.Maps

set_option maxRecDepth 100000 in
set_option maxHeartbeats 4000000 in
theorem walk (v : Value) (l : List Fl) (s : ByteArray) (t : Int) (A : Nat → Addr) (w : World) (h : FRow w v l) (hE : Env A w) (hN : ErrEnv A w) (hs : s.size ≤ maxLen) :
    Calls Tryz.prog 4 #[v, .string s, .int .i64 t] w fun e w' => e = .returned (.bool true) ∧ w.grownBy w' none := by
  have HR := Lib.hid h; have HE := Lib.hid hE; have HN := Lib.hid hN
  have hs' := hs
  unfold maxLen at hs'
  clear h hE hN
  go_enter Tryz.func4, Tryz.ntmps4
  go_wp2_with fail
  refine (lAliveS A _ HE.out).mono ?_
  rintro e w1 ⟨rfl, g1⟩
  have G1 := Lib.hid g1
  clear g1
  go_wp2_with fail
  refine (lLongF v l 40 _ (HR.out.later (below_of_grown G1.out))).mono ?_
  rintro e w2 ⟨rfl, b2⟩
  have G2 := Lib.hid (G1.out.trans (grown_of_below b2))
  clear b2 G1
  cases hL : longF 40 l
  case true =>
    go_wp2
    go_ret
    exact ⟨rfl, G2.out⟩
  by_cases hz1 : (100 : Int) < s.size
  · go_wp2
    go_ret
    exact ⟨rfl, G2.out⟩
  have hd1 : decide ((100 : Int) < s.size) = false := decide_eq_false hz1
  have LEN := Lib.hid (show l.length ≤ 60 by have := longF_len hL; omega)
  clear hz1 hL
  go_wp2_with fail
  refine (tOf v l A _ (HR.out.later (below_of_grown G2.out)) (HE.out.grown G2.out).five).mono ?_
  intro e w3 hof
  clear hd1
  rcases hof with ⟨k, hk, -, rfl, g3⟩ | ⟨h0, rfl, t3, g3⟩
  · have G3 := Lib.hid (G2.out.trans g3)
    clear g3 hk G2
    go_wp2
    go_ret
    exact ⟨rfl, G3.out⟩
  have G3 := Lib.hid (G2.out.trans g3)
  have lb := G2.out.size
  generalize hp : w2.heap.size + 1 = p at t3 ⊢
  generalize hb : w2.heap.size = b at t3 lb
  have T3 := Lib.hid t3
  have LB := Lib.hid lb
  clear t3 g3 G2 lb hp hb
  go_wp2_with fail
  refine (lOfFn v l _ (HR.out.later (below_of_grown G3.out)) LEN.out).mono ?_
  rintro e w4 ⟨ra, rc, rfl, f4, g4⟩
  have F4 := Lib.hid f4; have T4 := Lib.hid (T3.out.grown g4); have G4 := Lib.hid (G3.out.trans g4)
  clear f4 g4 G3 T3
  go_wp2_with fail
  refine (rOf _ l _ F4.out).mono ?_
  intro e w5 hrf
  rcases hrf with ⟨k, hk, h1, -⟩ | ⟨q, -, rfl, r5, g5, hq, hri⟩
  · exact absurd (h1.symm.trans h0) hk
  have SM := Lib.hid (statApart.ofG_small l [] (by simp))
  have RI := Lib.hid hri
  have lt4 := T4.out.lt
  have T5 := Lib.hid (T4.out.grown g5); have G5 := Lib.hid (G4.out.trans g5)
  have PQ := Lib.hid (show p ≠ q by omega); have BQ := Lib.hid (show b ≠ q by omega)
  have LQ := Lib.hid (show w.heap.size ≤ q by have := G4.out.size; omega)
  generalize (ofG l []).2 = ts at T4 T5 r5 SM RI
  have R5 := Lib.hid r5
  clear r5 g5 hq hri h0 lt4 F4 T4 G4 LEN HR
  have HSET := Lib.hid (fun (W : World) (hW : IsTree W p b ts) (hE : Env A W) => sSet p b ts s t A W hW hE hs SM.out)
  have HRST := Lib.hid (fun (W : World) (hW : RTree W q ts) => rSet q ts s t W hW hs SM.out RI.out)
  unfold SetOut at HSET
  have LE := Lib.hid (statR_le ts s t)
  generalize statR ts s t = r at *
  obtain ⟨k, t2⟩ := r
  simp only at HSET HRST LE
  go_wp2_with (first
    | (go_at_call 20; refine (HSET.out _ T5.out (HE.out.grown G5.out)).mono ?_; rintro e w6 ⟨rfl, t6, g6⟩; have T6 := Lib.hid t6; have G6 := Lib.hid (grown_none G5.out g6 LB.out); have R6 := Lib.hid (R5.out.kept_map g6 T5.out.2.1); clear t6 g6)
    | (go_at_call 19; refine (lNumV A k LE.out _ (HN.out.later (below_of_grown G6.out))).mono ?_; rintro e w7 ⟨rfl, g7⟩; have T7 := Lib.hid (T6.out.grown g7); have G7 := Lib.hid (G6.out.trans g7); have R7 := Lib.hid (R6.out.grown g7); clear g7)
    | (go_at_call 21; refine (HRST.out _ R7.out).mono ?_; rintro e w8 ⟨rfl, r8, g8⟩; have R8 := Lib.hid r8; have G8 := Lib.hid (grown_none G7.out g8 LQ.out); have T8 := Lib.hid (T7.out.kept g8 (fun e => PQ.out (Option.some.inj e)) (fun e => BQ.out (Option.some.inj e))); clear r8 g8)
    | (go_at_call 18; refine (lShows p b q t2 _ T8.out R8.out).mono ?_; rintro e w9 ⟨rfl, g9⟩; have G9 := Lib.hid (G8.out.trans g9); clear g9))
  go_ret
  exact ⟨by first | rfl | simp, G9.out⟩
end Go.Proofs.YtpedamncnimgpaaGreatDoor.statSets
