/- What is set has that time, and no name beside that archive has another one than before. No condition on the files or on the names. -/
import Derived.Test.YtpedamncnimgpaaGreatDoorStatD
import Derived.Test.YtpedamncnimgpaaGreatDoorStatC
import Derived.Test.YtpedamncnimgpaaGreatDoorApartA
namespace Go.Proofs.YtpedamncnimgpaaGreatDoor.statApart
open Go.RowKit Go.Maps

/-- the files of a tree that Of made are small -/
theorem ofG_small : ∀ (l ts : List Fl), (∀ f ∈ ts, f.c.size ≤ 900) → ∀ f ∈ (ofG l ts).2, f.c.size ≤ 900
  | [], ts, h => by unfold ofG; exact h
  | x :: r, ts, h => by
    unfold ofG
    split
    · exact h
    · split
      · rename_i _ h0
        refine ofG_small r _ (fun f hf => ?_)
        rcases insL_mem.1 hf with rfl | hf
        · exact putE_small h0
        · exact h f (List.mem_filter.1 hf).1
      · exact h

set_option maxRecDepth 100000 in
set_option maxHeartbeats 1000000 in
theorem lRelated (s o : ByteArray) (w : World) (hs : s.size ≤ maxLen) (ho : o.size ≤ maxLen) :
    Calls Tryz.prog 22 #[.string s, .string o] w fun e w' => e = .returned (.bool ((rootB s).toList == (rootB o).toList)) ∧ w.grownBy w' none := by
  have H1 := Lib.hid (show Calls Tryz.prog 28 #[.string s] w fun e w' => ∃ x y, e = .returned (.tuple #[.string x, .string y, .bool (memB s)]) ∧ (memB s = true → x = rootB s) ∧ w.grownBy w' none by
    cases hm : memB s
    · exact (rMember_no s w hs hm).mono fun e w' ⟨he, hw⟩ => ⟨_, _, he, (fun h => by cases h), by rw [← hw]; exact World.grownBy.refl _ _⟩
    · exact (rmem_call w hs hm).mono fun e w' ⟨he, hg⟩ => ⟨_, _, he, (fun _ => (root_mem hm).symm), hg⟩)
  have H2 := Lib.hid (fun W => show Calls Tryz.prog 28 #[.string o] W fun e w' => ∃ x y, e = .returned (.tuple #[.string x, .string y, .bool (memB o)]) ∧ (memB o = true → x = rootB o) ∧ W.grownBy w' none by
    cases hm : memB o
    · exact (rMember_no o W ho hm).mono fun e w' ⟨he, hw⟩ => ⟨_, _, he, (fun h => by cases h), by rw [← hw]; exact World.grownBy.refl _ _⟩
    · exact (rmem_call W ho hm).mono fun e w' ⟨he, hg⟩ => ⟨_, _, he, (fun _ => (root_mem hm).symm), hg⟩)
  have R1 := Lib.hid (fun h => root_file (s := s) h)
  have R2 := Lib.hid (fun h => root_file (s := o) h)
  generalize rootB s = rs at *
  generalize rootB o = ro at *
  generalize memB s = bs at *
  generalize memB o = bo at *
  go_enter Tryz.func22, Tryz.ntmps22
  go_wp2_with fail
  refine H1.out.mono ?_
  rintro e w1 ⟨x, y, rfl, hx, g1⟩
  have G1 := Lib.hid g1
  clear g1
  cases bs
  · obtain rfl := R1.out rfl
    clear hx
    go_wp2_with fail
    refine (H2.out _).mono ?_
    rintro e w2 ⟨x2, y2, rfl, hx2, g2⟩
    have G2 := Lib.hid (G1.out.trans g2)
    clear g2
    cases bo
    · obtain rfl := R2.out rfl
      go_wp2
      go_ret
      exact ⟨rfl, G2.out⟩
    · obtain rfl := hx2 rfl
      go_wp2
      go_ret
      exact ⟨rfl, G2.out⟩
  · obtain rfl := hx rfl
    go_wp2_with fail
    refine (H2.out _).mono ?_
    rintro e w2 ⟨x2, y2, rfl, hx2, g2⟩
    have G2 := Lib.hid (G1.out.trans g2)
    clear g2
    cases bo
    · obtain rfl := R2.out rfl
      go_wp2
      go_ret
      exact ⟨rfl, G2.out⟩
    · obtain rfl := hx2 rfl
      go_wp2
      go_ret
      exact ⟨rfl, G2.out⟩

set_option maxRecDepth 100000 in
set_option maxHeartbeats 4000000 in
theorem walk (v : Value) (l : List Fl) (s o : ByteArray) (A : Nat → Addr) (w : World) (h : FRow w v l) (hE : Env A w) (hs : s.size ≤ maxLen) (ho : o.size ≤ maxLen) :
    Calls Tryz.prog 5 #[v, .string s, .string o] w fun e w' => e = .returned (.bool true) ∧ w.grownBy w' none := by
  have HR := Lib.hid h; have HE := Lib.hid hE
  have hs' := hs
  have ho' := ho
  unfold maxLen at hs' ho'
  clear h hE
  go_enter Tryz.func5, Tryz.ntmps5
  go_wp2_with fail
  refine (lAliveS A _ HE.out).mono ?_
  rintro e w1 ⟨rfl, g1⟩
  have G1 := Lib.hid g1
  clear g1
  go_wp2_with fail
  refine (lLongF v l 40 _ (HR.out.later (below_of_grown G1.out))).mono ?_
  rintro e w2 ⟨rfl, b2⟩
  have G2 := Lib.hid (G1.out.trans (grown_of_below b2))
  clear b2 G1
  cases hL : longF 40 l
  case true =>
    go_wp2
    go_ret
    exact ⟨rfl, G2.out⟩
  by_cases hz1 : (100 : Int) < s.size
  · go_wp2
    go_ret
    exact ⟨rfl, G2.out⟩
  by_cases hz2 : (100 : Int) < o.size
  · go_wp2
    go_ret
    exact ⟨rfl, G2.out⟩
  have hd1 : decide ((100 : Int) < s.size) = false := decide_eq_false hz1
  have hd2 : decide ((100 : Int) < o.size) = false := decide_eq_false hz2
  clear hz1 hz2 hL
  go_wp2_with fail
  refine (tOf v l A _ (HR.out.later (below_of_grown G2.out)) (HE.out.grown G2.out).five).mono ?_
  intro e w3 hof
  clear hd1 hd2
  rcases hof with ⟨k, hk, -, rfl, g3⟩ | ⟨-, rfl, t3, g3⟩
  · have G3 := Lib.hid (G2.out.trans g3)
    clear g3 hk G2
    go_wp2
    go_ret
    exact ⟨rfl, G3.out⟩
  have G3 := Lib.hid (G2.out.trans g3)
  have lb := G2.out.size
  have SM := Lib.hid (ofG_small l [] (by simp))
  generalize (ofG l []).2 = ts at t3 SM
  generalize hp : w2.heap.size + 1 = p at t3 ⊢
  generalize hb : w2.heap.size = b at t3 lb
  have T3 := Lib.hid t3
  have LB := Lib.hid lb
  clear t3 g3 G2 lb hp hb
  have HOF := Lib.hid (fun (n : ByteArray) (hn : n.size ≤ maxLen) (l2 : List Fl) (hl : ∀ f ∈ l2, f.c.size ≤ 900) (W : World) (hW : IsTree W p b l2) (hE : Env A W) => sOf p b l2 n A W hW hE hn hl)
  go_wp2_with fail
  refine (HOF.out o ho ts SM.out _ T3.out (HE.out.grown G3.out)).mono ?_
  rintro e w4 ⟨rfl, g4⟩
  have G4 := Lib.hid (G3.out.trans g4); have T4 := Lib.hid (T3.out.grown g4)
  clear g4 G3 T3
  have HSET := Lib.hid (fun (W : World) (hW : IsTree W p b ts) (hE : Env A W) => sSet p b ts s 7 A W hW hE hs SM.out)
  unfold SetOut at HSET
  have LE := statR_le ts s 7
  have SM2 := Lib.hid (statR_small (s := s) (t := 7) SM.out)
  have TS := Lib.hid (time_set (l := ts) (s := s) (t := 7))
  have TO := Lib.hid (time_other (l := ts) (s := s) (o := o) (t := 7))
  have TE := Lib.hid (statR_err (l := ts) (s := s) (t := 7))
  generalize statR ts s 7 = r at *
  obtain ⟨k, t2⟩ := r
  simp only at HSET LE SM2 TS TO TE
  have HO2 := Lib.hid (HOF.out o ho t2 SM2.out)
  have HS2 := Lib.hid (HOF.out s hs t2 SM2.out)
  clear HOF
  by_cases hk : k = 0
  · subst hk
    rw [TS.out rfl] at HS2
    clear TS TE
    rw [errV_zero] at HSET
    have HREL := Lib.hid (fun W => lRelated s o W hs ho)
    cases hrel : ((rootB s).toList == (rootB o).toList)
    · rw [hrel] at HREL
      rw [TO.out (fun e => ne_of_toList.1 hrel e.symm)] at HO2
      clear hrel TO
      generalize timeS ts o = was at *
      go_wp2_with (first
        | (go_at_call 20; refine (HSET.out _ T4.out (HE.out.grown G4.out)).mono ?_; rintro e w5 ⟨rfl, t5, g5⟩; have T5 := Lib.hid t5; have G5 := Lib.hid (grown_none G4.out g5 LB.out); clear t5 g5)
        | (go_at_call 22; refine (HREL.out _).mono ?_; rintro e w7 ⟨rfl, g7⟩; have T7 := Lib.hid (T6.out.grown g7); have G7 := Lib.hid (G6.out.trans g7); clear g7)
        | (go_at_call 13; refine (HS2.out _ T5.out (HE.out.grown G5.out)).mono ?_; rintro e w6 ⟨rfl, g6⟩; have T6 := Lib.hid (T5.out.grown g6); have G6 := Lib.hid (G5.out.trans g6); clear g6 HS2)
        | (go_at_call 13; refine (HO2.out _ T7.out (HE.out.grown G7.out)).mono ?_; rintro e w8 ⟨rfl, g8⟩; have G8 := Lib.hid (G7.out.trans g8); clear g8))
      go_ret
      exact ⟨by simp, G8.out⟩
    · rw [hrel] at HREL
      clear hrel TO
      generalize timeS ts o = was at *
      go_wp2_with (first
        | (go_at_call 20; refine (HSET.out _ T4.out (HE.out.grown G4.out)).mono ?_; rintro e w5 ⟨rfl, t5, g5⟩; have T5 := Lib.hid t5; have G5 := Lib.hid (grown_none G4.out g5 LB.out); clear t5 g5)
        | (go_at_call 22; refine (HREL.out _).mono ?_; rintro e w7 ⟨rfl, g7⟩; have T7 := Lib.hid (T6.out.grown g7); have G7 := Lib.hid (G6.out.trans g7); clear g7)
        | (go_at_call 13; refine (HS2.out _ T5.out (HE.out.grown G5.out)).mono ?_; rintro e w6 ⟨rfl, g6⟩; have T6 := Lib.hid (T5.out.grown g6); have G6 := Lib.hid (G5.out.trans g6); clear g6 HS2))
      go_ret
      exact ⟨rfl, G7.out⟩
  · rw [errV_ne hk] at HSET
    obtain rfl := TE.out hk
    clear TS TO TE
    generalize timeS t2 o = was at *
    go_wp2_with (first
      | (go_at_call 20; refine (HSET.out _ T4.out (HE.out.grown G4.out)).mono ?_; rintro e w5 ⟨rfl, t5, g5⟩; have T5 := Lib.hid t5; have G5 := Lib.hid (grown_none G4.out g5 LB.out); clear t5 g5)
      | (go_at_call 13; refine (HO2.out _ T5.out (HE.out.grown G5.out)).mono ?_; rintro e w6 ⟨rfl, g6⟩; have G6 := Lib.hid (G5.out.trans g6); clear g6))
    go_ret
    exact ⟨by simp, G6.out⟩
end Go.Proofs.YtpedamncnimgpaaGreatDoor.statApart
