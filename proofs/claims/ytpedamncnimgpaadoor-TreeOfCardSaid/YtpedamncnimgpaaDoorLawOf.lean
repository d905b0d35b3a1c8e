/- The trees of all files are the document's, and just those trees are the same that hold the same files. No condition on the files. -/
import Derived.Test.YtpedamncnimgpaaDoorTreeH
import Derived.Test.YtpedamncnimgpaaDoorErrNum
import Derived.Test.YtpedamncnimgpaaDoorErrSix
import Derived.Test.YtpedamncnimgpaaDoorRefOf
import Derived.Test.YtpedamncnimgpaaDoorShows
import Derived.Test.YtpedamncnimgpaaDoorSame
namespace Go.Proofs.YtpedamncnimgpaaDoor.treeOf
open Go.RowKit Go.Maps

theorem ofG_le : ∀ (l ts : List Fl), (ofG l ts).1 ≤ 18
  | [], _ => by simp [ofG]
  | f :: r, ts => by
    unfold ofG
    split
    · exact (by decide : (9 : Nat) ≤ 18)
    · split
      · exact ofG_le r _
      · show putE ts f ≤ 18
        rcases putE_cases ts f with ⟨e, _⟩ | ⟨e, _⟩ | ⟨e, _⟩ | ⟨e, _⟩ | ⟨e, _⟩ <;> rw [e] <;> decide
/-- what Of answers, as the law looks at it: the pointer, the error, and what lies in memory -/
def GotT (l : List Fl) (A : Nat → Addr) (w' : World) (v e : Value) : Prop :=
  ((ofG l []).1 ≠ 0 ∧ v = .pointer none ∧ e = .iface 117 (.pointer (some (A (ofG l []).1)))) ∨ (∃ p b, (ofG l []).1 = 0 ∧ v = .pointer (some ⟨p, 0, none⟩) ∧ e = .nilIface ∧ IsTree w' p b (ofG l []).2)
def GotR (l : List Fl) (w' : World) (v : Value) : Prop :=
  ((ofG l []).1 ≠ 0 ∧ v = .pointer none) ∨ (∃ p, (ofG l []).1 = 0 ∧ v = .pointer (some ⟨p, 0, none⟩) ∧ RTree w' p (ofG l []).2)
theorem tOf' (v : Value) (l : List Fl) (A : Nat → Addr) (w : World) (h : FRow w v l) (hS : Sents L5 A w) :
    Calls Tryd.prog 22 #[v] w fun e w' => ∃ x y, e = .returned (.tuple #[x, y]) ∧ GotT l A w' x y ∧ w.grownBy w' none :=
  (tOf v l A w h hS).mono fun e w' hp => by
    rcases hp with ⟨k, hk, h1, rfl, g⟩ | ⟨h1, rfl, t, g⟩
    · exact ⟨_, _, rfl, .inl ⟨by rw [h1]; exact hk, rfl, by rw [h1]⟩, g⟩
    · exact ⟨_, _, rfl, .inr ⟨_, _, h1, rfl, rfl, t⟩, g⟩
theorem rOf' (v : Value) (l : List Fl) (w : World) (h : FRow w v l) :
    Calls Tryd.prog 23 #[v] w fun e w' => ∃ x, e = .returned (.tuple #[x, .int .i64 (ofG l []).1]) ∧ GotR l w' x ∧ w.grownBy w' none :=
  (rOf v l w h).mono fun e w' hp => by
    rcases hp with ⟨k, hk, h1, rfl, g⟩ | ⟨p, h1, rfl, t, g, -⟩
    · exact ⟨_, by rw [h1], .inl ⟨by rw [h1]; exact hk, rfl⟩, g⟩
    · exact ⟨_, by rw [h1]; rfl, .inr ⟨_, h1, rfl, t⟩, g⟩
theorem GotT.grown {l : List Fl} {A : Nat → Addr} {w w' : World} {v e : Value} (h : GotT l A w v e) (hg : w.grownBy w' none) : GotT l A w' v e := by
  rcases h with h | ⟨p, b, h1, h2, h3, h4⟩
  · exact .inl h
  · exact .inr ⟨p, b, h1, h2, h3, h4.kept hg (by simp) (by simp)⟩
theorem GotR.grown {l : List Fl} {w w' : World} {v : Value} (h : GotR l w v) (hg : w.grownBy w' none) : GotR l w' v := by
  rcases h with h | ⟨p, h1, h2, h4⟩
  · exact .inl h
  · exact .inr ⟨p, h1, h2, h4.grown hg⟩
def sameTo (a b : List Fl) (k : Nat) : Bool := ((a.length : Int) == (b.length : Int)) && eqLs (a.take k) (b.take k)
theorem sameTo_zero (a b : List Fl) : sameTo a b 0 = ((a.length : Int) == (b.length : Int)) := by simp [sameTo, eqLs]
theorem eqLs_snoc : ∀ (a b : List Fl) (f g : Fl), a.length = b.length → eqLs (a ++ [f]) (b ++ [g]) = (eqLs a b && eqFl f g)
  | [], [], f, g, _ => by simp [eqLs]
  | x :: r, y :: s, f, g, h => by
    show (eqFl x y && eqLs (r ++ [f]) (s ++ [g])) = (eqFl x y && eqLs r s && eqFl f g)
    rw [eqLs_snoc r s f g (by simpa using h), Bool.and_assoc]
theorem sameTo_len {a b : List Fl} {k : Nat} (h : sameTo a b k = true) : a.length = b.length := by
  unfold sameTo at h
  rw [Bool.and_eq_true, beq_iff_eq] at h
  exact_mod_cast h.1
theorem sameTo_step {a b : List Fl} {k : Nat} {f g : Fl} (h : sameTo a b k = true) (hf : a[k]? = some f) (hg : b[k]? = some g) : sameTo a b (k + 1) = eqFl f g := by
  have hl := sameTo_len h
  unfold sameTo at h ⊢
  rw [Bool.and_eq_true] at h
  obtain ⟨hka, _⟩ := List.getElem?_eq_some_iff.1 hf
  rw [List.take_add_one, List.take_add_one, hf, hg]
  show (_ && eqLs (a.take k ++ [f]) (b.take k ++ [g])) = _
  rw [eqLs_snoc _ _ _ _ (by simp; omega), h.1, h.2]; simp
theorem eqLs_take_false {a b : List Fl} {k : Nat} (h : eqLs (a.take k) (b.take k) = false) : eqLs (a.take (k + 1)) (b.take (k + 1)) = false := by
  refine eqLs_false fun e => ?_
  have e2 := congrArg (List.take k) e
  rw [List.take_take, List.take_take, Nat.min_eq_left (by omega)] at e2
  rw [eqLs_iff.2 e2] at h; cases h
theorem sameTo_false {a b : List Fl} {k : Nat} (h : sameTo a b k = false) : sameTo a b (k + 1) = false := by
  unfold sameTo at h ⊢
  cases e : ((a.length : Int) == (b.length : Int))
  · rfl
  · rw [e, Bool.true_and] at h
    rw [Bool.true_and]; exact eqLs_take_false h
theorem sameTo_end {a b : List Fl} {k : Nat} (hk : a.length ≤ k) : sameTo a b k = eqLs a b := by
  unfold sameTo
  cases e : ((a.length : Int) == (b.length : Int))
  · rw [beq_eq_false_iff_ne] at e
    rw [Bool.false_and]
    exact (eqLs_false fun h => e (by rw [h])).symm
  · rw [beq_iff_eq] at e
    rw [Bool.true_and, List.take_of_length_le hk, List.take_of_length_le (by omega)]
theorem GotT.err {l : List Fl} {A : Nat → Addr} {w : World} {v e : Value} (h : GotT l A w v e) : e = errV A (ofG l []).1 := by
  rcases h with ⟨h1, _, h3⟩ | ⟨p, b, h1, _, h3, _⟩
  · rw [errV_ne h1]; exact h3
  · rw [h1]; exact h3

set_option maxRecDepth 100000 in
set_option maxHeartbeats 4000000 in
theorem walk (va vb : Value) (la lb : List Fl) (A : Nat → Addr) (w : World) (ha : FRow w va la) (hb : FRow w vb lb) (hE : ErrEnv A w) :
    Calls Tryd.prog 4 #[va, vb] w fun e w' => e = .returned (.bool true) ∧ Below w.heap.size w w' := by
  have HA := Lib.hid ha; have HB := Lib.hid hb; have HE := Lib.hid hE
  clear ha hb hE
  go_enter Tryd.func4, Tryd.ntmps4
  go_wp2_with fail
  refine (lAliveT A _ HE.out.six.five).mono ?_
  rintro e w1 ⟨rfl, g1⟩
  have G1 := Lib.hid g1
  clear g1
  go_wp2_with fail
  refine (lLongF va la 60 _ (HA.out.later (below_of_grown G1.out))).mono ?_
  rintro e w2 ⟨rfl, b2⟩
  have G2 := Lib.hid (G1.out.trans (grown_of_below b2))
  clear b2 G1
  by_cases za : longF 60 la = true
  · go_wp2
    go_ret
    exact ⟨rfl, below_of_grown G2.out⟩
  have za' : longF 60 la = false := by simpa using za
  have na := longF_len za'
  clear za
  go_wp2_with fail
  refine (lLongF vb lb 60 _ (HB.out.later (below_of_grown G2.out))).mono ?_
  rintro e w3 ⟨rfl, b3⟩
  have G3 := Lib.hid (G2.out.trans (grown_of_below b3))
  clear b3 G2
  by_cases zb : longF 60 lb = true
  · go_wp2
    go_ret
    exact ⟨rfl, below_of_grown G3.out⟩
  have zb' : longF 60 lb = false := by simpa using zb
  have nb := longF_len zb'
  clear zb
  go_wp2_with fail
  refine (tOf' va la A _ (HA.out.later (below_of_grown G3.out)) (HE.out.later (below_of_grown G3.out)).six.five).mono ?_
  rintro e w4 ⟨x, e1, rfl, t4, g4⟩
  have X4 := Lib.hid t4; have G4 := Lib.hid (G3.out.trans g4)
  clear t4 g4 G3
  go_wp2_with fail
  refine (tOf' vb lb A _ (HB.out.later (below_of_grown G4.out)) (HE.out.later (below_of_grown G4.out)).six.five).mono ?_
  rintro e w5 ⟨y, e2, rfl, t5, g5⟩
  have Y5 := Lib.hid t5; have X5 := Lib.hid (X4.out.grown g5); have G5 := Lib.hid (G4.out.trans g5)
  clear t5 g5 G4 X4
  go_wp2_with fail
  refine (lOfFn va la _ (HA.out.later (below_of_grown G5.out)) na).mono ?_
  rintro e w6 ⟨ra, rc, rfl, f6, g6⟩
  have F6 := Lib.hid f6; have X6 := Lib.hid (X5.out.grown g6); have Y6 := Lib.hid (Y5.out.grown g6); have G6 := Lib.hid (G5.out.trans g6)
  clear f6 g6 G5 X5 Y5
  go_wp2_with fail
  refine (rOf' _ la _ F6.out).mono ?_
  rintro e w7 ⟨vv, rfl, v7, g7⟩
  have V7 := Lib.hid v7; have X7 := Lib.hid (X6.out.grown g7); have Y7 := Lib.hid (Y6.out.grown g7); have G7 := Lib.hid (G6.out.trans g7)
  clear v7 g7 G6 X6 Y6 F6
  go_wp2_with fail
  refine (lOfFn vb lb _ (HB.out.later (below_of_grown G7.out)) nb).mono ?_
  rintro e w8 ⟨sa, sc, rfl, f8, g8⟩
  have F8 := Lib.hid f8; have V8 := Lib.hid (V7.out.grown g8); have X8 := Lib.hid (X7.out.grown g8); have Y8 := Lib.hid (Y7.out.grown g8); have G8 := Lib.hid (G7.out.trans g8)
  clear f8 g8 G7 X7 Y7 V7
  go_wp2_with fail
  refine (rOf' _ lb _ F8.out).mono ?_
  rintro e w9 ⟨ww, rfl, w9', g9⟩
  have W9 := Lib.hid w9'; have V9 := Lib.hid (V8.out.grown g9); have X9 := Lib.hid (X8.out.grown g9); have Y9 := Lib.hid (Y8.out.grown g9); have G9 := Lib.hid (G8.out.trans g9)
  clear w9' g9 G8 X8 Y8 V8 F8
  have ha18 := ofG_le la []
  have hb18 := ofG_le lb []
  have E9 := Lib.hid (HE.out.later (below_of_grown G9.out))
  clear HA HB HE za' zb' na nb
  unfold GotT at X9 Y9; unfold GotR at V9 W9
  generalize ofG la [] = r1 at X9 V9 ha18 ⊢
  generalize ofG lb [] = r2 at Y9 W9 hb18 ⊢
  obtain ⟨ka, ta⟩ := r1
  obtain ⟨kb, tb⟩ := r2
  simp only at ha18 hb18 ⊢
  have tok1 : True := trivial
  have x9 := X9.out; have v9 := V9.out; have y9 := Y9.out; have w9' := W9.out
  clear X9 V9 Y9 W9
  simp only at x9 v9 y9 w9'
  rcases x9 with ⟨h1, rfl, rfl⟩ | ⟨p1, b1, rfl, rfl, rfl, t1⟩
  · obtain ⟨-, rfl⟩ : ka ≠ 0 ∧ vv = .pointer none := by
      rcases v9 with h | ⟨p, h, _⟩
      · exact h
      · exact absurd h h1
    have K1 := Lib.hid (show 1 ≤ ka by omega)
    rcases y9 with ⟨h2, rfl, rfl⟩ | ⟨p2, b2, rfl, rfl, rfl, t2⟩
    · obtain ⟨-, rfl⟩ : kb ≠ 0 ∧ ww = .pointer none := by
        rcases w9' with h | ⟨p, h, _⟩
        · exact h
        · exact absurd h h2
      have K2 := Lib.hid (show 1 ≤ kb by omega)
      clear h1 h2 v9 w9'
      go_wp2_with (first
        | (go_at_call 9; have _t := tok1; refine (lNum A ka K1.out ha18 _ E9.out).mono ?_; rintro e w10 ⟨rfl, g10⟩; have G10 := Lib.hid g10; clear g10 tok1)
        | (go_at_call 9; refine (lNum A kb K2.out hb18 _ (E9.out.later (below_of_grown G10.out))).mono ?_; rintro e w11 ⟨rfl, g11⟩; have G11 := Lib.hid g11; clear g11))
      go_ret
      exact ⟨rfl, below_of_grown (G9.out.trans (G10.out.trans G11.out))⟩
    · obtain ⟨q2, rfl, r2⟩ : ∃ q2, ww = .pointer (some ⟨q2, 0, none⟩) ∧ RTree w9 q2 tb := by
        rcases w9' with ⟨h, _⟩ | ⟨p, _, h, h'⟩
        · exact absurd rfl h
        · exact ⟨p, h, h'⟩
      clear h1 v9 w9' t2 r2
      go_wp2_with (first
        | (go_at_call 9; have _t := tok1; refine (lNum A ka K1.out ha18 _ E9.out).mono ?_; rintro e w10 ⟨rfl, g10⟩; have G10 := Lib.hid g10; clear g10 tok1)
        | (go_at_call 9; refine (lNum0 _).mono ?_; rintro e w11 ⟨rfl, g11⟩; have G11 := Lib.hid g11; clear g11))
      go_ret
      exact ⟨rfl, below_of_grown (G9.out.trans (G10.out.trans G11.out))⟩
  · obtain ⟨q1, rfl, r1⟩ : ∃ q1, vv = .pointer (some ⟨q1, 0, none⟩) ∧ RTree w9 q1 ta := by
      rcases v9 with ⟨h, _⟩ | ⟨p, _, h, h'⟩
      · exact absurd rfl h
      · exact ⟨p, h, h'⟩
    rcases y9 with ⟨h2, rfl, rfl⟩ | ⟨p2, b2, rfl, rfl, rfl, t2⟩
    · obtain ⟨-, rfl⟩ : kb ≠ 0 ∧ ww = .pointer none := by
        rcases w9' with h | ⟨p, h, _⟩
        · exact h
        · exact absurd h h2
      have K2 := Lib.hid (show 1 ≤ kb by omega)
      clear h2 v9 w9' t1 r1
      go_wp2_with (first
        | (go_at_call 9; have _t := tok1; refine (lNum0 _).mono ?_; rintro e w10 ⟨rfl, g10⟩; have G10 := Lib.hid g10; clear g10 tok1)
        | (go_at_call 9; refine (lNum A kb K2.out hb18 _ (E9.out.later (below_of_grown G10.out))).mono ?_; rintro e w11 ⟨rfl, g11⟩; have G11 := Lib.hid g11; clear g11))
      go_ret
      exact ⟨rfl, below_of_grown (G9.out.trans (G10.out.trans G11.out))⟩
    · obtain ⟨q2, rfl, r2⟩ : ∃ q2, ww = .pointer (some ⟨q2, 0, none⟩) ∧ RTree w9 q2 tb := by
        rcases w9' with ⟨h, _⟩ | ⟨p, _, h, h'⟩
        · exact absurd rfl h
        · exact ⟨p, h, h'⟩
      clear v9 w9'
      have T1 := Lib.hid t1; have T2 := Lib.hid t2; have R1 := Lib.hid r1; have R2 := Lib.hid r2
      clear t1 t2 r1 r2
      go_wp2_with (first
        | (go_at_call 9; have _t := tok1; refine (lNum0 _).mono ?_; rintro e w10 ⟨rfl, g10⟩; have G10 := Lib.hid g10; clear g10 tok1)
        | (go_at_call 9; refine (lNum0 _).mono ?_; rintro e w11 ⟨rfl, g11⟩; have G11 := Lib.hid g11; obtain ⟨ra1, rc1, hr1, -, fr1, -⟩ := (R1.out.grown G10.out).grown g11; have FR1 := Lib.hid fr1; clear fr1; obtain ⟨ra2, rc2, hr2, -⟩ := (R2.out.grown G10.out).grown g11; clear g11))
      go_quiet (fail)
      go_wp2
      have e13 := sameTo_zero ta tb
      rw [← e13]
      clear e13
      have h40 : ta.length ≤ 40 := T1.out.2.2
      have G12 := Lib.hid (grown_drewN (G10.out.trans G11.out) nq)
      have R1' := Lib.hid (R1.out.grown G12.out); have R2' := Lib.hid (R2.out.grown G12.out)
      have T1' := Lib.hid (T1.out.kept G12.out (by simp) (by simp)); have T2' := Lib.hid (T2.out.kept G12.out (by simp) (by simp))
      have G13 := Lib.hid (G9.out.trans G12.out)
      have FR1' := Lib.hid (FR1.out.later (below_of_grown (grown_drewN (World.grownBy.refl _ _) nq)))
      clear T1 T2 R1 R2 G9 G10 G11 G12 FR1 hr1 hr2
      go_loopw [13, 14, 15, 92] (fun s _ _ i wr => ∃ k : Nat, k ≤ ta.length ∧ i = .int .i64 k ∧ s = .bool (sameTo ta tb k) ∧ Hid ((w11.drewN nq).grownBy wr none)) (fun _ _ _ i _ => ta.length - (intOf i).toNat)
      case atStart => exact ⟨0, Nat.zero_le _, rfl, rfl, Lib.hid (World.grownBy.refl _ _)⟩
      case round =>
        obtain ⟨k, hk, rfl, rfl, hG⟩ := hrel
        by_cases hlt : k < ta.length
        · obtain ⟨b, off, c', f, e, hf, sn, sc, hb, c0, c1, c2⟩ := (FR1'.out.later (below_of_grown hG.out)).at k hlt
          cases e
          have Hf := Lib.hid hf
          clear hf sn sc
          by_cases hs : sameTo ta tb k = true
          · have hlen := sameTo_len hs
            obtain ⟨ra', rc', hq', -, hr', -, -, -, -⟩ := R2'.out.grown (hG.out.trans (World.grownBy_alloc wr (.cells #[.string f.n, .string f.c, .int .i64 f.t] 39) none))
            obtain ⟨rb, ro, rc2, g, e2, hg, -, -, -, y0, y1, y2⟩ := hr'.at k (by omega)
            cases e2
            have HS := Lib.hid (sameTo_step hs Hf.out hg)
            have hnq := fun W => eqlR f g W
            rw [← HS.out] at hnq
            have hgd := guardR
            have hi0 : (0 : Int) ≤ (k : Int) := Int.natCast_nonneg _
            have hi1 : (k : Int) < (tb.length : Int) := by omega
            have hdec : decide ((tb.length : Int) ≤ (k : Int)) = false := decide_eq_false (by omega)
            clear hr' hg hlen
            rw [hs]
            go_wp2
            go_quiet (fail)
            go_wp2
            go_roundw
            case rel => exact ⟨k + 1, by omega, by go_num, rfl, Lib.hid (grown_drewN (hG.out.trans (World.grownBy_alloc _ _ _)) _)⟩
            case measure => simp [intOf]; omega
          · have hs' : sameTo ta tb k = false := by simpa using hs
            have HS := Lib.hid (sameTo_false hs')
            rw [hs']
            clear hs hs'
            go_wp2
            go_quiet (fail)
            go_wp2
            go_roundw
            case rel => exact ⟨k + 1, by omega, by go_num, by rw [HS.out], Lib.hid (grown_drewN (hG.out.trans (World.grownBy_alloc _ _ _)) _)⟩
            case measure => simp [intOf]; omega
        · have HS := Lib.hid (sameTo_end (a := ta) (b := tb) (k := k) (by omega))
          rw [HS.out]
          have t1 := T1'.out.kept hG.out (by simp) (by simp)
          have t2 := T2'.out.kept hG.out (by simp) (by simp)
          have r1 := R1'.out.grown hG.out
          have r2 := R2'.out.grown hG.out
          have T1 := Lib.hid t1; have T2 := Lib.hid t2; have R1 := Lib.hid r1; have R2 := Lib.hid r2
          have G := Lib.hid (G13.out.trans hG.out)
          have ESELF := Lib.hid (eqLs_iff.2 (rfl : ta = ta))
          clear t1 t2 r1 r2 T1' T2' R1' R2' G13 HS FR1'
          have tok2 : True := trivial
          have tok3 : True := trivial
          go_wp2_with (first
            | (go_at_call 20; have _t := tok2; refine (lShows p1 b1 q1 ta _ T1.out R1.out).mono ?_; rintro e w14 ⟨rfl, g14⟩; have G14 := Lib.hid g14; clear g14 tok2)
            | (go_at_call 20; refine (lShows p2 b2 q2 tb _ (T2.out.kept G14.out (by simp) (by simp)) (R2.out.grown G14.out)).mono ?_; rintro e w15 ⟨rfl, g15⟩; have G15 := Lib.hid (G14.out.trans g15); clear g15)
            | (go_at_call 25; have _t := tok3; refine (tSame p1 b1 p2 b2 ta tb _ (T1.out.kept G15.out (by simp) (by simp)) (T2.out.kept G15.out (by simp) (by simp))).mono ?_; rintro e w16 ⟨rfl, g16⟩; have G16 := Lib.hid (G15.out.trans g16); clear g16 tok3)
            | (go_at_call 25; refine (tSame p1 b1 p1 b1 ta ta _ (T1.out.kept G16.out (by simp) (by simp)) (T1.out.kept G16.out (by simp) (by simp))).mono ?_; rintro e w17 ⟨rfl, g17⟩; have G17 := Lib.hid (G16.out.trans g17); clear g17))
          go_ret
          exact ⟨ret_bool' ESELF.out, below_of_grown (G.out.trans G17.out)⟩
end Go.Proofs.YtpedamncnimgpaaDoor.treeOf
