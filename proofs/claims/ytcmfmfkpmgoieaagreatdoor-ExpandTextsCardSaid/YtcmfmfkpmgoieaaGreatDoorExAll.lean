/- Walks of package expand: a word, all words, a text. -/
import Derived.Test.YtcmfmfkpmgoieaaGreatDoorExLst
import Derived.Test.YtcmfmfkpmgoieaaGreatDoorLxLib
namespace Go.Proofs.YtcmfmfkpmgoieaaGreatDoor
open Go.RowKit

/-- a list of words and an error -/
def PWo (A : Nat → Addr) (x : Rs) (w : World) (e : Ending) (w' : World) : Prop :=
  w.grownBy w' none ∧ ∃ v L, e = .returned (.tuple #[v, errV A (exN x)]) ∧ TxRow w' v L ∧ txL L = exL x
/-- what package expand's calls stand on: the variables, the outputs, the errors -/
structure ExS (A : Nat → Addr) (w : World) (V : ByteArray → List ByteArray) (O : List Ot) (p : Option Addr) (ov : Value) : Prop where
  o : ORow w ov O
  v : EnvS w V (.pointer p)
  a : SmAll O
  z : SzF V
  e : Sents L17 A w
theorem ExS.grown {A : Nat → Addr} {w w' : World} {V : ByteArray → List ByteArray} {O : List Ot} {p : Option Addr} {ov : Value} (h : ExS A w V O p ov) (g : w.grownBy w' none) : ExS A w' V O p ov := ⟨h.o.grown g, h.v.grown g, h.a, h.z, h.e.grown g⟩
set_option maxRecDepth 100000 in
set_option maxHeartbeats 4000000 in
theorem pWord17 {A : Nat → Addr} {V : ByteArray → List ByteArray} {O : List Ot} {p : Option Addr} {ov : Value} (v : Value) (ps : List Pb) (w : World) (E : ExS A w V O p ov) (hR : PRow w v ps) (hps : ∀ q ∈ ps, SmP q) (hl : ps.length ≤ 5000) :
    Calls Tryz.prog 20 #[v, .pointer p, ov] w (PWo A (wordE V O ps) w) := by
  obtain ⟨va, vc, rfl, -⟩ := hR.shape
  obtain ⟨oa, oc, rfl, -⟩ := E.o.shape
  have C0 := Lib.hid (pSrcOf p oa O.length oc w O)
  have CL := Lib.hid (fun (sb m : Nat) (W : World) (S : SrcW w W sb O (.pointer p) (.slice oa O.length oc) m 0 (fun _ => False)) => pList17 A _ ps W S E.o E.v E.a E.z hR hps E.e (by unfold maxLen; omega))
  clear E hR hps
  go_enter Tryz.func20, Tryz.ntmps20
  go_wp2_with (go_at_call 35; fail)
  refine C0.out.mono ?_
  rintro e w1 ⟨g1, sb, m, rfl, S1⟩
  have CL2 := Lib.hid (CL.out sb m w1 S1)
  clear S1 C0 g1 CL
  go_wp2_with fail
  refine CL2.out.mono ?_
  rintro e w2 ⟨s2, -, v2, L2, rfl, t2, h2⟩
  have G2 := Lib.hid s2.g0
  have T2 := Lib.hid t2
  have H2 := Lib.hid h2
  clear s2 t2 h2 CL2
  go_wp2
  go_ret2
  exact ⟨G2.out, v2, L2, rfl, T2.out, H2.out⟩
/-- the program's row of all words: as the document's, but that it ends where it is full -/
def RelA (a d : List (List UInt8)) : Prop := (a = d ∧ a.length ≤ 80) ∨ (40 < a.length ∧ a.length ≤ 80 ∧ 40 < d.length)
theorem relA_full {a d l : List (List UInt8)} (h : RelA a d) (hf : 40 < a.length) : RelA a (d ++ l) := by
  rcases h with ⟨rfl, h2⟩ | ⟨h1, h2, h3⟩
  · exact .inr ⟨hf, h2, by rw [List.length_append]; omega⟩
  · exact .inr ⟨h1, h2, by rw [List.length_append]; omega⟩
theorem relA_more {a d l : List (List UInt8)} (h : RelA a d) (hf : ¬ 40 < a.length) (hl : l.length ≤ 40) : RelA (a ++ l) (d ++ l) := by
  rcases h with ⟨rfl, h2⟩ | ⟨h1, h2, h3⟩
  · exact .inl ⟨rfl, by rw [List.length_append]; omega⟩
  · exact absurd h1 hf
theorem own_outS {w0 W W' : World} {sb base m n k : Nat} {O : List Ot} {pv ov v : Value} {G : Nat → Prop} {xs : List Value} (S : SrcW w0 W sb O pv ov m n G) (o : OutF (SbF sb m) W W') (h : W.ownsRow base 9 1 v k xs) : W'.ownsRow base 9 1 v k xs := by
  refine ⟨h.1, h.2.imp id fun ⟨g, cap, cur, h1, h2, h3, rest⟩ => ⟨g, cap, cur, h1, h2, ?_, rest⟩⟩
  refine (o.block g (Array.getElem?_eq_some_iff.1 h3).1 (fun hf => ?_)).trans h3
  rcases hf with rfl | rfl
  · obtain ⟨tv, hr, -⟩ := S.r
    rw [h3] at hr
    simp at hr
  · obtain ⟨f, ⟨D, ⟨es, cl, hb, -⟩, -⟩, -⟩ := S.c
    rw [h3] at hb
    cases hb
theorem own_ne_sb {w0 W : World} {sb base m n k : Nat} {O : List Ot} {pv ov v : Value} {G : Nat → Prop} {xs : List Value} (S : SrcW w0 W sb O pv ov m n G) (h : W.ownsRow base 9 1 v k xs) : v.ownBlock ≠ some sb := by
  intro e
  obtain ⟨c, hc⟩ := own_cells h sb e
  obtain ⟨tv, hr, -⟩ := S.r
  rw [hc] at hr
  simp at hr
set_option maxRecDepth 100000 in
set_option maxHeartbeats 8000000 in
theorem pWordsA {A : Nat → Addr} {V : ByteArray → List ByteArray} {O : List Ot} {p : Option Addr} {ov : Value} (v : Value) (Ls : List (List Pb)) (w : World) (E : ExS A w V O p ov) (hR : RRow w v Ls) (hps : ∀ ps ∈ Ls, ps.length ≤ 5000 ∧ ∀ q ∈ ps, SmP q) (hl : Ls.length ≤ 5000) :
    Calls Tryz.prog 18 #[v, .pointer p, ov] w (PWo A (wordsE V O Ls) w) := by
  obtain ⟨iu, hiu, hu0, hu1, hu2⟩ := info_parts infoTx
  have IU := Lib.hid hiu; have ZU0 := Lib.hid hu0; have ZU1 := Lib.hid hu1; have ZU2 := Lib.hid hu2
  obtain ⟨va, vc, rfl, -⟩ := hR.shape
  obtain ⟨oa, oc, rfl, -⟩ := E.o.shape
  have C0 := Lib.hid (pSrcOf p oa O.length oc w O)
  have CL := Lib.hid (fun (sb m n : Nat) (G : Nat → Prop) (u : Value) (ps : List Pb) (W : World) (S : SrcW w W sb O (.pointer p) (.slice oa O.length oc) m n G) (hr : PRow w u ps) (hp : ps ∈ Ls) (hn : n ≤ 25000000) => pList17 A u ps W S E.o E.v E.a E.z hr (hps ps hp).2 E.e (by have := (hps ps hp).1; unfold maxLen; omega))
  have HR := Lib.hid hR
  have HEE := Lib.hid E.e
  have HPS := Lib.hid hps
  clear E hR hps hiu hu0 hu1 hu2
  go_enter Tryz.func18, Tryz.ntmps18
  go_wp2_with (go_at_call 35; fail)
  refine C0.out.mono ?_
  rintro e w1 ⟨g1, sb, m, rfl, S1⟩
  have SS := Lib.hid S1
  have G1 := Lib.hid g1
  clear S1 C0 g1
  obtain ⟨base, hbase⟩ : ∃ base, w.heap.size = base := ⟨_, rfl⟩
  have HBL := Lib.hid hbase
  clear hbase
  go_wp2
  go_loopw [9, 11, 12, 13, 19] (fun al _ _ _ i wr => ∃ (j : Nat) (a : List ByteArray) (aa : Option Addr) (ac : Nat) (G : Nat → Prop), j ≤ Ls.length ∧ i = .int .i64 j ∧ al = .slice aa a.length ac ∧ Hid (SrcW w wr sb O (.pointer p) (.slice oa O.length oc) m (5000 * j) G) ∧ Hid (wr.ownsRow base 9 1 (.slice aa a.length ac) a.length (txV a)) ∧ Hid (∀ k, (Value.slice aa a.length ac).ownBlock = some k → ¬ G k) ∧ Hid (∃ d, allE V O (Ls.take j) = .ok d ∧ RelA (txL a) d)) (fun _ _ _ _ i _ => Ls.length - (intOf i).toNat)
  case atStart => exact ⟨0, [], none, 0, _, Nat.zero_le _, rfl, rfl, SS, Lib.hid (World.ownsRow_nil _ _ _ _), Lib.hid (fun k _ h => h), Lib.hid ⟨[], rfl, .inl ⟨rfl, by simp⟩⟩⟩
  case round =>
    obtain ⟨j, a, aa, ac, G, hj, rfl, rfl, hS, hO, hF, hD⟩ := hrel
    by_cases hlt : j < Ls.length
    · obtain ⟨b, off, c, ps, u, ev, hx, hb, c0, hp⟩ := HR.out.at j hlt
      injection ev with ev1 ev2 ev3
      subst ev1 ev3
      have c0' := hS.out.g0.cell c0 (by simp)
      obtain ⟨pa, pc, rfl, -⟩ := hp.shape
      have hmem := List.mem_of_getElem? hx
      have h5 := (HPS.out ps hmem).1
      have CP := Lib.hid (CL.out sb m (5000 * j) G _ ps wr hS.out hp hmem (by omega))
      have HX := Lib.hid hx
      obtain ⟨d, hd, hra⟩ := hD.out
      have ha80 : a.length ≤ 80 := by rcases hra with ⟨-, h⟩ | ⟨-, h, -⟩ <;> simpa using h
      obtain ⟨x, hpx⟩ : ∃ x, wordE V O ps = x := ⟨_, rfl⟩
      rw [hpx] at CP
      clear hx hb hp c0 hmem hD
      cases x with
      | error k =>
        have hk0 := wordE_num hpx
        have HN := Lib.hid (show wordsE V O Ls = .error k from allE_bad HX.out hd hpx)
        clear hpx hd hra
        go_wp2_with fail
        refine CP.out.mono ?_
        rintro e w5 ⟨s5, -, v5, L5, he, t5, -⟩
        rw [show exN (.error k) = k from rfl, errV_ne (by omega)] at he
        subst he
        obtain ⟨a5, c5, rfl, -⟩ := t5
        have G5 := Lib.hid s5.g0
        clear s5 CP c0'
        go_wp2
        go_ret2
        rw [HN.out]
        exact ⟨G5.out, _, [], by rw [show exN (.error k) = k from rfl, errV_ne (by omega)]; rfl, tx_nilP _, rfl⟩
      | ok L =>
        have HN := Lib.hid (allE_go HX.out hd hpx)
        have h40 := (word_le hpx).1
        have HRA := Lib.hid hra
        clear hpx hd hra
        go_wp2_with fail
        refine CP.out.mono ?_
        rintro e w5 ⟨s5, o5, v5, L5, he, t5, hL5⟩
        rw [show exN (.ok L) = 0 from rfl, errV_zero] at he
        subst he
        have e5 : txL L5 = L := hL5
        clear hL5
        subst e5
        have hsh := t5
        obtain ⟨a5, c5, rfl, -⟩ := hsh
        have S5 := Lib.hid (s5.upTo (n' := 5000 * (j + 1)) (by omega))
        have R5 := Lib.hid (own_outS hS.out o5 hO.out)
        have T5 := Lib.hid t5
        have F5 := Lib.hid (show ∀ k, (Value.slice aa a.length ac).ownBlock = some k → ¬ Gn G wr w5 k from fun k hk hg => by
          rcases hg with h | h
          · exact hF.out k hk h
          · have := (hO.out.lt k hk).2; omega)
        have h41 : L5.length ≤ 40 := by simpa using h40
        have CF := Lib.hid (fun W => fFull aa a.length ac W)
        clear s5 o5 t5 CP c0' h40
        by_cases hfu : 40 < a.length
        · rw [decide_eq_true hfu] at CF
          go_wp2_with (go_at_call 37; (with_reducible refine (CF.out _).mono ?_); rintro e w6 ⟨rfl, rfl⟩)
          go_roundw
          case rel => exact ⟨j + 1, a, aa, ac, _, hlt, by go_num, rfl, S5, R5, F5, Lib.hid ⟨_, HN.out, relA_full HRA.out (by simpa using hfu)⟩⟩
          case measure => simp [intOf]; omega
        · rw [decide_eq_false hfu] at CF
          have hbz : base ≤ w5.heap.size := by have := S5.out.g0.size; have := HBL.out; omega
          go_wp2_with (first
            | (go_at_call 37; (with_reducible refine (CF.out _).mono ?_); rintro e w6 ⟨rfl, rfl⟩)
            | (at_builtin; refine wpList_append_tx rfl _ _ 30 rfl base 9 iu _ Tryz.underlying30 IU.out ZU0.out ZU1.out ZU2.out rfl _ _ _ rfl R5.out _ L5 rfl T5.out (by unfold maxLen; omega) (by omega) hbz ?_; intro v9 w9 hown9 hgrow9 hfar9; have O9 := Lib.hid hown9; have Y9 := Lib.hid hgrow9; have F9 := Lib.hid hfar9; clear hown9 hgrow9 hfar9))
          obtain ⟨va9, vc9, rfl⟩ := tx_shape O9.out
          have HL2 := Lib.hid (show (a ++ L5).length = a.length + L5.length by simp)
          have OA := Lib.hid (show w9.ownsRow base 9 1 (.slice va9 (a ++ L5).length vc9) (a ++ L5).length (txV (a ++ L5)) by rw [HL2.out, txV_app]; exact O9.out)
          have S9 := Lib.hid (S5.out.out (OutF.row Y9.out (F := fun k => (Value.slice aa a.length ac).ownBlock = some k) (fun k e => e)) (fun k hk => by
            have h1 := (R5.out.lt k hk).1
            have := HBL.out
            refine ⟨by omega, fun e => own_ne_sb S5.out R5.out (by rw [hk, e]), F5.out k hk, ?_⟩
            obtain ⟨cc, hcc⟩ := own_cells R5.out k hk
            exact ⟨cc, _, hcc⟩))
          have FA := Lib.hid (show ∀ k, (Value.slice va9 (a ++ L5).length vc9).ownBlock = some k → ¬ Gn G wr w5 k from fun k hk hg => by
            rcases F9.out k (by rw [HL2.out] at hk; exact hk) with h | h
            · exact F5.out k h hg
            · have := (S5.out.g k hg).1; omega)
          have HD2 := Lib.hid (show ∃ d', allE V O (Ls.take (j + 1)) = .ok d' ∧ RelA (txL (a ++ L5)) d' from ⟨_, HN.out, by
            have := relA_more HRA.out (by simpa using hfu) (l := txL L5) (by simpa using h41)
            simpa using this⟩)
          clear O9 Y9 F9 S5 R5 F5
          go_wp2
          go_roundw
          case rel => exact ⟨j + 1, a ++ L5, va9, vc9, _, hlt, by go_num, by rw [HL2.out], S9, OA, FA, HD2⟩
          case measure => simp [intOf]; omega
    · obtain ⟨d, hd, hra⟩ := hD.out
      rw [List.take_of_length_le (by omega)] at hd
      have CF := Lib.hid (fun W => fFull aa a.length ac W)
      have ha80 : a.length ≤ 80 := by rcases hra with ⟨-, h⟩ | ⟨-, h, -⟩ <;> simpa using h
      by_cases hfu : 40 < a.length
      · rw [decide_eq_true hfu] at CF
        have HN := Lib.hid (show wordsE V O Ls = .error 10 by
          unfold wordsE; rw [hd]
          simp only
          rw [if_pos]
          rcases hra with ⟨h, -⟩ | ⟨-, -, h⟩
          · rw [← h]; simpa using hfu
          · exact h)
        have ee := e17_full (HEE.out.grown hS.out.g0)
        clear hd hra
        go_wp2_with (go_at_call 37; (with_reducible refine (CF.out _).mono ?_); rintro e w6 ⟨rfl, rfl⟩)
        go_quiet (fail)
        go_wp2
        go_ret2
        rw [HN.out]
        exact ⟨grown_drewN hS.out.g0 _, _, [], rfl, tx_nilP _, rfl⟩
      · rw [decide_eq_false hfu] at CF
        have HN := Lib.hid (show wordsE V O Ls = .ok (txL a) by
          unfold wordsE; rw [hd]
          simp only
          rcases hra with ⟨h, -⟩ | ⟨h, -⟩
          · rw [← h, if_neg (by simpa using hfu)]
          · exact absurd (by simpa using h) hfu)
        clear hd hra
        go_wp2_with (go_at_call 37; (with_reducible refine (CF.out _).mono ?_); rintro e w6 ⟨rfl, rfl⟩)
        go_ret2
        rw [HN.out]
        exact ⟨hS.out.g0, _, a, rfl, tx_row hO.out rfl (by omega), rfl⟩
set_option maxRecDepth 100000 in
set_option maxHeartbeats 4000000 in
theorem pText17 {A : Nat → Addr} {V : ByteArray → List ByteArray} {O : List Ot} {p : Option Addr} {ov : Value} (s : ByteArray) (w : World) (E : ExS A w V O p ov) (hM : ThrM A w) (hs : s.size ≤ 200) :
    Calls Tryz.prog 9 #[.string s, .pointer p, ov] w (fun e w' => ∃ x, textE V O s.data.toList x ∧ PWo A x w e w') := by
  have CL := Lib.hid (xWords lbX A s w hM.2 hM.1 (by omega))
  have CW := Lib.hid (fun (v : Value) (LB : List (List Pb)) (W : World) (g : w.grownBy W none) (hr : RRow W v LB) (h : LB.length ≤ 200 ∧ ∀ ps ∈ LB, ps.length ≤ 200 ∧ ∀ p ∈ ps, SmP p) => pWordsA v LB W (E.grown g) hr (fun ps hp => ⟨by have := (h.2 ps hp).1; omega, (h.2 ps hp).2⟩) (by omega))
  have HSM := Lib.hid (fun (L : List (List Pq)) (h : wdQ [] [] s.data.toList = .ok L) (LB : List (List Pb)) (hB : pcLL LB = L) => lex_small hs h hB)
  obtain ⟨oa, oc, rfl, -⟩ := E.o.shape
  unfold PWds at CL
  unfold textE
  clear E hM
  cases hw : wdQ [] [] s.data.toList with
  | error k =>
    rw [hw] at CL
    have hk0 := wd_bad s.data.toList.length s.data.toList [] [] k (Nat.le_refl _) hw
    clear hw
    go_enter Tryz.func9, Tryz.ntmps9
    go_wp2_with fail
    refine CL.out.mono ?_
    rintro e w3 ⟨g3, he⟩
    have he' : ∃ a c, e = .returned (.tuple #[.slice a 0 c, errV A k]) := he
    clear he
    obtain ⟨a3, c3, rfl⟩ := he'
    rw [errV_ne (by omega)]
    go_wp2
    go_ret2
    exact ⟨.error k, rfl, g3, _, [], by rw [show exN (.error k) = k from rfl, errV_ne (by omega)]; rfl, tx_nilP _, rfl⟩
  | ok L =>
    rw [hw] at CL
    have HW := Lib.hid hw
    clear hw
    go_enter Tryz.func9, Tryz.ntmps9
    go_wp2_with fail
    refine CL.out.mono ?_
    rintro e w3 ⟨g3, he⟩
    have he' : ∃ v LB, e = .returned (.tuple #[v, .nilIface]) ∧ RRow w3 v LB ∧ pcLL LB = L := he
    clear he
    obtain ⟨v, LB, rfl, hr, hB⟩ := he'
    obtain ⟨ra, rc, rfl, -⟩ := hr.shape
    have CW2 := Lib.hid (CW.out _ LB w3 g3 hr (HSM.out L HW.out LB hB))
    have G3 := Lib.hid g3
    have HB := Lib.hid hB
    clear g3 hr hB CL
    go_wp2_with fail
    refine CW2.out.mono ?_
    rintro e w4 ⟨g4, v4, L4, rfl, t4, h4⟩
    have T4 := Lib.hid t4
    have G4 := Lib.hid (G3.out.trans g4)
    have H4 := Lib.hid h4
    clear t4 h4 g4 CW2
    go_wp2
    go_ret2
    exact ⟨_, ⟨LB, HB.out, rfl⟩, G4.out, v4, L4, rfl, T4.out, H4.out⟩
end Go.Proofs.YtcmfmfkpmgoieaaGreatDoor
