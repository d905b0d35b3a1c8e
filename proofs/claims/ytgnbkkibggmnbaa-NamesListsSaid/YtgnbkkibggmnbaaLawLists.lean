/- Lists of texts are sorted, joined and lessened as the chapter says; whether a text is in a list; no list that was handed in is changed, nor the room behind it. No condition on the lists or the text. -/
import Derived.Test.YtgnbkkibggmnbaaWalkF
import Derived.Test.YtgnbkkibggmnbaaListG
import Derived.ProofKit
import Derived.OpenShut
import Derived.ShutString
import Derived.ChangeOld
namespace Go.Proofs.Ytgnbkkibggmnbaa.namesLists
open Go.ChangeShapes Go.WideShapes Go.ChangeAt Go.RowKit
open Go.ChangeMaps (open_string shut_string)

theorem own : ownKnob Try.prog.godebug = none := by kernel_rfl
theorem laidOut : laidOutB Try.prog = true := by kernel_rfl

theorem drewN_below {w w' : World} (h : ∃ n, w' = w.drewN n) : Below w.heap.size w w' := by
  obtain ⟨n, rfl⟩ := h; exact below_drewN (Below.refl _ _) n

/-- what lies in memory once both copies have been made -/
def Env (w w' : World) (va vb u1 u2 : Value) (la lb : List ByteArray) : Prop :=
  Row w' va la ∧ Row w' vb lb ∧ (∃ b, Marked w' b u1 la) ∧ (∃ b, Marked w' b u2 lb) ∧ Below w.heap.size w w'
theorem Env.later {w w1 w2 : World} {va vb u1 u2 : Value} {la lb : List ByteArray} (h : Env w w1 va vb u1 u2 la lb) (hb : Below w1.heap.size w1 w2) : Env w w2 va vb u1 u2 la lb := by
  obtain ⟨h1, h2, ⟨b1, h3⟩, ⟨b2, h4⟩, h5⟩ := h
  exact ⟨h1.later hb, h2.later hb, ⟨b1, h3.later hb⟩, ⟨b2, h4.later hb⟩, h5.trans (hb.mono h5.size)⟩

set_option maxHeartbeats 1000000 in
theorem walk (va vb : Value) (la lb : List ByteArray) (s : ByteArray) (hs : s.size ≤ maxLen) (w : World) (ha : Row w va la) (hb : Row w vb lb) :
    Calls Try.prog 6 #[va, vb, .string s] w fun e w' => e = .returned (.bool true) ∧ Below w.heap.size w w' := by
  have hs' := hs
  unfold maxLen at hs'
  have HA := Lib.hid ha; have HB := Lib.hid hb
  clear ha hb
  by_cases za : longB la = true
  · go_enter Try.func6, Try.ntmps6
    go_wp2_with (first | (go_at_call 7; refine (lAlive _).mono ?_; rintro e w1 ⟨rfl, h1⟩; have B1 := Lib.hid (drewN_below h1); clear h1) | (go_at_call 19; refine (lLong _ la _ (HA.out.later B1.out)).mono ?_; rintro e w' ⟨rfl, rfl⟩))
    go_ret
    exact ⟨rfl, B1.out⟩
  have za' : longB la = false := by simpa using za
  obtain ⟨na, sa⟩ := short_of la za'
  clear za
  by_cases zb : longB lb = true
  · go_enter Try.func6, Try.ntmps6
    go_wp2_with fail
    refine (lAlive _).mono ?_
    rintro e w1 ⟨rfl, h1⟩
    have B1 := Lib.hid (drewN_below h1)
    clear h1
    go_wp2_with fail
    refine (lLong _ la _ (HA.out.later B1.out)).mono ?_
    rintro e w' ⟨rfl, rfl⟩
    go_wp2_with fail
    refine (lLong _ lb _ (HB.out.later B1.out)).mono ?_
    rintro e w' ⟨rfl, rfl⟩
    go_wp2
    go_ret
    exact ⟨rfl, B1.out⟩
  have zb' : longB lb = false := by simpa using zb
  obtain ⟨nb, sb⟩ := short_of lb zb'
  clear zb
  by_cases zs : 100 < s.size
  · go_enter Try.func6, Try.ntmps6
    go_wp2_with fail
    refine (lAlive _).mono ?_
    rintro e w1 ⟨rfl, h1⟩
    have B1 := Lib.hid (drewN_below h1)
    clear h1
    go_wp2_with fail
    refine (lLong _ la _ (HA.out.later B1.out)).mono ?_
    rintro e w' ⟨rfl, rfl⟩
    go_wp2_with fail
    refine (lLong _ lb _ (HB.out.later B1.out)).mono ?_
    rintro e w' ⟨rfl, rfl⟩
    go_wp2
    go_ret
    exact ⟨rfl, B1.out⟩
  have SA := Lib.hid sa; have SB := Lib.hid sb
  clear sa sb
  have lu : (uni (la ++ lb)).length ≤ 80 := Nat.le_trans (uni_len _) (by rw [List.length_append]; omega)
  have ls : (sortL (uni la)).length ≤ 80 := by rw [sort_len]; exact Nat.le_trans (uni_len _) (by omega)
  have lw : (la.filter (outB lb)).length ≤ 80 := Nat.le_trans (List.length_filter_le _ _) (by omega)
  have LU := Lib.hid lu; have LS := Lib.hid ls; have LW := Lib.hid lw
  clear lu ls lw
  go_enter Try.func6, Try.ntmps6
  go_wp2_with fail
  refine (lAlive _).mono ?_
  rintro e w1 ⟨rfl, h1⟩
  have B1 := Lib.hid (drewN_below h1)
  clear h1
  go_wp2_with fail
  refine (lLong _ la _ (HA.out.later B1.out)).mono ?_
  rintro e w' ⟨rfl, rfl⟩
  go_wp2_with fail
  refine (lLong _ lb _ (HB.out.later B1.out)).mono ?_
  rintro e w' ⟨rfl, rfl⟩
  -- the copies
  go_wp2_with fail
  refine (lTexts _ la _ (HA.out.later B1.out) na).mono ?_
  rintro e w2 ⟨u1, rfl, m1, b2⟩
  have B2 := Lib.hid (B1.out.trans (b2.mono B1.out.size)); have M1 := Lib.hid m1
  clear m1 b2
  go_wp2_with fail
  refine (lTexts _ lb _ (HB.out.later B2.out) nb).mono ?_
  rintro e w3 ⟨u2, rfl, m2, b3⟩
  have E3 := Lib.hid (show Env w w3 va vb u1 u2 la lb from ⟨HA.out.later (B2.out.trans (b3.mono B2.out.size)), HB.out.later (B2.out.trans (b3.mono B2.out.size)), ⟨_, M1.out.later b3⟩, ⟨_, m2⟩, B2.out.trans (b3.mono B2.out.size)⟩)
  clear m2 b3
  -- sorted
  go_wp2_with fail
  obtain ⟨b1, m1⟩ := E3.out.2.2.1
  refine (nSorted _ la _ (m1.row na) na SA.out).mono ?_
  clear m1
  rintro e w4 ⟨v1, rfl, o1, b4⟩
  have E4 := Lib.hid (E3.out.later b4); have R1 := Lib.hid (row_of_owns o1 (by have := LS.out; omega))
  clear o1 b4
  go_wp2_with fail
  refine (rSorted _ la _ E4.out.1 na).mono ?_
  rintro e w5 ⟨v2, rfl, o2, b5⟩
  have E5 := Lib.hid (E4.out.later b5); have R1' := Lib.hid (R1.out.later b5); have R2 := Lib.hid (row_of_owns o2 (by have := LS.out; omega))
  clear o2 b5
  go_wp2_with fail
  refine (lSame _ _ _ _ R1'.out R2.out).mono ?_
  rintro e w6 ⟨rfl, h6⟩
  have E6 := Lib.hid (E5.out.later (drewN_below h6))
  clear h6 R1 R2 R1'
  -- joined
  go_wp2_with fail
  obtain ⟨b1', m1⟩ := E6.out.2.2.1
  obtain ⟨b2', m2⟩ := E6.out.2.2.2.1
  refine (nUnion _ _ la lb _ (m1.row na) (m2.row nb) na nb SA.out SB.out).mono ?_
  clear m1 m2
  rintro e w7 ⟨v3, rfl, o3, b7⟩
  have E7 := Lib.hid (E6.out.later b7); have R3 := Lib.hid (row_of_owns o3 (by have := LU.out; omega))
  clear o3 b7
  go_wp2_with fail
  refine (rUnion _ _ la lb _ E7.out.1 E7.out.2.1 na nb).mono ?_
  rintro e w8 ⟨v4, rfl, o4, b8⟩
  have E8 := Lib.hid (E7.out.later b8); have R3' := Lib.hid (R3.out.later b8); have R4 := Lib.hid (row_of_owns o4 (by have := LU.out; omega))
  clear o4 b8
  go_wp2_with fail
  refine (lSame _ _ _ _ R3'.out R4.out).mono ?_
  rintro e w9 ⟨rfl, h9⟩
  have E9 := Lib.hid (E8.out.later (drewN_below h9))
  clear h9 R3 R4 R3'
  -- lessened
  go_wp2_with fail
  obtain ⟨b1'', m1⟩ := E9.out.2.2.1
  obtain ⟨b2'', m2⟩ := E9.out.2.2.2.1
  refine (nWithout _ _ la lb _ (m1.row na) (m2.row nb) na nb SA.out SB.out).mono ?_
  clear m1 m2
  rintro e w10 ⟨v5, rfl, o5, b10⟩
  have E10 := Lib.hid (E9.out.later b10); have R5 := Lib.hid (row_of_owns o5 (by have := LW.out; omega))
  clear o5 b10
  go_wp2_with fail
  refine (rWithout _ _ la lb _ E10.out.1 E10.out.2.1 na).mono ?_
  rintro e w11 ⟨v6, rfl, o6, b11⟩
  have E11 := Lib.hid (E10.out.later b11); have R5' := Lib.hid (R5.out.later b11); have R6 := Lib.hid (row_of_owns o6 (by have := LW.out; omega))
  clear o6 b11
  go_wp2_with fail
  refine (lSame _ _ _ _ R5'.out R6.out).mono ?_
  rintro e w12 ⟨rfl, h12⟩
  have E12 := Lib.hid (E11.out.later (drewN_below h12))
  clear h12 R5 R6 R5'
  -- asked, and kept
  go_wp2_with fail
  obtain ⟨b13, m13⟩ := E12.out.2.2.1
  obtain ⟨b14, m14⟩ := E12.out.2.2.2.1
  refine (nHas _ la s _ (m13.row na)).mono ?_
  rintro e w' ⟨rfl, rfl⟩
  have M13 := Lib.hid m13
  clear m13 m14
  go_wp2_with fail
  refine (lHas _ la s _ E12.out.1).mono ?_
  rintro e w' ⟨rfl, rfl⟩
  go_wp2_with fail
  refine (lKept _ _ _ la _ M13.out E12.out.1 na).mono ?_
  rintro e w13 ⟨rfl, h13⟩
  have E13 := Lib.hid (E12.out.later (drewN_below h13))
  clear h13
  go_wp2_with fail
  obtain ⟨b15, m15⟩ := E13.out.2.2.2.1
  refine (lKept _ _ _ lb _ m15 E13.out.2.1 nb).mono ?_
  clear m15
  rintro e w14 ⟨rfl, h14⟩
  have E14 := Lib.hid (E13.out.later (drewN_below h14))
  clear h14
  go_wp2
  go_ret
  exact ⟨rfl, E14.out.2.2.2.2⟩

theorem cell_block {w : World} {b off : Nat} {v : Value} (h : w.cell? ⟨b, off, none⟩ = some v) : b < w.heap.size := by
  rcases Nat.lt_or_ge b w.heap.size with hb | hb
  · exact hb
  · unfold World.cell? at h
    rw [Array.getElem?_eq_none hb] at h
    cases h

/-- a slice of texts that came in, as the walk is told of it -/
theorem row_open {H : Type} {enc : TypeId × Value → H} {W : World} {a : Option Addr} {len cap : Nat} {d : DataW H} {p : List MemPlace}
    (hj : DataW.Trod enc Try.prog W 0 (fun _ => true) true 30 (.slice a len cap) d p) : ∃ l, Row W (.slice a len cap) l := by
  obtain ⟨fuel, hf⟩ := hj
  rcases open_strings Try.underlying30 Try.underlying9 (by kernel_rfl) hf with ⟨hcs, _⟩ | ⟨x, l, c, ss, hcs, _, hl, hm, hz, hx, hcell, hws⟩
  · simp [Value.cells] at hcs
    obtain ⟨rfl, rfl, rfl⟩ := hcs
    exact ⟨[], none, 0, rfl, ⟨by decide, fun _ => rfl⟩, fun h => absurd rfl h⟩
  · simp [Value.cells] at hcs
    obtain ⟨rfl, rfl, rfl⟩ := hcs
    have hlen : (ss.take len).length = len := by rw [List.length_take]; simp at hz; omega
    unfold maxLen at hm
    refine ⟨ss.take len, some x, cap, by rw [hlen], ⟨by omega, fun e => by cases e⟩, fun hne => ?_⟩
    have h0 : 0 < ss.length := by
      cases ss with
      | nil => simp at hne
      | cons y r => simp
    obtain ⟨b, off, spot⟩ := x
    have hc0 := hcell 0 h0
    have hspot : spot = none := by simpa [Addr.add] using World.cell?_spot hc0
    subst hspot
    refine ⟨b, off, rfl, ?_, fun j y hy => ?_⟩
    · have h1 := hc0
      rw [Addr.add_lit, Nat.add_zero] at h1
      exact cell_block h1
    · have hj : j < len := by have := (List.getElem?_eq_some_iff.1 hy).1; omega
      have hjs : j < ss.length := by rw [List.length_take] at hlen; omega
      have h1 := hcell j hjs
      rw [Addr.add_lit] at h1
      rw [List.getElem?_take_of_lt hj] at hy
      rw [h1, List.getD_eq_getElem?_getD, hy]; rfl

set_option maxRecDepth 100000 in
theorem lifted (os : Os) (started : os.Started) (H : Type) (enc : TypeId × Value → H) :
    ReturnsInHanded {} Try.checked os 6 .any (Rows.namesListsSpec.pre6 enc Try.prog Try.f6 Rows.namesListsRow.domain false) (Rows.namesListsSpec.post enc Try.prog Try.f6 false true false false) := by
  refine returnsInHanded_of_change (C := Try.checked) own started (by kernel_rfl) Try.func6
    (ChangeSpec.witness6 (enc := enc) (C := Try.checked) false ⟨#[], #[.slice none 0 0, .slice none 0 0, .string ByteArray.empty], []⟩ 8 (by kernel_rfl) (by kernel_rfl) (by kernel_rfl) (by kernel_rfl)) ?_
  intro W base args ds gs before hval0 hW hcnd _
  have hval : ∀ (j : Nat) t v, Try.f6.params[j]? = some t → args[j]? = some v → Value.okWide Try.prog W .any base t v := hval0
  have hW' := hW
  obtain ⟨p, q, hA0, hV, rfl, hfz, hnd⟩ := hW
  have hA : DataW.TrodAll enc Try.prog W 0 (fun _ => true) true Try.f6.params.toList args.toList ds p := hA0
  rw [Try.params6] at hA hval
  obtain ⟨v0, vs0, d0, ds0, p0, q0, hargs, rfl, rfl, h0, r0⟩ := trodAll_cons hA
  obtain ⟨v1, vs1, d1, ds1, p1, q1, rfl, rfl, rfl, h1, r1⟩ := trodAll_cons r0
  obtain ⟨v2, vs2, d2, ds2, p2, q2, rfl, rfl, rfl, h2, r2⟩ := trodAll_cons r1
  obtain ⟨rfl, rfl, rfl⟩ := trodAll_nil r2
  obtain rfl : args = #[v0, v1, v2] := by cases args; simp_all
  obtain ⟨rfl, rfl⟩ := trodVars_none hV
  obtain ⟨a0, len0, cap0, rfl⟩ := okWide_slice Try.underlying30 (hval 0 30 v0 rfl rfl)
  obtain ⟨a1, len1, cap1, rfl⟩ := okWide_slice Try.underlying30 (hval 1 30 v1 rfl rfl)
  have lt0 : ∀ x ∈ p0, x.block < W.heap.size := by obtain ⟨m, hm⟩ := h0; exact DataW.trod_lt m _ _ _ hm
  have lt1 : ∀ x ∈ p1, x.block < W.heap.size := by obtain ⟨m, hm⟩ := h1; exact DataW.trod_lt m _ _ _ hm
  obtain ⟨la, ra⟩ := row_open h0
  obtain ⟨lb, rb⟩ := row_open h1
  obtain ⟨s, rfl, rfl, rfl, w2⟩ := open_string Try.underlying9 (hval 2 9 v2 rfl rfl) h2
  clear hA0 hval0
  refine (walk _ _ la lb s w2 W ra rb).mono fun e W' ⟨he, bel⟩ => ?_
  subst he
  exact ⟨_, rfl, _, _, _, [], _, [], hW', trodAll_mk1 (shut_bool Try.underlying4 _), (trodAll_cons_mk (Below.trod laidOut (by kernel_rfl) (of_decide_eq_true (by kernel_rfl)) h0 bel lt0) (trodAll_cons_mk (Below.trod laidOut (by kernel_rfl) (of_decide_eq_true (by kernel_rfl)) h1 bel lt1) (trodAll_cons_mk (shut_string Try.underlying9 w2) trodAll_mk0))), rfl, bel.frame _, fun h => by cases h⟩

theorem over : Rows.namesListsRow.holds Try.pinned (OpenSpec.ofChange Rows.namesListsSpec) :=
  OpenClaim.holds_of_wide 6 Try.f6 rfl rfl rfl rfl rfl rfl rfl ⟨rfl, rfl, rfl, rfl, rfl⟩ rfl rfl rfl rfl rfl (by kernel_rfl) Try.func6 (by kernel_rfl)
    (of_decide_eq_true (by kernel_rfl)) (by unfold Func.isWrapper; first | (rw [if_pos (by decide +kernel)]; kernel_rfl) | (rw [if_neg (by decide +kernel)]; exact ⟨rfl, rfl⟩))
    (fun os started H enc _ => lifted os started H enc)

theorem proved : Rows.NamesListsSaid := over
end Go.Proofs.Ytgnbkkibggmnbaa.namesLists
