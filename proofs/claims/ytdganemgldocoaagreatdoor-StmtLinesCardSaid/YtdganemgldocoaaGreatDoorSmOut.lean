/- The document's own statements of a text; small rows; what the laws of layer 19 are told of package stmt. What the laws of layer 19 say a program's statement is of the document's: Of; two statements of the document's side by side. Statements' rows are small; statements side by side with the document's, as the laws of layer 19 compare them. What package stmt's functions answer, as the laws of layer 19 are told of it. Lines that a law makes of those that came in. -/
import Derived.Test.YtdganemgldocoaaGreatDoorSmDoc
import Derived.Test.YtdganemgldocoaaGreatDoorLnWhere
import Derived.Test.YtdganemgldocoaaGreatDoorLxOf
import Derived.Laws.StructEq
namespace Go.Proofs.YtdganemgldocoaaGreatDoor
open Go.RowKit

theorem spA_small : ∀ (r : List (List UInt8)) (o : Nat) (h : List UInt8) (O : List Lq) (k : Nat) (L : List Lq), (∀ x ∈ O, x.text.length ≤ 400) → spA o h O k r = .ok L → ∀ x ∈ L, x.text.length ≤ 400
  | [], o, h, O, k, L, hO, hs => by rw [spA] at hs; cases hs; exact hO
  | s :: r, o, h, O, k, L, hO, hs => by
    have snoc : ∀ y : Lq, y.text.length ≤ 400 → ∀ x ∈ O ++ [y], x.text.length ≤ 400 := fun y hy x hx => by
      rcases List.mem_append.1 hx with h | h
      · exact hO x h
      · rw [List.mem_singleton.1 h]; exact hy
    rw [spA] at hs
    split at hs
    · split at hs
      · cases hs
      · exact spA_small r _ _ _ _ _ (snoc _ (by show s.tail.length ≤ 400; rw [List.length_tail]; omega)) hs
    · split at hs
      · cases hs
      · exact spA_small r _ _ _ _ _ hO hs
      · split at hs
        · cases hs
        · rename_i hh
          exact spA_small r _ _ _ _ _ (snoc _ (Nat.le_of_not_lt hh)) hs
theorem spL_small {l : List UInt8} {L : List Lq} (h : spL l = .ok L) : l.length ≤ 4000 ∧ ∀ x ∈ L, x.text.length ≤ 400 := by
  unfold spL at h
  split at h
  · cases h
  · exact ⟨by omega, spA_small _ _ _ _ _ _ (fun x hx => by cases hx) h⟩
def Lq.i (x : Lq) : Li := ⟨⟨x.text.toArray⟩, x.num, x.rcp⟩
theorem lb_qi (x : Lb) : x.q.i = x.i := by
  unfold Lb.q Lq.i Lb.i
  simp
/-- a text's statements -/
def ofS (l : List UInt8) : Except (Nat × Int) (List Sm) :=
  match spL l with
  | .error x => .error (x.1, (x.2 : Int))
  | .ok L => parS [] (L.map Lq.i)
theorem rcp_small {O : List Li} {n : Nat} (h : ∀ x ∈ O, x.t.size ≤ n) : (rcpS O).length ≤ (n + 1) * O.length := by
  induction O with
  | nil => simp [rcpS]
  | cons x O ih =>
    have h1 := ih (fun y hy => h y (List.mem_cons_of_mem _ hy))
    have h2 := h x (List.mem_cons_self ..)
    have h3 : (rcpS (x :: O)).length = x.t.size + 1 + (rcpS O).length := by unfold rcpS; simp; omega
    rw [h3, List.length_cons, Nat.mul_add, Nat.mul_one]
    omega
theorem lis_of {O : List Lb} {l : List UInt8} {L : List Lq} (h : spL l = .ok L) (hO : lnQ O = L) (hl : O.length ≤ l.length) : LiS (O.map Lb.i) := by
  obtain ⟨h1, h2⟩ := spL_small h
  have hx : ∀ x ∈ O.map Lb.i, x.t.size ≤ 400 := fun x hx => by
    obtain ⟨y, hy, rfl⟩ := List.mem_map.1 hx
    have h3 := h2 y.q (by rw [← hO]; exact List.mem_map_of_mem hy)
    have h4 : y.t.data.toList.length = y.t.size := by simp
    have h5 : y.t.data.toList.length ≤ 400 := h3
    show y.t.size ≤ 400
    omega
  have h6 := rcp_small hx
  rw [List.length_map] at h6
  refine ⟨by rw [List.length_map]; omega, fun x h => by have := hx x h; omega, ?_⟩
  have : (400 + 1) * O.length ≤ 401 * 4000 := Nat.mul_le_mul (Nat.le_refl _) (by omega)
  omega
theorem OwnS.up {w : World} {base base' : Nat} {TS T TT : TypeId} {v : Value} {L : List Sb} (h : OwnS w base TS T TT v L) (hb : base' ≤ base) : OwnS w base' TS T TT v L := by
  obtain ⟨us, k1, k2, k3⟩ := h
  refine ⟨us, k1, ⟨k2.1, ?_⟩, fun j u x hu hx => ?_⟩
  · rcases k2.2 with h | ⟨q, cap, cur, h4, h5, h6⟩
    · exact .inl h
    · exact .inr ⟨q, cap, cur, h4, Nat.le_trans hb h5, h6⟩
  · obtain ⟨a, c, d⟩ := k3 j u x hu hx
    exact ⟨a.up hb, c.up hb, d⟩
set_option maxRecDepth 100000 in
theorem dOf19 (s : ByteArray) (w : World) (hs : s.size ≤ 5000) : Calls Tryz.prog 7 #[.string s] w (PPar 52 107 106 (ofS s.data.toList) w) := by
  have CS := Lib.hid (dLSplit s w hs)
  have HM := Lib.hid hs
  go_enter Tryz.func7, Tryz.ntmps7
  go_wp2_with fail
  refine CS.out.mono ?_
  rintro e w1 ⟨hout, g1⟩
  have G1 := Lib.hid g1
  cases hsp : spL s.data.toList with
  | error x =>
    obtain ⟨bad, line⟩ := x
    rw [hsp] at hout
    subst hout
    have HN := Lib.hid (show ofS s.data.toList = .error (bad, (line : Int)) by unfold ofS; rw [hsp])
    have hbd : ((bad : Int) == 0) = false := by rw [beq_eq_false_iff_ne]; have := spL_bad hsp; omega
    clear hsp g1 CS
    go_wp2
    go_ret3
    refine ⟨G1.out, ?_⟩
    rw [HN.out]
    exact rfl
  | ok L =>
    rw [hsp] at hout
    obtain ⟨v, O, rfl, ho, hO, hl⟩ := hout
    have HN := Lib.hid (show ofS s.data.toList = parS [] (O.map Lb.i) by
      have hm : (lnQ O).map Lq.i = O.map Lb.i := by unfold lnQ; rw [List.map_map]; exact List.map_congr_left fun x _ => lb_qi x
      unfold ofS; rw [hsp, ← hO]
      show parS [] ((lnQ O).map Lq.i) = _
      rw [hm])
    have hlis := lis_of hsp hO hl
    have hsz : s.data.toList.length = s.size := by simp
    have hR := li_of_ln (ln_row ho rfl (by omega))
    obtain ⟨va, vc, hv, -⟩ := hR.shape
    rw [List.length_map] at hv
    subst hv
    have CP := Lib.hid (dParse19 _ (O.map Lb.i) w1 hR hlis)
    clear hsp CS ho hO hl hlis hR hsz
    go_wp2_with fail
    refine CP.out.mono ?_
    rintro e w2 ⟨g2, hout⟩
    have G2 := Lib.hid (G1.out.trans g2)
    have HZ := Lib.hid (show w.heap.size ≤ w1.heap.size from g1.size)
    clear CP g2 g1
    cases hp : parS [] (O.map Lb.i) with
    | error x =>
      rw [hp] at hout HN
      subst hout
      clear hp
      go_wp2
      go_ret3
      refine ⟨G2.out, ?_⟩
      rw [HN.out]
      exact rfl
    | ok S =>
      rw [hp] at hout HN
      obtain ⟨v, L2, rfl, hq, ho, hl⟩ := hout
      have HQ := Lib.hid hq; have HO := Lib.hid ho; have HL := Lib.hid hl
      clear hp hq ho hl
      go_wp2
      go_ret3
      refine ⟨G2.out, ?_⟩
      rw [HN.out]
      exact ⟨v, L2, rfl, HQ.out, OwnS.up HO.out HZ.out, HL.out⟩
end Go.Proofs.YtdganemgldocoaaGreatDoor

namespace Go.Proofs.YtdganemgldocoaaGreatDoor
open Go.RowKit

theorem sizeSp : (Tryz.prog.info? 46).map (·.size) = some 10 := by kernel_rfl
theorem far_ten {w : World} {b q : Nat} {o : Obj} (h : w.heap[b]? = some o) (hne : b ≠ q) (v0 v1 v2 v3 v4 v5 v6 v7 v8 v9 : Value) : (setT w q v0 v1 v2 v3 v4 v5 v6 v7 v8 v9).heap[b]? = some o :=
  far_at (far_at (far_at (far_at (far_at (far_at (far_at (far_at (far_at (far_at h hne 0 v0) hne 1 v1) hne 2 v2) hne 3 v3) hne 4 v4) hne 5 v5) hne 6 v6) hne 7 v7) hne 8 v8) hne 9 v9
/-- small rows: what the laws compare -/
def smL (x : Sb) : Prop := x.hs.length ≤ 5001 ∧ (∀ l ∈ x.hs, l.length ≤ 5001) ∧ x.ws.length ≤ 5001 ∧ ∀ l ∈ x.ws, l.length ≤ 5001
set_option maxRecDepth 100000 in
set_option maxHeartbeats 16000000 in
theorem lOf19 (x : Sb) (hv wv : Value) (w : World) (hH : RRow w hv x.hs) (hW : RRow w wv x.ws) (hL : smL x) : Calls Tryz.prog 18 #[smA hv wv x] w fun e w' =>
    (∃ u1 u2, e = .returned (smA u1 u2 x) ∧ RRow w' u1 x.hs ∧ RRow w' u2 x.ws) ∧ w.grownBy w' none := by
  obtain ⟨ha, hc, rfl, -⟩ := hH.shape
  obtain ⟨wa, wc, rfl, -⟩ := hW.shape
  obtain ⟨k, ln, nm, hs, ws, fl, pr, rc, hd, cm⟩ := x
  simp only at hH hW ⊢
  have HH := Lib.hid hH; have HW := Lib.hid hW
  have CH := Lib.hid (fun W (g : w.grownBy W none) => lOfX _ hs W (HH.out.grown g) hL.1 hL.2.1)
  have CW := Lib.hid (fun W (g : w.grownBy W none) => lOfX _ ws W (HW.out.grown g) hL.2.2.1 hL.2.2.2)
  have HL := Lib.hid (show hs.length ≤ 5001 ∧ ws.length ≤ 5001 from ⟨hL.1, hL.2.2.1⟩)
  obtain ⟨B1, B2, G2⟩ := heap2 w (.cells #[.int .i64 k, .int .i64 ln, .string nm, .slice ha hs.length hc, .slice wa ws.length wc, .int .i64 fl, .string pr, .string rc, .bool hd, .bool cm] 46) (.cells #[.int .i64 0, .int .i64 0, .string ⟨#[]⟩, .slice none 0 0, .slice none 0 0, .int .i64 0, .string ⟨#[]⟩, .string ⟨#[]⟩, .bool false, .bool false] 52)
  have BS := Lib.hid B1; have BP := Lib.hid B2; have HG := Lib.hid G2
  clear B1 B2 G2 hH hW hL
  go_enter Tryz.func18, Tryz.ntmps18
  go_upto_region 1 with fail
  generalize (w.alloc _).alloc _ = w2 at BS BP HG ⊢
  obtain ⟨p, ep⟩ : ∃ p, w.heap.size + 1 = p := ⟨_, rfl⟩
  rw [ep] at BP ⊢
  obtain ⟨b, eb⟩ : ∃ b, w.heap.size = b := ⟨_, rfl⟩
  rw [eb] at BS ⊢
  have HPB := Lib.hid (show w.heap.size ≤ p ∧ w.heap.size ≤ b ∧ b ≠ p by omega)
  clear ep eb
  obtain ⟨q0, q1, q2, q3, q4, q5, q6, q7, q8, q9⟩ := ten_at BS.out
  have fp := free_at BP.out
  go_region_held3 (fun W => W.cell? ⟨b, 0, none⟩ = some (.int .i64 k) ∧ W.cell? ⟨b, 1, none⟩ = some (.int .i64 ln) ∧ W.cell? ⟨b, 2, none⟩ = some (.string nm) ∧ W.cell? ⟨b, 3, none⟩ = some (.slice ha hs.length hc) ∧ W.cell? ⟨b, 4, none⟩ = some (.slice wa ws.length wc) ∧
      W.cell? ⟨b, 5, none⟩ = some (.int .i64 fl) ∧ W.cell? ⟨b, 6, none⟩ = some (.string pr) ∧ W.cell? ⟨b, 7, none⟩ = some (.string rc) ∧ W.cell? ⟨b, 8, none⟩ = some (.bool hd) ∧ W.cell? ⟨b, 9, none⟩ = some (.bool cm))
    (first | with_reducible exact S7.out | with_reducible exact S6.out | with_reducible exact S5.out | exact ⟨q0, q1, q2, q3, q4, q5, q6, q7, q8, q9⟩)
    (first
      | (go_at_call 34; (with_reducible refine (CW.out _ G5h.out).mono ?_); rintro e w6 ⟨⟨u2, rfl, o2⟩, g6⟩; obtain ⟨xa2, xc2, rfl⟩ := OwnRR.shape o2; have G6h := Lib.hid (G5h.out.trans g6); have B6 := Lib.hid (kept_at g6 B5.out); have P6 := Lib.hid (kept_at g6 P5.out); have S6 := Lib.hid (ten_at B6.out); obtain ⟨p0, p1, p2, p3, p4, p5, p6, p7, p8, p9⟩ := ten_at P6.out; have fp6 := free_at P6.out; have S7 := Lib.hid (ten_at (far_ten B6.out HPB.out.2.2 (.int .i64 k) (.int .i64 ln) (.string nm) (.slice xa1 hs.length xc1) (.slice xa2 ws.length xc2) (.int .i64 fl) (.string pr) (.string rc) (.bool hd) (.bool cm))); have R1 := Lib.hid (OwnRR.keep R5h.out g6); have R2 := Lib.hid o2; clear g6 o2)
      | (go_at_call 34; (with_reducible refine (CH.out _ G5w.out).mono ?_); rintro e w6 ⟨⟨u1, rfl, o1⟩, g6⟩; obtain ⟨xa1, xc1, rfl⟩ := OwnRR.shape o1; have G6w := Lib.hid (G5w.out.trans g6); have B6 := Lib.hid (kept_at g6 B5.out); have P6 := Lib.hid (kept_at g6 P5.out); have S6 := Lib.hid (ten_at B6.out); obtain ⟨p0, p1, p2, p3, p4, p5, p6, p7, p8, p9⟩ := ten_at P6.out; have fp6 := free_at P6.out; have S7 := Lib.hid (ten_at (far_ten B6.out HPB.out.2.2 (.int .i64 k) (.int .i64 ln) (.string nm) (.slice xa1 hs.length xc1) (.slice xa2 ws.length xc2) (.int .i64 fl) (.string pr) (.string rc) (.bool hd) (.bool cm))); have R2 := Lib.hid (OwnRR.keep R5w.out g6); have R1 := Lib.hid o1; clear g6 o1)
      | (go_at_call 34; (with_reducible refine (CH.out _ (grown_drew HG.out)).mono ?_); rintro e w5 ⟨⟨u1, rfl, o1⟩, g5⟩; obtain ⟨xa1, xc1, rfl⟩ := OwnRR.shape o1; have G5h := Lib.hid ((grown_drew HG.out).trans g5); have B5 := Lib.hid (kept_at g5 (show w2.drew.heap[b]? = _ from BS.out)); have P5 := Lib.hid (kept_at g5 (show w2.drew.heap[p]? = _ from BP.out)); have S5 := Lib.hid (ten_at B5.out); have R5h := Lib.hid o1; clear g5 o1)
      | (go_at_call 34; (with_reducible refine (CW.out _ (grown_drew HG.out)).mono ?_); rintro e w5 ⟨⟨u2, rfl, o2⟩, g5⟩; obtain ⟨xa2, xc2, rfl⟩ := OwnRR.shape o2; have G5w := Lib.hid ((grown_drew HG.out).trans g5); have B5 := Lib.hid (kept_at g5 (show w2.drew.heap[b]? = _ from BS.out)); have P5 := Lib.hid (kept_at g5 (show w2.drew.heap[p]? = _ from BP.out)); have S5 := Lib.hid (ten_at B5.out); have R5w := Lib.hid o2; clear g5 o2))
  all_goals
    go_wp2
    refine bodyPost_ret (results_cell_row Tryz.results18 _ _ _ _ _ _ _ rfl (set_ten P6.out _ _ _ _ _ _ _ _ _ _) Tryz.underlying52 rfl sizeSm) rfl ?_
    exact ⟨⟨_, _, rfl, rr_row (OwnRR.setT R1.out P6.out (by decide) (by decide) _ _ _ _ _ _ _ _ _ _) (by show hs.length ≤ _; have := HL.out.1; omega), rr_row (OwnRR.setT R2.out P6.out (by decide) (by decide) _ _ _ _ _ _ _ _ _ _) (by show ws.length ≤ _; have := HL.out.2; omega)⟩,
      by first | exact grown_ten G6h.out HPB.out.1 _ _ _ _ _ _ _ _ _ _ | exact grown_ten G6w.out HPB.out.1 _ _ _ _ _ _ _ _ _ _⟩
theorem eqlAt (f g : Int) (p q : ByteArray) (w : World) : (binOp .eql 50 (atV f p) (atV g q)).run Tryz.prog w = .ok (.bool (f == g && p.toList == q.toList)) w := by
  have hS : Tryz.prog.underlying 50 = some (.struct (Tryz.prog.fieldsOf 50)) := by kernel_rfl
  have hp : Tryz.prog.stoodInHeld 50 = false := by kernel_rfl
  have u3 := Tryz.underlying3
  have a3 := Tryz.isAgg3
  have z3 := Tryz.sizeOf3
  have u9 := Tryz.underlying9
  have a9 := Tryz.isAgg9
  have z9 := Tryz.sizeOf9
  rw [run_eql_struct, show (10000 : Nat) = 9999 + 1 from rfl, run_equalIn_agg w 9999 _ _ _ hS hp]
  simp only [Program.fieldsOf, Tryz.underlying50]
  go_simp
  by_cases h1 : (f == g) = true <;> by_cases h2 : (p.toList == q.toList) = true <;> simp_all
theorem guardAt (op : BinOp) (x y : Operand) (xs ys : Array Value) (w : World) : (eqGuard op 50 x y (.agg xs) (.agg ys)).run Tryz.prog w = .ok () w := run_eqGuard_agg w op _ x y xs ys (by kernel_rfl)
theorem tl_eq (a b : ByteArray) : (a.toList == b.toList) = true ↔ a = b := by
  rw [beq_iff_eq, Lib.toList_data, Lib.toList_data]
  exact ⟨bytes_inj, fun h => by rw [h]⟩
/-- the comparisons of two statements ahead of their rows: the first that fails, or none -/
theorem sm_cases (x y : Sb) : ∃ b1 b2 b3 b4 b5 b6 b7 : Bool, (x.k == y.k) = b1 ∧ (x.ln == y.ln) = b2 ∧ (x.nm.toList == y.nm.toList) = b3 ∧ (((x.fl : Int) == (y.fl : Int)) && (x.pr.toList == y.pr.toList)) = b4 ∧ (x.rc.toList == y.rc.toList) = b5 ∧ (x.hd == y.hd) = b6 ∧ (x.cm == y.cm) = b7 ∧
    ((b1 && b2 && b3 && b4 && b5 && b6 && b7) = true → x.hs = y.hs → x.ws = y.ws → x = y) ∧ (x = y → (b1 && b2 && b3 && b4 && b5 && b6 && b7) = true) := by
  refine ⟨_, _, _, _, _, _, _, rfl, rfl, rfl, rfl, rfl, rfl, rfl, fun h hh hw => ?_, fun h => ?_⟩
  · simp only [Bool.and_eq_true, beq_iff_eq] at h
    obtain ⟨⟨⟨⟨⟨⟨h1, h2⟩, h3⟩, h4, h4'⟩, h5⟩, h6⟩, h7⟩ := h
    obtain ⟨k, ln, nm, hs, ws, fl, pr, rc, hd, cm⟩ := x
    obtain ⟨k', ln', nm', hs', ws', fl', pr', rc', hd', cm'⟩ := y
    simp only at h1 h2 h3 h4 h4' h5 h6 h7 hh hw
    have e3 := (tl_eq nm nm').1 (by rw [beq_iff_eq]; exact h3)
    have e4 := (tl_eq pr pr').1 (by rw [beq_iff_eq]; exact h4')
    have e5 := (tl_eq rc rc').1 (by rw [beq_iff_eq]; exact h5)
    have e6 : fl = fl' := by omega
    rw [h1, h2, e3, e4, e5, e6, h6, h7, hh, hw]
  · subst h; simp
set_option maxRecDepth 100000 in
set_option maxHeartbeats 16000000 in
theorem dSame19 (x y : Sb) (hv wv hu wu : Value) (w : World) (h1 : RRow w hv x.hs) (h2 : RRow w wv x.ws) (h3 : RRow w hu y.hs) (h4 : RRow w wu y.ws) : Calls Tryz.prog 13 #[smA hv wv x, smA hu wu y] w fun e w' =>
    (∃ z, e = .returned (.bool z) ∧ (z = true ↔ x = y)) ∧ w.grownBy w' none := by
  obtain ⟨ha, hc, rfl, -⟩ := h1.shape
  obtain ⟨wa, wc, rfl, -⟩ := h2.shape
  obtain ⟨ka, kc, rfl, -⟩ := h3.shape
  obtain ⟨va, vc, rfl, -⟩ := h4.shape
  have CH := Lib.hid (fun W (g : w.grownBy W none) => dSameX _ _ x.hs y.hs W (h1.grown g) (h3.grown g))
  have CW := Lib.hid (fun W (g : w.grownBy W none) => dSameX _ _ x.ws y.ws W (h2.grown g) (h4.grown g))
  obtain ⟨b1, b2, b3, b4, b5, b6, b7, e1, e2, e3, e4, e5, e6, e7, hyes, hno⟩ := sm_cases x y
  have HY := Lib.hid hyes; have HN := Lib.hid hno
  obtain ⟨B1, B2, G2⟩ := heap2 w (.cells #[.int .i64 x.k, .int .i64 x.ln, .string x.nm, .slice ha x.hs.length hc, .slice wa x.ws.length wc, .int .i64 x.fl, .string x.pr, .string x.rc, .bool x.hd, .bool x.cm] 52) (.cells #[.int .i64 y.k, .int .i64 y.ln, .string y.nm, .slice ka y.hs.length kc, .slice va y.ws.length vc, .int .i64 y.fl, .string y.pr, .string y.rc, .bool y.hd, .bool y.cm] 52)
  have BX := Lib.hid B1; have BY := Lib.hid B2; have HG := Lib.hid G2
  clear B1 B2 G2 h1 h2 h3 h4 hyes hno
  go_enter Tryz.func13, Tryz.ntmps13
  go_upto_region 1 with fail
  generalize (w.alloc _).alloc _ = w2 at BX BY HG ⊢
  obtain ⟨q, eq⟩ : ∃ q, w.heap.size + 1 = q := ⟨_, rfl⟩
  rw [eq] at BY ⊢
  obtain ⟨p, ep⟩ : ∃ p, w.heap.size = p := ⟨_, rfl⟩
  rw [ep] at BX ⊢
  clear eq ep
  obtain ⟨p0, p1, p2, p3, p4, p5, p6, p7, p8, p9⟩ := ten_at BX.out
  obtain ⟨q0, q1, q2, q3, q4, q5, q6, q7, q8, q9⟩ := ten_at BY.out
  have QA := eqlAt (x.fl : Int) (y.fl : Int) x.pr y.pr
  rw [e4] at QA
  clear e4
  cases b1 with
  | false =>
    go_wp2
    go_ret
    exact ⟨⟨false, rfl, ⟨fun h => (by cases h), fun h => by have := HN.out h; simp at this⟩⟩, HG.out⟩
  | true =>
    cases b2 with
    | false =>
      go_wp2
      go_ret
      exact ⟨⟨false, rfl, ⟨fun h => (by cases h), fun h => by have := HN.out h; simp at this⟩⟩, HG.out⟩
    | true =>
      cases b3 with
      | false =>
        go_wp2
        go_ret
        exact ⟨⟨false, rfl, ⟨fun h => (by cases h), fun h => by have := HN.out h; simp at this⟩⟩, HG.out⟩
      | true =>
        cases b4 with
        | false =>
          go_wp2
          go_ret
          exact ⟨⟨false, rfl, ⟨fun h => (by cases h), fun h => by have := HN.out h; simp at this⟩⟩, HG.out⟩
        | true =>
          cases b5 with
          | false =>
            go_wp2
            go_ret
            exact ⟨⟨false, rfl, ⟨fun h => (by cases h), fun h => by have := HN.out h; simp at this⟩⟩, HG.out⟩
          | true =>
            cases b6 with
            | false =>
              go_wp2
              go_ret
              exact ⟨⟨false, rfl, ⟨fun h => (by cases h), fun h => by have := HN.out h; simp at this⟩⟩, HG.out⟩
            | true =>
              cases b7 with
              | false =>
                go_wp2
                go_ret
                exact ⟨⟨false, rfl, ⟨fun h => (by cases h), fun h => by have := HN.out h; simp at this⟩⟩, HG.out⟩
              | true =>
                by_cases hh : x.hs = y.hs
                · have CH1 := Lib.hid (fun W g => (CH.out W g).mono (R' := fun e w' => e = .returned (.bool true) ∧ W.grownBy w' none) fun e w' ⟨⟨z, hz, hi⟩, g'⟩ => ⟨by rw [hz, hi.2 hh], g'⟩)
                  by_cases hw : x.ws = y.ws
                  · have CW1 := Lib.hid (fun W g => (CW.out W g).mono (R' := fun e w' => e = .returned (.bool true) ∧ W.grownBy w' none) fun e w' ⟨⟨z, hz, hi⟩, g'⟩ => ⟨by rw [hz, hi.2 hw], g'⟩)
                    have HE := Lib.hid (HY.out rfl hh hw)
                    clear hh hw CH CW
                    go_wp2_with (first
                      | (go_at_call 25; (with_reducible refine (CW1.out _ G5.out).mono ?_); rintro e w6 ⟨rfl, g6⟩; have G6 := Lib.hid (G5.out.trans g6); clear g6)
                      | (go_at_call 25; (with_reducible refine (CH1.out _ HG.out).mono ?_); rintro e w5 ⟨rfl, g5⟩; have G5 := Lib.hid (HG.out.trans g5); obtain ⟨c0, c1, c2, c3, c4, c5, c6, c7, c8, c9⟩ := ten_at (kept_at g5 BX.out); obtain ⟨d0, d1, d2, d3, d4, d5, d6, d7, d8, d9⟩ := ten_at (kept_at g5 BY.out); clear g5))
                    go_ret
                    exact ⟨⟨true, rfl, ⟨fun _ => HE.out, fun _ => rfl⟩⟩, G6.out⟩
                  · have CW1 := Lib.hid (fun W g => (CW.out W g).mono (R' := fun e w' => e = .returned (.bool false) ∧ W.grownBy w' none) fun e w' ⟨⟨z, hz, hi⟩, g'⟩ => ⟨by rw [hz]; cases z; rfl; exact absurd (hi.1 rfl) hw, g'⟩)
                    have HE := Lib.hid (show ¬ x = y from fun h => hw (by rw [h]))
                    clear hh hw CH CW
                    go_wp2_with (first
                      | (go_at_call 25; (with_reducible refine (CW1.out _ G5.out).mono ?_); rintro e w6 ⟨rfl, g6⟩; have G6 := Lib.hid (G5.out.trans g6); clear g6)
                      | (go_at_call 25; (with_reducible refine (CH1.out _ HG.out).mono ?_); rintro e w5 ⟨rfl, g5⟩; have G5 := Lib.hid (HG.out.trans g5); obtain ⟨c0, c1, c2, c3, c4, c5, c6, c7, c8, c9⟩ := ten_at (kept_at g5 BX.out); obtain ⟨d0, d1, d2, d3, d4, d5, d6, d7, d8, d9⟩ := ten_at (kept_at g5 BY.out); clear g5))
                    go_ret
                    exact ⟨⟨false, rfl, ⟨fun h => (by cases h), fun h => absurd h HE.out⟩⟩, G6.out⟩
                · have CH1 := Lib.hid (fun W g => (CH.out W g).mono (R' := fun e w' => e = .returned (.bool false) ∧ W.grownBy w' none) fun e w' ⟨⟨z, hz, hi⟩, g'⟩ => ⟨by rw [hz]; cases z; rfl; exact absurd (hi.1 rfl) hh, g'⟩)
                  have HE := Lib.hid (show ¬ x = y from fun h => hh (by rw [h]))
                  clear hh CH CW
                  go_wp2_with (go_at_call 25; (with_reducible refine (CH1.out _ HG.out).mono ?_); rintro e w5 ⟨rfl, g5⟩; have G5 := Lib.hid (HG.out.trans g5); clear g5)
                  go_ret
                  exact ⟨⟨false, rfl, ⟨fun h => (by cases h), fun h => absurd h HE.out⟩⟩, G5.out⟩
end Go.Proofs.YtdganemgldocoaaGreatDoor

namespace Go.Proofs.YtdganemgldocoaaGreatDoor
open Go.RowKit

def rowS (L : List (List Pq)) : Prop := L.length ≤ 4000 ∧ ∀ w ∈ L, w.length ≤ 4000
theorem wd_rows {l : List UInt8} {L : List (List Pq)} (h : wdQ [] [] l = .ok L) (hs : l.length ≤ 1000) : rowS L := by
  have h1 := wd_len l.length l [] [] L (Nat.le_refl _) h
  have e1 : (bkT []).length = 0 := rfl
  have e2 : potQ [] = 0 := rfl
  rw [e1, e2] at h1
  have hg := wd_good l.length l [] [] L (Nat.le_refl _) trivial (by simp) h
  have hb : ∀ M : List (List Pq), M.length ≤ (bkT M).length := fun M => by
    induction M with
    | nil => exact Nat.zero_le _
    | cons m M ih => unfold bkT at ih ⊢; rw [List.flatMap_cons, List.length_append, List.length_cons, List.length_cons]; omega
  refine ⟨by have := hb L; omega, fun w hw => ?_⟩
  have hle : (txW w).length ≤ (bkT L).length := by
    obtain ⟨L1, L2, rfl⟩ := List.append_of_mem hw
    unfold bkT
    rw [List.flatMap_append, List.flatMap_cons, List.length_append, List.length_append, List.length_cons]; omega
  obtain ⟨p1, p2⟩ := gd_pos (hg w hw).2.1
  omega
theorem rowS_nil : rowS [] := ⟨Nat.zero_le _, fun w h => by cases h⟩
theorem hid_len (l : List UInt8) : (hidS l).2.length ≤ l.length := by
  unfold hidS
  split
  · exact Nat.le_refl _
  · split
    · simp
    · exact Nat.le_refl _
theorem one_rows {l : List UInt8} {y : Sm} (h : oneS l = .ok y) (hs : l.length ≤ 1000) : rowS y.hs ∧ rowS y.ws := by
  have hi : ∀ {m : List UInt8}, m.length ≤ 1000 → incS m = .ok y → rowS y.hs ∧ rowS y.ws := fun {m} hl hm => by
    unfold incS at hm
    split at hm
    · split at hm
      · cases hm
      · cases hm; exact ⟨rowS_nil, rowS_nil⟩
    · split at hm
      · cases hm
      · rename_i L hj
        split at hm
        · cases hm
        · cases hm; exact ⟨rowS_nil, wd_rows hj hl⟩
  have ha : ∀ {a b : List UInt8}, b.length ≤ 1000 → asgS a b = .ok y → rowS y.hs ∧ rowS y.ws := fun {a b} hl hm => by
    unfold asgS at hm
    split at hm
    · cases hm
    · split at hm
      · cases hm
      · rename_i L hj; cases hm; exact ⟨rowS_nil, wd_rows hj (Nat.le_trans (hid_len b) hl)⟩
  have hr : ∀ {a b : List UInt8}, a.length ≤ 1000 → b.length ≤ 1000 → rulS a b = .ok y → rowS y.hs ∧ rowS y.ws := fun {a b} hl1 hl2 hm => by
    unfold rulS at hm
    split at hm
    · cases hm
    · rename_i H hj
      split at hm
      · cases hm
      · split at hm
        · cases hm
        · rename_i x hx
          split at hm
          · cases hm
          · rename_i L hL
            cases hm
            refine ⟨wd_rows hj hl1, wd_rows hL ?_⟩
            unfold atrS at hx
            split at hx
            · cases hx; exact hl2
            · split at hx
              · cases hx
              · split at hx
                · cases hx
                · cases hx
                  show ((b.dropWhile (· != 58)).drop 1).length ≤ 1000
                  have := (List.dropWhile_sublist (p := (· != (58 : UInt8))) (l := b)).length_le
                  rw [List.length_drop]; omega
  unfold oneS at h
  split at h
  · exact hi (by rw [List.length_drop]; omega) h
  · split at h
    · cases h
    · split at h
      · exact ha (by rw [List.length_drop]; omega) h
      · exact hr (by rw [List.length_take]; omega) (by rw [List.length_drop]; omega) h
theorem par_rows : ∀ (n : Nat) (L : List Li) (O S : List Sm), L.length ≤ n → (∀ x ∈ L, x.t.size ≤ 1000) → (∀ y ∈ O, rowS y.hs ∧ rowS y.ws) → parS O L = .ok S → ∀ y ∈ S, rowS y.hs ∧ rowS y.ws := by
  intro n
  induction n with
  | zero =>
    intro L O S hl hx hO h
    obtain rfl := List.eq_nil_of_length_eq_zero (Nat.le_zero.1 hl)
    rw [parS] at h
    cases h
    exact hO
  | succ n ih =>
    intro L O S hl hx hO h
    cases L with
    | nil => rw [parS] at h; cases h; exact hO
    | cons x r =>
      rw [List.length_cons] at hl
      have hx2 : ∀ y ∈ r, y.t.size ≤ 1000 := fun y hy => hx y (List.mem_cons_of_mem _ hy)
      rw [parS] at h
      split at h
      · split at h
        · exact ih r O S (by omega) hx2 hO h
        · cases h
      · split at h
        · exact ih r O S (by omega) hx2 hO h
        · split at h
          · cases h
          · rename_i s hs
            have hz : x.t.data.toList.length = x.t.size := by simp
            have h1 := one_rows hs (by have := hx x (List.mem_cons_self ..); omega)
            have snoc : ∀ y : Sm, rowS y.hs ∧ rowS y.ws → ∀ z ∈ O ++ [y], rowS z.hs ∧ rowS z.ws := fun y hy z hz => by
              rcases List.mem_append.1 hz with h | h
              · exact hO z h
              · rw [List.mem_singleton.1 h]; exact hy
            split at h
            · refine ih _ _ S ?_ ?_ ?_ h
              · have := (List.dropWhile_sublist (p := fun (y : Li) => y.r) (l := r)).length_le; omega
              · exact fun y hy => hx2 y ((List.dropWhile_sublist _).mem hy)
              · exact snoc _ h1
            · refine ih _ _ S (by omega) hx2 ?_ h
              exact snoc _ h1
theorem smL_of {x : Sb} (h : rowS x.q.hs ∧ rowS x.q.ws) : smL x := by
  have key : ∀ {M : List (List Pb)}, rowS (pcLL M) → M.length ≤ 5001 ∧ ∀ l ∈ M, l.length ≤ 5001 := fun {M} hM => by
    refine ⟨by have := hM.1; rw [List.length_map] at this; omega, fun l hl => ?_⟩
    have := hM.2 (pcL l) (List.mem_map_of_mem hl)
    rw [List.length_map] at this; omega
  obtain ⟨a, b⟩ := key h.1
  obtain ⟨c, d⟩ := key h.2
  exact ⟨a, b, c, d⟩
set_option maxRecDepth 100000 in
set_option maxHeartbeats 8000000 in
theorem lSameErr (A : Nat → Addr) (bad : Nat) (n : Int) (q : Nat) (a : Option Addr) (c : Nat) (w : World) (hE : LEnv A w) (h1 : 1 ≤ bad) (h2 : bad ≤ 18) (hF : FltAt w q n (errV A bad)) :
    Calls Tryz.prog 8 #[.slice a 0 c, fltV q, .slice none 0 0, .int .i64 bad, .int .i64 n] w fun e w' => e = .returned (.bool true) ∧ w.grownBy w' none := by
  have HE := Lib.hid hE
  have HF := Lib.hid hF
  have hne : ((bad : Int) != 0) = true := by simp; omega
  clear hE hF
  go_enter Tryz.func8, Tryz.ntmps8
  go_wp2_with (first
    | (go_at_call 16; refine (wpn_flt q n _ _ HE.out.2 HF.out).mono ?_; rintro e w1 ⟨rfl, g1⟩; have G1 := Lib.hid g1; clear g1)
    | (go_at_call 17; refine (lNumF A bad h1 h2 q n _ (HE.out.grown G1.out).1 (HF.out.grown G1.out)).mono ?_; rintro e w2 ⟨rfl, g2⟩; have G2 := Lib.hid (G1.out.trans g2); clear g2))
  go_loopw [13, 14, 44] (fun _ _ i_ wr => i_ = .int .i64 0 ∧ Hid (w.grownBy wr none)) (fun _ _ _ _ => 0)
  case atStart => exact ⟨rfl, G2⟩
  case round =>
    obtain ⟨rfl, hG⟩ := hrel
    go_wp2
    go_ret
    exact ⟨rfl, hG.out⟩
set_option maxRecDepth 100000 in
set_option maxHeartbeats 16000000 in
theorem lSameOk (L : List Sb) (v1 v2 : Value) (w : World) (h1 : SRow w v1 L) (h2 : SRow w v2 L) (hs : ∀ x ∈ L, smL x) :
    Calls Tryz.prog 8 #[v1, .nilIface, v2, .int .i64 0, .int .i64 0] w fun e w' => e = .returned (.bool true) ∧ w.grownBy w' none := by
  obtain ⟨va, vc, rfl, hm⟩ := h1.shape
  obtain ⟨ua, uc, rfl, -⟩ := h2.shape
  have H1 := Lib.hid h1; have H2 := Lib.hid h2; have HS := Lib.hid hs
  clear h1 h2 hs
  go_enter Tryz.func8, Tryz.ntmps8
  go_wp2_with (first
    | (go_at_call 16; refine (wpn_nil _).mono ?_; rintro e w1 ⟨rfl, g1⟩; have G1 := Lib.hid g1; clear g1)
    | (go_at_call 17; refine (lNum0 _).mono ?_; rintro e w2 ⟨rfl, g2⟩; have G2 := Lib.hid (G1.out.trans g2); clear g2))
  go_loopw [13, 14, 44] (fun _ _ i_ wr => ∃ i : Nat, i ≤ L.length ∧ i_ = .int .i64 i ∧ Hid (w.grownBy wr none)) (fun _ _ i_ _ => L.length - (intOf i_).toNat)
  case atStart => exact ⟨0, Nat.zero_le _, rfl, G2⟩
  case round =>
    obtain ⟨i, hi, rfl, hG⟩ := hrel
    by_cases hlt : i < L.length
    · obtain ⟨b, off, c, x, hv, wv, ev, hx, hb, hc, hrh, hrw⟩ := (H1.out.grown hG.out).at i hlt
      obtain ⟨b2, off2, c2, x2, hu, wu, ev2, hx2, hb2, hc2, hrh2, hrw2⟩ := (H2.out.grown hG.out).at i hlt
      obtain rfl : x2 = x := Option.some.inj (hx2.symm.trans hx)
      injection ev with k1 k2 k3
      subst k1 k3
      injection ev2 with k4 k5 k6
      subst k4 k6
      obtain ⟨ha, hac, rfl, -⟩ := hrh.shape
      obtain ⟨wa, wac, rfl, -⟩ := hrw.shape
      obtain ⟨ka, kac, rfl, -⟩ := hrh2.shape
      obtain ⟨la, lac, rfl, -⟩ := hrw2.shape
      have hL := HS.out x2 (List.mem_of_getElem? hx)
      have c0 := hc 0 _ rfl; have c1 := hc 1 _ rfl; have c2' := hc 2 _ rfl; have c3 := hc 3 _ rfl; have c4 := hc 4 _ rfl; have c5 := hc 5 _ rfl; have c6 := hc 6 _ rfl; have c7 := hc 7 _ rfl; have c8 := hc 8 _ rfl; have c9 := hc 9 _ rfl
      rw [Nat.add_zero] at c0
      have HD := Lib.hid hc2
      have CO := Lib.hid (fun W (g : wr.grownBy W none) => lOf19 x2 _ _ W (hrh.grown g) (hrw.grown g) hL)
      have R3 := Lib.hid hrh2; have R4 := Lib.hid hrw2
      have CS := Lib.hid (fun W (r : Value × Value) (g : wr.grownBy W none) (r1 : RRow W r.1 x2.hs) (r2 : RRow W r.2 x2.ws) => show Calls Tryz.prog 13 #[smA r.1 r.2 x2, smA (.slice ka x2.hs.length kac) (.slice la x2.ws.length lac) x2] W fun e w' => e = .returned (.bool true) ∧ W.grownBy w' none from
        (dSame19 x2 x2 r.1 r.2 _ _ W r1 r2 (R3.out.grown g) (R4.out.grown g)).mono fun e w' ⟨⟨z, hz, hi⟩, g'⟩ => ⟨by rw [hz, hi.2 rfl], g'⟩)
      have ga := World.grownBy_alloc wr (.cells #[.int .i64 x2.k, .int .i64 x2.ln, .string x2.nm, .slice ha x2.hs.length hac, .slice wa x2.ws.length wac, .int .i64 x2.fl, .string x2.pr, .string x2.rc, .bool x2.hd, .bool x2.cm] 46) none
      have BS := Lib.hid (heap_alloc_new wr (.cells #[.int .i64 x2.k, .int .i64 x2.ln, .string x2.nm, .slice ha x2.hs.length hac, .slice wa x2.ws.length wac, .int .i64 x2.fl, .string x2.pr, .string x2.rc, .bool x2.hd, .bool x2.cm] 46))
      have GA := Lib.hid ga
      have HDC := Lib.hid (fun W (g : wr.grownBy W none) => show W.cell? ⟨b2, off2 + i * 10, none⟩ = some (.int .i64 x2.k) ∧ W.cell? ⟨b2, off2 + i * 10 + 1, none⟩ = some (.int .i64 x2.ln) ∧ W.cell? ⟨b2, off2 + i * 10 + 2, none⟩ = some (.string x2.nm) ∧ W.cell? ⟨b2, off2 + i * 10 + 3, none⟩ = some (.slice ka x2.hs.length kac) ∧ W.cell? ⟨b2, off2 + i * 10 + 4, none⟩ = some (.slice la x2.ws.length lac) ∧ W.cell? ⟨b2, off2 + i * 10 + 5, none⟩ = some (.int .i64 x2.fl) ∧ W.cell? ⟨b2, off2 + i * 10 + 6, none⟩ = some (.string x2.pr) ∧ W.cell? ⟨b2, off2 + i * 10 + 7, none⟩ = some (.string x2.rc) ∧ W.cell? ⟨b2, off2 + i * 10 + 8, none⟩ = some (.bool x2.hd) ∧ W.cell? ⟨b2, off2 + i * 10 + 9, none⟩ = some (.bool x2.cm) from
        ⟨by have := g.cell (HD.out 0 _ rfl) (by simp); rwa [Nat.add_zero] at this, g.cell (HD.out 1 _ rfl) (by simp), g.cell (HD.out 2 _ rfl) (by simp), g.cell (HD.out 3 _ rfl) (by simp), g.cell (HD.out 4 _ rfl) (by simp), g.cell (HD.out 5 _ rfl) (by simp), g.cell (HD.out 6 _ rfl) (by simp), g.cell (HD.out 7 _ rfl) (by simp), g.cell (HD.out 8 _ rfl) (by simp), g.cell (HD.out 9 _ rfl) (by simp)⟩)
      have GF := Lib.hid hG.out
      clear hx hx2 hrh hrw hrh2 hrw2 hc hc2 hb hb2 hL ga hG
      go_upto_region 7 with fail
      generalize wr.alloc _ = w4 at BS GA ⊢
      obtain ⟨sb, esb⟩ : ∃ sb, wr.heap.size = sb := ⟨_, rfl⟩
      rw [esb] at BS ⊢
      clear esb c0 c1 c2' c3 c4 c5 c6 c7 c8 c9
      have S0 := Lib.hid (show (w4.drew.cell? ⟨sb, 0, none⟩ = some (.int .i64 x2.k) ∧ w4.drew.cell? ⟨sb, 1, none⟩ = some (.int .i64 x2.ln) ∧ w4.drew.cell? ⟨sb, 2, none⟩ = some (.string x2.nm) ∧ w4.drew.cell? ⟨sb, 3, none⟩ = some (.slice ha x2.hs.length hac) ∧ w4.drew.cell? ⟨sb, 4, none⟩ = some (.slice wa x2.ws.length wac) ∧ w4.drew.cell? ⟨sb, 5, none⟩ = some (.int .i64 x2.fl) ∧ w4.drew.cell? ⟨sb, 6, none⟩ = some (.string x2.pr) ∧ w4.drew.cell? ⟨sb, 7, none⟩ = some (.string x2.rc) ∧ w4.drew.cell? ⟨sb, 8, none⟩ = some (.bool x2.hd) ∧ w4.drew.cell? ⟨sb, 9, none⟩ = some (.bool x2.cm)) ∧ w4.drew.cell? ⟨b2, off2 + i * 10, none⟩ = some (.int .i64 x2.k) ∧ w4.drew.cell? ⟨b2, off2 + i * 10 + 1, none⟩ = some (.int .i64 x2.ln) ∧ w4.drew.cell? ⟨b2, off2 + i * 10 + 2, none⟩ = some (.string x2.nm) ∧ w4.drew.cell? ⟨b2, off2 + i * 10 + 3, none⟩ = some (.slice ka x2.hs.length kac) ∧ w4.drew.cell? ⟨b2, off2 + i * 10 + 4, none⟩ = some (.slice la x2.ws.length lac) ∧ w4.drew.cell? ⟨b2, off2 + i * 10 + 5, none⟩ = some (.int .i64 x2.fl) ∧ w4.drew.cell? ⟨b2, off2 + i * 10 + 6, none⟩ = some (.string x2.pr) ∧ w4.drew.cell? ⟨b2, off2 + i * 10 + 7, none⟩ = some (.string x2.rc) ∧ w4.drew.cell? ⟨b2, off2 + i * 10 + 8, none⟩ = some (.bool x2.hd) ∧ w4.drew.cell? ⟨b2, off2 + i * 10 + 9, none⟩ = some (.bool x2.cm) from ⟨ten_at (show w4.drew.heap[sb]? = _ from BS.out), HDC.out _ (grown_drew GA.out)⟩)
      obtain ⟨⟨p0, p1, p2, p3, p4, p5, p6, p7, p8, p9⟩, q0, q1, q2, q3, q4, q5, q6, q7, q8, q9⟩ := (show (w4.cell? ⟨sb, 0, none⟩ = some (.int .i64 x2.k) ∧ w4.cell? ⟨sb, 1, none⟩ = some (.int .i64 x2.ln) ∧ w4.cell? ⟨sb, 2, none⟩ = some (.string x2.nm) ∧ w4.cell? ⟨sb, 3, none⟩ = some (.slice ha x2.hs.length hac) ∧ w4.cell? ⟨sb, 4, none⟩ = some (.slice wa x2.ws.length wac) ∧ w4.cell? ⟨sb, 5, none⟩ = some (.int .i64 x2.fl) ∧ w4.cell? ⟨sb, 6, none⟩ = some (.string x2.pr) ∧ w4.cell? ⟨sb, 7, none⟩ = some (.string x2.rc) ∧ w4.cell? ⟨sb, 8, none⟩ = some (.bool x2.hd) ∧ w4.cell? ⟨sb, 9, none⟩ = some (.bool x2.cm)) ∧ w4.cell? ⟨b2, off2 + i * 10, none⟩ = some (.int .i64 x2.k) ∧ w4.cell? ⟨b2, off2 + i * 10 + 1, none⟩ = some (.int .i64 x2.ln) ∧ w4.cell? ⟨b2, off2 + i * 10 + 2, none⟩ = some (.string x2.nm) ∧ w4.cell? ⟨b2, off2 + i * 10 + 3, none⟩ = some (.slice ka x2.hs.length kac) ∧ w4.cell? ⟨b2, off2 + i * 10 + 4, none⟩ = some (.slice la x2.ws.length lac) ∧ w4.cell? ⟨b2, off2 + i * 10 + 5, none⟩ = some (.int .i64 x2.fl) ∧ w4.cell? ⟨b2, off2 + i * 10 + 6, none⟩ = some (.string x2.pr) ∧ w4.cell? ⟨b2, off2 + i * 10 + 7, none⟩ = some (.string x2.rc) ∧ w4.cell? ⟨b2, off2 + i * 10 + 8, none⟩ = some (.bool x2.hd) ∧ w4.cell? ⟨b2, off2 + i * 10 + 9, none⟩ = some (.bool x2.cm) from ⟨ten_at BS.out, HDC.out _ GA.out⟩)
      go_region_held3 (fun W => (W.cell? ⟨sb, 0, none⟩ = some (.int .i64 x2.k) ∧ W.cell? ⟨sb, 1, none⟩ = some (.int .i64 x2.ln) ∧ W.cell? ⟨sb, 2, none⟩ = some (.string x2.nm) ∧ W.cell? ⟨sb, 3, none⟩ = some (.slice ha x2.hs.length hac) ∧ W.cell? ⟨sb, 4, none⟩ = some (.slice wa x2.ws.length wac) ∧ W.cell? ⟨sb, 5, none⟩ = some (.int .i64 x2.fl) ∧ W.cell? ⟨sb, 6, none⟩ = some (.string x2.pr) ∧ W.cell? ⟨sb, 7, none⟩ = some (.string x2.rc) ∧ W.cell? ⟨sb, 8, none⟩ = some (.bool x2.hd) ∧ W.cell? ⟨sb, 9, none⟩ = some (.bool x2.cm)) ∧ W.cell? ⟨b2, off2 + i * 10, none⟩ = some (.int .i64 x2.k) ∧ W.cell? ⟨b2, off2 + i * 10 + 1, none⟩ = some (.int .i64 x2.ln) ∧ W.cell? ⟨b2, off2 + i * 10 + 2, none⟩ = some (.string x2.nm) ∧ W.cell? ⟨b2, off2 + i * 10 + 3, none⟩ = some (.slice ka x2.hs.length kac) ∧ W.cell? ⟨b2, off2 + i * 10 + 4, none⟩ = some (.slice la x2.ws.length lac) ∧ W.cell? ⟨b2, off2 + i * 10 + 5, none⟩ = some (.int .i64 x2.fl) ∧ W.cell? ⟨b2, off2 + i * 10 + 6, none⟩ = some (.string x2.pr) ∧ W.cell? ⟨b2, off2 + i * 10 + 7, none⟩ = some (.string x2.rc) ∧ W.cell? ⟨b2, off2 + i * 10 + 8, none⟩ = some (.bool x2.hd) ∧ W.cell? ⟨b2, off2 + i * 10 + 9, none⟩ = some (.bool x2.cm))
        (first | with_reducible exact S6.out | with_reducible exact S5.out | exact S0.out)
        (first
          | (go_at_call 13; (with_reducible refine (CS.out _ (_, _) G5.out r1 r2).mono ?_); rintro e w6 ⟨rfl, g6⟩; have G6 := Lib.hid (G5.out.trans g6); have S6 := Lib.hid (show (w6.cell? ⟨sb, 0, none⟩ = some (.int .i64 x2.k) ∧ w6.cell? ⟨sb, 1, none⟩ = some (.int .i64 x2.ln) ∧ w6.cell? ⟨sb, 2, none⟩ = some (.string x2.nm) ∧ w6.cell? ⟨sb, 3, none⟩ = some (.slice ha x2.hs.length hac) ∧ w6.cell? ⟨sb, 4, none⟩ = some (.slice wa x2.ws.length wac) ∧ w6.cell? ⟨sb, 5, none⟩ = some (.int .i64 x2.fl) ∧ w6.cell? ⟨sb, 6, none⟩ = some (.string x2.pr) ∧ w6.cell? ⟨sb, 7, none⟩ = some (.string x2.rc) ∧ w6.cell? ⟨sb, 8, none⟩ = some (.bool x2.hd) ∧ w6.cell? ⟨sb, 9, none⟩ = some (.bool x2.cm)) ∧ w6.cell? ⟨b2, off2 + i * 10, none⟩ = some (.int .i64 x2.k) ∧ w6.cell? ⟨b2, off2 + i * 10 + 1, none⟩ = some (.int .i64 x2.ln) ∧ w6.cell? ⟨b2, off2 + i * 10 + 2, none⟩ = some (.string x2.nm) ∧ w6.cell? ⟨b2, off2 + i * 10 + 3, none⟩ = some (.slice ka x2.hs.length kac) ∧ w6.cell? ⟨b2, off2 + i * 10 + 4, none⟩ = some (.slice la x2.ws.length lac) ∧ w6.cell? ⟨b2, off2 + i * 10 + 5, none⟩ = some (.int .i64 x2.fl) ∧ w6.cell? ⟨b2, off2 + i * 10 + 6, none⟩ = some (.string x2.pr) ∧ w6.cell? ⟨b2, off2 + i * 10 + 7, none⟩ = some (.string x2.rc) ∧ w6.cell? ⟨b2, off2 + i * 10 + 8, none⟩ = some (.bool x2.hd) ∧ w6.cell? ⟨b2, off2 + i * 10 + 9, none⟩ = some (.bool x2.cm) from ⟨ten_at (kept_at g6 B5.out), HDC.out _ G6.out⟩); clear g6)
          | (go_at_call 18; (with_reducible refine (CO.out _ (grown_drew GA.out)).mono ?_); rintro e w5 ⟨⟨u1, u2, rfl, r1, r2⟩, g5⟩; obtain ⟨ya, yc, rfl, -⟩ := r1.shape; obtain ⟨za, zc, rfl, -⟩ := r2.shape; have G5 := Lib.hid ((grown_drew GA.out).trans g5); have B5 := Lib.hid (kept_at g5 (show w4.drew.heap[sb]? = _ from BS.out)); have S5 := Lib.hid (show (w5.cell? ⟨sb, 0, none⟩ = some (.int .i64 x2.k) ∧ w5.cell? ⟨sb, 1, none⟩ = some (.int .i64 x2.ln) ∧ w5.cell? ⟨sb, 2, none⟩ = some (.string x2.nm) ∧ w5.cell? ⟨sb, 3, none⟩ = some (.slice ha x2.hs.length hac) ∧ w5.cell? ⟨sb, 4, none⟩ = some (.slice wa x2.ws.length wac) ∧ w5.cell? ⟨sb, 5, none⟩ = some (.int .i64 x2.fl) ∧ w5.cell? ⟨sb, 6, none⟩ = some (.string x2.pr) ∧ w5.cell? ⟨sb, 7, none⟩ = some (.string x2.rc) ∧ w5.cell? ⟨sb, 8, none⟩ = some (.bool x2.hd) ∧ w5.cell? ⟨sb, 9, none⟩ = some (.bool x2.cm)) ∧ w5.cell? ⟨b2, off2 + i * 10, none⟩ = some (.int .i64 x2.k) ∧ w5.cell? ⟨b2, off2 + i * 10 + 1, none⟩ = some (.int .i64 x2.ln) ∧ w5.cell? ⟨b2, off2 + i * 10 + 2, none⟩ = some (.string x2.nm) ∧ w5.cell? ⟨b2, off2 + i * 10 + 3, none⟩ = some (.slice ka x2.hs.length kac) ∧ w5.cell? ⟨b2, off2 + i * 10 + 4, none⟩ = some (.slice la x2.ws.length lac) ∧ w5.cell? ⟨b2, off2 + i * 10 + 5, none⟩ = some (.int .i64 x2.fl) ∧ w5.cell? ⟨b2, off2 + i * 10 + 6, none⟩ = some (.string x2.pr) ∧ w5.cell? ⟨b2, off2 + i * 10 + 7, none⟩ = some (.string x2.rc) ∧ w5.cell? ⟨b2, off2 + i * 10 + 8, none⟩ = some (.bool x2.hd) ∧ w5.cell? ⟨b2, off2 + i * 10 + 9, none⟩ = some (.bool x2.cm) from ⟨ten_at B5.out, HDC.out _ G5.out⟩); clear g5))
      all_goals
        have GZ := Lib.hid (GF.out.trans G6.out)
        go_wp2
        go_roundw
        case rel => exact ⟨i + 1, by omega, by go_num, GZ⟩
        case measure => simp [intOf]; omega
    · go_wp2
      go_ret
      exact ⟨rfl, hG.out⟩
end Go.Proofs.YtdganemgldocoaaGreatDoor

namespace Go.Proofs.YtdganemgldocoaaGreatDoor
open Go.RowKit

/-- statements, or none and a fault -/
def PSmO (R : Except (Nat × Int) (List Sm)) (A : Nat → Addr) (w : World) (e : Ending) (w' : World) : Prop :=
  w.grownBy w' none ∧ match R with
    | .ok S => ∃ v L, e = .returned (.tuple #[v, .nilIface]) ∧ SRow w' v L ∧ smQ L = S
    | .error x => ∃ a c q, e = .returned (.tuple #[.slice a 0 c, fltV q]) ∧ FltAt w' q x.2 (errV A x.1)
def wordS (k : Int) : ByteArray := if k = 1 then ⟨#[97, 115, 115, 105, 103, 110]⟩ else if k = 2 then ⟨#[114, 117, 108, 101]⟩ else if k = 3 then ⟨#[105, 110, 99, 108, 117, 100, 101]⟩ else ⟨#[]⟩
/-- what the laws are told of package stmt, where E holds -/
structure SmC (A : Nat → Addr) (E : World → Prop) : Prop where
  gr : ∀ w w' : World, E w → w.grownBy w' none → E w'
  of : ∀ (s : ByteArray) (w : World), E w → s.size ≤ 5000 → Calls Tryz.prog 6 #[.string s] w (PSmO (ofS s.data.toList) A w)
  same : ∀ (x y : Sb) (hv wv hu wu : Value) (w : World), E w → RRow w hv x.hs → RRow w wv x.ws → RRow w hu y.hs → RRow w wu y.ws → Calls Tryz.prog 12 #[smA hv wv x, smA hu wu y] w fun e w' => (∃ z, e = .returned (.bool z) ∧ (z = true ↔ x = y)) ∧ w.grownBy w' none
theorem par_bad : ∀ (n : Nat) (L : List Li) (O : List Sm) (x : Nat × Int), L.length ≤ n → parS O L = .error x → 1 ≤ x.1 ∧ x.1 ≤ 18 := by
  intro n
  induction n with
  | zero =>
    intro L O x hl h
    obtain rfl := List.eq_nil_of_length_eq_zero (Nat.le_zero.1 hl)
    rw [parS] at h; cases h
  | succ n ih =>
    intro L O x hl h
    cases L with
    | nil => rw [parS] at h; cases h
    | cons y r =>
      rw [List.length_cons] at hl
      rw [parS] at h
      split at h
      · split at h
        · exact ih r O x (by omega) h
        · cases h; simp
      · split at h
        · exact ih r O x (by omega) h
        · split at h
          · rename_i k hk; cases h; have := one_bad hk; exact ⟨by show 1 ≤ k; omega, this.2⟩
          · split at h
            · exact ih _ _ x (by have := (List.dropWhile_sublist (p := fun (z : Li) => z.r) (l := r)).length_le; omega) h
            · exact ih _ _ x (by omega) h
theorem of_bad {l : List UInt8} {x : Nat × Int} (h : ofS l = .error x) : 1 ≤ x.1 ∧ x.1 ≤ 18 := by
  unfold ofS at h
  split at h
  · rename_i y hy
    cases h
    have := spL_bad (bad := y.1) (line := y.2) hy
    show 1 ≤ y.1 ∧ y.1 ≤ 18
    omega
  · exact par_bad _ _ _ _ (Nat.le_refl _) h
theorem of_rows {l : List UInt8} {S : List Sm} (h : ofS l = .ok S) : ∀ y ∈ S, rowS y.hs ∧ rowS y.ws := by
  unfold ofS at h
  split at h
  · cases h
  · rename_i L hL
    refine par_rows _ _ _ _ (Nat.le_refl _) (fun x hx => ?_) (fun y hy => by cases hy) h
    obtain ⟨y, hy, rfl⟩ := List.mem_map.1 hx
    have h1 := (spL_small hL).2 y hy
    show (⟨y.text.toArray⟩ : ByteArray).size ≤ 1000
    have h2 : (⟨y.text.toArray⟩ : ByteArray).size = y.text.length := by simp [ByteArray.size]
    omega
end Go.Proofs.YtdganemgldocoaaGreatDoor

namespace Go.Proofs.YtdganemgldocoaaGreatDoor
open Go.RowKit

abbrev liC (x : Li) : List Value := [.string x.t, .int .i64 x.n, .bool x.r]
def liV (O : List Li) : List Value := O.flatMap liC
theorem liV_snoc (O : List Li) (x : Li) : liV (O ++ [x]) = liV O ++ [.string x.t, .int .i64 x.n, .bool x.r] := by unfold liV; rw [List.flatMap_append]; rfl
theorem liV_get : ∀ {O : List Li} {j : Nat} {x : Li}, O[j]? = some x → (liV O)[j * 3]? = some (.string x.t) ∧ (liV O)[j * 3 + 1]? = some (.int .i64 x.n) ∧ (liV O)[j * 3 + 2]? = some (.bool x.r)
  | [], j, x, h => by simp at h
  | a :: O, 0, x, h => by
    obtain rfl : a = x := by simpa using h
    exact ⟨rfl, rfl, rfl⟩
  | a :: O, j + 1, x, h => by
    obtain ⟨h1, h2, h3⟩ := liV_get (O := O) (j := j) (x := x) (by simpa using h)
    have e : liV (a :: O) = .string a.t :: .int .i64 a.n :: .bool a.r :: liV O := rfl
    rw [e, show (j + 1) * 3 = j * 3 + 1 + 1 + 1 by omega]
    exact ⟨by simpa using h1, by simpa using h2, by simpa using h3⟩
theorem li_one (x : Li) : ∀ u ∈ liC x, u.oneCell' = true := by
  intro u hu; simp at hu; rcases hu with rfl | rfl | rfl <;> rfl
theorem li_new (w : World) (x : Li) (T : TypeId) (m : Nat) (hm : m = w.heap.size) : ∀ j u, ([.string x.t, .int .i64 x.n, .bool x.r] : List Value)[j]? = some u → (w.alloc (.cells #[.string x.t, .int .i64 x.n, .bool x.r] T)).cell? ((⟨m, 0, none⟩ : Addr).add j) = some u := by
  subst hm
  exact World.news_of_block (cs := #[.string x.t, .int .i64 x.n, .bool x.r]) (t := T) (fr := (0, 0)) (heap_alloc_new w _)
theorem li_row {w : World} {base : Nat} {e : TypeId} {v : Value} {O : List Li} {n : Nat} (h : w.ownsRow base e 3 v n (liV O)) (hn : n = O.length) (hm : n ≤ 9223372036854775807) : LiRow w v O := by
  subst hn
  rcases h.2 with ⟨rfl, h0⟩ | ⟨g, cap, cur, rfl, hb, hg, h1, h2, h3, h4⟩
  · exact ⟨none, 0, by rw [h0], hm, fun hne => absurd (List.eq_nil_of_length_eq_zero h0) hne⟩
  · refine ⟨_, cap, rfl, hm, fun _ => ⟨g, 0, rfl, (Array.getElem?_eq_some_iff.1 hg).1, fun j m hj => ?_⟩⟩
    obtain ⟨g1, g2, g3⟩ := liV_get hj
    have k1 := h.cells (g := g) rfl _ _ g1
    have k2 := h.cells (g := g) rfl _ _ g2
    have k3 := h.cells (g := g) rfl _ _ g3
    rw [Addr.add_lit] at k1 k2 k3
    exact ⟨k1, k2, k3⟩
theorem li_zero (w : World) (T : TypeId) (base : Nat) (hb : base ≤ w.heap.size) : (w.alloc (.cells #[] T)).ownsRow base T 3 (.slice (some ⟨w.heap.size, 0, none⟩) 0 0) 0 (liV []) :=
  ⟨rfl, .inr ⟨w.heap.size, 0, _, rfl, hb, heap_alloc_new w _, Nat.le_refl _, by decide, rfl, rfl⟩⟩
theorem word_cases (k : Int) : (1 ≤ k ∧ k ≤ 3 ∧ (k = 1 ∨ k = 2 ∨ k = 3)) ∨ ((k < 1 ∨ 3 < k) ∧ wordS k = ⟨#[]⟩) := by
  by_cases h : 1 ≤ k ∧ k ≤ 3
  · exact .inl ⟨h.1, h.2, by omega⟩
  · refine .inr ⟨by omega, ?_⟩
    unfold wordS
    rw [if_neg (by omega), if_neg (by omega), if_neg (by omega)]
end Go.Proofs.YtdganemgldocoaaGreatDoor
