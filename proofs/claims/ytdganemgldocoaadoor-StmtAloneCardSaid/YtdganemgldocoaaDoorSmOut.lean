/- The document's own statements of a text; small rows; what the laws of layer 19 are told of package stmt. What the laws of layer 19 say a program's statement is of the document's: Of; two statements of the document's side by side. Statements' rows are small; statements side by side with the document's, as the laws of layer 19 compare them. What package stmt's functions answer, as the laws of layer 19 are told of it. Lines that a law makes of those that came in. -/
import Derived.Test.YtdganemgldocoaaDoorSmDoc
import Derived.Test.YtdganemgldocoaaDoorLnWhere
import Derived.Test.YtdganemgldocoaaDoorLxOf
import Derived.Laws.StructEq
namespace Go.Proofs.YtdganemgldocoaaDoor
open Go.RowKit

theorem spA_small : ∀ (r : List (List UInt8)) (o : Nat) (h : List UInt8) (O : List Lq) (k : Nat) (L : List Lq), (∀ x ∈ O, x.text.length ≤ 400) → spA o h O k r = .ok L → ∀ x ∈ L, x.text.length ≤ 400
  | [], o, h, O, k, L, hO, hs => by rw [spA] at hs; cases hs; exact hO
  | s :: r, o, h, O, k, L, hO, hs => by
    have snoc : ∀ y : Lq, y.text.length ≤ 400 → ∀ x ∈ O ++ [y], x.text.length ≤ 400 := fun y hy x hx => by
      rcases List.mem_append.1 hx with h | h
      · exact hO x h
      · rw [List.mem_singleton.1 h]; exact hy
    rw [spA] at hs
    split at hs
    · split at hs
      · cases hs
      · exact spA_small r _ _ _ _ _ (snoc _ (by show s.tail.length ≤ 400; rw [List.length_tail]; omega)) hs
    · split at hs
      · cases hs
      · exact spA_small r _ _ _ _ _ hO hs
      · split at hs
        · cases hs
        · rename_i hh
          exact spA_small r _ _ _ _ _ (snoc _ (Nat.le_of_not_lt hh)) hs
theorem spL_small {l : List UInt8} {L : List Lq} (h : spL l = .ok L) : l.length ≤ 4000 ∧ ∀ x ∈ L, x.text.length ≤ 400 := by
  unfold spL at h
  split at h
  · cases h
  · exact ⟨by omega, spA_small _ _ _ _ _ _ (fun x hx => by cases hx) h⟩
def Lq.i (x : Lq) : Li := ⟨⟨x.text.toArray⟩, x.num, x.rcp⟩
theorem lb_qi (x : Lb) : x.q.i = x.i := by
  unfold Lb.q Lq.i Lb.i
  simp
/-- a text's statements -/
def ofS (l : List UInt8) : Except (Nat × Int) (List Sm) :=
  match spL l with
  | .error x => .error (x.1, (x.2 : Int))
  | .ok L => parS [] (L.map Lq.i)
theorem rcp_small {O : List Li} {n : Nat} (h : ∀ x ∈ O, x.t.size ≤ n) : (rcpS O).length ≤ (n + 1) * O.length := by
  induction O with
  | nil => simp [rcpS]
  | cons x O ih =>
    have h1 := ih (fun y hy => h y (List.mem_cons_of_mem _ hy))
    have h2 := h x (List.mem_cons_self ..)
    have h3 : (rcpS (x :: O)).length = x.t.size + 1 + (rcpS O).length := by unfold rcpS; simp; omega
    rw [h3, List.length_cons, Nat.mul_add, Nat.mul_one]
    omega
theorem lis_of {O : List Lb} {l : List UInt8} {L : List Lq} (h : spL l = .ok L) (hO : lnQ O = L) (hl : O.length ≤ l.length) : LiS (O.map Lb.i) := by
  obtain ⟨h1, h2⟩ := spL_small h
  have hx : ∀ x ∈ O.map Lb.i, x.t.size ≤ 400 := fun x hx => by
    obtain ⟨y, hy, rfl⟩ := List.mem_map.1 hx
    have h3 := h2 y.q (by rw [← hO]; exact List.mem_map_of_mem hy)
    have h4 : y.t.data.toList.length = y.t.size := by simp
    have h5 : y.t.data.toList.length ≤ 400 := h3
    show y.t.size ≤ 400
    omega
  have h6 := rcp_small hx
  rw [List.length_map] at h6
  refine ⟨by rw [List.length_map]; omega, fun x h => by have := hx x h; omega, ?_⟩
  have : (400 + 1) * O.length ≤ 401 * 4000 := Nat.mul_le_mul (Nat.le_refl _) (by omega)
  omega
theorem OwnS.up {w : World} {base base' : Nat} {TS T TT : TypeId} {v : Value} {L : List Sb} (h : OwnS w base TS T TT v L) (hb : base' ≤ base) : OwnS w base' TS T TT v L := by
  obtain ⟨us, k1, k2, k3⟩ := h
  refine ⟨us, k1, ⟨k2.1, ?_⟩, fun j u x hu hx => ?_⟩
  · rcases k2.2 with h | ⟨q, cap, cur, h4, h5, h6⟩
    · exact .inl h
    · exact .inr ⟨q, cap, cur, h4, Nat.le_trans hb h5, h6⟩
  · obtain ⟨a, c, d⟩ := k3 j u x hu hx
    exact ⟨a.up hb, c.up hb, d⟩
end Go.Proofs.YtdganemgldocoaaDoor

namespace Go.Proofs.YtdganemgldocoaaDoor
open Go.RowKit

theorem sizeSp : (Tryd.prog.info? 32).map (·.size) = some 10 := by kernel_rfl
theorem far_ten {w : World} {b q : Nat} {o : Obj} (h : w.heap[b]? = some o) (hne : b ≠ q) (v0 v1 v2 v3 v4 v5 v6 v7 v8 v9 : Value) : (setT w q v0 v1 v2 v3 v4 v5 v6 v7 v8 v9).heap[b]? = some o :=
  far_at (far_at (far_at (far_at (far_at (far_at (far_at (far_at (far_at (far_at h hne 0 v0) hne 1 v1) hne 2 v2) hne 3 v3) hne 4 v4) hne 5 v5) hne 6 v6) hne 7 v7) hne 8 v8) hne 9 v9
/-- small rows: what the laws compare -/
def smL (x : Sb) : Prop := x.hs.length ≤ 5001 ∧ (∀ l ∈ x.hs, l.length ≤ 5001) ∧ x.ws.length ≤ 5001 ∧ ∀ l ∈ x.ws, l.length ≤ 5001
theorem tl_eq (a b : ByteArray) : (a.toList == b.toList) = true ↔ a = b := by
  rw [beq_iff_eq, Lib.toList_data, Lib.toList_data]
  exact ⟨bytes_inj, fun h => by rw [h]⟩
/-- the comparisons of two statements ahead of their rows: the first that fails, or none -/
theorem sm_cases (x y : Sb) : ∃ b1 b2 b3 b4 b5 b6 b7 : Bool, (x.k == y.k) = b1 ∧ (x.ln == y.ln) = b2 ∧ (x.nm.toList == y.nm.toList) = b3 ∧ (((x.fl : Int) == (y.fl : Int)) && (x.pr.toList == y.pr.toList)) = b4 ∧ (x.rc.toList == y.rc.toList) = b5 ∧ (x.hd == y.hd) = b6 ∧ (x.cm == y.cm) = b7 ∧
    ((b1 && b2 && b3 && b4 && b5 && b6 && b7) = true → x.hs = y.hs → x.ws = y.ws → x = y) ∧ (x = y → (b1 && b2 && b3 && b4 && b5 && b6 && b7) = true) := by
  refine ⟨_, _, _, _, _, _, _, rfl, rfl, rfl, rfl, rfl, rfl, rfl, fun h hh hw => ?_, fun h => ?_⟩
  · simp only [Bool.and_eq_true, beq_iff_eq] at h
    obtain ⟨⟨⟨⟨⟨⟨h1, h2⟩, h3⟩, h4, h4'⟩, h5⟩, h6⟩, h7⟩ := h
    obtain ⟨k, ln, nm, hs, ws, fl, pr, rc, hd, cm⟩ := x
    obtain ⟨k', ln', nm', hs', ws', fl', pr', rc', hd', cm'⟩ := y
    simp only at h1 h2 h3 h4 h4' h5 h6 h7 hh hw
    have e3 := (tl_eq nm nm').1 (by rw [beq_iff_eq]; exact h3)
    have e4 := (tl_eq pr pr').1 (by rw [beq_iff_eq]; exact h4')
    have e5 := (tl_eq rc rc').1 (by rw [beq_iff_eq]; exact h5)
    have e6 : fl = fl' := by omega
    rw [h1, h2, e3, e4, e5, e6, h6, h7, hh, hw]
  · subst h; simp
end Go.Proofs.YtdganemgldocoaaDoor

namespace Go.Proofs.YtdganemgldocoaaDoor
open Go.RowKit

def rowS (L : List (List Pq)) : Prop := L.length ≤ 4000 ∧ ∀ w ∈ L, w.length ≤ 4000
theorem wd_rows {l : List UInt8} {L : List (List Pq)} (h : wdQ [] [] l = .ok L) (hs : l.length ≤ 1000) : rowS L := by
  have h1 := wd_len l.length l [] [] L (Nat.le_refl _) h
  have e1 : (bkT []).length = 0 := rfl
  have e2 : potQ [] = 0 := rfl
  rw [e1, e2] at h1
  have hg := wd_good l.length l [] [] L (Nat.le_refl _) trivial (by simp) h
  have hb : ∀ M : List (List Pq), M.length ≤ (bkT M).length := fun M => by
    induction M with
    | nil => exact Nat.zero_le _
    | cons m M ih => unfold bkT at ih ⊢; rw [List.flatMap_cons, List.length_append, List.length_cons, List.length_cons]; omega
  refine ⟨by have := hb L; omega, fun w hw => ?_⟩
  have hle : (txW w).length ≤ (bkT L).length := by
    obtain ⟨L1, L2, rfl⟩ := List.append_of_mem hw
    unfold bkT
    rw [List.flatMap_append, List.flatMap_cons, List.length_append, List.length_append, List.length_cons]; omega
  obtain ⟨p1, p2⟩ := gd_pos (hg w hw).2.1
  omega
theorem rowS_nil : rowS [] := ⟨Nat.zero_le _, fun w h => by cases h⟩
theorem hid_len (l : List UInt8) : (hidS l).2.length ≤ l.length := by
  unfold hidS
  split
  · exact Nat.le_refl _
  · split
    · simp
    · exact Nat.le_refl _
theorem one_rows {l : List UInt8} {y : Sm} (h : oneS l = .ok y) (hs : l.length ≤ 1000) : rowS y.hs ∧ rowS y.ws := by
  have hi : ∀ {m : List UInt8}, m.length ≤ 1000 → incS m = .ok y → rowS y.hs ∧ rowS y.ws := fun {m} hl hm => by
    unfold incS at hm
    split at hm
    · split at hm
      · cases hm
      · cases hm; exact ⟨rowS_nil, rowS_nil⟩
    · split at hm
      · cases hm
      · rename_i L hj
        split at hm
        · cases hm
        · cases hm; exact ⟨rowS_nil, wd_rows hj hl⟩
  have ha : ∀ {a b : List UInt8}, b.length ≤ 1000 → asgS a b = .ok y → rowS y.hs ∧ rowS y.ws := fun {a b} hl hm => by
    unfold asgS at hm
    split at hm
    · cases hm
    · split at hm
      · cases hm
      · rename_i L hj; cases hm; exact ⟨rowS_nil, wd_rows hj (Nat.le_trans (hid_len b) hl)⟩
  have hr : ∀ {a b : List UInt8}, a.length ≤ 1000 → b.length ≤ 1000 → rulS a b = .ok y → rowS y.hs ∧ rowS y.ws := fun {a b} hl1 hl2 hm => by
    unfold rulS at hm
    split at hm
    · cases hm
    · rename_i H hj
      split at hm
      · cases hm
      · split at hm
        · cases hm
        · rename_i x hx
          split at hm
          · cases hm
          · rename_i L hL
            cases hm
            refine ⟨wd_rows hj hl1, wd_rows hL ?_⟩
            unfold atrS at hx
            split at hx
            · cases hx; exact hl2
            · split at hx
              · cases hx
              · split at hx
                · cases hx
                · cases hx
                  show ((b.dropWhile (· != 58)).drop 1).length ≤ 1000
                  have := (List.dropWhile_sublist (p := (· != (58 : UInt8))) (l := b)).length_le
                  rw [List.length_drop]; omega
  unfold oneS at h
  split at h
  · exact hi (by rw [List.length_drop]; omega) h
  · split at h
    · cases h
    · split at h
      · exact ha (by rw [List.length_drop]; omega) h
      · exact hr (by rw [List.length_take]; omega) (by rw [List.length_drop]; omega) h
theorem par_rows : ∀ (n : Nat) (L : List Li) (O S : List Sm), L.length ≤ n → (∀ x ∈ L, x.t.size ≤ 1000) → (∀ y ∈ O, rowS y.hs ∧ rowS y.ws) → parS O L = .ok S → ∀ y ∈ S, rowS y.hs ∧ rowS y.ws := by
  intro n
  induction n with
  | zero =>
    intro L O S hl hx hO h
    obtain rfl := List.eq_nil_of_length_eq_zero (Nat.le_zero.1 hl)
    rw [parS] at h
    cases h
    exact hO
  | succ n ih =>
    intro L O S hl hx hO h
    cases L with
    | nil => rw [parS] at h; cases h; exact hO
    | cons x r =>
      rw [List.length_cons] at hl
      have hx2 : ∀ y ∈ r, y.t.size ≤ 1000 := fun y hy => hx y (List.mem_cons_of_mem _ hy)
      rw [parS] at h
      split at h
      · split at h
        · exact ih r O S (by omega) hx2 hO h
        · cases h
      · split at h
        · exact ih r O S (by omega) hx2 hO h
        · split at h
          · cases h
          · rename_i s hs
            have hz : x.t.data.toList.length = x.t.size := by simp
            have h1 := one_rows hs (by have := hx x (List.mem_cons_self ..); omega)
            have snoc : ∀ y : Sm, rowS y.hs ∧ rowS y.ws → ∀ z ∈ O ++ [y], rowS z.hs ∧ rowS z.ws := fun y hy z hz => by
              rcases List.mem_append.1 hz with h | h
              · exact hO z h
              · rw [List.mem_singleton.1 h]; exact hy
            split at h
            · refine ih _ _ S ?_ ?_ ?_ h
              · have := (List.dropWhile_sublist (p := fun (y : Li) => y.r) (l := r)).length_le; omega
              · exact fun y hy => hx2 y ((List.dropWhile_sublist _).mem hy)
              · exact snoc _ h1
            · refine ih _ _ S (by omega) hx2 ?_ h
              exact snoc _ h1
theorem smL_of {x : Sb} (h : rowS x.q.hs ∧ rowS x.q.ws) : smL x := by
  have key : ∀ {M : List (List Pb)}, rowS (pcLL M) → M.length ≤ 5001 ∧ ∀ l ∈ M, l.length ≤ 5001 := fun {M} hM => by
    refine ⟨by have := hM.1; rw [List.length_map] at this; omega, fun l hl => ?_⟩
    have := hM.2 (pcL l) (List.mem_map_of_mem hl)
    rw [List.length_map] at this; omega
  obtain ⟨a, b⟩ := key h.1
  obtain ⟨c, d⟩ := key h.2
  exact ⟨a, b, c, d⟩
end Go.Proofs.YtdganemgldocoaaDoor

namespace Go.Proofs.YtdganemgldocoaaDoor
open Go.RowKit

/-- statements, or none and a fault -/
def PSmO (R : Except (Nat × Int) (List Sm)) (A : Nat → Addr) (w : World) (e : Ending) (w' : World) : Prop :=
  w.grownBy w' none ∧ match R with
    | .ok S => ∃ v L, e = .returned (.tuple #[v, .nilIface]) ∧ SRow w' v L ∧ smQ L = S
    | .error x => ∃ a c q, e = .returned (.tuple #[.slice a 0 c, fltV q]) ∧ FltAt w' q x.2 (errV A x.1)
def wordS (k : Int) : ByteArray := if k = 1 then ⟨#[97, 115, 115, 105, 103, 110]⟩ else if k = 2 then ⟨#[114, 117, 108, 101]⟩ else if k = 3 then ⟨#[105, 110, 99, 108, 117, 100, 101]⟩ else ⟨#[]⟩
/-- what the laws are told of package stmt, where E holds -/
structure SmC (A : Nat → Addr) (E : World → Prop) : Prop where
  gr : ∀ w w' : World, E w → w.grownBy w' none → E w'
  of : ∀ (s : ByteArray) (w : World), E w → s.size ≤ 5000 → Calls Tryd.prog 5 #[.string s] w (PSmO (ofS s.data.toList) A w)
  same : ∀ (x y : Sb) (hv wv hu wu : Value) (w : World), E w → RRow w hv x.hs → RRow w wv x.ws → RRow w hu y.hs → RRow w wu y.ws → Calls Tryd.prog 6 #[smA hv wv x, smA hu wu y] w fun e w' => (∃ z, e = .returned (.bool z) ∧ (z = true ↔ x = y)) ∧ w.grownBy w' none
theorem par_bad : ∀ (n : Nat) (L : List Li) (O : List Sm) (x : Nat × Int), L.length ≤ n → parS O L = .error x → 1 ≤ x.1 ∧ x.1 ≤ 18 := by
  intro n
  induction n with
  | zero =>
    intro L O x hl h
    obtain rfl := List.eq_nil_of_length_eq_zero (Nat.le_zero.1 hl)
    rw [parS] at h; cases h
  | succ n ih =>
    intro L O x hl h
    cases L with
    | nil => rw [parS] at h; cases h
    | cons y r =>
      rw [List.length_cons] at hl
      rw [parS] at h
      split at h
      · split at h
        · exact ih r O x (by omega) h
        · cases h; simp
      · split at h
        · exact ih r O x (by omega) h
        · split at h
          · rename_i k hk; cases h; have := one_bad hk; exact ⟨by show 1 ≤ k; omega, this.2⟩
          · split at h
            · exact ih _ _ x (by have := (List.dropWhile_sublist (p := fun (z : Li) => z.r) (l := r)).length_le; omega) h
            · exact ih _ _ x (by omega) h
theorem of_bad {l : List UInt8} {x : Nat × Int} (h : ofS l = .error x) : 1 ≤ x.1 ∧ x.1 ≤ 18 := by
  unfold ofS at h
  split at h
  · rename_i y hy
    cases h
    have := spL_bad (bad := y.1) (line := y.2) hy
    show 1 ≤ y.1 ∧ y.1 ≤ 18
    omega
  · exact par_bad _ _ _ _ (Nat.le_refl _) h
theorem of_rows {l : List UInt8} {S : List Sm} (h : ofS l = .ok S) : ∀ y ∈ S, rowS y.hs ∧ rowS y.ws := by
  unfold ofS at h
  split at h
  · cases h
  · rename_i L hL
    refine par_rows _ _ _ _ (Nat.le_refl _) (fun x hx => ?_) (fun y hy => by cases hy) h
    obtain ⟨y, hy, rfl⟩ := List.mem_map.1 hx
    have h1 := (spL_small hL).2 y hy
    show (⟨y.text.toArray⟩ : ByteArray).size ≤ 1000
    have h2 : (⟨y.text.toArray⟩ : ByteArray).size = y.text.length := by simp [ByteArray.size]
    omega
end Go.Proofs.YtdganemgldocoaaDoor

namespace Go.Proofs.YtdganemgldocoaaDoor
open Go.RowKit

abbrev liC (x : Li) : List Value := [.string x.t, .int .i64 x.n, .bool x.r]
def liV (O : List Li) : List Value := O.flatMap liC
theorem liV_snoc (O : List Li) (x : Li) : liV (O ++ [x]) = liV O ++ [.string x.t, .int .i64 x.n, .bool x.r] := by unfold liV; rw [List.flatMap_append]; rfl
theorem liV_get : ∀ {O : List Li} {j : Nat} {x : Li}, O[j]? = some x → (liV O)[j * 3]? = some (.string x.t) ∧ (liV O)[j * 3 + 1]? = some (.int .i64 x.n) ∧ (liV O)[j * 3 + 2]? = some (.bool x.r)
  | [], j, x, h => by simp at h
  | a :: O, 0, x, h => by
    obtain rfl : a = x := by simpa using h
    exact ⟨rfl, rfl, rfl⟩
  | a :: O, j + 1, x, h => by
    obtain ⟨h1, h2, h3⟩ := liV_get (O := O) (j := j) (x := x) (by simpa using h)
    have e : liV (a :: O) = .string a.t :: .int .i64 a.n :: .bool a.r :: liV O := rfl
    rw [e, show (j + 1) * 3 = j * 3 + 1 + 1 + 1 by omega]
    exact ⟨by simpa using h1, by simpa using h2, by simpa using h3⟩
theorem li_one (x : Li) : ∀ u ∈ liC x, u.oneCell' = true := by
  intro u hu; simp at hu; rcases hu with rfl | rfl | rfl <;> rfl
theorem li_new (w : World) (x : Li) (T : TypeId) (m : Nat) (hm : m = w.heap.size) : ∀ j u, ([.string x.t, .int .i64 x.n, .bool x.r] : List Value)[j]? = some u → (w.alloc (.cells #[.string x.t, .int .i64 x.n, .bool x.r] T)).cell? ((⟨m, 0, none⟩ : Addr).add j) = some u := by
  subst hm
  exact World.news_of_block (cs := #[.string x.t, .int .i64 x.n, .bool x.r]) (t := T) (fr := (0, 0)) (heap_alloc_new w _)
theorem li_row {w : World} {base : Nat} {e : TypeId} {v : Value} {O : List Li} {n : Nat} (h : w.ownsRow base e 3 v n (liV O)) (hn : n = O.length) (hm : n ≤ 9223372036854775807) : LiRow w v O := by
  subst hn
  rcases h.2 with ⟨rfl, h0⟩ | ⟨g, cap, cur, rfl, hb, hg, h1, h2, h3, h4⟩
  · exact ⟨none, 0, by rw [h0], hm, fun hne => absurd (List.eq_nil_of_length_eq_zero h0) hne⟩
  · refine ⟨_, cap, rfl, hm, fun _ => ⟨g, 0, rfl, (Array.getElem?_eq_some_iff.1 hg).1, fun j m hj => ?_⟩⟩
    obtain ⟨g1, g2, g3⟩ := liV_get hj
    have k1 := h.cells (g := g) rfl _ _ g1
    have k2 := h.cells (g := g) rfl _ _ g2
    have k3 := h.cells (g := g) rfl _ _ g3
    rw [Addr.add_lit] at k1 k2 k3
    exact ⟨k1, k2, k3⟩
theorem li_zero (w : World) (T : TypeId) (base : Nat) (hb : base ≤ w.heap.size) : (w.alloc (.cells #[] T)).ownsRow base T 3 (.slice (some ⟨w.heap.size, 0, none⟩) 0 0) 0 (liV []) :=
  ⟨rfl, .inr ⟨w.heap.size, 0, _, rfl, hb, heap_alloc_new w _, Nat.le_refl _, by decide, rfl, rfl⟩⟩
theorem word_cases (k : Int) : (1 ≤ k ∧ k ≤ 3 ∧ (k = 1 ∨ k = 2 ∨ k = 3)) ∨ ((k < 1 ∨ 3 < k) ∧ wordS k = ⟨#[]⟩) := by
  by_cases h : 1 ≤ k ∧ k ≤ 3
  · exact .inl ⟨h.1, h.2, by omega⟩
  · refine .inr ⟨by omega, ?_⟩
    unfold wordS
    rw [if_neg (by omega), if_neg (by omega), if_neg (by omega)]
end Go.Proofs.YtdganemgldocoaaDoor
