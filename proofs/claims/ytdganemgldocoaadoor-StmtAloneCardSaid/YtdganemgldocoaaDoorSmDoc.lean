/- The document's own statement of a line. (Printed by wip/mk/smone.py.) The document's own statements of all lines. -/
import Derived.Test.YtdganemgldocoaaDoorSmCell
import Derived.Test.YtdganemgldocoaaDoorEvRef
namespace Go.Proofs.YtdganemgldocoaaDoor
open Go.RowKit

theorem of_sg : ofB ⟨#[58, 61]⟩ = sgS := by funext b; unfold ofB sgS; simp; rfl
theorem of_eq : ofB ⟨#[61]⟩ = (· == 61) := by funext b; unfold ofB; simp; rfl
theorem fn_zero {sg : UInt8 → Bool} {l : List UInt8} : fnA sg l 0 = match fnQ sg l with | none => -1 | some i => (i : Int) := by
  unfold fnA
  rw [List.drop_zero]
  cases fnQ sg l with
  | none => rfl
  | some i => simp
theorem ex_take (s : ByteArray) (k : Nat) : (s.extract 0 k).data.toList = s.data.toList.take k := by rw [toList_cut2, List.drop_zero]
theorem ex_drop (s : ByteArray) (k : Nat) : (s.extract k s.size).data.toList = s.data.toList.drop k := toList_rest s k
theorem head_at {s : ByteArray} (h : 0 < s.size) : s.data.toList.head? = some s[0] := by rw [List.head?_eq_getElem?]; exact list_at h
theorem zero_at {s : ByteArray} (h : ¬ 0 < s.size) : s.data.toList = [] := none_a h
theorem doc_prog : ∀ {s : List UInt8} {f g : Nat} {p : List UInt8}, docA f s = .ok (g, p) → p.length ≤ 120
  | [], f, g, p, h => by unfold docA at h; cases h; exact Nat.zero_le _
  | c :: s, f, g, p, h => by
    unfold docA at h
    split at h
    · split at h
      · cases h
      · split at h
        · cases h
        · cases h; omega
    · split at h
      · cases h
      · exact doc_prog h
theorem byte_eq {b : UInt8} (n : Nat) (hn : n < 256) (h : b = UInt8.ofNat n) : ((b.toNat : Int) == (n : Int)) = true := by
  subst h; rw [beq_iff_eq, UInt8.toNat_ofNat']; omega
theorem byte_no {b : UInt8} (n : Nat) (hn : n < 256) (h : b ≠ UInt8.ofNat n) : ((b.toNat : Int) == (n : Int)) = false := by
  rw [beq_eq_false_iff_ne]; intro e; apply h; apply UInt8.toNat_inj.1; rw [UInt8.toNat_ofNat']; omega
end Go.Proofs.YtdganemgldocoaaDoor

namespace Go.Proofs.YtdganemgldocoaaDoor
open Go.RowKit

theorem sm_new (w : World) (hv wv : Value) (x : Sb) (T : TypeId) (m : Nat) (hm : m = w.heap.size) : ∀ j u, (smC hv wv x)[j]? = some u → (w.alloc (.cells (smC hv wv x).toArray T)).cell? ((⟨m, 0, none⟩ : Addr).add j) = some u := by
  subst hm
  exact World.news_of_block (cs := (smC hv wv x).toArray) (t := T) (fr := (0, 0)) (heap_alloc_new w _)
/-- all lines' statements, as a call makes them, and no error; or the first error and its line's number -/
def PPar (TS T TT : TypeId) (R : Except (Nat × Int) (List Sm)) (w : World) (e : Ending) (w' : World) : Prop :=
  w.grownBy w' none ∧ match R with
    | .ok S => ∃ (v : Value) (L : List Sb), e = .returned (.tuple #[v, .int .i64 0, .int .i64 0]) ∧ smQ L = S ∧ OwnS w' w.heap.size TS T TT v L ∧ L.length ≤ 5000
    | .error x => e = .returned (.tuple #[.slice none 0 0, .int .i64 x.1, .int .i64 x.2])
/-- lines whose statements fit: no text is longer than a line may be, all together are small -/
def LiS (O : List Li) : Prop := O.length ≤ 4100 ∧ (∀ x ∈ O, x.t.size ≤ 1000) ∧ (rcpS O).length ≤ 10000000
theorem rcp_app (a b : List Li) : rcpS (a ++ b) = rcpS a ++ rcpS b := by unfold rcpS; simp
theorem rcp_take (O : List Li) (i m : Nat) : (rcpS ((O.drop i).take m)).length ≤ (rcpS O).length := by
  have h : rcpS O = rcpS (O.take i) ++ (rcpS ((O.drop i).take m) ++ rcpS ((O.drop i).drop m)) := by
    rw [← rcp_app, ← rcp_app, List.take_append_drop, List.take_append_drop]
  rw [h]; simp; omega
theorem li_drop {O : List Li} {i : Nat} {x : Li} (h : O[i]? = some x) : O.drop i = x :: O.drop (i + 1) := by
  obtain ⟨hi, rfl⟩ := List.getElem?_eq_some_iff.1 h
  exact List.drop_eq_getElem_cons hi
theorem par_skip {S : List Sm} {x : Li} {r : List Li} (h : x.r = true) (ht : (trQ x.t.data.toList).isEmpty = true) : parS S (x :: r) = parS S r := by rw [parS, if_pos h, if_pos ht]
theorem par_stray {S : List Sm} {x : Li} {r : List Li} (h : x.r = true) (ht : ¬ (trQ x.t.data.toList).isEmpty = true) : parS S (x :: r) = .error (3, x.n) := by rw [parS, if_pos h, if_neg ht]
theorem par_none {S : List Sm} {x : Li} {r : List Li} (h : x.r = false) (ht : x.t.data.toList.isEmpty = true) : parS S (x :: r) = parS S r := by rw [parS, if_neg (by rw [h]; simp), if_pos ht]
theorem par_err {S : List Sm} {x : Li} {r : List Li} {k : Nat} (h : x.r = false) (ht : ¬ x.t.data.toList.isEmpty = true) (ho : oneS x.t.data.toList = .error k) : parS S (x :: r) = .error (k, x.n) := by
  rw [parS, if_neg (by rw [h]; simp), if_neg ht, ho]
theorem par_one {S : List Sm} {x : Li} {r : List Li} {y : Sm} (h : x.r = false) (ht : ¬ x.t.data.toList.isEmpty = true) (ho : oneS x.t.data.toList = .ok y) :
    parS S (x :: r) = if y.k = 2 then parS (S ++ [{ y with ln := x.n, rc := rcpS (r.takeWhile (·.r)) }]) (r.dropWhile (·.r)) else parS (S ++ [{ y with ln := x.n }]) r := by
  rw [parS, if_neg (by rw [h]; simp), if_neg ht, ho]
theorem one_bad {l : List UInt8} {k : Nat} (h : oneS l = .error k) : k ≠ 0 ∧ k ≤ 18 := by
  have hw : ∀ {m : List UInt8} {j : Nat}, wdQ [] [] m = .error j → j ≠ 0 ∧ j ≤ 18 := fun {m j} hj => by
    have := wd_bad m.length m [] [] j (Nat.le_refl _) hj; omega
  have hn : nonS l ≠ 0 ∧ nonS l ≤ 18 := by
    unfold nonS
    cases hj : wdQ [] [] l with
    | error j => exact hw hj
    | ok L => simp
  have hi : ∀ {m : List UInt8}, incS m = .error k → k ≠ 0 ∧ k ≤ 18 := fun {m} hm => by
    unfold incS at hm
    split at hm
    · split at hm
      · cases hm; simp
      · cases hm
    · split at hm
      · rename_i j hj; cases hm; exact hw hj
      · split at hm
        · cases hm; simp
        · cases hm
  have ha : ∀ {a b : List UInt8}, asgS a b = .error k → k ≠ 0 ∧ k ≤ 18 := fun {a b} hm => by
    unfold asgS at hm
    split at hm
    · cases hm; simp
    · split at hm
      · rename_i j hj; cases hm; exact hw hj
      · cases hm
  have hr : ∀ {a b : List UInt8}, rulS a b = .error k → k ≠ 0 ∧ k ≤ 18 := fun {a b} hm => by
    unfold rulS at hm
    split at hm
    · rename_i j hj; cases hm; exact hw hj
    · split at hm
      · cases hm; simp
      · split at hm
        · rename_i j hj
          cases hm
          unfold atrS at hj
          split at hj
          · cases hj
          · split at hj
            · cases hj; simp
            · split at hj
              · rename_i j2 hj2; cases hj; have := doc_err hj2; omega
              · cases hj
        · split at hm
          · rename_i j hj; cases hm; exact hw hj
          · cases hm
  unfold oneS at h
  split at h
  · exact hi h
  · split at h
    · cases h; exact hn
    · split at h
      · exact ha h
      · exact hr h
/-- statements that a call makes stay where another statement's block is stored to -/
theorem OwnS.set {w : World} {base : Nat} {TS T TT : TypeId} {v : Value} {L : List Sb} (h : OwnS w base TS T TT v L) {b : Nat} {cs : Array Value} (hb : w.heap[b]? = some (.cells cs TS (0, 0))) (h1 : TS ≠ T) (h2 : TS ≠ TT) (hne : ∀ k, v.ownBlock = some k → k < b) (i : Nat) (u : Value) :
    OwnS (w.setCell ⟨b, i, none⟩ u) base TS T TT v L := by
  obtain ⟨us, k1, k2, k3⟩ := h
  refine ⟨us, k1, k2.kept (set_by w b i u) ?_, fun j p x hp hx => ?_⟩
  · cases hv : v.ownBlock with
    | none => exact .inl rfl
    | some k => exact .inr (by intro e; have := hne k hv; injection e with e; omega)
  · obtain ⟨a, c, d⟩ := k3 j p x hp hx
    exact ⟨a.set hb h1 h2 i u, c.set hb h1 h2 i u, d⟩
theorem OwnS.lt {w : World} {base : Nat} {TS T TT : TypeId} {v : Value} {L : List Sb} (h : OwnS w base TS T TT v L) : ∀ k, v.ownBlock = some k → base ≤ k ∧ k < w.heap.size := by
  obtain ⟨us, k1, k2, k3⟩ := h
  exact k2.lt
theorem tw_cons {y : Li} {r : List Li} (h : y.r = true) : (y :: r).takeWhile (·.r) = y :: r.takeWhile (·.r) ∧ (y :: r).dropWhile (·.r) = r.dropWhile (·.r) := ⟨List.takeWhile_cons_of_pos h, List.dropWhile_cons_of_pos h⟩
theorem tw_stop {y : Li} {r : List Li} (h : y.r = false) : (y :: r).takeWhile (·.r) = [] ∧ (y :: r).dropWhile (·.r) = y :: r := ⟨List.takeWhile_cons_of_neg (by rw [h]; simp), List.dropWhile_cons_of_neg (by rw [h]; simp)⟩
theorem three_li {w : World} {b : Nat} {v0 v1 v2 : Value} {t : TypeId} (h : w.heap[b]? = some (.cells #[v0, v1, v2] t (0, 0))) : w.cell? ⟨b, 0, none⟩ = some v0 ∧ w.cell? ⟨b, 1, none⟩ = some v1 ∧ w.cell? ⟨b, 2, none⟩ = some v2 := by
  refine ⟨?_, ?_, ?_⟩ <;> (unfold World.cell?; rw [h]; rfl)
end Go.Proofs.YtdganemgldocoaaDoor
