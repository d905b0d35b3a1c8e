/- Plain facts on lists of texts that need nothing of the translated code. -/
import Derived.Test.YtgicfbhhnohndaaGreatDoorPlain
import Derived.Sort.EncStr
import Derived.Sort.Walk0
import Derived.Lib.SlicesS
import Derived.Maps.OwnSet
namespace Go.Proofs.YtgicfbhhnohndaaGreatDoor
open Go.RowKit

/-- the texts of a slice, as they lie in memory -/
def Row (w : World) (v : Value) (l : List ByteArray) : Prop :=
  ∃ a c, v = .slice a l.length c ∧ (l.length ≤ 9223372036854775807 ∧ (a = none → c = 0)) ∧
    (l ≠ [] → ∃ b off, a = some ⟨b, off, none⟩ ∧ b < w.heap.size ∧ ∀ j x, l[j]? = some x → w.cell? ⟨b, off + j, none⟩ = some (.string x))

theorem Row.later {w w' : World} {v : Value} {l : List ByteArray} (h : Row w v l) (hb : Below w.heap.size w w') : Row w' v l := by
  obtain ⟨a, c, e, hn, hr⟩ := h
  refine ⟨a, c, e, hn, fun hne => ?_⟩
  obtain ⟨b, off, ea, hlt, hc⟩ := hr hne
  exact ⟨b, off, ea, Nat.lt_of_lt_of_le hlt hb.size, fun j x hx => (hb.cell (p := ⟨b, off + j, none⟩) hlt).trans (hc j x hx)⟩

theorem eq_of_toList {a b : ByteArray} : (a.toList == b.toList) = true ↔ a = b := by
  rw [beq_iff_eq, Lib.toList_data, Lib.toList_data]
  exact ⟨ba_ext, fun h => by rw [h]⟩
theorem ne_of_toList {a b : ByteArray} : (a.toList == b.toList) = false ↔ a ≠ b := by
  rw [← Bool.not_eq_true, eq_of_toList]

theorem get_of (l : List ByteArray) (k : Nat) (h : k < l.length) : ∃ x, l[k]? = some x := ⟨l[k], List.getElem?_eq_getElem h⟩
theorem take_one (l : List ByteArray) (k : Nat) (x : ByteArray) (h : l[k]? = some x) : l.take (k + 1) = l.take k ++ [x] := by
  rw [List.take_add_one, h]; rfl

/-- too many texts, or one that is too long -/
def bigB (s : ByteArray) : Bool := decide ((100 : Int) < s.size)
def longB (l : List ByteArray) : Bool := decide ((40 : Int) < l.length) || l.any bigB
theorem long_many (l : List ByteArray) (h : 40 < l.length) : longB l = true := by
  unfold longB; rw [decide_eq_true (by omega)]; rfl
theorem long_hit (l : List ByteArray) (k : Nat) (x : ByteArray) (h : l[k]? = some x) (hx : 100 < x.size) : longB l = true := by
  unfold longB
  rw [List.any_eq_true.2 ⟨x, List.mem_of_getElem? h, by unfold bigB; exact decide_eq_true (by omega)⟩, Bool.or_true]
theorem long_not (l : List ByteArray) (h : l.length ≤ 40) (k : Nat) (hk : l.length ≤ k) (ha : (l.take k).any bigB = false) : longB l = false := by
  rw [List.take_of_length_le hk] at ha
  unfold longB; rw [ha, decide_eq_false (by omega)]; rfl
theorem big_snoc (l : List ByteArray) (k : Nat) (x : ByteArray) (h : l[k]? = some x) (hx : x.size ≤ 100) (ha : (l.take k).any bigB = false) : (l.take (k + 1)).any bigB = false := by
  rw [take_one l k x h, List.any_append, ha]; simp [bigB]; omega
theorem short_of (l : List ByteArray) (h : longB l = false) : l.length ≤ 40 ∧ ∀ x ∈ l, x.size ≤ 100 := by
  unfold longB at h
  simp only [Bool.or_eq_false_iff, decide_eq_false_iff_not, List.any_eq_false] at h
  refine ⟨by omega, fun x hx => ?_⟩
  have := h.2 x hx
  unfold bigB at this
  simp only [decide_eq_true_eq] at this
  omega

/-- is a text in a list? -/
def hasB (l : List ByteArray) (s : ByteArray) : Bool := l.any fun x => x.toList == s.toList
theorem has_iff (l : List ByteArray) (s : ByteArray) : hasB l s = true ↔ s ∈ l := by
  unfold hasB; rw [List.any_eq_true]
  exact ⟨fun ⟨x, hx, e⟩ => (eq_of_toList.1 e) ▸ hx, fun h => ⟨s, h, eq_of_toList.2 rfl⟩⟩
theorem has_false (l : List ByteArray) (s : ByteArray) : hasB l s = false ↔ s ∉ l := by rw [← has_iff, Bool.not_eq_true]
theorem has_hit (l : List ByteArray) (k : Nat) (x s : ByteArray) (h : l[k]? = some x) (hx : x = s) : hasB l s = true :=
  (has_iff l s).2 (hx ▸ List.mem_of_getElem? h)
theorem has_not (l : List ByteArray) (s : ByteArray) (k : Nat) (hk : l.length ≤ k) (ha : s ∉ l.take k) : hasB l s = false := by
  rw [List.take_of_length_le hk] at ha; exact (has_false l s).2 ha
theorem not_snoc (l : List ByteArray) (s : ByteArray) (k : Nat) (x : ByteArray) (h : l[k]? = some x) (hx : x ≠ s) (ha : s ∉ l.take k) : s ∉ l.take (k + 1) := by
  rw [take_one l k x h]; intro hm
  rcases List.mem_append.1 hm with hm | hm
  · exact ha hm
  · exact hx (List.mem_singleton.1 hm).symm
theorem has_lib (l : List ByteArray) (s : ByteArray) : Lib.containsS l s = hasB l s := by
  rw [Bool.eq_iff_iff, Lib.containsS_iff, has_iff]

/-- both, each once, in order -/
def addU (acc : List ByteArray) (s : ByteArray) : List ByteArray := if hasB acc s = true then acc else acc ++ [s]
def uni (l : List ByteArray) : List ByteArray := l.foldl addU []
theorem uni_snoc (l : List ByteArray) (s : ByteArray) : uni (l ++ [s]) = addU (uni l) s := by unfold uni; rw [List.foldl_append]; rfl
theorem add_old {acc : List ByteArray} {s : ByteArray} (h : hasB acc s = true) : addU acc s = acc := by unfold addU; rw [if_pos h]
theorem add_new {acc : List ByteArray} {s : ByteArray} (h : hasB acc s = false) : addU acc s = acc ++ [s] := by unfold addU; rw [if_neg (by rw [h]; decide)]
theorem add_mem (acc : List ByteArray) (s x : ByteArray) : x ∈ addU acc s ↔ x ∈ acc ∨ x = s := by
  unfold addU
  by_cases h : hasB acc s = true
  · rw [if_pos h]
    exact ⟨.inl, fun h' => h'.elim id fun e => e ▸ (has_iff acc s).1 h⟩
  · rw [if_neg h, List.mem_append, List.mem_singleton]
theorem fold_mem (x : ByteArray) : ∀ (l acc : List ByteArray), x ∈ List.foldl addU acc l ↔ x ∈ acc ∨ x ∈ l
  | [], acc => by simp
  | s :: l, acc => by rw [List.foldl_cons, fold_mem x l, add_mem, List.mem_cons, or_assoc]
theorem uni_mem (l : List ByteArray) (x : ByteArray) : x ∈ uni l ↔ x ∈ l := by unfold uni; rw [fold_mem]; simp
theorem uni_len (l : List ByteArray) : (uni l).length ≤ l.length := by
  suffices h : ∀ l acc, (List.foldl addU acc l).length ≤ acc.length + l.length by have := h l []; unfold uni; simpa using this
  intro l
  induction l with
  | nil => simp
  | cons s l ih =>
    intro acc; rw [List.foldl_cons]
    have h1 := ih (addU acc s)
    have h2 : (addU acc s).length ≤ acc.length + 1 := by unfold addU; split <;> simp
    simp only [List.length_cons]; omega
theorem uni_nodup (l : List ByteArray) : (uni l).Nodup := by
  suffices h : ∀ l acc, acc.Nodup → (List.foldl addU acc l).Nodup from h l [] List.nodup_nil
  intro l
  induction l with
  | nil => intro acc h; exact h
  | cons s l ih =>
    intro acc h
    rw [List.foldl_cons]
    apply ih
    unfold addU
    split
    · exact h
    · rename_i hs
      have hs : s ∉ acc := fun hm => hs ((has_iff acc s).2 hm)
      rw [List.nodup_append]
      exact ⟨h, by simp, fun a ha b hb e => hs (by rw [List.mem_singleton] at hb; rw [← hb, ← e]; exact ha)⟩

/-- those that aren't in the other one -/
def outB (b : List ByteArray) (s : ByteArray) : Bool := !hasB b s
theorem filter_snoc (l b : List ByteArray) (k : Nat) (x : ByteArray) (h : l[k]? = some x) : (l.take (k + 1)).filter (outB b) = (l.take k).filter (outB b) ++ if hasB b x = true then [] else [x] := by
  rw [take_one l k x h, List.filter_append]
  congr 1
  unfold outB
  cases hx : hasB b x <;> simp [hx]

/-! ### a set of texts, kept as a map from text to bool -/
open Go.Maps in
theorem atKey_fold {H : Type} (u z : DataW H) (k : Lit) : ∀ (acc : List Lit) (m : DataW H), IsMap m → (∀ x ∈ acc, WideAt.IsKeyLit x) →
    (acc.foldl (fun m x => m.put x u) m).atKey k z = if acc.any (fun x => x.sameKey k) = true then u else m.atKey k z
  | [], m, _, _ => by simp
  | x :: r, m, hm, h => by
    rw [List.foldl_cons, atKey_fold u z k r (m.put x u) (hm.put x u) (fun y hy => h y (by simp [hy])), List.any_cons]
    by_cases hr : r.any (fun x => x.sameKey k) = true
    · rw [if_pos hr, if_pos (by rw [hr, Bool.or_true])]
    · rw [if_neg hr]
      by_cases hx : x.sameKey k = true
      · rw [if_pos (by rw [hx]; rfl)]
        have e := WideAt.sameKey_eq hx
        subst e
        exact atKey_put_same hm (h x (by simp)) u z
      · rw [if_neg (by simpa using ⟨by simpa using hx, by simpa using hr⟩)]
        refine atKey_put_other (fun e => hx ?_) u z
        rw [e]; exact WideAt.sameKey_self (h x (by simp))

def keysOf (l : List ByteArray) : List Lit := l.map fun s => Lit.string s.data.toList
theorem keys_ok (l : List ByteArray) : ∀ x ∈ keysOf l, WideAt.IsKeyLit x := by
  intro x hx; obtain ⟨s, _, rfl⟩ := List.mem_map.1 hx; trivial
theorem keys_any (l : List ByteArray) (s : ByteArray) : (keysOf l).any (fun x => x.sameKey (Lit.string s.data.toList)) = hasB l s := by
  unfold keysOf hasB
  rw [List.any_map]
  congr 1; funext x
  show (x.data.toList == s.data.toList) = (x.toList == s.toList)
  rw [Lib.toList_data, Lib.toList_data]
open Go.Maps in
def strSet (l : List ByteArray) : DataW Unit := setOf (.lit (.bool true)) (keysOf l)
open Go.Maps in
theorem strSet_snoc (l : List ByteArray) (s : ByteArray) : strSet (l ++ [s]) = (strSet l).put (Lit.string s.data.toList) (.lit (.bool true)) := by
  unfold strSet keysOf; rw [List.map_append, List.map_singleton, setOf_snoc]
open Go.Maps in
theorem strSet_at (l : List ByteArray) (s : ByteArray) : (strSet l).atKey (Lit.string s.data.toList) (.lit (.bool false)) = .lit (.bool (hasB l s)) := by
  unfold strSet setOf
  rw [atKey_fold _ _ _ _ _ isMap_empty (keys_ok l), keys_any]
  cases hasB l s <;> rfl

theorem plainElem_bool_inv {H : Type} {P : Program} {e : TypeId} (he : P.underlying e = some .bool) {v : Value} {x : Bool} {ps : List MemPlace} (h : plainElem (H := H) P e v = some (.lit (.bool x), ps)) : v = .bool x := by
  unfold plainElem at h
  rw [he] at h
  cases v <;> simp at h
  rw [h.1]

/-- asking a set of texts that the call keeps -/
theorem look_set {P : Program} (w : World) {ops : Array Oper} {rest : List Oper} {o : Oper} {a : Act} {Q : Exit → Act → World → Prop}
    (hg : o.guard = none) (m x : Operand) (t : TypeId) (hop : o.op = Op.lookup t m x false)
    (k e : TypeId) (K : Go.Maps.Keyed P k) (ht : P.underlying t = some (.map k e)) (he : P.underlying e = some .bool) (hz : (zeroValue e).run P w = .ok (.bool false) w) (b n : Nat) (l : List ByteArray)
    (hm : a.eval m = .map (some b)) (hown : w.ownsMap P k (plainElem P e) b n (strSet l)) (s : ByteArray) (hx : a.eval x = .string s) (hkey : keyOf P k (.string s) = some (.string s.data.toList))
    (hK : wpList P ops Q rest (a.put o.dst (.bool (hasB l s))) w) :
    wpList P ops Q (o :: rest) a w := by
  refine wpList_plain hg fun K' hK' => ?_
  obtain ⟨v, ps, hrun, hv⟩ := hown.lookup K ht hz (plainElem_bool he false) hkey
  rw [strSet_at] at hv
  have hvb := plainElem_bool_inv he hv
  subst hvb
  unfold Oper.wp
  simp [execOp, hop, hm, hx, hrun, Result.andThen]
  exact hK' _ _ hK
end Go.Proofs.YtgicfbhhnohndaaGreatDoor
