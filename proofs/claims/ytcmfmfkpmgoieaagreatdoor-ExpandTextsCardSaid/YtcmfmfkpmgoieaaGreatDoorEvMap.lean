/- The rows of the document's Env against what the program's Env holds: names apart, how many, and that Set, Unset, Find go alike. A map of variables: what it holds as a row by the names, rising; what a look, a store and a delete do. -/
import Derived.Test.YtcmfmfkpmgoieaaGreatDoorEvSet
import Derived.Test.YtcmfmfkpmgoieaaGreatDoorEvOut
import Derived.Sort.Walk0
import Derived.Maps.OwnSet
import Derived.Maps.Ext
namespace Go.Proofs.YtcmfmfkpmgoieaaGreatDoor
open Go.RowKit

theorem less_irr : ∀ a : List UInt8, Op.bytesLess a a = false
  | [] => rfl
  | b :: l => by unfold Op.bytesLess; simp [less_irr l]
theorem str_iff {a b : ByteArray} : (a.toList == b.toList) = true ↔ a = b :=
  ⟨fun h => Classical.byContradiction fun hn => (by rw [str_ne hn] at h; cases h), strV_eq⟩
/-- names apart, and no more than there may be -/
def OkZ (Z : List Vz) : Prop := Z.Pairwise (fun x y => x.n ≠ y.n) ∧ Z.length ≤ 24
theorem vb_find (Z : List Vz) (s : ByteArray) : (vbL Z).find? (isB s) = (Z.find? fun x => decide (x.n = s)).map Vz.b := by
  induction Z with
  | nil => rfl
  | cons a Z ih =>
    by_cases h : a.n = s
    · have e1 : isB s a.b = true := isB_iff.2 h
      show (a.b :: vbL Z).find? (isB s) = _
      rw [List.find?_cons_of_pos e1, List.find?_cons_of_pos (by simp [h])]; rfl
    · have e1 : ¬isB s a.b = true := fun e => h (isB_iff.1 e)
      show (a.b :: vbL Z).find? (isB s) = _
      rw [List.find?_cons_of_neg e1, List.find?_cons_of_neg (by simp [h])]; exact ih
theorem vb_filterN (Z : List Vz) (q : ByteArray → Bool) : (vbL Z).filter (fun x => q x.n) = vbL (Z.filter fun x => q x.n) := by
  induction Z with
  | nil => rfl
  | cons a Z ih =>
    have e : a.b.n = a.n := rfl
    show List.filter _ (a.b :: vbL Z) = _
    cases h : q a.n
    · rw [List.filter_cons_of_neg (by simp [e, h]), List.filter_cons_of_neg (by simp [h]), ih]
    · rw [List.filter_cons_of_pos (by simp [e, h]), List.filter_cons_of_pos (by simp [h]), ih]; rfl
theorem vb_set (Z : List Vz) (x : Vz) : setB (vbL Z) x.b = vbL (setZ Z x) := by
  unfold setB setZ
  have h1 := vb_filterN Z (fun s => Op.bytesLess s.toList x.n.toList)
  have h2 := vb_filterN Z (fun s => !(Op.bytesLess s.toList x.n.toList || s.toList == x.n.toList))
  have e : x.b.n = x.n := rfl
  rw [e, h1, h2]
  unfold vbL
  rw [List.map_append, List.map_cons]
theorem vb_put (Z : List Vz) (x : Vz) : pubV (vbL Z) x.b = ((putZ Z x).1, vbL (putZ Z x).2) := by
  unfold pubV putZ
  have e : x.b.n = x.n := rfl
  split
  · rfl
  · rw [e, vb_find]
    cases Z.find? (fun y => decide (y.n = x.n)) with
    | none =>
      simp only [Option.map_none, List.length_map]
      split
      · rfl
      · rw [vb_set]
    | some y =>
      simp only [Option.map_some]
      have e2 : (x.b.lv < y.b.lv) ↔ x.lv < y.lv := Iff.rfl
      by_cases h : x.lv < y.lv
      · rw [if_pos (e2.2 h), if_pos h]
      · rw [if_neg (fun k => h (e2.1 k)), if_neg h, vb_set]
theorem set_ok {Z : List Vz} {x : Vz} (h : OkZ Z) (hr : (∃ y ∈ Z, y.n = x.n) ∨ Z.length < 24) : OkZ (setZ Z x) := by
  obtain ⟨hp, hl⟩ := h
  unfold setZ
  constructor
  · refine List.pairwise_append.2 ⟨hp.filter _, List.pairwise_cons.2 ⟨fun y hy => ?_, hp.filter _⟩, fun a ha b hb => ?_⟩
    · have := (List.mem_filter.1 hy).2
      intro e
      rw [e] at this
      simp at this
    · have h1 := (List.mem_filter.1 ha).2
      rcases List.mem_cons.1 hb with rfl | hb
      · intro e
        rw [e, less_irr] at h1; cases h1
      · have h2 := (List.mem_filter.1 hb).2
        intro e
        rw [e] at h1
        rw [h1] at h2; simp at h2
  · have key : ∀ l : List Vz, (l.filter (fun y => Op.bytesLess y.n.toList x.n.toList)).length + (l.filter (fun y => !(Op.bytesLess y.n.toList x.n.toList || y.n.toList == x.n.toList))).length ≤ l.length ∧ ((∃ y ∈ l, y.n = x.n) → (l.filter (fun y => Op.bytesLess y.n.toList x.n.toList)).length + (l.filter (fun y => !(Op.bytesLess y.n.toList x.n.toList || y.n.toList == x.n.toList))).length < l.length) := by
      intro l
      induction l with
      | nil => exact ⟨Nat.le_refl _, fun ⟨y, hy, _⟩ => by cases hy⟩
      | cons a l ih =>
        obtain ⟨i1, i2⟩ := ih
        cases hb : Op.bytesLess a.n.toList x.n.toList
        · cases he : (a.n.toList == x.n.toList)
          · rw [List.filter_cons_of_neg (by simp [hb]), List.filter_cons_of_pos (by simp [hb, he])]
            simp only [List.length_cons]
            refine ⟨by omega, fun ⟨y, hy, hn⟩ => ?_⟩
            rcases List.mem_cons.1 hy with rfl | hy
            · rw [strV_eq hn] at he; cases he
            · have := i2 ⟨y, hy, hn⟩; omega
          · rw [List.filter_cons_of_neg (by simp [hb]), List.filter_cons_of_neg (by simp [he])]
            simp only [List.length_cons]
            exact ⟨by omega, fun _ => by omega⟩
        · rw [List.filter_cons_of_pos (by simp [hb]), List.filter_cons_of_neg (by simp [hb])]
          simp only [List.length_cons]
          refine ⟨by omega, fun ⟨y, hy, hn⟩ => ?_⟩
          rcases List.mem_cons.1 hy with rfl | hy
          · rw [hn, less_irr] at hb; cases hb
          · have := i2 ⟨y, hy, hn⟩; omega
    obtain ⟨k1, k2⟩ := key Z
    rw [List.length_append, List.length_cons]
    rcases hr with hr | hr
    · have := k2 hr; omega
    · omega
theorem put_ok {Z : List Vz} {x : Vz} (h : OkZ Z) : OkZ (putZ Z x).2 := by
  unfold putZ
  split
  · exact h
  · cases hf : Z.find? (fun y => decide (y.n = x.n)) with
    | none =>
      simp only
      split
      · exact h
      · exact set_ok h (.inr (by omega))
    | some y =>
      simp only
      split
      · exact h
      · refine set_ok h (.inl ⟨y, List.mem_of_find?_eq_some hf, ?_⟩)
        have := List.find?_some hf
        simpa using this
theorem un_ok {Z : List Vz} {s : ByteArray} (h : OkZ Z) : OkZ (unZ Z s) := by
  unfold unZ
  cases hi : idxZ Z s with
  | none => exact h
  | some k =>
    have hs : (Z.take k ++ Z.drop (k + 1)).Sublist Z := by rw [← List.eraseIdx_eq_take_drop_succ]; exact List.eraseIdx_sublist ..
    exact ⟨h.1.sublist hs, Nat.le_trans hs.length_le h.2⟩
theorem vb_un {Z : List Vz} {s : ByteArray} (h : OkZ Z) : delB (vbL Z) s = vbL (unZ Z s) := by
  have h1 : delB (vbL Z) s = vbL (Z.filter fun x => !decide (x.n = s)) := by
    unfold delB
    have := vb_filterN Z (fun t => !decide (t = s))
    exact this
  rw [h1]
  congr 1
  unfold unZ
  cases hi : idxZ Z s with
  | none =>
    have := hi
    unfold idxZ at this
    rw [List.findIdx?_eq_none_iff] at this
    rw [List.filter_eq_self.2 (fun x hx => by simpa using this x hx)]
  | some k =>
    obtain ⟨x, hx, hn⟩ := idx_is hi
    obtain ⟨hk, e⟩ := List.getElem?_eq_some_iff.1 hx
    have hp := h.1
    have hsplit : Z = Z.take k ++ x :: Z.drop (k + 1) := by rw [← e, ← List.drop_eq_getElem_cons hk, List.take_append_drop]
    rw [hsplit] at hp
    obtain ⟨-, p2, p3⟩ := List.pairwise_append.1 hp
    have p4 := (List.pairwise_cons.1 p2).1
    have e1 : (Z.take k).filter (fun x => !decide (x.n = s)) = Z.take k := List.filter_eq_self.2 (fun y hy => by
      have := p3 y hy x (by simp)
      simp only [Bool.not_eq_true', decide_eq_false_iff_not]
      intro e2; exact this (e2.trans hn.symm))
    have e2 : (Z.drop (k + 1)).filter (fun x => !decide (x.n = s)) = Z.drop (k + 1) := List.filter_eq_self.2 (fun y hy => by
      have := p4 y hy
      simp only [Bool.not_eq_true', decide_eq_false_iff_not]
      intro e2; exact this (hn.trans e2.symm))
    have e0 : Z.filter (fun x => !decide (x.n = s)) = (Z.take k ++ x :: Z.drop (k + 1)).filter (fun x => !decide (x.n = s)) := congrArg _ hsplit
    rw [e0, List.filter_append, List.filter_cons_of_neg (by simp [hn]), e1, e2]
theorem vb_is (Z : List Vz) (s : ByteArray) : ((vbL Z).find? (isB s)).isSome = (idxZ Z s).isSome := by
  rw [vb_find]
  rcases idx_find (l := Z) (s := s) with ⟨h1, h2⟩ | ⟨k, x, h1, -, -, h2⟩ <;> (rw [h1, h2]; rfl)
end Go.Proofs.YtcmfmfkpmgoieaaGreatDoor

namespace Go.Proofs.YtcmfmfkpmgoieaaGreatDoor
open Go.RowKit Go.Maps

theorem bz_ext {a b : ByteArray} (h : a.data.toList = b.data.toList) : a = b := by
  cases a; cases b; simpa using h
theorem lessZ_before : ∀ (a b : List UInt8), Op.bytesLess a b = bytesBefore a b
  | [], [] => rfl
  | [], _ :: _ => rfl
  | _ :: _, [] => rfl
  | a :: r, b :: s => by
    unfold Op.bytesLess bytesBefore
    rw [lessZ_before r s]
theorem lessZ_iff (a b : ByteArray) : Op.bytesLess a.toList b.toList = true ↔ a.data.toList < b.data.toList := by
  rw [bytesLess_eq, Lib.toList_data, Lib.toList_data, decide_eq_true_iff]
theorem not_lessZ (a b : ByteArray) : Op.bytesLess a.toList b.toList = false ↔ ¬ a.data.toList < b.data.toList := by
  rw [← lessZ_iff, Bool.not_eq_true]
theorem ltZ_tri {a b : ByteArray} (h1 : ¬ a.data.toList < b.data.toList) (h2 : a ≠ b) : b.data.toList < a.data.toList := by
  have h3 : b.data.toList ≤ a.data.toList := List.not_lt.1 h1
  rcases List.le_iff_lt_or_eq.1 h3 with h | h
  · exact h
  · exact absurd (bz_ext h).symm h2
/-- a text as a key -/
def keyS (s : ByteArray) : Lit := .string s.data.toList
theorem lawV : Keyed Tryz.prog 9 := string_keyed Tryz.underlying9
theorem keyV {s : ByteArray} (h : s.size ≤ maxLen) : keyOf Tryz.prog 9 (.string s) = some (keyS s) := Go.WideMaps.keyOf_string_mk Tryz.underlying9 h
theorem keyV_inv {key : Value} {kl : Lit} (h : keyOf Tryz.prog 9 key = some kl) : ∃ s : ByteArray, key = .string s ∧ kl = keyS s := by
  cases key <;> simp [keyOf, Tryz.underlying9, mapKey] at h
  exact ⟨_, rfl, by first | exact h.symm | exact h.2.symm⟩

def nilZ : Vz := ⟨ByteArray.empty, [], 0, false, .slice none 0 0⟩
/-- how an element reads: as itself -/
def hElem (v : Value) : Option (DataW Value × List MemPlace) := some (.held v, [])
def datZ (x : Vz) : DataW Value := .held (vzA x)
def entZ (x : Vz) : Lit × DataW Value := (keyS x.n, datZ x)
def toZ (l : List Vz) : DataW Value := .map (l.map entZ)
theorem sameY (s : ByteArray) (x : Vz) : (entZ x).1.sameKey (keyS s) = decide (x.n = s) := by
  show (x.n.data.toList == s.data.toList) = _
  rw [Bool.eq_iff_iff, beq_iff_eq, decide_eq_true_iff]
  exact ⟨bz_ext, fun e => by rw [e]⟩
theorem toZ_has (l : List Vz) (s : ByteArray) : Maps.has (toZ l) (keyS s) = (l.find? fun x => decide (x.n = s)).isSome := by
  unfold toZ
  rw [has_eq, List.any_map, Bool.eq_iff_iff, List.any_eq_true, List.find?_isSome]
  constructor
  · rintro ⟨x, hx, h⟩; exact ⟨x, hx, by rw [← sameY]; exact h⟩
  · rintro ⟨x, hx, h⟩; exact ⟨x, hx, by rw [← sameY] at h; exact h⟩
theorem toZ_size (l : List Vz) : Maps.size (toZ l) = l.length := by
  unfold toZ
  rw [size_eq, List.length_map]
theorem find_entZ (l : List Vz) (s : ByteArray) : (l.map entZ).find? (fun p => p.1.sameKey (keyS s)) = (l.find? fun x => decide (x.n = s)).map entZ := by
  induction l with
  | nil => rfl
  | cons a r ih =>
    rw [List.map_cons, List.find?_cons, List.find?_cons, sameY, ih]
    cases decide (a.n = s) <;> rfl
theorem toZ_at (l : List Vz) (s : ByteArray) : (toZ l).atKey (keyS s) (datZ nilZ) = datZ ((l.find? fun x => decide (x.n = s)).getD nilZ) := by
  unfold toZ DataW.atKey
  simp only
  rw [find_entZ]
  cases l.find? (fun x => decide (x.n = s)) <;> rfl
theorem del_entZ (l : List Vz) (s : ByteArray) : (l.map entZ).filter (fun p => !p.1.sameKey (keyS s)) = (l.filter fun x => !decide (x.n = s)).map entZ := by
  induction l with
  | nil => rfl
  | cons a r ih =>
    rw [List.map_cons, List.filter_cons, List.filter_cons, sameY, ih]
    cases decide (a.n = s) <;> rfl
theorem toZ_del (l : List Vz) (s : ByteArray) : (toZ l).del (keyS s) = toZ (l.filter fun x => !decide (x.n = s)) := by
  show DataW.map ((l.map entZ).filter (fun p => !p.1.sameKey (keyS s))) = _
  rw [del_entZ]; rfl
/-- the variables stand by their names, rising -/
def RisZ (l : List Vz) : Prop := l.Pairwise fun a b => a.n.data.toList < b.n.data.toList
theorem entZ_before (a b : Vz) : (entZ a).1.before (entZ b).1 = true ↔ a.n.data.toList < b.n.data.toList := by
  show bytesBefore a.n.data.toList b.n.data.toList = true ↔ _
  rw [← lessZ_before, ← lessZ_iff, Lib.toList_data, Lib.toList_data]
theorem ins_entZ {v : Vz} : ∀ {l : List Vz}, RisZ l → DataW.insert (entZ v) ((l.filter fun x => !decide (x.n = v.n)).map entZ) = (setZ l v).map entZ
  | [], _ => rfl
  | a :: r, h => by
    obtain ⟨h1, h2⟩ := List.pairwise_cons.1 h
    have ih := ins_entZ (v := v) h2
    unfold setZ at ih ⊢
    by_cases e : a.n = v.n
    · have q1 : Op.bytesLess a.n.toList v.n.toList = false := by rw [e]; exact less_irr _
      have q2 : (a.n.toList == v.n.toList) = true := str_iff.2 e
      rw [List.filter_cons_of_neg (by simp [e]), List.filter_cons_of_neg (by simp [q1]), List.filter_cons_of_neg (by simp [q2]), ih]
    · have q2 : (a.n.toList == v.n.toList) = false := str_ne e
      rw [List.filter_cons_of_pos (by simp [e])]
      by_cases hl : a.n.data.toList < v.n.data.toList
      · have q1 : Op.bytesLess a.n.toList v.n.toList = true := (lessZ_iff _ _).2 hl
        have nb : ¬ (entZ v).1.before (entZ a).1 = true := by rw [entZ_before]; exact List.lt_asymm hl
        rw [List.filter_cons_of_pos (by simp [q1]), List.filter_cons_of_neg (by simp [q1]), List.map_cons]
        unfold DataW.insert
        rw [if_neg nb, ih]; rfl
      · have q1 : Op.bytesLess a.n.toList v.n.toList = false := (not_lessZ _ _).2 hl
        have hv := ltZ_tri hl e
        have up : ∀ x ∈ r, v.n.data.toList < x.n.data.toList := fun x hx => List.lt_trans hv (h1 x hx)
        have f0 : r.filter (fun x => !decide (x.n = v.n)) = r := List.filter_eq_self.2 fun x hx => by
          have := up x hx
          simp only [Bool.not_eq_true', decide_eq_false_iff_not]
          intro e2; rw [e2] at this; exact absurd this (List.lt_irrefl _)
        have f1 : r.filter (fun x => Op.bytesLess x.n.toList v.n.toList) = [] := List.filter_eq_nil_iff.2 fun x hx => by
          rw [lessZ_iff]; exact List.lt_asymm (up x hx)
        have f2 : r.filter (fun x => !(Op.bytesLess x.n.toList v.n.toList || x.n.toList == v.n.toList)) = r := List.filter_eq_self.2 fun x hx => by
          have h3 := up x hx
          have g1 : Op.bytesLess x.n.toList v.n.toList = false := (not_lessZ _ _).2 (List.lt_asymm h3)
          have g2 : (x.n.toList == v.n.toList) = false := str_ne fun e2 => by rw [e2] at h3; exact absurd h3 (List.lt_irrefl _)
          simp [g1, g2]
        have nb : (entZ v).1.before (entZ a).1 = true := (entZ_before _ _).2 hv
        rw [List.filter_cons_of_neg (by simp [q1]), List.filter_cons_of_pos (by simp [q1, q2]), f0, f1, f2, List.map_cons]
        unfold DataW.insert
        rw [if_pos nb]; rfl
theorem toZ_put {l : List Vz} (h : RisZ l) (v : Vz) : (toZ l).put (keyS v.n) (datZ v) = toZ (setZ l v) := by
  show DataW.map (DataW.insert (entZ v) ((l.map entZ).filter (fun p => !p.1.sameKey (keyS v.n)))) = _
  rw [del_entZ, ins_entZ h]; rfl
theorem set_snoc {l : List Vz} {v : Vz} (h : RisZ (l ++ [v])) : setZ l v = l ++ [v] := by
  have up : ∀ x ∈ l, x.n.data.toList < v.n.data.toList := fun x hx => (List.pairwise_append.1 h).2.2 x hx v (by simp)
  unfold setZ
  rw [List.filter_eq_self.2 (fun x hx => (lessZ_iff _ _).2 (up x hx)), List.filter_eq_nil_iff.2 (fun x hx => by have := (lessZ_iff x.n v.n).2 (up x hx); simp [this])]
theorem set_mem {l : List Vz} {v x : Vz} (h : x ∈ setZ l v) : x ∈ l ∨ x = v := by
  unfold setZ at h
  rcases List.mem_append.1 h with h | h
  · exact .inl (List.mem_filter.1 h).1
  · rcases List.mem_cons.1 h with h | h
    · exact .inr h
    · exact .inl (List.mem_filter.1 h).1

/-- block b is a map that holds these variables -/
def MapV (w : World) (b : Nat) (l : List Vz) : Prop := w.ownsMap Tryz.prog 9 hElem b l.length (toZ l)
theorem mapV_of {w : World} {b n : Nat} {l : List Vz} (h : w.ownsMap Tryz.prog 9 hElem b n (toZ l)) : MapV w b l := by
  obtain ⟨es, clock, hb, F, hs, hD⟩ := h
  refine ⟨es, clock, hb, F, ?_, hD⟩
  have e := toZ_size l
  rw [hD] at e
  rw [← e]
  simp [Maps.size, length_sorted]
theorem MapV.ris {w : World} {b : Nat} {l : List Vz} (h : MapV w b l) : RisZ l := by
  obtain ⟨es, he, hs, -⟩ := World.ownsMap.canon h lawV
  unfold toZ at he
  rw [DataW.map.injEq] at he
  subst he
  rw [List.pairwise_map] at hs
  exact hs.imp fun {a b} h => (entZ_before a b).1 h
theorem MapV.block {w w' : World} {b : Nat} {l : List Vz} (h : MapV w b l) (e : w'.heap[b]? = w.heap[b]?) : MapV w' b l := by
  obtain ⟨es, clock, hb, r⟩ := h
  exact ⟨es, clock, e.trans hb, r⟩
theorem MapV.lt {w : World} {b : Nat} {l : List Vz} (h : MapV w b l) : b < w.heap.size := World.ownsMap.lt h
theorem MapV.kept {w w' : World} {b : Nat} {l : List Vz} {row : Option Nat} (h : MapV w b l) (hg : w.grownBy w' row) (hb : some b ≠ row) : MapV w' b l := World.ownsMap.kept h hg hb
theorem MapV.grown {w w' : World} {b : Nat} {l : List Vz} (h : MapV w b l) (hg : w.grownBy w' none) : MapV w' b l := h.kept hg (by simp)
theorem MapV.drew {w : World} {b : Nat} {l : List Vz} (h : MapV w b l) : MapV w.drew b l := World.ownsMap.drew h
theorem MapV.alloc {w : World} {b : Nat} {l : List Vz} (h : MapV w b l) (o : Obj) : MapV (w.alloc o) b l := World.ownsMap.alloc h o
theorem mapV_not_cell {w : World} {p b o : Nat} {v : Value} {l : List Vz} (h : w.cell? ⟨p, o, none⟩ = some v) (hm : MapV w b l) : p ≠ b := by
  rintro rfl
  obtain ⟨es, clock, hb, -⟩ := hm
  unfold World.cell? at h
  rw [hb] at h
  cases h
theorem zeroVar (w : World) : (zeroValue 67).run Tryz.prog w = .ok (.agg #[.string ByteArray.empty, .slice none 0 0, .int .i64 0, .bool false]) w := by kernel_rfl
theorem hElem_is {v : Value} {x : Vz} {ps : List MemPlace} (h : hElem v = some (datZ x, ps)) : v = vzA x := by
  unfold hElem datZ at h
  rw [Option.some.injEq, Prod.mk.injEq, DataW.held.injEq] at h
  exact h.1
/-- what a look gives -/
def gotZ (l : List Vz) (s : ByteArray) : Vz := (l.find? fun x => decide (x.n = s)).getD nilZ
def hasZ (l : List Vz) (s : ByteArray) : Bool := (l.find? fun x => decide (x.n = s)).isSome
theorem MapV.look {w : World} {b : Nat} {l : List Vz} (h : MapV w b l) {s : ByteArray} (hs : s.size ≤ maxLen) :
    (Instr.lookup 95 (.map (some b)) (.string s) false).run Tryz.prog w = .ok (vzA (gotZ l s)) w := by
  obtain ⟨v, ps, hrun, hv⟩ := World.ownsMap.lookup h lawV Tryz.underlying95 (zeroVar w) (show hElem (vzA nilZ) = some (datZ nilZ, []) from rfl) (keyV hs)
  rw [toZ_at] at hv
  rw [hrun, hElem_is hv]; rfl
theorem MapV.look_ok {w : World} {b : Nat} {l : List Vz} (h : MapV w b l) {s : ByteArray} (hs : s.size ≤ maxLen) :
    (Instr.lookup 95 (.map (some b)) (.string s) true).run Tryz.prog w = .ok (.tuple #[vzA (gotZ l s), .bool (hasZ l s)]) w := by
  obtain ⟨v, ps, hrun, hv⟩ := World.ownsMap.look_ok h lawV Tryz.underlying95 (zeroVar w) (show hElem (vzA nilZ) = some (datZ nilZ, []) from rfl) (keyV hs)
  rw [toZ_at] at hv
  rw [hrun, hElem_is hv, toZ_has]; rfl
theorem MapV.len_run {w : World} {b : Nat} {l : List Vz} (h : MapV w b l) (ty : TypeId) : (Builtin.len_ #[95] ty #[.map (some b)]).run Tryz.prog w = .ok (.int .i64 l.length) w := by
  have := World.ownsMap.len h Tryz.underlying95 ty
  rwa [toZ_size] at this
theorem MapV.store {w : World} {b : Nat} {l : List Vz} (h : MapV w b l) (x : Vz) (hs : x.n.size ≤ maxLen) (hl : l.length < maxLen) :
    ∃ w', (Instr.mapUpdate 95 (.map (some b)) (.string x.n) (vzA x)).run Tryz.prog w = .ok () w' ∧ MapV w' b (setZ l x) ∧ w.grownBy w' (some b) := by
  obtain ⟨w', hrun, hm, hg⟩ := World.ownsMap.update h lawV Tryz.underlying95 hl (keyV hs) (show hElem (vzA x) = some (datZ x, []) from rfl)
  rw [toZ_put h.ris] at hm
  exact ⟨w', hrun, mapV_of hm, hg⟩
theorem mapV_new (w : World) : MapV (w.alloc (.map #[] 0)) w.heap.size [] := World.ownsMap_made _ _ _ _
theorem mapVNil (w : World) (r : Option Nat) : (binOp .eql 95 (.map r) (.map none)).run Tryz.prog w = .ok (.bool r.isNone) w := Go.run_eql_map_nil w _ _ _ r Tryz.underlying95

/-- p points to an Env of these variables, whose map is block b, in the blocks F -/
structure EvZ (w : World) (p b : Nat) (F : Nat → Prop) (Z : List Vz) : Prop where
  c : w.cell? ⟨p, 0, none⟩ = some (.map (some b))
  m : MapV w b Z
  n : Z.length ≤ 24
  fp : F p
  fb : F b
  lt : ∀ k, F k → k < w.heap.size
  t : ∀ x ∈ Z, TxG w (fun k => F k ∧ k ≠ p ∧ k ≠ b) x.u x.ws
  s : ∀ x ∈ Z, x.n.size ≤ 100 ∧ x.ws.length ≤ 100
theorem EvZ.keep {w w' : World} {p b : Nat} {F : Nat → Prop} {Z : List Vz} (h : EvZ w p b F Z) (k : KeepG F w w') : EvZ w' p b F Z :=
  ⟨keep_cell k h.fp h.c, h.m.block (k.2 b h.fb h.m.lt), h.n, h.fp, h.fb, fun c hc => Nat.lt_of_lt_of_le (h.lt c hc) k.1, fun x hx => (h.t x hx).keep ⟨k.1, fun c hc hl => k.2 c hc.1 hl⟩, h.s⟩
theorem EvZ.grown {w w' : World} {p b : Nat} {F : Nat → Prop} {Z : List Vz} (h : EvZ w p b F Z) (g : w.grownBy w' none) : EvZ w' p b F Z := h.keep (KeepG.grown g)
theorem EvZ.drew {w : World} {p b : Nat} {F : Nat → Prop} {Z : List Vz} (h : EvZ w p b F Z) : EvZ w.drew p b F Z := ⟨h.c, h.m, h.n, h.fp, h.fb, h.lt, fun x hx => h.t x hx, h.s⟩
theorem EvZ.ne {w : World} {p b : Nat} {F : Nat → Prop} {Z : List Vz} (h : EvZ w p b F Z) : p ≠ b := mapV_not_cell h.c h.m
def EvI (w : World) (p : Nat) (F : Nat → Prop) (l : List Vb) : Prop := ∃ b Z, EvZ w p b F Z ∧ vbL Z = l
end Go.Proofs.YtcmfmfkpmgoieaaGreatDoor
