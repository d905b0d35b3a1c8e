/- Rows of statements, as they lie in memory: those that are read, those that a call makes. Lines that came in. The document's own answer where a sign stands outside of pieces. The document's own text without blanks and tabs at both ends. A statement's ten cells in a block; what the document's call answers for a line. -/
import Derived.Test.YtdganemgldocoaaGreatDoorSmPlain
import Derived.Test.YtdganemgldocoaaGreatDoorLxRef
import Derived.Test.YtdganemgldocoaaGreatDoorLnRow
import Derived.Test.YtdganemgldocoaaGreatDoorExLex
import Derived.Test.YtdganemgldocoaaGreatDoorClsBase
import Derived.Test.YtdganemgldocoaaGreatDoorLnRef
import Derived.Test.YtdganemgldocoaaGreatDoorAtRef
namespace Go.Proofs.YtdganemgldocoaaGreatDoor
open Go.RowKit

/-- a statement, its texts as the program has them -/
structure Sb where
  k : Int
  ln : Int
  nm : ByteArray
  hs : List (List Pb)
  ws : List (List Pb)
  fl : Nat
  pr : ByteArray
  rc : ByteArray
  hd : Bool
  cm : Bool
def Sb.q (x : Sb) : Sm := ⟨x.k, x.ln, x.nm.data.toList, pcLL x.hs, pcLL x.ws, x.fl, x.pr.data.toList, x.rc.data.toList, x.hd, x.cm⟩
theorem Sb.q_inj {a b : Sb} (h : a.q = b.q) : a = b := by
  obtain ⟨k, ln, nm, hs, ws, fl, pr, rc, hd, cm⟩ := a
  obtain ⟨k', ln', nm', hs', ws', fl', pr', rc', hd', cm'⟩ := b
  unfold Sb.q at h
  simp only [Sm.mk.injEq] at h
  obtain ⟨h1, h2, h3, h4, h5, h6, h7, h8, h9, h10⟩ := h
  rw [h1, h2, bytes_inj h3, pcLL_inj h4, pcLL_inj h5, h6, bytes_inj h7, bytes_inj h8, h9, h10]
abbrev smQ (L : List Sb) : List Sm := L.map Sb.q
theorem smQ_inj {a b : List Sb} (h : smQ a = smQ b) : a = b := List.map_inj_right (fun _ _ => Sb.q_inj) |>.1 h
/-- a statement's cells: hv and wv are its rows of words -/
abbrev smC (hv wv : Value) (x : Sb) : List Value := [.int .i64 x.k, .int .i64 x.ln, .string x.nm, hv, wv, .int .i64 x.fl, .string x.pr, .string x.rc, .bool x.hd, .bool x.cm]
/-- where a statement's cells lie -/
def SmAt (w : World) (b o : Nat) (x : Sb) (hv wv : Value) : Prop := ∀ i u, (smC hv wv x)[i]? = some u → w.cell? ⟨b, o + i, none⟩ = some u
/-- v is a slice that holds these statements -/
def SRow (w : World) (v : Value) (L : List Sb) : Prop :=
  ∃ a c, v = .slice a L.length c ∧ L.length ≤ 9223372036854775807 ∧
    (L ≠ [] → ∃ b off, a = some ⟨b, off, none⟩ ∧ b < w.heap.size ∧ ∀ (j : Nat) (x : Sb), L[j]? = some x →
      ∃ hv wv, SmAt w b (off + j * 10) x hv wv ∧ RRow w hv x.hs ∧ RRow w wv x.ws)
theorem SRow.later {w w' : World} {v : Value} {L : List Sb} (h : SRow w v L) (hb : Below w.heap.size w w') : SRow w' v L := by
  obtain ⟨a, c, e, hn, hc⟩ := h
  refine ⟨a, c, e, hn, fun hne => ?_⟩
  obtain ⟨b, off, ea, hlt, hcc⟩ := hc hne
  refine ⟨b, off, ea, Nat.lt_of_lt_of_le hlt hb.size, fun j m hj => ?_⟩
  obtain ⟨hv, wv, h1, h2, h3⟩ := hcc j m hj
  exact ⟨hv, wv, fun i u hu => (hb.cell hlt).trans (h1 i u hu), h2.later hb, h3.later hb⟩
theorem SRow.grown {w w' : World} {v : Value} {L : List Sb} (h : SRow w v L) (hg : w.grownBy w' none) : SRow w' v L := h.later (below_of_grown hg)
theorem SRow.shape {w : World} {v : Value} {L : List Sb} (h : SRow w v L) : ∃ a c, v = .slice a L.length c ∧ L.length ≤ 9223372036854775807 := by
  obtain ⟨a, c, e, hn, -⟩ := h; exact ⟨a, c, e, hn⟩
/-- the k-th statement, as the walk reads it -/
theorem SRow.at {w : World} {v : Value} {L : List Sb} (h : SRow w v L) (k : Nat) (hk : k < L.length) :
    ∃ b off c x hv wv, v = .slice (some ⟨b, off, none⟩) L.length c ∧ L[k]? = some x ∧ b < w.heap.size ∧ SmAt w b (off + k * 10) x hv wv ∧ RRow w hv x.hs ∧ RRow w wv x.ws := by
  obtain ⟨a, c, e, hn, hc⟩ := h
  have hne : L ≠ [] := by intro e; rw [e] at hk; simp at hk
  obtain ⟨b, off, rfl, hlt, hcc⟩ := hc hne
  have hf : L[k]? = some L[k] := List.getElem?_eq_getElem hk
  obtain ⟨hv, wv, h1, h2, h3⟩ := hcc k _ hf
  exact ⟨b, off, c, L[k], hv, wv, e, hf, hlt, h1, h2, h3⟩
/-- the cells of statements, one behind the other -/
def smV : List (Value × Value) → List Sb → List Value
  | u :: us, x :: L => smC u.1 u.2 x ++ smV us L
  | _, _ => []
theorem smV_snoc : ∀ {us : List (Value × Value)} {L : List Sb} (u : Value × Value) (x : Sb), us.length = L.length → smV (us ++ [u]) (L ++ [x]) = smV us L ++ smC u.1 u.2 x
  | [], [], u, x, _ => rfl
  | _ :: _, [], u, x, h => by simp at h
  | [], _ :: _, u, x, h => by simp at h
  | p :: us, y :: L, u, x, h => by
    have ih := smV_snoc (us := us) (L := L) u x (by simpa using h)
    rw [List.cons_append, List.cons_append, smV, ih, smV, List.append_assoc]
theorem smV_get : ∀ {us : List (Value × Value)} {L : List Sb} {j : Nat} {u : Value × Value} {x : Sb}, us[j]? = some u → L[j]? = some x → ∀ i v, (smC u.1 u.2 x)[i]? = some v → (smV us L)[j * 10 + i]? = some v
  | [], _, j, u, x, h, _, _, _, _ => by simp at h
  | _ :: _, [], j, u, x, _, h, _, _, _ => by simp at h
  | p :: us, y :: L, 0, u, x, h1, h2, i, v, hv => by
    obtain rfl : p = u := by simpa using h1
    obtain rfl : y = x := by simpa using h2
    rw [smV, List.getElem?_append_left (by have := (List.getElem?_eq_some_iff.1 hv).1; omega), Nat.zero_mul, Nat.zero_add]
    exact hv
  | p :: us, y :: L, j + 1, u, x, h1, h2, i, v, hv => by
    have ih := smV_get (us := us) (L := L) (j := j) (u := u) (x := x) (by simpa using h1) (by simpa using h2) i v hv
    have e : (smC p.1 p.2 y).length = 10 := rfl
    rw [smV, List.getElem?_append_right (by rw [e]; omega), e, show (j + 1) * 10 + i - 10 = j * 10 + i by omega]
    exact ih
theorem sm_one {hv wv : Value} (h1 : hv.oneCell' = true) (h2 : wv.oneCell' = true) (x : Sb) : ∀ u ∈ smC hv wv x, u.oneCell' = true := by
  intro u hu
  simp only [smC, List.mem_cons, List.not_mem_nil, or_false] at hu
  rcases hu with rfl | rfl | rfl | rfl | rfl | rfl | rfl | rfl | rfl | rfl <;> first | rfl | assumption
/-- rows of pieces stay where another type's block is changed -/
theorem OwnRR.kept {w w' : World} {base : Nat} {T TT : TypeId} {v : Value} {L : List (List Pb)} {row : Option Nat} (h : OwnRR w base T TT v L) (g : w.grownBy w' row) (hr : ∀ k, row = some k → ∃ c TS, w.heap[k]? = some (.cells c TS (0, 0)) ∧ TS ≠ T ∧ TS ≠ TT) : OwnRR w' base T TT v L := by
  have key : ∀ {e : TypeId} {s n : Nat} {u : Value} {xs : List Value}, (e = T ∨ e = TT) → w.ownsRow base e s u n xs → w'.ownsRow base e s u n xs := by
    intro e s n u xs he ho
    refine ho.kept g ?_
    rcases ho.2 with ⟨h4, -⟩ | ⟨q, cap, cur, h4, -, h5, -⟩
    · rw [h4]; exact .inl rfl
    · rw [h4]
      refine .inr fun e2 => ?_
      simp [Value.ownBlock] at e2
      obtain ⟨c, TS, h6, h7, h8⟩ := hr q e2.symm
      rw [h5] at h6
      injection h6 with h6
      injection h6 with _ h6
      rcases he with rfl | rfl
      · exact h7 h6.symm
      · exact h8 h6.symm
  obtain ⟨vs, h1, h2, h3⟩ := h
  exact ⟨vs, h1, key (.inr rfl) h2, fun j u l hj hl => ⟨(h3 j u l hj hl).1, key (.inl rfl) (h3 j u l hj hl).2⟩⟩
theorem OwnRR.keep {w w' : World} {base : Nat} {T TT : TypeId} {v : Value} {L : List (List Pb)} (h : OwnRR w base T TT v L) (g : w.grownBy w' none) : OwnRR w' base T TT v L := h.kept g (fun k e => by cases e)
theorem OwnRR.up {w : World} {base base' : Nat} {T TT : TypeId} {v : Value} {L : List (List Pb)} (h : OwnRR w base T TT v L) (hb : base' ≤ base) : OwnRR w base' T TT v L := by
  have key : ∀ {e : TypeId} {s n : Nat} {u : Value} {xs : List Value}, w.ownsRow base e s u n xs → w.ownsRow base' e s u n xs := by
    intro e s n u xs ho
    refine ⟨ho.1, ?_⟩
    rcases ho.2 with h | ⟨q, cap, cur, h4, h5, h6⟩
    · exact .inl h
    · exact .inr ⟨q, cap, cur, h4, Nat.le_trans hb h5, h6⟩
  obtain ⟨vs, h1, h2, h3⟩ := h
  exact ⟨vs, h1, key h2, fun j u l hj hl => ⟨(h3 j u l hj hl).1, key (h3 j u l hj hl).2⟩⟩
theorem ownRR_nil (w : World) (base : Nat) (T TT : TypeId) : OwnRR w base T TT (.slice none 0 0) [] := ⟨[], rfl, World.ownsRow_nil _ _ _ _, fun j u l h _ => by simp at h⟩
theorem OwnRR.one {w : World} {base : Nat} {T TT : TypeId} {v : Value} {L : List (List Pb)} (h : OwnRR w base T TT v L) : v.oneCell' = true := by
  obtain ⟨vs, -, h2, -⟩ := h
  rcases h2.2 with ⟨h4, -⟩ | ⟨q, cap, cur, h4, -⟩ <;> (rw [h4]; rfl)
theorem OwnRR.shape {w : World} {base : Nat} {T TT : TypeId} {v : Value} {L : List (List Pb)} (h : OwnRR w base T TT v L) : ∃ a c, v = .slice a L.length c := by
  obtain ⟨vs, -, h2, -⟩ := h
  rcases h2.2 with ⟨h4, h5⟩ | ⟨q, cap, cur, h4, -⟩
  · exact ⟨none, 0, by rw [h4, h5]⟩
  · exact ⟨_, cap, h4⟩
/-- statements that a call makes -/
def OwnS (w : World) (base : Nat) (TS T TT : TypeId) (v : Value) (L : List Sb) : Prop :=
  ∃ us : List (Value × Value), us.length = L.length ∧ w.ownsRow base TS 10 v L.length (smV us L) ∧ ∀ (j : Nat) (u : Value × Value) (x : Sb), us[j]? = some u → L[j]? = some x →
    OwnRR w base T TT u.1 x.hs ∧ OwnRR w base T TT u.2 x.ws ∧ x.hs.length ≤ 9223372036854775807 ∧ x.ws.length ≤ 9223372036854775807
theorem OwnS.shape {w : World} {base : Nat} {TS T TT : TypeId} {v : Value} {L : List Sb} (h : OwnS w base TS T TT v L) : ∃ a c, v = .slice a L.length c := by
  obtain ⟨us, -, h2, -⟩ := h
  rcases h2.2 with ⟨h4, h5⟩ | ⟨q, cap, cur, h4, -⟩
  · exact ⟨none, 0, by rw [h4, h5]⟩
  · exact ⟨_, cap, h4⟩
theorem OwnS.keep {w w' : World} {base : Nat} {TS T TT : TypeId} {v : Value} {L : List Sb} (h : OwnS w base TS T TT v L) (g : w.grownBy w' none) : OwnS w' base TS T TT v L := by
  obtain ⟨us, h1, h2, h3⟩ := h
  refine ⟨us, h1, own_keep h2 g, fun j u x hu hx => ?_⟩
  obtain ⟨a, b, c⟩ := h3 j u x hu hx
  exact ⟨a.keep g, b.keep g, c⟩
theorem ownS_nil (w : World) (base : Nat) (TS T TT : TypeId) : OwnS w base TS T TT (.slice none 0 0) [] := ⟨[], rfl, World.ownsRow_nil _ _ _ _, fun j u l h _ => by simp at h⟩
theorem ownS_zero (w : World) (base : Nat) (TS T TT : TypeId) (hb : base ≤ w.heap.size) : OwnS (w.alloc (.cells #[] TS)) base TS T TT (.slice (some ⟨w.heap.size, 0, none⟩) 0 0) [] :=
  ⟨[], rfl, ⟨rfl, .inr ⟨w.heap.size, 0, _, rfl, hb, heap_alloc_new w _, Nat.le_refl _, by decide, rfl, rfl⟩⟩, fun j u l h _ => by simp at h⟩
/-- behind an append -/
theorem OwnS.snoc {w w' : World} {base : Nat} {TS T TT : TypeId} {v v' : Value} {L : List Sb} {us : List (Value × Value)} {hv wv : Value} {x : Sb} (h1 : us.length = L.length)
    (h3 : ∀ (j : Nat) (u : Value × Value) (y : Sb), us[j]? = some u → L[j]? = some y → OwnRR w base T TT u.1 y.hs ∧ OwnRR w base T TT u.2 y.ws ∧ y.hs.length ≤ 9223372036854775807 ∧ y.ws.length ≤ 9223372036854775807)
    (hh : OwnRR w base T TT hv x.hs) (hw : OwnRR w base T TT wv x.ws) (hl : x.hs.length ≤ 9223372036854775807 ∧ x.ws.length ≤ 9223372036854775807)
    (g : w.grownBy w' v.ownBlock) (hr : ∀ k, v.ownBlock = some k → ∃ c, w.heap[k]? = some (.cells c TS (0, 0))) (ht : TS ≠ T ∧ TS ≠ TT)
    (ho : w'.ownsRow base TS 10 v' (L.length + 1) (smV us L ++ smC hv wv x)) : OwnS w' base TS T TT v' (L ++ [x]) := by
  have hk : ∀ k, v.ownBlock = some k → ∃ c TS, w.heap[k]? = some (.cells c TS (0, 0)) ∧ TS ≠ T ∧ TS ≠ TT := fun k hk => by obtain ⟨c, hc⟩ := hr k hk; exact ⟨c, TS, hc, ht⟩
  refine ⟨us ++ [(hv, wv)], by rw [List.length_append, List.length_append, h1]; rfl, by rw [smV_snoc _ _ h1, List.length_append]; exact ho, fun j u y hu hy => ?_⟩
  rcases Nat.lt_or_ge j us.length with hm | hm
  · rw [List.getElem?_append_left hm] at hu
    rw [List.getElem?_append_left (by rw [← h1]; exact hm)] at hy
    obtain ⟨a, b, c⟩ := h3 j u y hu hy
    exact ⟨a.kept g hk, b.kept g hk, c⟩
  · rw [List.getElem?_append_right hm] at hu
    have hm0 : j - us.length = 0 := by have := (List.getElem?_eq_some_iff.1 hu).1; simp at this; omega
    rw [List.getElem?_append_right (by rw [← h1]; exact hm), ← h1, hm0] at hy
    rw [hm0] at hu
    cases hu; cases hy
    exact ⟨hh.kept g hk, hw.kept g hk, hl⟩
theorem OwnS.row {w : World} {base : Nat} {TS T TT : TypeId} {v : Value} {L : List Sb} (h : OwnS w base TS T TT v L) (hm : L.length ≤ 9223372036854775807) : SRow w v L := by
  obtain ⟨us, h1, h2, h3⟩ := h
  rcases h2.2 with ⟨rfl, h0⟩ | ⟨g, cap, cur, rfl, hb, hg, k1, k2, k3, k4⟩
  · exact ⟨none, 0, by rw [h0], hm, fun hne => absurd (List.eq_nil_of_length_eq_zero h0) hne⟩
  · refine ⟨_, cap, rfl, hm, fun _ => ⟨g, 0, rfl, (Array.getElem?_eq_some_iff.1 hg).1, fun j x hj => ?_⟩⟩
    have hjl := (List.getElem?_eq_some_iff.1 hj).1
    have hu : us[j]? = some us[j] := List.getElem?_eq_getElem (by omega)
    obtain ⟨a, b, c, d⟩ := h3 j _ x hu hj
    refine ⟨us[j].1, us[j].2, fun i u hi => ?_, rr_row a c, rr_row b d⟩
    have := h2.cells (g := g) rfl _ _ (smV_get hu hj i u hi)
    rw [Addr.add_lit, Nat.zero_add] at this
    rw [Nat.zero_add]
    exact this
/-- v is a slice that holds these lines -/
def LiRow (w : World) (v : Value) (O : List Li) : Prop :=
  ∃ a c, v = .slice a O.length c ∧ O.length ≤ 9223372036854775807 ∧
    (O ≠ [] → ∃ b off, a = some ⟨b, off, none⟩ ∧ b < w.heap.size ∧ ∀ (j : Nat) (x : Li), O[j]? = some x →
      w.cell? ⟨b, off + j * 3, none⟩ = some (.string x.t) ∧ w.cell? ⟨b, off + j * 3 + 1, none⟩ = some (.int .i64 x.n) ∧ w.cell? ⟨b, off + j * 3 + 2, none⟩ = some (.bool x.r))
theorem LiRow.later {w w' : World} {v : Value} {O : List Li} (h : LiRow w v O) (hb : Below w.heap.size w w') : LiRow w' v O := by
  obtain ⟨a, c, e, hn, hc⟩ := h
  refine ⟨a, c, e, hn, fun hne => ?_⟩
  obtain ⟨b, off, ea, hlt, hcc⟩ := hc hne
  refine ⟨b, off, ea, Nat.lt_of_lt_of_le hlt hb.size, fun j m hj => ?_⟩
  obtain ⟨h1, h2, h3⟩ := hcc j m hj
  exact ⟨(hb.cell hlt).trans h1, (hb.cell hlt).trans h2, (hb.cell hlt).trans h3⟩
theorem LiRow.grown {w w' : World} {v : Value} {O : List Li} (h : LiRow w v O) (hg : w.grownBy w' none) : LiRow w' v O := h.later (below_of_grown hg)
theorem LiRow.at {w : World} {v : Value} {O : List Li} (h : LiRow w v O) (k : Nat) (hk : k < O.length) :
    ∃ b off c x, v = .slice (some ⟨b, off, none⟩) O.length c ∧ O[k]? = some x ∧ b < w.heap.size ∧
      w.cell? ⟨b, off + k * 3, none⟩ = some (.string x.t) ∧ w.cell? ⟨b, off + k * 3 + 1, none⟩ = some (.int .i64 x.n) ∧ w.cell? ⟨b, off + k * 3 + 2, none⟩ = some (.bool x.r) := by
  obtain ⟨a, c, e, hn, hc⟩ := h
  have hne : O ≠ [] := by intro e; rw [e] at hk; simp at hk
  obtain ⟨b, off, rfl, hlt, hcc⟩ := hc hne
  have hf : O[k]? = some O[k] := List.getElem?_eq_getElem hk
  exact ⟨b, off, c, O[k], e, hf, hlt, hcc k _ hf⟩
theorem LiRow.shape {w : World} {v : Value} {O : List Li} (h : LiRow w v O) : ∃ a c, v = .slice a O.length c ∧ O.length ≤ 9223372036854775807 := by
  obtain ⟨a, c, e, hn, -⟩ := h; exact ⟨a, c, e, hn⟩
def Lb.i (x : Lb) : Li := ⟨x.t, x.n, x.r⟩
theorem li_of_ln {w : World} {v : Value} {O : List Lb} (h : LnRow w v O) : LiRow w v (O.map Lb.i) := by
  obtain ⟨a, c, e, hn, hc⟩ := h
  refine ⟨a, c, by rw [List.length_map]; exact e, by rw [List.length_map]; exact hn, fun hne => ?_⟩
  obtain ⟨b, off, ea, hlt, hcc⟩ := hc (fun h => hne (by rw [h]; rfl))
  refine ⟨b, off, ea, hlt, fun j x hj => ?_⟩
  rw [List.getElem?_map, Option.map_eq_some_iff] at hj
  obtain ⟨y, hy, rfl⟩ := hj
  exact hcc j y hy
end Go.Proofs.YtdganemgldocoaaGreatDoor

namespace Go.Proofs.YtdganemgldocoaaGreatDoor
open Go.RowKit

/-- a Plain piece begins with a plain byte, and ends where those end -/
theorem pc_plain {l : List UInt8} {j q : Nat} {b : UInt8} {x : Pq} (h : l[j]? = some b) (hb : blkQ b = false) (ho : onA l j = .ok (x, l.drop q)) (hq : q ≤ l.length) :
    (x.k = 0 ∧ plcQ b = true ∧ q = spnQ plcQ l j) ∨ (x.k ≠ 0 ∧ plcQ b = false) := by
  by_cases hp : plcQ b = true
  · rw [on_pl h hp] at ho
    injection ho with ho
    injection ho with h1 h2
    refine .inl ⟨by rw [← h1], hp, ?_⟩
    have h3 := congrArg List.length h2
    rw [List.length_drop, List.length_drop] at h3
    have h4 := (spn_le (p := plcQ) (Nat.le_of_lt (List.getElem?_eq_some_iff.1 h).1)).2
    omega
  · have hp : plcQ b = false := by simpa using hp
    refine .inr ⟨?_, hp⟩
    unfold onA at ho
    rw [drop_at h] at ho
    obtain ⟨h1, h2, -⟩ := on_ok hb ho
    intro h0
    rcases h1 with ⟨-, -, -, h4, h5, -⟩ | ⟨h4, -⟩ | ⟨h4, -⟩ | ⟨h4, -⟩ | ⟨h4, -⟩
    · unfold txP at h2
      rw [if_pos h0] at h2
      have := List.all_eq_true.1 h5 b (List.mem_of_mem_head? (by rw [h2]; rfl))
      rw [hp] at this; cases this
    all_goals (rw [h0] at h4; cases h4)
theorem pc_err {l : List UInt8} {j e : Nat} {b : UInt8} (h : l[j]? = some b) (ho : onA l j = .error e) : plcQ b = false := by
  cases hp : plcQ b
  · rfl
  · rw [on_pl h hp] at ho; cases ho
/-- a byte of a Plain piece -/
theorem spn_in {l : List UInt8} {j i : Nat} {b : UInt8} (h1 : j ≤ i) (h2 : i < spnQ plcQ l j) (h : l[i]? = some b) : plcQ b = true := by
  have ht := spn_take plcQ l j
  have hm : b ∈ (l.drop j).takeWhile plcQ := by
    rw [← ht]
    refine List.mem_of_getElem? (i := i - j) ?_
    rw [List.getElem?_drop, show j + (i - j) = i by omega, List.getElem?_take_of_lt h2]
    exact h
  exact List.all_eq_true.1 (tw_mem (p := plcQ) (l.drop j)) b hm
theorem plc_blk {b : UInt8} (h : plcQ b = true) : blkQ b = false := by
  unfold plcQ at h
  cases hb : blkQ b
  · rfl
  · rw [hb] at h; simp at h
/-- one of a text's bytes -/
def ofB (g : ByteArray) (b : UInt8) : Bool := g.data.toList.contains b
theorem of_no {g : ByteArray} {b : UInt8} (h : ∀ m (hm : m < g.size), b ≠ g[m]) : ofB g b = false := by
  unfold ofB
  rw [← Bool.not_eq_true, List.contains_iff_mem]
  intro hm
  obtain ⟨m, hm1, hm2⟩ := List.getElem_of_mem hm
  exact h m (by simpa using hm1) hm2.symm
theorem of_yes {g : ByteArray} {b : UInt8} {m : Nat} (hm : m < g.size) (h : b = g[m]) : ofB g b = true := by
  unfold ofB
  rw [List.contains_iff_mem, h]
  have h2 : m < g.data.toList.length := by simpa using hm
  exact List.getElem_mem h2
set_option maxRecDepth 100000 in
set_option maxHeartbeats 8000000 in
theorem dFind13 (s g : ByteArray) (w : World) (hs : s.size ≤ 5000) (hg : g.size ≤ 5000) : Calls Tryz.prog 42 #[.string s, .string g] w fun e w' => e = .returned (.int .i64 (fnA (ofB g) s.data.toList 0)) ∧ w.grownBy w' none := by
  obtain ⟨X, hX⟩ : ∃ X, fnA (ofB g) s.data.toList 0 = X := ⟨_, rfl⟩
  rw [hX]
  have HX := Lib.hid hX
  have hlen : s.data.toList.length = s.size := by simp
  have HLN := Lib.hid hlen
  clear hX hlen
  go_enter Tryz.func42, Tryz.ntmps42
  go_wp2
  go_loopw [5, 6, 7, 8, 9, 10] (fun at_ _ _ _ _ _ wr => ∃ j : Nat, j ≤ s.size ∧ at_ = .int .i64 j ∧ Hid (fnA (ofB g) s.data.toList j = X) ∧ Hid (w.grownBy wr none)) (fun at_ _ _ _ _ _ _ => s.size - (intOf at_).toNat)
  case atStart => exact ⟨0, Nat.zero_le _, rfl, HX, Lib.hid (World.grownBy.refl _ _)⟩
  case round =>
    obtain ⟨j, hj, rfl, hF, hG⟩ := hrel
    clear HX
    by_cases hlt : j < s.size
    · have HJ := Lib.hid (list_at hlt)
      have CB := Lib.hid (fun w => dBlank s[j] w)
      cases hb : blkQ s[j]
      · rw [hb] at CB
        have CP := Lib.hid (dOne s j wr hs hlt hb)
        have HB := Lib.hid hb
        clear hb
        go_wp2_with (go_at_call 72; (with_reducible refine (CB.out _).mono ?_); rintro e w3 ⟨rfl, rfl⟩)
        refine CP.out.mono ?_
        rintro e w3 ⟨g3, hout⟩
        have G3 := Lib.hid (hG.out.trans g3)
        rcases hout with ⟨x, q, rfl, hq, hP⟩ | ⟨bad, rfl, hbd, hP⟩
        · have hjq : j < q := on_place HJ.out HB.out hP hq
          have hqs : q ≤ s.size := by rw [← HLN.out]; exact hq
          have HPC := Lib.hid (pc_plain HJ.out HB.out hP hq)
          have HPN := Lib.hid (fun h => fnA_piece (sg := ofB g) HJ.out HB.out h hP hq)
          have B4 := Lib.hid (heap_alloc_new w3 (.cells #[.int .i64 x.k, .string x.t, .string x.f, .string x.o] 107))
          have G4 := Lib.hid (G3.out.trans (World.grownBy_alloc w3 (.cells #[.int .i64 x.k, .string x.t, .string x.f, .string x.o] 107) none))
          clear hP hq g3 CP
          go_upto_region 6 with fail
          generalize w3.alloc _ = w4 at B4 G4 ⊢
          obtain ⟨d0, d1, d2, d3⟩ := four_px B4.out
          rcases HPC.out with ⟨hk, hp, hsp⟩ | ⟨hk, hp⟩
          · have hk : x.k = 0 := hk
            rw [hk] at d0
            have HSP := Lib.hid hsp
            have D0 := Lib.hid d0
            clear hsp hp HPC HPN hk d0 d1 d2 d3
            have d0 := D0.out
            go_wp2
            clear d0
            go_loopw [9, 10] (fun i_ _ wi => ∃ i : Nat, j ≤ i ∧ i ≤ q ∧ i_ = .int .i64 i ∧ Hid (fnA (ofB g) s.data.toList i = X) ∧ Hid (w4.grownBy wi none)) (fun i_ _ _ => q - (intOf i_).toNat)
            case atStart => exact ⟨j, Nat.le_refl _, by omega, rfl, hF, Lib.hid (World.grownBy.refl _ _)⟩
            case round =>
              obtain ⟨i, hji, hiq, rfl, hI, hGi⟩ := hrel
              have d0 := hGi.out.cell D0.out (by simp)
              by_cases hlt2 : i < q
              · have HI := Lib.hid (list_at (s := s) (i := i) (by omega))
                have HPi := Lib.hid (spn_in hji (by rw [← HSP.out]; exact hlt2) HI.out)
                have his : i < s.size := by omega
                go_wp2
                go_loopw [10] (fun k_ wk => ∃ k : Nat, k ≤ g.size ∧ k_ = .int .i64 k ∧ Hid (∀ m (hm : m < g.size), m < k → s[i] ≠ g[m]) ∧ Hid (w4.grownBy wk none)) (fun k_ _ => g.size - (intOf k_).toNat)
                case atStart => exact ⟨0, Nat.zero_le _, rfl, Lib.hid (fun m _ h => by omega), hGi⟩
                case round =>
                  obtain ⟨k, hk, rfl, hK, hGk⟩ := hrel
                  by_cases hlt3 : k < g.size
                  · by_cases he : s[i] = g[k]
                    · have e1 : (((s[i]).toNat : Int) == ((g[k]).toNat : Int)) = true := by rw [he]; simp
                      have HN := Lib.hid (show (i : Int) = X by rw [← hI.out, fnA_sign HI.out (plc_blk HPi.out) HPi.out (of_yes hlt3 he)])
                      have GF := Lib.hid (G4.out.trans hGk.out)
                      clear he
                      go_upto_region 14 with fail
                      go_quiet (fail)
                      go_wp2
                      go_ret
                      exact ⟨ret_int HN.out, grown_drewN GF.out _⟩
                    · have e1 : (((s[i]).toNat : Int) == ((g[k]).toNat : Int)) = false := by
                        rw [beq_eq_false_iff_ne]; intro h; exact he (UInt8.toNat_inj.1 (by omega))
                      have HK := Lib.hid (show ∀ m (hm : m < g.size), m < k + 1 → s[i] ≠ g[m] from fun m hm h => by
                        rcases Nat.lt_succ_iff_lt_or_eq.1 h with h | rfl
                        · exact hK.out m hm h
                        · exact he)
                      clear he
                      go_upto_region 14 with fail
                      go_quiet (fail)
                      go_wp2
                      go_roundw
                      case rel => exact ⟨k + 1, by omega, by go_num, HK, Lib.hid (grown_drewN hGk.out _)⟩
                      case measure => simp [intOf]; omega
                  · have HN := Lib.hid (show fnA (ofB g) s.data.toList (i + 1) = X by rw [← fnA_on HI.out (plc_blk HPi.out) HPi.out (of_no fun m hm => hK.out m hm (by omega))]; exact hI.out)
                    go_wp2
                    go_roundw
                    case rel => exact ⟨i + 1, by omega, by omega, by go_num, HN, hGk⟩
                    case measure => simp [intOf]; omega
              · obtain rfl : i = q := by omega
                go_wp2
                go_roundw
                case rel => exact ⟨i, hqs, rfl, hI, Lib.hid (G4.out.trans hGi.out)⟩
                case measure => simp [intOf]; omega
          · have hk : x.k ≠ 0 := hk
            have e0 : ((x.k : Int) == 0) = false := by rw [beq_eq_false_iff_ne]; exact hk
            have HN := Lib.hid (show fnA (ofB g) s.data.toList q = X by rw [← HPN.out hp]; exact hF.out)
            have D0 := Lib.hid d0
            clear HPC HPN hp d1 d2 d3 d0
            have d0 := D0.out
            go_wp2
            clear d0
            go_loopw [9, 10] (fun i_ _ wi => i_ = .int .i64 j ∧ Hid (w4.grownBy wi none)) (fun _ _ _ => 0)
            case atStart => exact ⟨rfl, Lib.hid (World.grownBy.refl _ _)⟩
            case round =>
              obtain ⟨rfl, hGi⟩ := hrel
              have d0 := hGi.out.cell D0.out (by simp)
              go_wp2
              go_roundw
              case rel => exact ⟨q, hqs, rfl, HN, Lib.hid (G4.out.trans hGi.out)⟩
              case measure => simp [intOf]; omega
        · have HN := Lib.hid (show (-1 : Int) = X by rw [← hF.out, fnA_err HJ.out HB.out (pc_err HJ.out hP) hP])
          have hbd2 : ((bad : Int) == 0) = false := by rw [beq_eq_false_iff_ne]; omega
          clear hP
          go_wp2
          go_ret
          exact ⟨ret_int HN.out, G3.out.trans (World.grownBy_alloc _ _ _)⟩
      · rw [hb] at CB
        have HN := Lib.hid (show fnA (ofB g) s.data.toList (j + 1) = X by rw [← fnA_blank HJ.out hb]; exact hF.out)
        clear hb
        go_wp2_with (go_at_call 72; (with_reducible refine (CB.out _).mono ?_); rintro e w3 ⟨rfl, rfl⟩)
        go_roundw
        case rel => exact ⟨j + 1, by omega, by go_num, HN, hG⟩
        case measure => simp [intOf]; omega
    · have HN := Lib.hid (show (-1 : Int) = X by rw [← hF.out, fnA_end (by rw [HLN.out]; omega)])
      go_wp2
      go_ret
      exact ⟨ret_int HN.out, hG.out⟩
end Go.Proofs.YtdganemgldocoaaGreatDoor

namespace Go.Proofs.YtdganemgldocoaaGreatDoor
open Go.RowKit

theorem bt_at (b : UInt8) : ((b == 32) = true ∧ ((b.toNat : Int) == 32) = true) ∨ ((b == 32) = false ∧ ((b.toNat : Int) == 32) = false) := by
  by_cases h : b = 32
  · subst h; exact .inl ⟨rfl, rfl⟩
  · refine .inr ⟨by simpa using h, ?_⟩
    rw [beq_eq_false_iff_ne]; intro e; exact h (UInt8.toNat_inj.1 (by show b.toNat = 32; omega))
theorem bt_at9 (b : UInt8) : ((b == 9) = true ∧ ((b.toNat : Int) == 9) = true) ∨ ((b == 9) = false ∧ ((b.toNat : Int) == 9) = false) := by
  by_cases h : b = 9
  · subst h; exact .inl ⟨rfl, rfl⟩
  · refine .inr ⟨by simpa using h, ?_⟩
    rw [beq_eq_false_iff_ne]; intro e; exact h (UInt8.toNat_inj.1 (by show b.toNat = 9; omega))
set_option maxRecDepth 100000 in
theorem dGap (b : UInt8) (w : World) : Calls Tryz.prog 40 #[.int .u8 b.toNat] w fun e w' => e = .returned (.bool (btQ b)) ∧ w = w' := by
  unfold btQ
  rcases bt_at b with ⟨h1, e1⟩ | ⟨h1, e1⟩ <;> rcases bt_at9 b with ⟨h2, e2⟩ | ⟨h2, e2⟩
  all_goals
    rw [h1, h2]
    clear h1 h2
    go_enter Tryz.func40, Tryz.ntmps40
    go_wp2
    go_ret
    exact ⟨rfl, rfl⟩
theorem dw_on {l : List UInt8} {i : Nat} {b : UInt8} (h : l[i]? = some b) (hb : btQ b = true) : (l.drop i).dropWhile btQ = (l.drop (i + 1)).dropWhile btQ := by
  rw [drop_at h, List.dropWhile_cons_of_pos hb]
theorem dw_off {l : List UInt8} {i : Nat} {b : UInt8} (h : l[i]? = some b) (hb : btQ b = false) : (l.drop i).dropWhile btQ = l.drop i := by
  rw [drop_at h, List.dropWhile_cons_of_neg (by rw [hb]; simp)]
theorem tk_last {l : List UInt8} {i j : Nat} {b : UInt8} (h : l[j]? = some b) (hij : i ≤ j) : (l.take (j + 1)).drop i = (l.take j).drop i ++ [b] := by
  have hj := (List.getElem?_eq_some_iff.1 h).1
  rw [List.take_add_one, h]
  rw [List.drop_append_of_le_length (by rw [List.length_take]; omega)]
  rfl
set_option maxRecDepth 100000 in
set_option maxHeartbeats 4000000 in
theorem dTrim19 (s : ByteArray) (w : World) (hs : s.size ≤ 100000) : Calls Tryz.prog 22 #[.string s] w fun e w' => (∃ t : ByteArray, e = .returned (.string t) ∧ t.data.toList = trQ s.data.toList ∧ t.size ≤ s.size) ∧ w.grownBy w' none := by
  have hlen : s.data.toList.length = s.size := by simp
  have HLN := Lib.hid hlen
  have CG := Lib.hid (fun b w => dGap b w)
  clear hlen
  go_enter Tryz.func22, Tryz.ntmps22
  go_wp2
  go_loopw [3] (fun i_ wr => ∃ i : Nat, i ≤ s.size ∧ i_ = .int .i64 i ∧ Hid (s.data.toList.dropWhile btQ = (s.data.toList.drop i).dropWhile btQ) ∧ Hid (w = wr)) (fun i_ _ => s.size - (intOf i_).toNat)
  case atStart => exact ⟨0, Nat.zero_le _, rfl, Lib.hid rfl, Lib.hid rfl⟩
  case round =>
    obtain ⟨i, hi, rfl, hD, hW⟩ := hrel
    have hw := hW.out
    subst hw
    have key : (i < s.size ∧ ∃ h : i < s.size, btQ s[i] = true) ∨ (Hid (s.data.toList.dropWhile btQ = s.data.toList.drop i) ∧ (¬ i < s.size ∨ ∃ h : i < s.size, btQ s[i] = false)) := by
      by_cases hlt : i < s.size
      · cases hb : btQ s[i]
        · exact .inr ⟨Lib.hid (by rw [hD.out, dw_off (list_at hlt) hb]), .inr ⟨hlt, hb⟩⟩
        · exact .inl ⟨hlt, hlt, hb⟩
      · exact .inr ⟨Lib.hid (by rw [hD.out, List.drop_of_length_le (by rw [HLN.out]; omega)]; rfl), .inl hlt⟩
    rcases key with ⟨hlt, hlt2, hb⟩ | ⟨hE, hst⟩
    · have HD := Lib.hid (show s.data.toList.dropWhile btQ = (s.data.toList.drop (i + 1)).dropWhile btQ by rw [hD.out, dw_on (list_at hlt) hb])
      have C1 := Lib.hid (fun w => hb ▸ CG.out s[i] w)
      clear hb hD
      go_wp2_with (go_at_call 40; (with_reducible refine (C1.out _).mono ?_); rintro e w3 ⟨rfl, rfl⟩)
      go_roundw
      case rel => exact ⟨i + 1, by omega, by go_num, HD, by first | exact Lib.hid rfl | exact Lib.hid trivial⟩
      case measure => simp [intOf]; omega
    · have key2 : Hid (trQ s.data.toList = tlQ ((s.data.toList.take s.size).drop i)) := Lib.hid (by unfold trQ; rw [hE.out, List.take_of_length_le (by rw [HLN.out]; exact Nat.le_refl _)])
      clear hD hE
      rcases hst with hlt | ⟨hlt, hb⟩
      · go_wp2_with fail
        go_loopw [4] (fun j_ wr => j_ = .int .i64 i ∧ Hid (w = wr)) (fun _ _ => 0)
        case atStart => exact ⟨by rw [show s.size = i by omega], Lib.hid rfl⟩
        case round =>
          obtain ⟨rfl, hW2⟩ := hrel
          have hw2 := hW2.out
          subst hw2
          have HN := Lib.hid (show [] = trQ s.data.toList by
            rw [key2.out, List.drop_of_length_le (by rw [List.length_take]; omega)]; rfl)
          go_wp2
          go_ret
          exact ⟨⟨_, rfl, HN.out, Nat.zero_le _⟩, World.grownBy.refl _ _⟩
      · have C1 := Lib.hid (fun w => hb ▸ CG.out s[i] w)
        clear hb
        go_wp2_with (go_at_call 40; (with_reducible refine (C1.out _).mono ?_); rintro e w3 ⟨rfl, rfl⟩)
        clear C1
        go_loopw [4] (fun j_ wr => ∃ j : Nat, i ≤ j ∧ j ≤ s.size ∧ j_ = .int .i64 j ∧ Hid (trQ s.data.toList = tlQ ((s.data.toList.take j).drop i)) ∧ Hid (w = wr)) (fun j_ _ => (intOf j_).toNat)
        case atStart => exact ⟨s.size, hi, Nat.le_refl _, rfl, key2, Lib.hid rfl⟩
        case round =>
          obtain ⟨j, hij, hj, rfl, hT, hW2⟩ := hrel
          have hw2 := hW2.out
          subst hw2
          by_cases hgt : i < j
          · obtain ⟨n, rfl⟩ : ∃ n, j = n + 1 := ⟨j - 1, by omega⟩
            have hn : n < s.size := by omega
            have en : wrap64 (((n + 1 : Nat) : Int) - 1) = (n : Int) := by unfold wrap64; omega
            have HJ := Lib.hid (list_at hn)
            cases hb : btQ s[n]
            · have HN := Lib.hid (show (s.extract i (n + 1)).data.toList = trQ s.data.toList by rw [toList_cut2, hT.out, tk_last HJ.out (by omega), tl_off hb])
              have C1 := Lib.hid (fun w => hb ▸ CG.out s[n] w)
              have hz : (s.extract i (n + 1)).size ≤ s.size := by simp; omega
              clear hb
              go_wp2_with (go_at_call 40; (with_reducible refine (C1.out _).mono ?_); rintro e w3 ⟨rfl, rfl⟩)
              go_ret
              exact ⟨⟨_, rfl, HN.out, hz⟩, World.grownBy.refl _ _⟩
            · have HT := Lib.hid (show trQ s.data.toList = tlQ ((s.data.toList.take n).drop i) by rw [hT.out, tk_last HJ.out (by omega), tl_on hb])
              have C1 := Lib.hid (fun w => hb ▸ CG.out s[n] w)
              clear hb
              go_wp2_with (go_at_call 40; (with_reducible refine (C1.out _).mono ?_); rintro e w3 ⟨rfl, rfl⟩)
              go_roundw
              case rel => exact ⟨n, by omega, by omega, by go_num, HT, by first | exact Lib.hid rfl | exact Lib.hid trivial⟩
              case measure => simp [intOf]
          · obtain rfl : i = j := by omega
            have HN := Lib.hid (show [] = trQ s.data.toList by
              rw [hT.out, List.drop_of_length_le (by rw [List.length_take]; omega)]; rfl)
            go_wp2
            go_ret
            exact ⟨⟨_, rfl, HN.out, Nat.zero_le _⟩, World.grownBy.refl _ _⟩
end Go.Proofs.YtdganemgldocoaaGreatDoor

namespace Go.Proofs.YtdganemgldocoaaGreatDoor
open Go.RowKit

theorem ten_at {w : World} {b : Nat} {v0 v1 v2 v3 v4 v5 v6 v7 v8 v9 : Value} {t : TypeId} (h : w.heap[b]? = some (.cells #[v0, v1, v2, v3, v4, v5, v6, v7, v8, v9] t (0, 0))) :
    w.cell? ⟨b, 0, none⟩ = some v0 ∧ w.cell? ⟨b, 1, none⟩ = some v1 ∧ w.cell? ⟨b, 2, none⟩ = some v2 ∧ w.cell? ⟨b, 3, none⟩ = some v3 ∧ w.cell? ⟨b, 4, none⟩ = some v4 ∧
    w.cell? ⟨b, 5, none⟩ = some v5 ∧ w.cell? ⟨b, 6, none⟩ = some v6 ∧ w.cell? ⟨b, 7, none⟩ = some v7 ∧ w.cell? ⟨b, 8, none⟩ = some v8 ∧ w.cell? ⟨b, 9, none⟩ = some v9 := by
  refine ⟨?_, ?_, ?_, ?_, ?_, ?_, ?_, ?_, ?_, ?_⟩ <;> (unfold World.cell?; rw [h]; rfl)
/-- all ten cells stored -/
abbrev setT (w : World) (b : Nat) (v0 v1 v2 v3 v4 v5 v6 v7 v8 v9 : Value) : World :=
  (((((((((w.setCell ⟨b, 0, none⟩ v0).setCell ⟨b, 1, none⟩ v1).setCell ⟨b, 2, none⟩ v2).setCell ⟨b, 3, none⟩ v3).setCell ⟨b, 4, none⟩ v4).setCell ⟨b, 5, none⟩ v5).setCell ⟨b, 6, none⟩ v6).setCell ⟨b, 7, none⟩ v7).setCell ⟨b, 8, none⟩ v8).setCell ⟨b, 9, none⟩ v9
theorem set_t0 {w : World} {b : Nat} {a0 a1 a2 a3 a4 a5 a6 a7 a8 a9 : Value} {t : TypeId} (h : w.heap[b]? = some (.cells #[a0, a1, a2, a3, a4, a5, a6, a7, a8, a9] t (0, 0))) (v : Value) : (w.setCell ⟨b, 0, none⟩ v).heap[b]? = some (.cells #[v, a1, a2, a3, a4, a5, a6, a7, a8, a9] t (0, 0)) := heap_setCell_same _ b 0 _ _ v h
theorem set_t1 {w : World} {b : Nat} {a0 a1 a2 a3 a4 a5 a6 a7 a8 a9 : Value} {t : TypeId} (h : w.heap[b]? = some (.cells #[a0, a1, a2, a3, a4, a5, a6, a7, a8, a9] t (0, 0))) (v : Value) : (w.setCell ⟨b, 1, none⟩ v).heap[b]? = some (.cells #[a0, v, a2, a3, a4, a5, a6, a7, a8, a9] t (0, 0)) := heap_setCell_same _ b 1 _ _ v h
theorem set_t2 {w : World} {b : Nat} {a0 a1 a2 a3 a4 a5 a6 a7 a8 a9 : Value} {t : TypeId} (h : w.heap[b]? = some (.cells #[a0, a1, a2, a3, a4, a5, a6, a7, a8, a9] t (0, 0))) (v : Value) : (w.setCell ⟨b, 2, none⟩ v).heap[b]? = some (.cells #[a0, a1, v, a3, a4, a5, a6, a7, a8, a9] t (0, 0)) := heap_setCell_same _ b 2 _ _ v h
theorem set_t3 {w : World} {b : Nat} {a0 a1 a2 a3 a4 a5 a6 a7 a8 a9 : Value} {t : TypeId} (h : w.heap[b]? = some (.cells #[a0, a1, a2, a3, a4, a5, a6, a7, a8, a9] t (0, 0))) (v : Value) : (w.setCell ⟨b, 3, none⟩ v).heap[b]? = some (.cells #[a0, a1, a2, v, a4, a5, a6, a7, a8, a9] t (0, 0)) := heap_setCell_same _ b 3 _ _ v h
theorem set_t4 {w : World} {b : Nat} {a0 a1 a2 a3 a4 a5 a6 a7 a8 a9 : Value} {t : TypeId} (h : w.heap[b]? = some (.cells #[a0, a1, a2, a3, a4, a5, a6, a7, a8, a9] t (0, 0))) (v : Value) : (w.setCell ⟨b, 4, none⟩ v).heap[b]? = some (.cells #[a0, a1, a2, a3, v, a5, a6, a7, a8, a9] t (0, 0)) := heap_setCell_same _ b 4 _ _ v h
theorem set_t5 {w : World} {b : Nat} {a0 a1 a2 a3 a4 a5 a6 a7 a8 a9 : Value} {t : TypeId} (h : w.heap[b]? = some (.cells #[a0, a1, a2, a3, a4, a5, a6, a7, a8, a9] t (0, 0))) (v : Value) : (w.setCell ⟨b, 5, none⟩ v).heap[b]? = some (.cells #[a0, a1, a2, a3, a4, v, a6, a7, a8, a9] t (0, 0)) := heap_setCell_same _ b 5 _ _ v h
theorem set_t6 {w : World} {b : Nat} {a0 a1 a2 a3 a4 a5 a6 a7 a8 a9 : Value} {t : TypeId} (h : w.heap[b]? = some (.cells #[a0, a1, a2, a3, a4, a5, a6, a7, a8, a9] t (0, 0))) (v : Value) : (w.setCell ⟨b, 6, none⟩ v).heap[b]? = some (.cells #[a0, a1, a2, a3, a4, a5, v, a7, a8, a9] t (0, 0)) := heap_setCell_same _ b 6 _ _ v h
theorem set_t7 {w : World} {b : Nat} {a0 a1 a2 a3 a4 a5 a6 a7 a8 a9 : Value} {t : TypeId} (h : w.heap[b]? = some (.cells #[a0, a1, a2, a3, a4, a5, a6, a7, a8, a9] t (0, 0))) (v : Value) : (w.setCell ⟨b, 7, none⟩ v).heap[b]? = some (.cells #[a0, a1, a2, a3, a4, a5, a6, v, a8, a9] t (0, 0)) := heap_setCell_same _ b 7 _ _ v h
theorem set_t8 {w : World} {b : Nat} {a0 a1 a2 a3 a4 a5 a6 a7 a8 a9 : Value} {t : TypeId} (h : w.heap[b]? = some (.cells #[a0, a1, a2, a3, a4, a5, a6, a7, a8, a9] t (0, 0))) (v : Value) : (w.setCell ⟨b, 8, none⟩ v).heap[b]? = some (.cells #[a0, a1, a2, a3, a4, a5, a6, a7, v, a9] t (0, 0)) := heap_setCell_same _ b 8 _ _ v h
theorem set_t9 {w : World} {b : Nat} {a0 a1 a2 a3 a4 a5 a6 a7 a8 a9 : Value} {t : TypeId} (h : w.heap[b]? = some (.cells #[a0, a1, a2, a3, a4, a5, a6, a7, a8, a9] t (0, 0))) (v : Value) : (w.setCell ⟨b, 9, none⟩ v).heap[b]? = some (.cells #[a0, a1, a2, a3, a4, a5, a6, a7, a8, v] t (0, 0)) := heap_setCell_same _ b 9 _ _ v h
theorem set_ten {w : World} {b : Nat} {a0 a1 a2 a3 a4 a5 a6 a7 a8 a9 : Value} {t : TypeId} (h : w.heap[b]? = some (.cells #[a0, a1, a2, a3, a4, a5, a6, a7, a8, a9] t (0, 0))) (v0 v1 v2 v3 v4 v5 v6 v7 v8 v9 : Value) :
    (setT w b v0 v1 v2 v3 v4 v5 v6 v7 v8 v9).heap[b]? = some (.cells #[v0, v1, v2, v3, v4, v5, v6, v7, v8, v9] t (0, 0)) :=
  set_t9 (set_t8 (set_t7 (set_t6 (set_t5 (set_t4 (set_t3 (set_t2 (set_t1 (set_t0 h v0) v1) v2) v3) v4) v5) v6) v7) v8) v9
theorem grown_ten {w w1 : World} (h : w.grownBy w1 none) {b : Nat} (hb : w.heap.size ≤ b) (v0 v1 v2 v3 v4 v5 v6 v7 v8 v9 : Value) : w.grownBy (setT w1 b v0 v1 v2 v3 v4 v5 v6 v7 v8 v9) none :=
  grown_at1 (grown_at1 (grown_at1 (grown_at1 (grown_at1 (grown_at1 (grown_at1 (grown_at1 (grown_at1 (grown_at1 h 0 v0 hb) 1 v1 hb) 2 v2 hb) 3 v3 hb) 4 v4 hb) 5 v5 hb) 6 v6 hb) 7 v7 hb) 8 v8 hb) 9 v9 hb
theorem set_by (w : World) (b : Nat) (i : Nat) (v : Value) : w.grownBy (w.setCell ⟨b, i, none⟩ v) (some b) :=
  ⟨rfl, rfl, rfl, by simp [World.setCell], fun k _ hne => Below.heap_setCell _ _ _ _ (fun e => hne (by rw [e]))⟩
/-- rows of pieces stay where a statement's block is stored to -/
theorem OwnRR.set {w : World} {base : Nat} {T TT TS : TypeId} {v : Value} {L : List (List Pb)} (h : OwnRR w base T TT v L) {b : Nat} {cs : Array Value} (hb : w.heap[b]? = some (.cells cs TS (0, 0))) (h1 : TS ≠ T) (h2 : TS ≠ TT) (i : Nat) (u : Value) :
    OwnRR (w.setCell ⟨b, i, none⟩ u) base T TT v L := h.kept (set_by w b i u) (fun k e => by cases e; exact ⟨cs, TS, hb, h1, h2⟩)
theorem OwnRR.setT {w : World} {base : Nat} {T TT TS : TypeId} {v : Value} {L : List (List Pb)} (h : OwnRR w base T TT v L) {b : Nat} {a0 a1 a2 a3 a4 a5 a6 a7 a8 a9 : Value} (hb : w.heap[b]? = some (.cells #[a0, a1, a2, a3, a4, a5, a6, a7, a8, a9] TS (0, 0))) (h1 : TS ≠ T) (h2 : TS ≠ TT) (v0 v1 v2 v3 v4 v5 v6 v7 v8 v9 : Value) :
    OwnRR (setT w b v0 v1 v2 v3 v4 v5 v6 v7 v8 v9) base T TT v L := by
  have b0 := set_t0 hb v0
  have b1 := set_t1 b0 v1
  have b2 := set_t2 b1 v2
  have b3 := set_t3 b2 v3
  have b4 := set_t4 b3 v4
  have b5 := set_t5 b4 v5
  have b6 := set_t6 b5 v6
  have b7 := set_t7 b6 v7
  have b8 := set_t8 b7 v8
  exact (((((((((h.set hb h1 h2 0 v0).set b0 h1 h2 1 v1).set b1 h1 h2 2 v2).set b2 h1 h2 3 v3).set b3 h1 h2 4 v4).set b4 h1 h2 5 v5).set b5 h1 h2 6 v6).set b6 h1 h2 7 v7).set b7 h1 h2 8 v8).set b8 h1 h2 9 v9
theorem sizeSm : (Tryz.prog.info? 52).map (·.size) = some 10 := by kernel_rfl
theorem back_ten (T : TypeId) {fs : Array Field} (hT : Tryz.prog.underlying T = some (.struct fs)) (hi : (Tryz.prog.info? T).map (·.size) = some 10) {fn : Func} {p q : Tmp} {w : World} {g : Nat} {a0 a1 a2 a3 a4 a5 a6 a7 a8 a9 v : Value} {tmps : Array Value} (hf : fn.results = #[.cell p T, .tmp q])
    (hp : tmps.getD p undef = .pointer (some ⟨g, 0, none⟩)) (hq : tmps.getD q undef = v) (hg : w.heap[g]? = some (.cells #[a0, a1, a2, a3, a4, a5, a6, a7, a8, a9] T (0, 0))) :
    (results fn tmps).run Tryz.prog w = .ok (.tuple #[.agg #[a0, a1, a2, a3, a4, a5, a6, a7, a8, a9], v]) w := by
  have hp' : tmps[p]?.getD undef = .pointer (some ⟨g, 0, none⟩) := by simpa using hp
  have hq' : tmps[q]?.getD undef = v := by simpa using hq
  have hl := run_loadVar_row (P := Tryz.prog) w g T T _ (0, 0) _ hg hT rfl hi
  simp [results, hf, hp', hq', asAddr, hl]
/-- a statement as a value; none -/
abbrev smA (hv wv : Value) (x : Sb) : Value := .agg #[.int .i64 x.k, .int .i64 x.ln, .string x.nm, hv, wv, .int .i64 x.fl, .string x.pr, .string x.rc, .bool x.hd, .bool x.cm]
abbrev smZ : Value := .agg #[.int .i64 0, .int .i64 0, .string ⟨#[]⟩, .slice none 0 0, .slice none 0 0, .int .i64 0, .string ⟨#[]⟩, .string ⟨#[]⟩, .bool false, .bool false]
/-- small texts: what a statement of a line holds -/
def smS (x : Sb) : Prop := x.hs.length ≤ 5001 ∧ x.ws.length ≤ 5001 ∧ x.nm.size ≤ 5000 ∧ x.fl < 256 ∧ x.pr.size ≤ 5000 ∧ x.rc = ⟨#[]⟩ ∧ x.ln = 0
/-- the statement of a line that a call makes (T, TT the types of its rows), and no error; or an error: none is its value beside no error -/
def POne (T TT : TypeId) (no : Value) (err : Nat → Value) (R : Except Nat Sm) (w : World) (e : Ending) (w' : World) : Prop :=
  w.grownBy w' none ∧ match R with
    | .ok y => ∃ (x : Sb) (hv wv : Value), e = .returned (.tuple #[smA hv wv x, no]) ∧ x.q = y ∧ smS x ∧ OwnRR w' w.heap.size T TT hv x.hs ∧ OwnRR w' w.heap.size T TT wv x.ws
    | .error k => e = .returned (.tuple #[smZ, err k])
end Go.Proofs.YtdganemgldocoaaGreatDoor
