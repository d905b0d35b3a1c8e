/- What package env's functions answer, as the laws are told of it; rows of acts; the chapter's example. -/
import Derived.Test.YtcmfmfkpmgoieaaGreatDoorEvRef
namespace Go.Proofs.YtcmfmfkpmgoieaaGreatDoor
open Go.RowKit

/-- only what lies in F's blocks, or is new, may have changed -/
structure OutF (F : Nat → Prop) (w w' : World) : Prop where
  os : w'.os = w.os
  tape : w'.tape = w.tape
  output : w'.output = w.output
  size : w.heap.size ≤ w'.heap.size
  block : ∀ k, k < w.heap.size → ¬F k → w'.heap[k]? = w.heap[k]?
theorem OutF.of {F : Nat → Prop} {w w' : World} (g : w.grownBy w' none) : OutF F w w' := ⟨g.os, g.tape, g.output, g.size, fun k hk _ => g.block k hk (by simp)⟩
theorem OutF.grown {F : Nat → Prop} {w0 w w' : World} (h : OutF F w w') (g : w0.grownBy w none) (hF : ∀ b, F b → w0.heap.size ≤ b) : w0.grownBy w' none :=
  ⟨h.os.trans g.os, h.tape.trans g.tape, h.output.trans g.output, Nat.le_trans g.size h.size, fun k hk _ => (h.block k (Nat.lt_of_lt_of_le hk g.size) (fun e => by have := hF k e; omega)).trans (g.block k hk (by simp))⟩
theorem OutF.keep {F G : Nat → Prop} {w w' : World} (h : OutF F w w') (hG : ∀ b, G b → ¬F b) : KeepG G w w' := ⟨h.size, fun b hb hl => h.block b hl (hG b hb)⟩
def setB (l : List Vb) (v : Vb) : List Vb := l.filter (fun x => Go.Op.bytesLess x.n.toList v.n.toList) ++ v :: l.filter (fun x => !(Go.Op.bytesLess x.n.toList v.n.toList || x.n.toList == v.n.toList))
def isB (s : ByteArray) (x : Vb) : Bool := decide (x.n = s)
theorem isB_iff {s : ByteArray} {x : Vb} : isB s x = true ↔ x.n = s := by unfold isB; simp
def pubV (l : List Vb) (v : Vb) : Nat × List Vb :=
  if chkV v ≠ 0 then (chkV v, l)
  else match l.find? (isB v.n) with
    | some y => if v.lv < y.lv then (0, l) else (0, setB l v)
    | none => if 24 ≤ l.length then (10, l) else (0, setB l v)
def delB (l : List Vb) (s : ByteArray) : List Vb := l.filter fun x => !isB s x
/-- a variable, or none -/
def PFnd (o : Option Vb) (w : World) (e : Ending) (w' : World) : Prop :=
  w.grownBy w' none ∧ ∃ x : Vz, e = .returned (.tuple #[vzA x, .bool o.isSome]) ∧ TxRow w' x.u x.ws ∧ ∀ y, o = some y → x.b = y
/-- variables in a row -/
def PLst (l : List Vb) (w : World) (e : Ending) (w' : World) : Prop := w.grownBy w' none ∧ ∃ v Z, e = .returned v ∧ VRow w' (fun b => b < w'.heap.size) v Z ∧ vbL Z = l
/-- an act: its kind, its variable -/
structure Ac where
  k : Int
  v : Vz
/-- v is a slice that holds these acts -/
def ARow (w : World) (v : Value) (L : List Ac) : Prop :=
  ∃ a c, v = .slice a L.length c ∧ L.length ≤ 9223372036854775807 ∧ (∀ x ∈ L, TxRow w x.v.u x.v.ws ∧ (x.v.ws ≠ [] → ∀ b, x.v.u.ownBlock = some b → b < w.heap.size)) ∧
    (L ≠ [] → ∃ b off, a = some ⟨b, off, none⟩ ∧ b < w.heap.size ∧ ∀ (j : Nat) (x : Ac), L[j]? = some x →
      w.cell? ⟨b, off + j * 5, none⟩ = some (.int .i64 x.k) ∧ w.cell? ⟨b, off + j * 5 + 1, none⟩ = some (.string x.v.n) ∧ w.cell? ⟨b, off + j * 5 + 2, none⟩ = some x.v.u ∧ w.cell? ⟨b, off + j * 5 + 3, none⟩ = some (.int .i64 x.v.lv) ∧ w.cell? ⟨b, off + j * 5 + 4, none⟩ = some (.bool x.v.hd))
theorem ARow.grown {w w' : World} {v : Value} {L : List Ac} (h : ARow w v L) (g : w.grownBy w' none) : ARow w' v L := by
  obtain ⟨a, c, e, hn, ht, hr⟩ := h
  refine ⟨a, c, e, hn, fun x hx => ⟨(ht x hx).1.later (below_of_grown g), fun hl b hb => Nat.lt_of_lt_of_le ((ht x hx).2 hl b hb) g.size⟩, fun hne => ?_⟩
  obtain ⟨b, off, ea, hlt, hc⟩ := hr hne
  refine ⟨b, off, ea, Nat.lt_of_lt_of_le hlt g.size, fun j x hx => ?_⟩
  obtain ⟨h1, h2, h3, h4, h5⟩ := hc j x hx
  exact ⟨g.cell h1 (by simp), g.cell h2 (by simp), g.cell h3 (by simp), g.cell h4 (by simp), g.cell h5 (by simp)⟩
theorem ARow.shape {w : World} {v : Value} {L : List Ac} (h : ARow w v L) : ∃ a c, v = .slice a L.length c ∧ L.length ≤ 9223372036854775807 := by
  obtain ⟨a, c, e, hn, -⟩ := h; exact ⟨a, c, e, hn⟩
theorem ARow.at {w : World} {v : Value} {L : List Ac} (h : ARow w v L) (k : Nat) (hk : k < L.length) :
    ∃ b off c x, v = .slice (some ⟨b, off, none⟩) L.length c ∧ L[k]? = some x ∧ TxRow w x.v.u x.v.ws ∧ (x.v.ws ≠ [] → ∀ b, x.v.u.ownBlock = some b → b < w.heap.size) ∧
      w.cell? ⟨b, off + k * 5, none⟩ = some (.int .i64 x.k) ∧ w.cell? ⟨b, off + k * 5 + 1, none⟩ = some (.string x.v.n) ∧ w.cell? ⟨b, off + k * 5 + 2, none⟩ = some x.v.u ∧ w.cell? ⟨b, off + k * 5 + 3, none⟩ = some (.int .i64 x.v.lv) ∧ w.cell? ⟨b, off + k * 5 + 4, none⟩ = some (.bool x.v.hd) := by
  obtain ⟨a, c, e, hn, ht, hc⟩ := h
  have hne : L ≠ [] := by intro e; rw [e] at hk; simp at hk
  obtain ⟨b, off, rfl, hlt, hcc⟩ := hc hne
  have hf : L[k]? = some L[k] := List.getElem?_eq_getElem hk
  exact ⟨b, off, c, L[k], e, hf, (ht _ (List.getElem_mem hk)).1, (ht _ (List.getElem_mem hk)).2, hcc k _ hf⟩
/-- short acts -/
def Sha (x : Ac) : Prop := x.v.n.size ≤ 60 ∧ x.v.ws.length ≤ 60 ∧ ∀ t ∈ x.v.ws, t.size ≤ 200
theorem long_no {l : List ByteArray} (h : longQ 60 200 l = false) : l.length ≤ 60 ∧ ∀ t ∈ l, t.size ≤ 200 := by
  unfold longQ at h
  rw [Bool.or_eq_false_iff] at h
  obtain ⟨h1, h2⟩ := h
  refine ⟨by simpa using h1, fun t ht => ?_⟩
  rw [List.any_eq_false] at h2
  simpa using h2 t ht
/-- whether it is too much, and that it is little otherwise -/
def PLga (m : Nat) (L : List Ac) (w : World) (e : Ending) (w' : World) : Prop :=
  (∃ z, e = .returned (.bool z) ∧ (z = false → L.length ≤ m ∧ ∀ x ∈ L, Sha x)) ∧ w.grownBy w' none
theorem five_ac {w : World} {b : Nat} {v0 v1 v2 v3 v4 : Value} {t : TypeId} (h : w.heap[b]? = some (.cells #[v0, v1, v2, v3, v4] t (0, 0))) :
    w.cell? ⟨b, 0, none⟩ = some v0 ∧ w.cell? ⟨b, 1, none⟩ = some v1 ∧ w.cell? ⟨b, 2, none⟩ = some v2 ∧ w.cell? ⟨b, 3, none⟩ = some v3 ∧ w.cell? ⟨b, 4, none⟩ = some v4 := by
  refine ⟨?_, ?_, ?_, ?_, ?_⟩ <;> (unfold World.cell?; rw [h]; rfl)
set_option maxRecDepth 100000 in
set_option maxHeartbeats 4000000 in
theorem lLongA (v : Value) (L : List Ac) (m : Nat) (w : World) (hR : ARow w v L) : Calls Tryz.prog 29 #[v, .int .i64 m] w (PLga m L w) := by
  obtain ⟨va, vc, rfl, hm⟩ := hR.shape
  have HR := Lib.hid hR
  clear hR
  by_cases h12 : m < L.length
  · have e0 : decide ((L.length : Int) > (m : Int)) = true := by simp; omega
    go_enter Tryz.func29, Tryz.ntmps29
    go_wp2
    go_ret
    exact ⟨⟨true, rfl, fun h => by cases h⟩, World.grownBy.refl _ _⟩
  have e0 : decide ((L.length : Int) > (m : Int)) = false := by simp; omega
  go_enter Tryz.func29, Tryz.ntmps29
  go_wp2
  clear e0
  go_loopw [13] (fun i wr => ∃ j : Nat, j ≤ L.length ∧ i = .int .i64 j ∧ Hid (∀ (q : Nat) (x : Ac), q < j → L[q]? = some x → Sha x) ∧ Hid (w.grownBy wr none)) (fun i _ => L.length - (intOf i).toNat)
  case atStart => exact ⟨0, Nat.zero_le _, rfl, Lib.hid (fun q x hm => by omega), Lib.hid (World.grownBy.refl _ _)⟩
  case round =>
    obtain ⟨j, hj, rfl, hI, hG⟩ := hrel
    by_cases hlt : j < L.length
    · obtain ⟨b, off, c, x, ev, hx, ht, -, c0, c1, c2, c3, c4⟩ := (HR.out.grown hG.out).at j hlt
      injection ev with ev1 ev2 ev3
      subst ev1 ev3
      obtain ⟨k, n, ws, lv, hd, u⟩ := x
      obtain ⟨a', c', hu, -⟩ := id ht
      simp only at hu ht c0 c1 c2 c3 c4
      subst hu
      have HX := Lib.hid hx
      have g4 := World.grownBy_alloc wr (.cells #[.int .i64 k, .string n, .slice a' ws.length c', .int .i64 lv, .bool hd] 75) none
      have B4 := Lib.hid (heap_alloc_new wr (.cells #[.int .i64 k, .string n, .slice a' ws.length c', .int .i64 lv, .bool hd] 75))
      have G4 := Lib.hid (hG.out.trans g4)
      have T4 := Lib.hid (ht.later (below_of_grown g4))
      clear hx ht g4
      go_upto_region 6 with fail
      generalize wr.alloc _ = w4 at B4 G4 T4 ⊢
      obtain ⟨d0, d1, d2, d3, d4⟩ := five_ac B4.out
      clear c0 c1 c2 c3 c4
      have CL := Lib.hid (show Calls Tryz.prog 26 #[.slice a' ws.length c', .int .i64 60, .int .i64 200] w4 fun e w' => e = .returned (.bool (longQ 60 200 ws)) ∧ w4 = w' from cLongT _ ws 60 200 w4 T4.out)
      by_cases hn : 60 < n.size
      · have e1 : decide ((n.size : Int) > 60) = true := by simp; omega
        go_wp2
        go_ret
        exact ⟨⟨true, rfl, fun h => by cases h⟩, G4.out⟩
      have e1 : decide ((n.size : Int) > 60) = false := by simp; omega
      cases hl : longQ 60 200 ws
      · rw [hl] at CL
        have HI := Lib.hid (show ∀ (q : Nat) (y : Ac), q < j + 1 → L[q]? = some y → Sha y from fun q y hm hy => by
          rcases Nat.lt_succ_iff_lt_or_eq.1 hm with h4 | rfl
          · exact hI.out q y h4 hy
          · rw [HX.out] at hy
            cases hy
            exact ⟨by show n.size ≤ 60; omega, long_no hl⟩)
        clear hl
        go_wp2_with (go_at_call 26; (with_reducible refine CL.out.mono ?_); rintro e w5 ⟨rfl, rfl⟩)
        go_roundw
        case rel => exact ⟨j + 1, hlt, by go_num, HI, G4⟩
        case measure => simp [intOf]; omega
      · rw [hl] at CL
        clear hl
        go_wp2_with (go_at_call 26; (with_reducible refine CL.out.mono ?_); rintro e w5 ⟨rfl, rfl⟩)
        go_ret
        exact ⟨⟨true, rfl, fun h => by cases h⟩, G4.out⟩
    · have HF := Lib.hid (show ∀ x ∈ L, Sha x from fun x hx => by
        obtain ⟨i, hi⟩ := List.mem_iff_getElem?.1 hx
        exact hI.out i x (by have := (List.getElem?_eq_some_iff.1 hi).1; omega) hi)
      go_wp2
      go_ret
      exact ⟨⟨false, rfl, fun _ => ⟨by omega, HF.out⟩⟩, hG.out⟩
end Go.Proofs.YtcmfmfkpmgoieaaGreatDoor
