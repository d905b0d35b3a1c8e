/- Variables, plainly and as they lie in memory: rows of them, what blocks they reach. The document's own answers of layer 14 that only read: a name, whether a variable may be, where it stands, its words, whether two are the same. -/
import Derived.Test.YtdganemgldocoaaGreatDoorLxPlain
import Derived.Test.YtdganemgldocoaaGreatDoorQtRow
import Derived.WalkSmall
namespace Go.Proofs.YtdganemgldocoaaGreatDoor
open Go.RowKit

/-- a variable; u: its words' slice, where it lies in a row -/
structure Vz where
  n : ByteArray
  ws : List ByteArray
  lv : Int
  hd : Bool
  u : Value
/-- as the program's Env holds it, whatever its slice -/
structure Vb where
  n : ByteArray
  ws : List ByteArray
  lv : Int
  hd : Bool
def Vz.b (x : Vz) : Vb := ⟨x.n, x.ws, x.lv, x.hd⟩
abbrev vbL (l : List Vz) : List Vb := l.map Vz.b
abbrev nmB (s : ByteArray) : List UInt8 := s.data.toList
/-- an error's number, or 0 -/
def chkV (x : Vb) : Nat :=
  if namQ (nmB x.n) = false then 4 else if x.lv ≠ 0 ∧ x.lv ≠ 1 ∧ x.lv ≠ 2 then 1 else if 40 < x.ws.length then 10 else if x.ws.any (fun t => decide (120 < t.size)) then 2 else 0
/-- where a name stands -/
def idxZ (l : List Vz) (s : ByteArray) : Option Nat := l.findIdx? fun x => decide (x.n = s)
def atZ (l : List Vz) (s : ByteArray) : Int := match idxZ l s with | none => -1 | some k => k
def setZ (l : List Vz) (v : Vz) : List Vz := l.filter (fun x => Go.Op.bytesLess x.n.toList v.n.toList) ++ v :: l.filter (fun x => !(Go.Op.bytesLess x.n.toList v.n.toList || x.n.toList == v.n.toList))
/-- what Set answers, and what there is then -/
def putZ (l : List Vz) (v : Vz) : Nat × List Vz :=
  if chkV v.b ≠ 0 then (chkV v.b, l)
  else match l.find? (fun x => decide (x.n = v.n)) with
    | some y => if v.lv < y.lv then (0, l) else (0, setZ l v)
    | none => if 24 ≤ l.length then (10, l) else (0, setZ l v)
def unZ (l : List Vz) (s : ByteArray) : List Vz := match idxZ l s with | none => l | some k => l.take k ++ l.drop (k + 1)

/-- texts of a slice whose block is one of G -/
def TxG (w : World) (G : Nat → Prop) (v : Value) (l : List ByteArray) : Prop := TxRow w v l ∧ (l ≠ [] → ∀ b, v.ownBlock = some b → G b ∧ b < w.heap.size)
/-- what one of G's blocks holds is still held -/
def KeepG (G : Nat → Prop) (w w' : World) : Prop := w.heap.size ≤ w'.heap.size ∧ ∀ b, G b → b < w.heap.size → w'.heap[b]? = w.heap[b]?
theorem KeepG.refl (G : Nat → Prop) (w : World) : KeepG G w w := ⟨Nat.le_refl _, fun _ _ _ => rfl⟩
theorem KeepG.trans {G : Nat → Prop} {w w1 w2 : World} (h : KeepG G w w1) (h2 : KeepG G w1 w2) : KeepG G w w2 :=
  ⟨Nat.le_trans h.1 h2.1, fun b hb hl => (h2.2 b hb (Nat.lt_of_lt_of_le hl h.1)).trans (h.2 b hb hl)⟩
theorem KeepG.grown {G : Nat → Prop} {w w' : World} (h : w.grownBy w' none) : KeepG G w w' := ⟨h.size, fun b _ hl => h.block b hl (by simp)⟩
theorem KeepG.but {G : Nat → Prop} {w w' : World} {r : Nat} (h : w.grownBy w' (some r)) (hr : ¬G r) : KeepG G w w' := ⟨h.size, fun b hb hl => h.block b hl (by rintro e; cases e; exact hr hb)⟩
theorem keep_cell {G : Nat → Prop} {w w' : World} (h : KeepG G w w') {b off : Nat} {v : Value} (hb : G b) (hc : w.cell? ⟨b, off, none⟩ = some v) : w'.cell? ⟨b, off, none⟩ = some v := by
  have hl := cell_block hc
  have := h.2 b hb hl
  unfold World.cell? at hc ⊢
  rw [this]; exact hc
theorem TxG.keep {w w' : World} {G : Nat → Prop} {v : Value} {l : List ByteArray} (h : TxG w G v l) (hk : KeepG G w w') : TxG w' G v l := by
  obtain ⟨⟨a, c, e, hn, hr⟩, hg⟩ := h
  refine ⟨⟨a, c, e, hn, fun hne => ?_⟩, fun hl b hb => ⟨(hg hl b hb).1, Nat.lt_of_lt_of_le (hg hl b hb).2 hk.1⟩⟩
  obtain ⟨b, off, ea, hlt, hc⟩ := hr hne
  have hG : G b := (hg hne b (by rw [e, ea]; rfl)).1
  exact ⟨b, off, ea, Nat.lt_of_lt_of_le hlt hk.1, fun j x hx => keep_cell hk hG (hc j x hx)⟩
theorem TxG.more {w : World} {G G' : Nat → Prop} {v : Value} {l : List ByteArray} (h : TxG w G v l) (hs : ∀ b, G b → b < w.heap.size → G' b) : TxG w G' v l := ⟨h.1, fun hl b hb => ⟨hs b (h.2 hl b hb).1 (h.2 hl b hb).2, (h.2 hl b hb).2⟩⟩
/-- the block of a row that holds something is there -/
theorem tx_lt {w : World} {v : Value} {l : List ByteArray} (h : TxRow w v l) (hl : l ≠ []) : ∀ b, v.ownBlock = some b → b < w.heap.size := by
  obtain ⟨a, c, e, -, hr⟩ := h
  obtain ⟨b, off, ea, hlt, -⟩ := hr hl
  intro b' hb'
  rw [e, ea] at hb'
  have : b = b' := by simpa [Value.ownBlock] using hb'
  omega
abbrev vzC (x : Vz) : List Value := [.string x.n, x.u, .int .i64 x.lv, .bool x.hd]
def vzV (l : List Vz) : List Value := l.flatMap vzC
theorem vzV_snoc (l : List Vz) (x : Vz) : vzV (l ++ [x]) = vzV l ++ [.string x.n, x.u, .int .i64 x.lv, .bool x.hd] := by unfold vzV; rw [List.flatMap_append]; rfl
theorem vzV_app (l r : List Vz) : vzV (l ++ r) = vzV l ++ vzV r := by unfold vzV; rw [List.flatMap_append]
theorem vzV_len (l : List Vz) : (vzV l).length = l.length * 4 := by
  unfold vzV
  induction l with
  | nil => rfl
  | cons a l ih => rw [List.flatMap_cons, List.length_append, ih]; simp; omega
theorem vzV_get : ∀ {l : List Vz} {j : Nat} {x : Vz}, l[j]? = some x → (vzV l)[j * 4]? = some (.string x.n) ∧ (vzV l)[j * 4 + 1]? = some x.u ∧ (vzV l)[j * 4 + 2]? = some (.int .i64 x.lv) ∧ (vzV l)[j * 4 + 3]? = some (.bool x.hd)
  | [], j, x, h => by simp at h
  | a :: l, 0, x, h => by
    obtain rfl : a = x := by simpa using h
    exact ⟨rfl, rfl, rfl, rfl⟩
  | a :: l, j + 1, x, h => by
    obtain ⟨h1, h2, h3, h4⟩ := vzV_get (l := l) (j := j) (x := x) (by simpa using h)
    have e : vzV (a :: l) = .string a.n :: a.u :: .int .i64 a.lv :: .bool a.hd :: vzV l := rfl
    rw [e, show (j + 1) * 4 = j * 4 + 1 + 1 + 1 + 1 by omega]
    exact ⟨by simpa using h1, by simpa using h2, by simpa using h3, by simpa using h4⟩
theorem vz_new (w : World) (x : Vz) (T : TypeId) (m : Nat) (hm : m = w.heap.size) : ∀ j y, ([.string x.n, x.u, .int .i64 x.lv, .bool x.hd] : List Value)[j]? = some y → (w.alloc (.cells #[.string x.n, x.u, .int .i64 x.lv, .bool x.hd] T)).cell? ((⟨m, 0, none⟩ : Addr).add j) = some y := by
  subst hm
  exact World.news_of_block (cs := #[.string x.n, x.u, .int .i64 x.lv, .bool x.hd]) (t := T) (fr := (0, 0)) (heap_alloc_new w _)
theorem vz_one (x : Vz) {a : Option Addr} {n c : Nat} (hu : x.u = .slice a n c) : ∀ y ∈ vzC x, y.oneCell' = true := by
  intro y hy; simp at hy; rcases hy with rfl | rfl | rfl | rfl
  · rfl
  · rw [hu]; rfl
  · rfl
  · rfl
/-- v is a slice that holds these variables, in blocks of G -/
def VRow (w : World) (G : Nat → Prop) (v : Value) (l : List Vz) : Prop :=
  ∃ a c, v = .slice a l.length c ∧ (l.length ≤ 9223372036854775807 ∧ l.length ≤ c ∧ c ≤ 9223372036854775807) ∧ (∀ x ∈ l, TxG w G x.u x.ws) ∧
    (l ≠ [] → ∃ b off, a = some ⟨b, off, none⟩ ∧ G b ∧ b < w.heap.size ∧ ∀ (j : Nat) (x : Vz), l[j]? = some x →
      w.cell? ⟨b, off + j * 4, none⟩ = some (.string x.n) ∧ w.cell? ⟨b, off + j * 4 + 1, none⟩ = some x.u ∧ w.cell? ⟨b, off + j * 4 + 2, none⟩ = some (.int .i64 x.lv) ∧ w.cell? ⟨b, off + j * 4 + 3, none⟩ = some (.bool x.hd))
theorem VRow.keep {w w' : World} {G : Nat → Prop} {v : Value} {l : List Vz} (h : VRow w G v l) (hk : KeepG G w w') : VRow w' G v l := by
  obtain ⟨a, c, e, hn, ht, hr⟩ := h
  refine ⟨a, c, e, hn, fun x hx => (ht x hx).keep hk, fun hne => ?_⟩
  obtain ⟨b, off, ea, hG, hlt, hc⟩ := hr hne
  refine ⟨b, off, ea, hG, Nat.lt_of_lt_of_le hlt hk.1, fun j x hx => ?_⟩
  obtain ⟨h1, h2, h3, h4⟩ := hc j x hx
  exact ⟨keep_cell hk hG h1, keep_cell hk hG h2, keep_cell hk hG h3, keep_cell hk hG h4⟩
theorem VRow.more {w : World} {G G' : Nat → Prop} {v : Value} {l : List Vz} (h : VRow w G v l) (hs : ∀ b, G b → b < w.heap.size → G' b) : VRow w G' v l := by
  obtain ⟨a, c, e, hn, ht, hr⟩ := h
  refine ⟨a, c, e, hn, fun x hx => (ht x hx).more hs, fun hne => ?_⟩
  obtain ⟨b, off, ea, hG, hlt, hc⟩ := hr hne
  exact ⟨b, off, ea, hs b hG hlt, hlt, hc⟩
theorem VRow.shape {w : World} {G : Nat → Prop} {v : Value} {l : List Vz} (h : VRow w G v l) : ∃ a c, v = .slice a l.length c ∧ l.length ≤ 9223372036854775807 := by
  obtain ⟨a, c, e, hn, -⟩ := h; exact ⟨a, c, e, hn.1⟩
/-- the k-th variable -/
theorem VRow.at {w : World} {G : Nat → Prop} {v : Value} {l : List Vz} (h : VRow w G v l) (k : Nat) (hk : k < l.length) :
    ∃ b off c x, v = .slice (some ⟨b, off, none⟩) l.length c ∧ l[k]? = some x ∧ G b ∧ TxG w G x.u x.ws ∧
      w.cell? ⟨b, off + k * 4, none⟩ = some (.string x.n) ∧ w.cell? ⟨b, off + k * 4 + 1, none⟩ = some x.u ∧ w.cell? ⟨b, off + k * 4 + 2, none⟩ = some (.int .i64 x.lv) ∧ w.cell? ⟨b, off + k * 4 + 3, none⟩ = some (.bool x.hd) := by
  obtain ⟨a, c, e, hn, ht, hc⟩ := h
  have hne : l ≠ [] := by intro e; rw [e] at hk; simp at hk
  obtain ⟨b, off, rfl, hG, hlt, hcc⟩ := hc hne
  have hf : l[k]? = some l[k] := List.getElem?_eq_getElem hk
  exact ⟨b, off, c, l[k], e, hf, hG, ht _ (List.getElem_mem hk), hcc k _ hf⟩
theorem TxG.shape {w : World} {G : Nat → Prop} {v : Value} {l : List ByteArray} (h : TxG w G v l) : ∃ a c, v = .slice a l.length c ∧ l.length ≤ 9223372036854775807 := by
  obtain ⟨⟨a, c, e, hn, -⟩, -⟩ := h; exact ⟨a, c, e, hn.1⟩
/-- a row that a call makes -/
theorem vz_row {w : World} {base : Nat} {e : TypeId} {v : Value} {l : List Vz} {n : Nat} {G : Nat → Prop} (h : w.ownsRow base e 4 v n (vzV l)) (hn : n = l.length) (hm : n ≤ 9223372036854775807) (hG : ∀ b, base ≤ b → b < w.heap.size → G b) (ht : ∀ x ∈ l, TxG w G x.u x.ws) : VRow w G v l := by
  subst hn
  rcases h.2 with ⟨rfl, h0⟩ | ⟨g, cap, cur, rfl, hb, hg, h1, h2, h3, h4⟩
  · exact ⟨none, 0, by rw [h0], ⟨hm, by omega, by decide⟩, ht, fun hne => absurd (List.eq_nil_of_length_eq_zero h0) hne⟩
  · have hlt := (Array.getElem?_eq_some_iff.1 hg).1
    refine ⟨_, cap, rfl, ⟨hm, h1, by unfold maxLen at h2; omega⟩, ht, fun _ => ⟨g, 0, rfl, hG g hb hlt, hlt, fun j m hj => ?_⟩⟩
    obtain ⟨g1, g2, g3, g4⟩ := vzV_get hj
    have k1 := h.cells (g := g) rfl _ _ g1
    have k2 := h.cells (g := g) rfl _ _ g2
    have k3 := h.cells (g := g) rfl _ _ g3
    have k4 := h.cells (g := g) rfl _ _ g4
    rw [Addr.add_lit] at k1 k2 k3 k4
    exact ⟨k1, k2, k3, k4⟩
end Go.Proofs.YtdganemgldocoaaGreatDoor

namespace Go.Proofs.YtdganemgldocoaaGreatDoor
open Go.RowKit

set_option maxRecDepth 100000 in
theorem dLetter (b : UInt8) (w : World) : Calls Tryz.prog 74 #[.int .u8 b.toNat] w fun e w' => e = .returned (.bool (ltrQ b)) ∧ w = w' := by
  have hb : b.toNat < 256 := b.toNat_lt
  unfold ltrQ
  by_cases h0 : b = 95
  · subst h0
    go_enter Tryz.func74, Tryz.ntmps74
    go_wp2
    go_ret
    exact ⟨rfl, rfl⟩
  · have e0 : (b == 95) = false := by simpa using h0
    have e1 : ((b.toNat : Int) == 95) = false := by
      rw [beq_eq_false_iff_ne]; intro h; exact h0 (UInt8.toNat_inj.1 (by show b.toNat = 95; omega))
    rw [e0]
    by_cases a1 : 48 ≤ b.toNat <;> by_cases a2 : b.toNat ≤ 57 <;> by_cases a3 : 65 ≤ b.toNat <;> by_cases a4 : b.toNat ≤ 90 <;> by_cases a5 : 97 ≤ b.toNat <;> by_cases a6 : b.toNat ≤ 122
    all_goals first
      | omega
      | (have f1 : decide ((b.toNat : Int) ≥ 48) = decide (48 ≤ b.toNat) := by apply decide_eq_decide.2; omega
         have f2 : decide ((b.toNat : Int) ≤ 57) = decide (b.toNat ≤ 57) := by apply decide_eq_decide.2; omega
         have f3 : decide ((b.toNat : Int) ≥ 65) = decide (65 ≤ b.toNat) := by apply decide_eq_decide.2; omega
         have f4 : decide ((b.toNat : Int) ≤ 90) = decide (b.toNat ≤ 90) := by apply decide_eq_decide.2; omega
         have f5 : decide ((b.toNat : Int) ≥ 97) = decide (97 ≤ b.toNat) := by apply decide_eq_decide.2; omega
         have f6 : decide ((b.toNat : Int) ≤ 122) = decide (b.toNat ≤ 122) := by apply decide_eq_decide.2; omega
         simp only [a1, a2, a3, a4, a5, a6, decide_true, decide_false] at f1 f2 f3 f4 f5 f6 ⊢
         go_enter Tryz.func74, Tryz.ntmps74
         go_wp2
         go_ret
         exact ⟨rfl, rfl⟩)
theorem nam_of {s : ByteArray} (h : (nmB s).all ltrQ = true) : namQ (nmB s) = (decide (0 < s.size) && decide (s.size < 13)) := by
  have hl : (nmB s).length = s.size := by simp
  unfold namQ
  rw [h, hl, Bool.and_true]
  congr 1
  · cases hc : nmB s with
    | nil => rw [hc] at hl; simp at hl; simp [← hl]
    | cons a r => rw [hc] at hl; simp at hl; simp; omega
  · exact decide_eq_decide.2 (by omega)
set_option maxRecDepth 100000 in
set_option maxHeartbeats 1000000 in
theorem dName13 (s : ByteArray) (w : World) (hs : s.size ≤ 5000) : Calls Tryz.prog 43 #[.string s] w fun e w' => e = .returned (.bool (namQ (nmB s))) ∧ w = w' := by
  obtain ⟨z, hz⟩ : ∃ z, namQ (nmB s) = z := ⟨_, rfl⟩
  rw [hz]
  have HZ := Lib.hid hz
  have CL := Lib.hid (fun b w => dLetter b w)
  clear hz
  go_enter Tryz.func43, Tryz.ntmps43
  go_wp2
  go_loop [3] (fun i => ∃ j : Nat, j ≤ s.size ∧ i = .int .i64 j ∧ Hid (((nmB s).take j).all ltrQ = true)) (fun i => s.size - (intOf i).toNat)
  case atStart => exact ⟨0, Nat.zero_le _, rfl, Lib.hid rfl⟩
  case round =>
    obtain ⟨j, hj, rfl, hI⟩ := hrel
    by_cases hlt : j < s.size
    · have HJ := Lib.hid (list_at hlt)
      have C1 := Lib.hid (fun w => CL.out s[j] w)
      cases hb : ltrQ s[j]
      · rw [hb] at C1
        have HN := Lib.hid (show false = z by
          rw [← HZ.out]
          unfold namQ
          have : (nmB s).all ltrQ = false := by
            rw [List.all_eq_false]
            exact ⟨s[j], List.mem_of_getElem? HJ.out, by simp [hb]⟩
          rw [this, Bool.and_false])
        clear hb
        go_wp2_with (go_at_call 74; (with_reducible refine (C1.out _).mono ?_); rintro e w3 ⟨rfl, rfl⟩)
        go_ret
        exact ⟨ret_bool HN.out, rfl⟩
      · rw [hb] at C1
        have HN := Lib.hid (show ((nmB s).take (j + 1)).all ltrQ = true by rw [List.take_add_one, HJ.out, List.all_append, hI.out]; simp [hb])
        clear hb
        go_wp2_with (go_at_call 74; (with_reducible refine (C1.out _).mono ?_); rintro e w3 ⟨rfl, rfl⟩)
        go_round
        case rel => exact ⟨j + 1, hlt, by go_num, HN⟩
        case measure => simp [intOf]; omega
    · have HA := Lib.hid (show z = (decide (0 < s.size) && decide (s.size < 13)) by
        rw [← HZ.out]
        refine nam_of ?_
        have := hI.out
        rwa [List.take_of_length_le (by simp; omega)] at this)
      by_cases h0 : 0 < s.size
      · by_cases h13 : s.size < 13
        · have HR := Lib.hid (show true = z by rw [HA.out]; simp [h0, h13])
          have d1 : decide ((s.size : Int) > 0) = true := by simp; omega
          have d2 : decide ((s.size : Int) < 13) = true := by simp; omega
          go_wp2
          go_ret
          exact ⟨ret_bool HR.out, rfl⟩
        · have HR := Lib.hid (show false = z by rw [HA.out]; simp [h0, h13])
          have d1 : decide ((s.size : Int) > 0) = true := by simp; omega
          have d2 : decide ((s.size : Int) < 13) = false := by simp; omega
          go_wp2
          go_ret
          exact ⟨ret_bool HR.out, rfl⟩
      · have HR := Lib.hid (show false = z by rw [HA.out]; simp [h0])
        have d1 : decide ((s.size : Int) > 0) = false := decide_eq_false (by omega)
        go_wp2
        go_ret
        exact ⟨ret_bool HR.out, rfl⟩
theorem four_vz {w : World} {b : Nat} {v0 v1 v2 v3 : Value} {t : TypeId} (h : w.heap[b]? = some (.cells #[v0, v1, v2, v3] t (0, 0))) :
    w.cell? ⟨b, 0, none⟩ = some v0 ∧ w.cell? ⟨b, 1, none⟩ = some v1 ∧ w.cell? ⟨b, 2, none⟩ = some v2 ∧ w.cell? ⟨b, 3, none⟩ = some v3 := by
  refine ⟨?_, ?_, ?_, ?_⟩ <;> (unfold World.cell?; rw [h]; rfl)
abbrev vzA (x : Vz) : Value := .agg #[.string x.n, x.u, .int .i64 x.lv, .bool x.hd]
theorem strV_eq {a b : ByteArray} (h : a = b) : (a.toList == b.toList) = true := by rw [h]; simp
theorem str_ne {a b : ByteArray} (h : a ≠ b) : (a.toList == b.toList) = false := by
  rw [beq_eq_false_iff_ne]
  intro e
  rw [Lib.toList_data, Lib.toList_data] at e
  apply h
  cases a; cases b; congr 1; exact Array.toList_inj.1 e
theorem idx_some {l : List Vz} {s : ByteArray} {j : Nat} {x : Vz} (h : ∀ (m : Nat) (y : Vz), m < j → l[m]? = some y → y.n ≠ s) (hx : l[j]? = some x) (hn : x.n = s) : idxZ l s = some j := by
  have hj := (List.getElem?_eq_some_iff.1 hx).1
  unfold idxZ
  rw [List.findIdx?_eq_some_iff_getElem]
  refine ⟨hj, ?_, fun m hm => ?_⟩
  · have e : l[j] = x := (List.getElem?_eq_some_iff.1 hx).2
    simp [e, hn]
  · have := h m l[m] hm (List.getElem?_eq_getElem (by omega))
    simpa using this
theorem idx_none {l : List Vz} {s : ByteArray} (h : ∀ (m : Nat) (y : Vz), l[m]? = some y → y.n ≠ s) : idxZ l s = none := by
  unfold idxZ
  rw [List.findIdx?_eq_none_iff]
  intro x hx
  obtain ⟨m, hm⟩ := List.mem_iff_getElem?.1 hx
  simpa using h m x hm
theorem idx_is {l : List Vz} {s : ByteArray} {k : Nat} (h : idxZ l s = some k) : ∃ x, l[k]? = some x ∧ x.n = s := by
  unfold idxZ at h
  rw [List.findIdx?_eq_some_iff_getElem] at h
  obtain ⟨hk, h1, -⟩ := h
  exact ⟨l[k], List.getElem?_eq_getElem hk, by simpa using h1⟩
/-- the words of a name -/
def getU (l : List Vz) (s : ByteArray) : Value := match idxZ l s with | none => .slice none 0 0 | some k => ((l[k]?).map Vz.u).getD undef
end Go.Proofs.YtdganemgldocoaaGreatDoor
