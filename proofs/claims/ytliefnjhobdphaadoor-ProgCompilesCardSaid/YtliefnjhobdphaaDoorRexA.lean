/- Regular expressions, plainly: signs, classes, nodes; a machine with a stack that makes a node of signs. The document's own answers on regular expressions: the set of a byte; rows of signs: how many open, where one closes. -/
import Derived.Test.YtliefnjhobdphaaDoorClsPlainB
import Derived.Test.YtliefnjhobdphaaDoorClsROf
namespace Go.Proofs.YtliefnjhobdphaaDoor

/-- a node -/
inductive Nd where
  | mk (k i : Nat) (s : BitVec 256) (l : List Nd)
def Nd.kind : Nd → Nat | .mk k _ _ _ => k
def Nd.index : Nd → Nat | .mk _ i _ _ => i
def Nd.set : Nd → BitVec 256 | .mk _ _ s _ => s
def Nd.kids : Nd → List Nd | .mk _ _ _ l => l
def ndE : Nd := .mk 0 0 emp []

/-- a sign: its mark, or 0 and a set -/
structure Sg where
  m : Nat
  s : BitVec 256

/-- the bytes of a class up to its closing bracket, each with whether it stood bare; where that bracket stands -/
def gath (s : ByteArray) (i : Nat) (acc : List (Nat × Bool)) : Option (List (Nat × Bool) × Nat) :=
  if h : i < s.size then
    if s[i] = 93 then some (acc, i)
    else if s[i] = 92 then (if h2 : i + 1 < s.size then gath s (i + 2) (acc ++ [(s[i + 1].toNat, false)]) else none)
    else gath s (i + 1) (acc ++ [(s[i].toNat, true)])
  else none
termination_by s.size - i

/-- which bytes the members have -/
def rng (l : List (Nat × Bool)) (i : Nat) (f : Nat → Bool) : Option (Nat → Bool) :=
  if h : i < l.length then
    let lo := (l[i]).1
    if h2 : i + 2 < l.length then
      if (l[i + 1]).1 = 45 ∧ (l[i + 1]).2 = true then
        (if (l[i + 2]).1 < lo then none else rng l (i + 3) (fun b => f b || decide (lo ≤ b ∧ b ≤ (l[i + 2]).1)))
      else rng l (i + 1) (fun b => f b || b == lo)
    else rng l (i + 1) (fun b => f b || b == lo)
  else some f
termination_by l.length - i

/-- a class from behind its caret on (n: is there one?): its set, where it closes -/
def clsQ (s : ByteArray) (n : Bool) (i : Nat) : Option (BitVec 256 × Nat) :=
  match gath s i [] with
  | none => none
  | some (l, e) => if l = [] then none else match rng l 0 (fun _ => false) with
    | none => none
    | some f => some (mkS (fun b => f b != n), e)
/-- a class from behind its opening bracket on -/
def caret (s : ByteArray) (i : Nat) : Bool := if h : i < s.size then s[i] = 94 else false
def clsP (s : ByteArray) (i : Nat) : Option (BitVec 256 × Nat) := clsQ s (caret s i) (if caret s i then i + 1 else i)

theorem gath_gt (s : ByteArray) : ∀ (n i : Nat) (acc : List (Nat × Bool)) (l : List (Nat × Bool)) (e : Nat), s.size - i ≤ n → gath s i acc = some (l, e) → i ≤ e ∧ e < s.size := by
  intro n
  induction n with
  | zero =>
    intro i acc l e hn h
    unfold gath at h
    rw [dif_neg (by omega)] at h; cases h
  | succ n ih =>
    intro i acc l e hn h
    unfold gath at h
    by_cases hi : i < s.size
    · rw [dif_pos hi] at h
      split at h
      · simp only [Option.some.injEq, Prod.mk.injEq] at h; omega
      · split at h
        · split at h
          · have := ih _ _ _ _ (by omega) h; omega
          · cases h
        · have := ih _ _ _ _ (by omega) h; omega
    · rw [dif_neg hi] at h; cases h
theorem clsQ_gt {s : ByteArray} {n : Bool} {i : Nat} {t : BitVec 256} {e : Nat} (h : clsQ s n i = some (t, e)) : i ≤ e ∧ e < s.size := by
  unfold clsQ at h
  split at h
  · cases h
  · rename_i l e' hg
    have := gath_gt s _ _ _ _ _ (Nat.le_refl _) hg
    split at h
    · cases h
    · split at h
      · cases h
      · simp only [Option.some.injEq, Prod.mk.injEq] at h
        obtain ⟨-, rfl⟩ := h
        exact this
theorem cls_gt {s : ByteArray} {i : Nat} {t : BitVec 256} {e : Nat} (h : clsP s i = some (t, e)) : i ≤ e ∧ e < s.size := by
  have := clsQ_gt h
  split at this <;> omega

def isMark (c : Nat) : Bool := c == 40 || c == 41 || c == 124 || c == 42 || c == 43 || c == 63 || c == 94 || c == 36
/-- a text's signs -/
def sgn (s : ByteArray) (i : Nat) : Option (List Sg) :=
  if h : i < s.size then
    if s[i] = 92 then (if h2 : i + 1 < s.size then (sgn s (i + 2)).map (⟨0, one s[i + 1].toNat⟩ :: ·) else none)
    else if s[i] = 91 then
      match hc : clsP s (i + 1) with
      | none => none
      | some (t, e) => (sgn s (e + 1)).map (⟨0, t⟩ :: ·)
    else if s[i] = 46 then (sgn s (i + 1)).map (⟨0, no (one 10)⟩ :: ·)
    else if isMark s[i].toNat then (sgn s (i + 1)).map (⟨s[i].toNat, emp⟩ :: ·)
    else (sgn s (i + 1)).map (⟨0, one s[i].toNat⟩ :: ·)
  else some []
termination_by s.size - i
decreasing_by
  all_goals first
    | omega
    | (have := cls_gt hc; omega)

/-! the machine -/
def catN (l : List Nd) : Nd := match l with | [] => ndE | [n] => n | l => .mk 2 0 emp l
def altN (l : List Nd) : Nd := match l with | [] => ndE | [n] => n | l => .mk 3 0 emp l
/-- the frames that are open (branches that are done, items, the index of the group), the branches and items of the innermost one, how many groups -/
structure Mc where
  st : List (List Nd × List Nd × Nat)
  al : List Nd
  it : List Nd
  c : Nat
def stepM (x : Sg) (q : Mc) : Option Mc :=
  if x.m = 0 then some { q with it := q.it ++ [.mk 1 0 x.s []] }
  else if x.m = 94 then some { q with it := q.it ++ [.mk 8 0 emp []] }
  else if x.m = 36 then some { q with it := q.it ++ [.mk 9 0 emp []] }
  else if x.m = 42 ∨ x.m = 43 ∨ x.m = 63 then
    match q.it.getLast? with
    | none => none
    | some n => some { q with it := q.it.dropLast ++ [.mk (if x.m = 43 then 5 else if x.m = 63 then 6 else 4) 0 emp [n]] }
  else if x.m = 124 then some { q with al := q.al ++ [catN q.it], it := [] }
  else if x.m = 40 then some ⟨(q.al, q.it, q.c + 1) :: q.st, [], [], q.c + 1⟩
  else if x.m = 41 then
    match q.st with
    | [] => none
    | (al, it, i) :: r => some ⟨r, al, it ++ [.mk 7 i emp [altN (q.al ++ [catN q.it])]], q.c⟩
  else none
def runM : List Sg → Mc → Option Mc
  | [], q => some q
  | x :: l, q => (stepM x q).bind (runM l)
theorem runM_append (l r : List Sg) (q : Mc) : runM (l ++ r) q = (runM l q).bind (runM r) := by
  induction l generalizing q with
  | nil => rfl
  | cons x l ih =>
    show (stepM x q).bind (runM (l ++ r)) = ((stepM x q).bind (runM l)).bind (runM r)
    cases stepM x q with
    | none => rfl
    | some q' => exact ih q'
/-- the node of signs, ahead of which c brackets opened -/
def resE (l : List Sg) (c : Nat) : Option Nd :=
  match runM l ⟨[], [], [], c⟩ with
  | some ⟨[], al, it, _⟩ => some (altN (al ++ [catN it]))
  | _ => none
/-- the node of signs without bars outside of brackets -/
def resB (l : List Sg) (c : Nat) : Option Nd :=
  match runM l ⟨[], [], [], c⟩ with
  | some ⟨[], [], it, _⟩ => some (catN it)
  | _ => none
end Go.Proofs.YtliefnjhobdphaaDoor

namespace Go.Proofs.YtliefnjhobdphaaDoor
open Go.RowKit

theorem infoArr7 : (Tryd.prog.info? 85).map (fun i => (i.zero, i.size)) = some (some (.agg (arrV fun _ => false)), 256) := by kernel_rfl
theorem mkS_one (b : Nat) : mkS (fun j => j == b) = one b := inn_ext fun j hj => by
  rw [inn_mkS _ j hj, inn_one b j hj, Bool.eq_iff_iff]; simp

set_option maxRecDepth 100000 in
set_option maxHeartbeats 1000000 in
theorem cSingle (b : Nat) (w : World) (hb : b < 256) :
    Calls Tryd.prog 40 #[.int .u8 b] w fun e w' => e = .returned (setV (one b)) ∧ w.grownBy w' none := by
  obtain ⟨hz, hs⟩ := zero_of_info infoArr7
  have hZs := arr_size (fun _ => false)
  have hZ1 := arr_one (fun _ => false)
  have HX := Lib.hid (arr_set (fun _ => false) (fun j => j == b) b (fun j _ => by simp))
  have c0' := Lib.hid (arr_get (fun _ => false) b hb)
  generalize (arrV fun _ => false) = Z at hz hZs hZ1 HX c0'
  obtain ⟨b1, b2, g⟩ := heap2 w (.cells #[.int .u64 0, .int .u64 0, .int .u64 0, .int .u64 0] 29) (.cells Z 85)
  have s2 := store_same (P := Tryd.prog) b2 (by rw [hZs]; exact hs) hZ1
  have B1 := Lib.hid b1; have B2 := Lib.hid b2; have G := Lib.hid g
  clear b1 b2 g hs hZ1
  go_enter Tryd.func40, Tryd.ntmps40
  go_upto_region 2 with fail
  obtain ⟨r, er⟩ : ∃ r, r = w.heap.size := ⟨_, rfl⟩
  obtain ⟨p, ep⟩ : ∃ p, p = w.heap.size + 1 := ⟨_, rfl⟩
  have HP := Lib.hid (show w.heap.size ≤ p by omega)
  have HR := Lib.hid (show w.heap.size ≤ r by omega)
  have hne : r ≠ p := by omega
  rw [← ep] at B2 ⊢
  rw [← er] at B1 ⊢
  generalize ((w.alloc _).alloc _) = w1 at B1 B2 G s2 ⊢
  clear s2 er ep hz hZs
  have c0 := (cell_of_row w1 p b _ _ _ B2.out).trans c0'.out
  have f0 := four_free B2.out b
  go_upto_region 3 with fail
  have B1' := Lib.hid ((heap_setCell_other w1 ⟨p, b, none⟩ r (.bool true) hne).trans B1.out)
  have B2' := Lib.hid (show (w1.setCell ⟨p, b, none⟩ (.bool true)).heap[p]? = some (.cells (arrV fun j => j == b) 85 (0, 0)) by rw [← HX.out]; exact heap_setCell_same w1 p b _ _ _ B2.out)
  have G' := Lib.hid (grown_set G.out b (.bool true) HP.out)
  generalize w1.setCell _ _ = w2 at B1' B2' G' ⊢
  have HI := Lib.hid (show (Tryd.prog.info? 85).map (·.size) = some (arrV fun j => j == b).size by rw [arr_size]; exact (zero_of_info infoArr7).2)
  have C := Lib.hid (fun w => mkS_one b ▸ cROf (fun j => j == b) w)
  generalize (arrV fun j => j == b) = X at B2' HI C
  clear B1 B2 G HX c0' c0 f0
  go_wp2_with (first
    | (refine wpList_load_row rfl 85 (.tmp 3) rfl p rfl 85 X (0, 0) _ B2'.out Tryd.underlying85 rfl HI.out ?_)
    | (go_at_call 42; refine (C.out _).mono ?_; rintro e w3 ⟨rfl, g3⟩; have B3 := Lib.hid (heap_grown g3 B1'.out); have G3 := Lib.hid (G'.out.trans g3); clear g3; obtain ⟨r0, r1, r2, r3⟩ := four_cells B3.out; have fr := four_free B3.out))
  refine bodyPost_ret (v := setV (one b)) (back_setT 29 Tryd.underlying29 (by kernel_rfl) Tryd.results40 rfl (set_four B3.out _ _ _ _)) rfl ⟨rfl, ?_⟩
  exact grown_set (grown_set (grown_set (grown_set G3.out _ _ HR.out) _ _ HR.out) _ _ HR.out) _ _ HR.out

/-- a slice of signs that lies in memory -/
def SgRow (w : World) (v : Value) (l : List Sg) : Prop :=
  ∃ a c, v = .slice a l.length c ∧ (l.length ≤ 100 ∧ ∀ x ∈ l, x.m < 256) ∧ (l ≠ [] → ∃ b off, a = some ⟨b, off, none⟩ ∧ b < w.heap.size ∧ ∀ k x, l[k]? = some x →
    w.cell? ⟨b, off + k * 5, none⟩ = some (.int .u8 x.m) ∧ w.cell? ⟨b, off + k * 5 + 1, none⟩ = some (.int .u64 (wd x.s 0)) ∧ w.cell? ⟨b, off + k * 5 + 2, none⟩ = some (.int .u64 (wd x.s 1)) ∧ w.cell? ⟨b, off + k * 5 + 3, none⟩ = some (.int .u64 (wd x.s 2)) ∧ w.cell? ⟨b, off + k * 5 + 4, none⟩ = some (.int .u64 (wd x.s 3)))
theorem SgRow.grown {w w' : World} {v : Value} {l : List Sg} (h : SgRow w v l) (g : w.grownBy w' none) : SgRow w' v l := by
  obtain ⟨a, c, hv, hl, hr⟩ := h
  refine ⟨a, c, hv, hl, fun hn => ?_⟩
  obtain ⟨b, off, ha, hb, hc⟩ := hr hn
  refine ⟨b, off, ha, Nat.lt_of_lt_of_le hb g.size, fun k x hx => ?_⟩
  obtain ⟨h0, h1, h2, h3, h4⟩ := hc k x hx
  exact ⟨g.cell h0 (by simp), g.cell h1 (by simp), g.cell h2 (by simp), g.cell h3 (by simp), g.cell h4 (by simp)⟩
def opnC (l : List Sg) : Nat := l.countP (fun x => x.m == 40)
theorem opn_take {l : List Sg} {k : Nat} {x : Sg} (h : l[k]? = some x) : opnC (l.take (k + 1)) = opnC (l.take k) + if x.m = 40 then 1 else 0 := by
  obtain ⟨hk, e⟩ := List.getElem?_eq_some_iff.1 h
  unfold opnC
  rw [List.take_succ_eq_append_getElem hk, e, List.countP_append]
  by_cases hx : x.m = 40 <;> simp [hx]
theorem opn_le (l : List Sg) : opnC l ≤ l.length := List.countP_le_length

set_option maxRecDepth 100000 in
set_option maxHeartbeats 1000000 in
theorem cOpened (v : Value) (l : List Sg) (w : World) (h : SgRow w v l) :
    Calls Tryd.prog 23 #[v] w fun e w' => e = .returned (.int .i64 (opnC l)) ∧ w.grownBy w' none := by
  have H := Lib.hid h
  obtain ⟨a, c, rfl, ⟨hn, -⟩, -⟩ := h
  go_enter Tryd.func23, Tryd.ntmps23
  go_wp2
  go_loopw [3, 5, 8] (fun n _ i wr => ∃ k : Nat, k ≤ l.length ∧ i = .int .i64 k ∧ n = .int .i64 (opnC (l.take k)) ∧ Hid (w.grownBy wr none)) (fun _ _ i _ => l.length - (intOf i).toNat)
  case atStart => exact ⟨0, Nat.zero_le _, rfl, rfl, Lib.hid (World.grownBy.refl _ _)⟩
  case round =>
    obtain ⟨k, hk, rfl, rfl, hG⟩ := hrel
    by_cases hlt : k < l.length
    · obtain ⟨x, hx⟩ : ∃ x, l[k]? = some x := ⟨_, List.getElem?_eq_getElem hlt⟩
      have OT := Lib.hid (opn_take hx)
      have OL := opn_le (l.take k)
      have OL2 : (l.take k).length ≤ k := List.length_take_le _ _
      obtain ⟨a', c', e, ⟨-, hm⟩, hr⟩ := H.out.grown hG.out
      have hxm := hm x (List.mem_of_getElem? hx)
      cases e
      obtain ⟨b, off, rfl, hb, hc⟩ := hr (by intro e; rw [e] at hlt; simp at hlt)
      obtain ⟨c0, c1, c2, c3, c4⟩ := hc k x hx
      clear hc hx hr hm
      obtain ⟨m, em⟩ : ∃ m, m = opnC (l.take k) := ⟨_, rfl⟩
      rw [← em] at OT OL ⊢
      clear em
      by_cases h40 : x.m = 40
      all_goals
        have GX := Lib.hid (hG.out.trans (World.grownBy_alloc wr (.cells #[.int .u8 x.m, .int .u64 (wd x.s 0), .int .u64 (wd x.s 1), .int .u64 (wd x.s 2), .int .u64 (wd x.s 3)] 82) none))
      · have e40 : ((x.m : Int) == 40) = true := by rw [h40]; rfl
        have H40 := Lib.hid h40
        clear h40
        go_wp2
        go_roundw
        case rel => exact ⟨k + 1, by omega, by go_num, by rw [OT.out, if_pos H40.out]; go_num, GX⟩
        case measure => simp [intOf]; omega
      · have e40 : ((x.m : Int) == 40) = false := by simp; omega
        go_wp2
        go_roundw
        case rel => exact ⟨k + 1, by omega, by go_num, by rw [OT.out, if_neg h40]; rfl, GX⟩
        case measure => simp [intOf]; omega
    · obtain rfl : k = l.length := by omega
      rw [List.take_length]
      go_wp2
      go_ret
      exact ⟨rfl, hG.out⟩

/-- where the bracket closes that is open, seen from a place, at a depth -/
def cloF (l : List Sg) (i : Nat) (d : Int) : Int :=
  if h : i < l.length then
    let d1 := if l[i].m = 40 then d + 1 else if l[i].m = 41 then d - 1 else d
    if d1 = 0 then i else cloF l (i + 1) d1
  else -1
termination_by l.length - i

theorem clo_end {l : List Sg} {i : Nat} (d : Int) (h : ¬ i < l.length) : cloF l i d = -1 := by rw [cloF, dif_neg h]
def deepF (x : Sg) (d : Int) : Int := if x.m = 40 then d + 1 else if x.m = 41 then d - 1 else d
theorem clo_hit {l : List Sg} {i : Nat} {x : Sg} {d : Int} (h : l[i]? = some x) (hd : deepF x d = 0) : cloF l i d = i := by
  obtain ⟨hi, e⟩ := List.getElem?_eq_some_iff.1 h
  rw [cloF, dif_pos hi, e]
  unfold deepF at hd
  simp only [hd, if_true]
theorem clo_on {l : List Sg} {i : Nat} {x : Sg} {d : Int} (h : l[i]? = some x) (hd : deepF x d ≠ 0) : cloF l i d = cloF l (i + 1) (deepF x d) := by
  obtain ⟨hi, e⟩ := List.getElem?_eq_some_iff.1 h
  rw [cloF, dif_pos hi, e]
  unfold deepF at hd ⊢
  simp only [hd, if_false]

set_option maxRecDepth 100000 in
set_option maxHeartbeats 2000000 in
theorem cClosing (v : Value) (l : List Sg) (at_ : Nat) (hat : at_ ≤ l.length) (w : World) (h : SgRow w v l) :
    Calls Tryd.prog 56 #[v, .int .i64 at_] w fun e w' => e = .returned (.int .i64 (cloF l at_ 0)) ∧ w = w' := by
  have H := Lib.hid h
  obtain ⟨a, c, rfl, ⟨hn, hm⟩, -⟩ := h
  have HM := Lib.hid hm
  clear hm
  go_enter Tryd.func56, Tryd.ntmps56
  go_wp2
  go_loop [5, 6] (fun n i => ∃ (k : Nat) (d : Int), at_ ≤ k ∧ k ≤ l.length ∧ i = .int .i64 k ∧ n = .int .i64 d ∧ -(k : Int) ≤ d ∧ d ≤ k ∧ Hid (cloF l at_ 0 = cloF l k d)) (fun _ i => l.length - (intOf i).toNat)
  case atStart => exact ⟨at_, 0, Nat.le_refl _, hat, rfl, rfl, by omega, by omega, Lib.hid rfl⟩
  case round =>
    obtain ⟨k, d, hk0, hk, rfl, rfl, hd1, hd2, hF⟩ := hrel
    by_cases hlt : k < l.length
    · obtain ⟨x, hx⟩ : ∃ x, l[k]? = some x := ⟨_, List.getElem?_eq_getElem hlt⟩
      have hxm := HM.out x (List.mem_of_getElem? hx)
      obtain ⟨a', c', e, -, hr⟩ := H.out
      cases e
      obtain ⟨b, off, rfl, hb, hc⟩ := hr (by intro e; rw [e] at hlt; simp at hlt)
      obtain ⟨c0, -⟩ := hc k x hx
      have HX := Lib.hid hx
      clear hc hr hx
      have key : (x.m = 40 ∨ x.m = 41 ∨ (x.m ≠ 40 ∧ x.m ≠ 41)) := by omega
      rcases key with h40 | h41 | ⟨h40, h41⟩
      · have e40 : ((x.m : Int) == 40) = true := by rw [h40]; rfl
        have e41 : ((x.m : Int) == 41) = false := by rw [h40]; rfl
        have D : deepF x d = d + 1 := by unfold deepF; rw [if_pos h40]
        by_cases h0 : d + 1 = 0
        · have E := Lib.hid (hF.out.trans (clo_hit HX.out (by rw [D]; exact h0)))
          have d0 : (d + 1 == 0) = true := by rw [h0]; rfl
          clear h40 D h0
          go_wp2
          go_ret
          exact ⟨ret_int E.out.symm, rfl⟩
        · have E := Lib.hid (hF.out.trans (clo_on HX.out (by rw [D]; exact h0)))
          rw [D] at E
          have d0 : (d + 1 == 0) = false := by simpa using h0
          clear h40 D h0
          go_wp2
          go_round
          case rel => exact ⟨k + 1, d + 1, by omega, by omega, by go_num, rfl, by omega, by omega, E⟩
          case measure => simp [intOf]; omega
      · have e40 : ((x.m : Int) == 40) = false := by rw [h41]; rfl
        have e41 : ((x.m : Int) == 41) = true := by rw [h41]; rfl
        have D : deepF x d = d - 1 := by unfold deepF; rw [if_neg (by omega), if_pos h41]
        by_cases h0 : d - 1 = 0
        · have E := Lib.hid (hF.out.trans (clo_hit HX.out (by rw [D]; exact h0)))
          have d0 : (d - 1 == 0) = true := by rw [h0]; rfl
          clear h41 D h0
          go_wp2
          go_ret
          exact ⟨ret_int E.out.symm, rfl⟩
        · have E := Lib.hid (hF.out.trans (clo_on HX.out (by rw [D]; exact h0)))
          rw [D] at E
          have d0 : (d - 1 == 0) = false := by simpa using h0
          clear h41 D h0
          go_wp2
          go_round
          case rel => exact ⟨k + 1, d - 1, by omega, by omega, by go_num, rfl, by omega, by omega, E⟩
          case measure => simp [intOf]; omega
      · have e40 : ((x.m : Int) == 40) = false := by simp; omega
        have e41 : ((x.m : Int) == 41) = false := by simp; omega
        have D : deepF x d = d := by unfold deepF; rw [if_neg h40, if_neg h41]
        by_cases h0 : d = 0
        · have E := Lib.hid (hF.out.trans (clo_hit HX.out (by rw [D]; exact h0)))
          have d0 : (d == 0) = true := by rw [h0]; rfl
          clear h40 h41 D h0
          go_wp2
          go_ret
          exact ⟨ret_int E.out.symm, rfl⟩
        · have E := Lib.hid (hF.out.trans (clo_on HX.out (by rw [D]; exact h0)))
          rw [D] at E
          have d0 : (d == 0) = false := by simpa using h0
          clear h40 h41 D h0
          go_wp2
          go_round
          case rel => exact ⟨k + 1, d, by omega, by omega, by go_num, rfl, by omega, by omega, E⟩
          case measure => simp [intOf]; omega
    · have E := Lib.hid (hF.out.trans (clo_end d hlt))
      go_wp2
      go_ret
      exact ⟨ret_int E.out.symm, rfl⟩
end Go.Proofs.YtliefnjhobdphaaDoor
