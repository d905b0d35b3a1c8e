/- Regular expressions, plainly: signs, classes, nodes; a machine with a stack that makes a node of signs. The document's own answers on regular expressions: the set of a byte; rows of signs: how many open, where one closes. The document's own answer on classes. -/
import Derived.Test.YtlkjejmmoalliaaGreatDoorClsPlainB
import Derived.Test.YtlkjejmmoalliaaGreatDoorClsE
import Derived.Deep.CutRange
import Derived.Deep.CutBlock
namespace Go.Proofs.YtlkjejmmoalliaaGreatDoor

/-- a node -/
inductive Nd where
  | mk (k i : Nat) (s : BitVec 256) (l : List Nd)
def Nd.kind : Nd → Nat | .mk k _ _ _ => k
def Nd.index : Nd → Nat | .mk _ i _ _ => i
def Nd.set : Nd → BitVec 256 | .mk _ _ s _ => s
def Nd.kids : Nd → List Nd | .mk _ _ _ l => l
def ndE : Nd := .mk 0 0 emp []

/-- a sign: its mark, or 0 and a set -/
structure Sg where
  m : Nat
  s : BitVec 256

/-- the bytes of a class up to its closing bracket, each with whether it stood bare; where that bracket stands -/
def gath (s : ByteArray) (i : Nat) (acc : List (Nat × Bool)) : Option (List (Nat × Bool) × Nat) :=
  if h : i < s.size then
    if s[i] = 93 then some (acc, i)
    else if s[i] = 92 then (if h2 : i + 1 < s.size then gath s (i + 2) (acc ++ [(s[i + 1].toNat, false)]) else none)
    else gath s (i + 1) (acc ++ [(s[i].toNat, true)])
  else none
termination_by s.size - i

/-- which bytes the members have -/
def rng (l : List (Nat × Bool)) (i : Nat) (f : Nat → Bool) : Option (Nat → Bool) :=
  if h : i < l.length then
    let lo := (l[i]).1
    if h2 : i + 2 < l.length then
      if (l[i + 1]).1 = 45 ∧ (l[i + 1]).2 = true then
        (if (l[i + 2]).1 < lo then none else rng l (i + 3) (fun b => f b || decide (lo ≤ b ∧ b ≤ (l[i + 2]).1)))
      else rng l (i + 1) (fun b => f b || b == lo)
    else rng l (i + 1) (fun b => f b || b == lo)
  else some f
termination_by l.length - i

/-- a class from behind its caret on (n: is there one?): its set, where it closes -/
def clsQ (s : ByteArray) (n : Bool) (i : Nat) : Option (BitVec 256 × Nat) :=
  match gath s i [] with
  | none => none
  | some (l, e) => if l = [] then none else match rng l 0 (fun _ => false) with
    | none => none
    | some f => some (mkS (fun b => f b != n), e)
/-- a class from behind its opening bracket on -/
def caret (s : ByteArray) (i : Nat) : Bool := if h : i < s.size then s[i] = 94 else false
def clsP (s : ByteArray) (i : Nat) : Option (BitVec 256 × Nat) := clsQ s (caret s i) (if caret s i then i + 1 else i)

theorem gath_gt (s : ByteArray) : ∀ (n i : Nat) (acc : List (Nat × Bool)) (l : List (Nat × Bool)) (e : Nat), s.size - i ≤ n → gath s i acc = some (l, e) → i ≤ e ∧ e < s.size := by
  intro n
  induction n with
  | zero =>
    intro i acc l e hn h
    unfold gath at h
    rw [dif_neg (by omega)] at h; cases h
  | succ n ih =>
    intro i acc l e hn h
    unfold gath at h
    by_cases hi : i < s.size
    · rw [dif_pos hi] at h
      split at h
      · simp only [Option.some.injEq, Prod.mk.injEq] at h; omega
      · split at h
        · split at h
          · have := ih _ _ _ _ (by omega) h; omega
          · cases h
        · have := ih _ _ _ _ (by omega) h; omega
    · rw [dif_neg hi] at h; cases h
theorem clsQ_gt {s : ByteArray} {n : Bool} {i : Nat} {t : BitVec 256} {e : Nat} (h : clsQ s n i = some (t, e)) : i ≤ e ∧ e < s.size := by
  unfold clsQ at h
  split at h
  · cases h
  · rename_i l e' hg
    have := gath_gt s _ _ _ _ _ (Nat.le_refl _) hg
    split at h
    · cases h
    · split at h
      · cases h
      · simp only [Option.some.injEq, Prod.mk.injEq] at h
        obtain ⟨-, rfl⟩ := h
        exact this
theorem cls_gt {s : ByteArray} {i : Nat} {t : BitVec 256} {e : Nat} (h : clsP s i = some (t, e)) : i ≤ e ∧ e < s.size := by
  have := clsQ_gt h
  split at this <;> omega

def isMark (c : Nat) : Bool := c == 40 || c == 41 || c == 124 || c == 42 || c == 43 || c == 63 || c == 94 || c == 36
/-- a text's signs -/
def sgn (s : ByteArray) (i : Nat) : Option (List Sg) :=
  if h : i < s.size then
    if s[i] = 92 then (if h2 : i + 1 < s.size then (sgn s (i + 2)).map (⟨0, one s[i + 1].toNat⟩ :: ·) else none)
    else if s[i] = 91 then
      match hc : clsP s (i + 1) with
      | none => none
      | some (t, e) => (sgn s (e + 1)).map (⟨0, t⟩ :: ·)
    else if s[i] = 46 then (sgn s (i + 1)).map (⟨0, no (one 10)⟩ :: ·)
    else if isMark s[i].toNat then (sgn s (i + 1)).map (⟨s[i].toNat, emp⟩ :: ·)
    else (sgn s (i + 1)).map (⟨0, one s[i].toNat⟩ :: ·)
  else some []
termination_by s.size - i
decreasing_by
  all_goals first
    | omega
    | (have := cls_gt hc; omega)

/-! the machine -/
def catN (l : List Nd) : Nd := match l with | [] => ndE | [n] => n | l => .mk 2 0 emp l
def altN (l : List Nd) : Nd := match l with | [] => ndE | [n] => n | l => .mk 3 0 emp l
/-- the frames that are open (branches that are done, items, the index of the group), the branches and items of the innermost one, how many groups -/
structure Mc where
  st : List (List Nd × List Nd × Nat)
  al : List Nd
  it : List Nd
  c : Nat
def stepM (x : Sg) (q : Mc) : Option Mc :=
  if x.m = 0 then some { q with it := q.it ++ [.mk 1 0 x.s []] }
  else if x.m = 94 then some { q with it := q.it ++ [.mk 8 0 emp []] }
  else if x.m = 36 then some { q with it := q.it ++ [.mk 9 0 emp []] }
  else if x.m = 42 ∨ x.m = 43 ∨ x.m = 63 then
    match q.it.getLast? with
    | none => none
    | some n => some { q with it := q.it.dropLast ++ [.mk (if x.m = 43 then 5 else if x.m = 63 then 6 else 4) 0 emp [n]] }
  else if x.m = 124 then some { q with al := q.al ++ [catN q.it], it := [] }
  else if x.m = 40 then some ⟨(q.al, q.it, q.c + 1) :: q.st, [], [], q.c + 1⟩
  else if x.m = 41 then
    match q.st with
    | [] => none
    | (al, it, i) :: r => some ⟨r, al, it ++ [.mk 7 i emp [altN (q.al ++ [catN q.it])]], q.c⟩
  else none
def runM : List Sg → Mc → Option Mc
  | [], q => some q
  | x :: l, q => (stepM x q).bind (runM l)
theorem runM_append (l r : List Sg) (q : Mc) : runM (l ++ r) q = (runM l q).bind (runM r) := by
  induction l generalizing q with
  | nil => rfl
  | cons x l ih =>
    show (stepM x q).bind (runM (l ++ r)) = ((stepM x q).bind (runM l)).bind (runM r)
    cases stepM x q with
    | none => rfl
    | some q' => exact ih q'
/-- the node of signs, ahead of which c brackets opened -/
def resE (l : List Sg) (c : Nat) : Option Nd :=
  match runM l ⟨[], [], [], c⟩ with
  | some ⟨[], al, it, _⟩ => some (altN (al ++ [catN it]))
  | _ => none
/-- the node of signs without bars outside of brackets -/
def resB (l : List Sg) (c : Nat) : Option Nd :=
  match runM l ⟨[], [], [], c⟩ with
  | some ⟨[], [], it, _⟩ => some (catN it)
  | _ => none
end Go.Proofs.YtlkjejmmoalliaaGreatDoor

namespace Go.Proofs.YtlkjejmmoalliaaGreatDoor
open Go.RowKit

theorem mkS_one (b : Nat) : mkS (fun j => j == b) = one b := inn_ext fun j hj => by
  rw [inn_mkS _ j hj, inn_one b j hj, Bool.eq_iff_iff]; simp

/-- a slice of signs that lies in memory -/
def SgRow (w : World) (v : Value) (l : List Sg) : Prop :=
  ∃ a c, v = .slice a l.length c ∧ (l.length ≤ 100 ∧ ∀ x ∈ l, x.m < 256) ∧ (l ≠ [] → ∃ b off, a = some ⟨b, off, none⟩ ∧ b < w.heap.size ∧ ∀ k x, l[k]? = some x →
    w.cell? ⟨b, off + k * 5, none⟩ = some (.int .u8 x.m) ∧ w.cell? ⟨b, off + k * 5 + 1, none⟩ = some (.int .u64 (wd x.s 0)) ∧ w.cell? ⟨b, off + k * 5 + 2, none⟩ = some (.int .u64 (wd x.s 1)) ∧ w.cell? ⟨b, off + k * 5 + 3, none⟩ = some (.int .u64 (wd x.s 2)) ∧ w.cell? ⟨b, off + k * 5 + 4, none⟩ = some (.int .u64 (wd x.s 3)))
theorem SgRow.grown {w w' : World} {v : Value} {l : List Sg} (h : SgRow w v l) (g : w.grownBy w' none) : SgRow w' v l := by
  obtain ⟨a, c, hv, hl, hr⟩ := h
  refine ⟨a, c, hv, hl, fun hn => ?_⟩
  obtain ⟨b, off, ha, hb, hc⟩ := hr hn
  refine ⟨b, off, ha, Nat.lt_of_lt_of_le hb g.size, fun k x hx => ?_⟩
  obtain ⟨h0, h1, h2, h3, h4⟩ := hc k x hx
  exact ⟨g.cell h0 (by simp), g.cell h1 (by simp), g.cell h2 (by simp), g.cell h3 (by simp), g.cell h4 (by simp)⟩
def opnC (l : List Sg) : Nat := l.countP (fun x => x.m == 40)
theorem opn_take {l : List Sg} {k : Nat} {x : Sg} (h : l[k]? = some x) : opnC (l.take (k + 1)) = opnC (l.take k) + if x.m = 40 then 1 else 0 := by
  obtain ⟨hk, e⟩ := List.getElem?_eq_some_iff.1 h
  unfold opnC
  rw [List.take_succ_eq_append_getElem hk, e, List.countP_append]
  by_cases hx : x.m = 40 <;> simp [hx]
theorem opn_le (l : List Sg) : opnC l ≤ l.length := List.countP_le_length

/-- where the bracket closes that is open, seen from a place, at a depth -/
def cloF (l : List Sg) (i : Nat) (d : Int) : Int :=
  if h : i < l.length then
    let d1 := if l[i].m = 40 then d + 1 else if l[i].m = 41 then d - 1 else d
    if d1 = 0 then i else cloF l (i + 1) d1
  else -1
termination_by l.length - i

theorem clo_end {l : List Sg} {i : Nat} (d : Int) (h : ¬ i < l.length) : cloF l i d = -1 := by rw [cloF, dif_neg h]
def deepF (x : Sg) (d : Int) : Int := if x.m = 40 then d + 1 else if x.m = 41 then d - 1 else d
theorem clo_hit {l : List Sg} {i : Nat} {x : Sg} {d : Int} (h : l[i]? = some x) (hd : deepF x d = 0) : cloF l i d = i := by
  obtain ⟨hi, e⟩ := List.getElem?_eq_some_iff.1 h
  rw [cloF, dif_pos hi, e]
  unfold deepF at hd
  simp only [hd, if_true]
theorem clo_on {l : List Sg} {i : Nat} {x : Sg} {d : Int} (h : l[i]? = some x) (hd : deepF x d ≠ 0) : cloF l i d = cloF l (i + 1) (deepF x d) := by
  obtain ⟨hi, e⟩ := List.getElem?_eq_some_iff.1 h
  rw [cloF, dif_pos hi, e]
  unfold deepF at hd ⊢
  simp only [hd, if_false]

end Go.Proofs.YtlkjejmmoalliaaGreatDoor

namespace Go.Proofs.YtlkjejmmoalliaaGreatDoor
open Go.RowKit

/-- what the document's class answers -/
def ClsOut (o : Option (BitVec 256 × Nat)) (e : Ending) : Prop :=
  match o with
  | some (t, n) => e = .returned (.tuple #[setV t, .int .i64 n])
  | none => e = .returned (.tuple #[setV emp, .int .i64 (-1)])

theorem infoBool : (Tryz.prog.info? 4).map (fun i => (i.zero, i.size, i.bytes)) = some (some (.bool false), 1, 1) := by kernel_rfl
theorem new_cell1 (w : World) (v : Value) (t : TypeId) (n : Nat) (hn : n = w.heap.size) : ∀ j u, ([v] : List Value)[j]? = some u → (w.alloc (.cells #[v] t)).cell? ((⟨n, 0, none⟩ : Addr).add j) = some u := by
  subst hn
  exact World.news_of_block (cs := #[v]) (t := t) (fr := (0, 0)) (heap_alloc_new w _)
/-- rows of two element types lie in two blocks -/
theorem own_apart {w : World} {b b' s s' n n' : Nat} {e e' : TypeId} {v v' : Value} {xs xs' : List Value} (h : w.ownsRow b e s v n xs) (h' : w.ownsRow b' e' s' v' n' xs') (he : e ≠ e') : v.ownBlock = none ∨ v.ownBlock ≠ v'.ownBlock := by
  rcases h.2 with ⟨rfl, -⟩ | ⟨g, cap, cur, rfl, hb, hg, -⟩
  · exact .inl rfl
  · right
    rcases h'.2 with ⟨rfl, -⟩ | ⟨g', cap', cur', rfl, hb', hg', -⟩
    · simp [Value.ownBlock]
    · intro e2
      simp only [Value.ownBlock, Option.some.injEq] at e2
      subst e2
      rw [hg] at hg'
      simp only [Option.some.injEq, Obj.cells.injEq] at hg'
      exact he hg'.2.1

theorem gath_end {s : ByteArray} {i : Nat} (acc : List (Nat × Bool)) (h : ¬ i < s.size) : gath s i acc = none := by rw [gath, dif_neg h]
theorem gath_stop {s : ByteArray} {i : Nat} (acc : List (Nat × Bool)) (h : i < s.size) (h1 : s[i].toNat = 93) : gath s i acc = some (acc, i) := by
  rw [gath, dif_pos h, if_pos (UInt8.toNat_inj.1 h1)]
theorem gath_esc {s : ByteArray} {i : Nat} (acc : List (Nat × Bool)) (h : i < s.size) (h1 : s[i].toNat = 92) (h2 : i + 1 < s.size) : gath s i acc = gath s (i + 2) (acc ++ [(s[i + 1].toNat, false)]) := by
  have e : s[i] = 92 := UInt8.toNat_inj.1 h1
  rw [gath, dif_pos h, if_neg (by rw [e]; decide), if_pos e, dif_pos h2]
theorem gath_bad {s : ByteArray} {i : Nat} (acc : List (Nat × Bool)) (h : i < s.size) (h1 : s[i].toNat = 92) (h2 : ¬ i + 1 < s.size) : gath s i acc = none := by
  have e : s[i] = 92 := UInt8.toNat_inj.1 h1
  rw [gath, dif_pos h, if_neg (by rw [e]; decide), if_pos e, dif_neg h2]
theorem gath_on {s : ByteArray} {i : Nat} (acc : List (Nat × Bool)) (h : i < s.size) (h1 : s[i].toNat ≠ 93) (h2 : s[i].toNat ≠ 92) : gath s i acc = gath s (i + 1) (acc ++ [(s[i].toNat, true)]) := by
  rw [gath, dif_pos h, if_neg (fun e => h1 (by rw [e]; rfl)), if_neg (fun e => h2 (by rw [e]; rfl))]
def bytesOf (l : List (Nat × Bool)) : List Value := l.map (fun p => .int .u8 p.1)
def baresOf (l : List (Nat × Bool)) : List Value := l.map (fun p => .bool p.2)
theorem bytes_snoc (l : List (Nat × Bool)) (b : Nat) (f : Bool) : bytesOf (l ++ [(b, f)]) = bytesOf l ++ [.int .u8 b] := by unfold bytesOf; simp
theorem bares_snoc (l : List (Nat × Bool)) (b : Nat) (f : Bool) : baresOf (l ++ [(b, f)]) = baresOf l ++ [.bool f] := by unfold baresOf; simp
theorem one_val (v : Value) (h : v.oneCell' = true) : ∀ u ∈ ([v] : List Value), u.oneCell' = true := by intro u hu; simp at hu; subst hu; exact h
theorem own_not {w : World} {b s n r : Nat} {e t : TypeId} {v : Value} {xs : List Value} {cs : Array Value} (h : w.ownsRow b e s v n xs) (hr : w.heap[r]? = some (.cells cs t (0, 0))) (he : e ≠ t) : some r ≠ v.ownBlock := by
  rcases h.2 with ⟨rfl, -⟩ | ⟨g, cap, cur, rfl, hb, hg, -⟩
  · simp [Value.ownBlock]
  · intro e2
    simp only [Value.ownBlock, Option.some.injEq] at e2
    subst e2
    rw [hg] at hr
    simp only [Option.some.injEq, Obj.cells.injEq] at hr
    exact he hr.2.1
/-- what the members' loop knows -/
structure GW (s : ByteArray) (i0 : Nat) (w : World) (r i : Nat) (acc : List (Nat × Bool)) (li ba : Value) (wr : World) : Prop where
  hi : i ≤ s.size
  hn : acc.length ≤ i
  hb : ∀ p ∈ acc, p.1 < 256
  hg : gath s i0 [] = gath s i acc
  L : wr.ownsRow w.heap.size 5 1 li acc.length (bytesOf acc)
  B : wr.ownsRow w.heap.size 4 1 ba acc.length (baresOf acc)
  G : w.grownBy wr none
  R : wr.heap[r]? = some (.cells #[.int .u64 0, .int .u64 0, .int .u64 0, .int .u64 0] 24 (0, 0))
/-- between the two appends -/
structure GW1 (w : World) (r : Nat) (b : Nat) (acc : List (Nat × Bool)) (v1 ba : Value) (wr : World) : Prop where
  L : wr.ownsRow w.heap.size 5 1 v1 (acc.length + 1) (bytesOf acc ++ [.int .u8 b])
  B : wr.ownsRow w.heap.size 4 1 ba acc.length (baresOf acc)
  G : w.grownBy wr none
  R : wr.heap[r]? = some (.cells #[.int .u64 0, .int .u64 0, .int .u64 0, .int .u64 0] 24 (0, 0))
theorem gw_first {s : ByteArray} {i0 : Nat} {w : World} {r i : Nat} {acc : List (Nat × Bool)} {li ba v1 : Value} {wr w2 : World} {b : Nat} (h : GW s i0 w r i acc li ba wr)
    (o : w2.ownsRow w.heap.size 5 1 v1 (acc.length + 1) (bytesOf acc ++ [.int .u8 b])) (g : (wr.alloc (.cells #[.int .u8 b] 5)).grownBy w2 li.ownBlock) : GW1 w r b acc v1 ba w2 := by
  have ga := World.grownBy_alloc wr (.cells #[.int .u8 b] 5) none
  have hR := heap_grown ga h.R
  have hL := h.L.alloc (.cells #[.int .u8 b] 5)
  have hB := h.B.alloc (.cells #[.int .u8 b] 5)
  refine ⟨o, hB.kept g (own_apart hB hL (by decide)), (h.G.trans ga).andThen g (fun j e => .inl (h.L.lt j e).1), ?_⟩
  rw [g.block r (Array.getElem?_eq_some_iff.1 hR).1 (own_not hL hR (by decide))]
  exact hR
theorem gw_second {s : ByteArray} {i0 : Nat} {w : World} {r i i' : Nat} {acc : List (Nat × Bool)} {li ba v1 v2 : Value} {wr w2 w4 : World} {b : Nat} {f : Bool} (h0 : GW s i0 w r i acc li ba wr) (h : GW1 w r b acc v1 ba w2)
    (o : w4.ownsRow w.heap.size 4 1 v2 (acc.length + 1) (baresOf acc ++ [.bool f])) (g : (w2.alloc (.cells #[.bool f] 4)).grownBy w4 ba.ownBlock)
    (h1 : i < i') (h2 : i' ≤ s.size) (hb : b < 256) (hg : gath s i acc = gath s i' (acc ++ [(b, f)])) : GW s i0 w r i' (acc ++ [(b, f)]) v1 v2 w4 := by
  have ga := World.grownBy_alloc w2 (.cells #[.bool f] 4) none
  have hR := heap_grown ga h.R
  have hL := h.L.alloc (.cells #[.bool f] 4)
  have hB := h.B.alloc (.cells #[.bool f] 4)
  have hn := h0.hn
  refine ⟨h2, by simp; omega, ?_, h0.hg.trans hg, ?_, ?_, (h.G.trans ga).andThen g (fun j e => .inl (h.B.lt j e).1), ?_⟩
  · intro p hp
    rcases List.mem_append.1 hp with hp | hp
    · exact h0.hb p hp
    · simp at hp; subst hp; exact hb
  · rw [bytes_snoc, List.length_append]
    exact hL.kept g (own_apart hL hB (by decide))
  · rw [bares_snoc, List.length_append]; exact o
  · rw [g.block r (Array.getElem?_eq_some_iff.1 hR).1 (own_not hB hR (by decide))]
    exact hR

theorem back_pair (T : TypeId) {e : TypeId} (hT : Tryz.prog.underlying T = some (.array 4 e)) (hi : (Tryz.prog.info? T).map (·.size) = some 4) {fn : Func} {p q : Tmp} {w : World} {g : Nat} {s : BitVec 256} {tmps : Array Value} {v : Value} (hf : fn.results = #[.cell p T, .tmp q])
    (hp : tmps.getD p undef = .pointer (some ⟨g, 0, none⟩)) (hq : tmps.getD q undef = v) (hg : w.heap[g]? = some (.cells #[.int .u64 (wd s 0), .int .u64 (wd s 1), .int .u64 (wd s 2), .int .u64 (wd s 3)] T (0, 0))) :
    (results fn tmps).run Tryz.prog w = .ok (.tuple #[setV s, v]) w := by
  have hp' : tmps[p]?.getD undef = .pointer (some ⟨g, 0, none⟩) := by simpa using hp
  have hq' : tmps[q]?.getD undef = v := by simpa using hq
  have hl := run_loadVar_row (P := Tryz.prog) w g T T _ (0, 0) _ hg hT rfl hi
  simp [results, hf, hp', hq', asAddr, hl]

theorem zero_four {w : World} {r : Nat} {T : TypeId} {a0 a1 a2 a3 : Value} (h : w.heap[r]? = some (.cells #[a0, a1, a2, a3] T (0, 0))) : ((((w.setCell ⟨r, 0, none⟩ (.int .u64 0)).setCell ⟨r, 1, none⟩ (.int .u64 0)).setCell ⟨r, 2, none⟩ (.int .u64 0)).setCell ⟨r, 3, none⟩ (.int .u64 0)).heap[r]? = some (.cells #[.int .u64 (wd emp 0), .int .u64 (wd emp 1), .int .u64 (wd emp 2), .int .u64 (wd emp 3)] T (0, 0)) := by
  rw [wd_emp, wd_emp, wd_emp, wd_emp]; exact set_four h _ _ _ _
theorem clsQ_none {s : ByteArray} {n : Bool} {i : Nat} (h : gath s i [] = none) : clsQ s n i = none := by unfold clsQ; rw [h]
theorem clsQ_empty {s : ByteArray} {n : Bool} {i e : Nat} (h : gath s i [] = some ([], e)) : clsQ s n i = none := by unfold clsQ; rw [h]; simp
theorem clsQ_bad {s : ByteArray} {n : Bool} {i e : Nat} {l : List (Nat × Bool)} (h : gath s i [] = some (l, e)) (hr : rng l 0 (fun _ => false) = none) : clsQ s n i = none := by
  unfold clsQ; rw [h]; simp only [hr]; split <;> rfl
theorem clsQ_some {s : ByteArray} {n : Bool} {i e : Nat} {l : List (Nat × Bool)} {f : Nat → Bool} (h : gath s i [] = some (l, e)) (hl : l ≠ []) (hr : rng l 0 (fun _ => false) = some f) : clsQ s n i = some (mkS (fun b => f b != n), e) := by
  unfold clsQ; rw [h]; simp only [hr, if_neg hl]
theorem rng_end {l : List (Nat × Bool)} {i : Nat} (f : Nat → Bool) (h : ¬ i < l.length) : rng l i f = some f := by rw [rng, dif_neg h]
theorem rng_one {l : List (Nat × Bool)} {i lo : Nat} {x : Bool} (f : Nat → Bool) (h : l[i]? = some (lo, x)) (hn : ∀ c b, i + 2 < l.length → l[i + 1]? = some (c, b) → ¬ (c = 45 ∧ b = true)) : rng l i f = rng l (i + 1) (fun b => f b || b == lo) := by
  obtain ⟨hi, e⟩ := List.getElem?_eq_some_iff.1 h
  rw [rng, dif_pos hi]
  by_cases h2 : i + 2 < l.length
  · have h3 := hn (l[i + 1]).1 (l[i + 1]).2 h2 (List.getElem?_eq_getElem (by omega))
    simp only [h2, dif_pos, h3, if_false, e]
  · simp only [h2, dif_neg, not_false_eq_true, e]
theorem rng_two {l : List (Nat × Bool)} {i lo hi' : Nat} {x y : Bool} (f : Nat → Bool) (h : l[i]? = some (lo, x)) (h1 : l[i + 1]? = some (45, true)) (h2 : l[i + 2]? = some (hi', y)) : rng l i f = if hi' < lo then none else rng l (i + 3) (fun b => f b || decide (lo ≤ b ∧ b ≤ hi')) := by
  obtain ⟨hi, e⟩ := List.getElem?_eq_some_iff.1 h
  obtain ⟨hi1, e1⟩ := List.getElem?_eq_some_iff.1 h1
  obtain ⟨hi2, e2⟩ := List.getElem?_eq_some_iff.1 h2
  rw [rng, dif_pos hi]
  simp only [hi2, dif_pos, e1, and_self, if_true, e, e2]
theorem owns_shape {w : World} {base s n : Nat} {e : TypeId} {v : Value} {xs : List Value} (h : w.ownsRow base e s v n xs) : ∃ a cap, v = .slice a n cap := by
  rcases h.2 with ⟨rfl, h0⟩ | ⟨g, cap, cur, rfl, -⟩
  · exact ⟨none, 0, by rw [h0]⟩
  · exact ⟨_, cap, rfl⟩
/-- an own row that isn't empty, cell by cell -/
theorem row_cells {w : World} {base n : Nat} {e : TypeId} {v : Value} {xs : List Value} (h : w.ownsRow base e 1 v n xs) (hn : n ≠ 0) : ∃ g cap, v = .slice (some ⟨g, 0, none⟩) n cap ∧ g < w.heap.size ∧ ∀ j x, xs[j]? = some x → w.cell? ⟨g, j, none⟩ = some x := by
  rcases h.2 with ⟨rfl, h0⟩ | ⟨g, cap, cur, rfl, hb, hg, _⟩
  · exact absurd h0 hn
  · refine ⟨g, cap, rfl, (Array.getElem?_eq_some_iff.1 hg).1, fun j x hx => ?_⟩
    have := h.cells (g := g) rfl j x hx
    rwa [Addr.add_lit, Nat.zero_add] at this
theorem fr_step (f : Nat → Bool) (lo b : Nat) (h : lo ≤ b) (c : Nat) : (f c || decide (lo ≤ c ∧ c < b + 1)) = ((f c || decide (lo ≤ c ∧ c < b)) || c == b) := by
  cases f c
  · rw [Bool.eq_iff_iff]; simp; omega
  · simp
theorem fr_last (f : Nat → Bool) (lo b hh : Nat) (h1 : ¬ b ≤ hh) (h2 : b ≤ hh + 1) (c : Nat) : (f c || decide (lo ≤ c ∧ c < b)) = (f c || decide (lo ≤ c ∧ c ≤ hh)) := by
  have : b = hh + 1 := by omega
  subst this
  cases f c
  · rw [Bool.eq_iff_iff]; simp; omega
  · simp
theorem fr_one (f : Nat → Bool) (lo c : Nat) : (f c || decide (lo ≤ c ∧ c ≤ lo)) = (f c || c == lo) := by
  cases f c
  · rw [Bool.eq_iff_iff]; simp; omega
  · simp
theorem fr_start (f : Nat → Bool) (lo c : Nat) : f c = (f c || decide (lo ≤ c ∧ c < lo)) := by
  cases f c
  · rw [Bool.eq_iff_iff]; simp
  · simp
theorem arr_put (f g : Nat → Bool) (x : Nat) (v : Bool) (hg : ∀ b, b < 256 → g b = if b = x then v else f b) : (arrV f).setIfInBounds x (.bool v) = arrV g := by
  apply Array.ext_getElem?; intro i
  by_cases hi : i < 256
  · rw [arr_get g i hi, hg i hi, Array.getElem?_setIfInBounds]
    by_cases h : x = i
    · subst h; simp [arr_size, hi]
    · have h' : ¬ i = x := fun e => h e.symm
      simp [h, arr_get f i hi, h']
  · rw [Array.getElem?_eq_none (by simp [arr_size]; omega), Array.getElem?_eq_none (by simp [arr_size]; omega)]
theorem arr_flip (f : Nat → Bool) (k : Nat) (_ : k < 256) : (arrV (fun c => if c < k then !f c else f c)).setIfInBounds k (.bool (!f k)) = arrV (fun c => if c < k + 1 then !f c else f c) :=
  arr_put _ _ k (!f k) fun b _ => by
    by_cases h : b = k
    · subst h; simp
    · by_cases h2 : b < k
      · have : b < k + 1 := by omega
        simp [h, h2, this]
      · have : ¬ b < k + 1 := by omega
        simp [h, h2, this]
theorem drewN_heap (w : World) (n : Nat) : (w.drewN n).heap = w.heap := by
  induction n with
  | zero => rfl
  | succ n ih => exact ih
end Go.Proofs.YtlkjejmmoalliaaGreatDoor
