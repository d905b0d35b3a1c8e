/- The document's own answer on classes. -/
import Derived.Test.YtliefnjhobdphaaDoorRexA
import Derived.Deep.CutRange
import Derived.Deep.CutBlock
namespace Go.Proofs.YtliefnjhobdphaaDoor
open Go.RowKit

/-- what the document's class answers -/
def ClsOut (o : Option (BitVec 256 × Nat)) (e : Ending) : Prop :=
  match o with
  | some (t, n) => e = .returned (.tuple #[setV t, .int .i64 n])
  | none => e = .returned (.tuple #[setV emp, .int .i64 (-1)])

theorem infoBool : (Tryd.prog.info? 4).map (fun i => (i.zero, i.size, i.bytes)) = some (some (.bool false), 1, 1) := by kernel_rfl
theorem new_cell1 (w : World) (v : Value) (t : TypeId) (n : Nat) (hn : n = w.heap.size) : ∀ j u, ([v] : List Value)[j]? = some u → (w.alloc (.cells #[v] t)).cell? ((⟨n, 0, none⟩ : Addr).add j) = some u := by
  subst hn
  exact World.news_of_block (cs := #[v]) (t := t) (fr := (0, 0)) (heap_alloc_new w _)
/-- rows of two element types lie in two blocks -/
theorem own_apart {w : World} {b b' s s' n n' : Nat} {e e' : TypeId} {v v' : Value} {xs xs' : List Value} (h : w.ownsRow b e s v n xs) (h' : w.ownsRow b' e' s' v' n' xs') (he : e ≠ e') : v.ownBlock = none ∨ v.ownBlock ≠ v'.ownBlock := by
  rcases h.2 with ⟨rfl, -⟩ | ⟨g, cap, cur, rfl, hb, hg, -⟩
  · exact .inl rfl
  · right
    rcases h'.2 with ⟨rfl, -⟩ | ⟨g', cap', cur', rfl, hb', hg', -⟩
    · simp [Value.ownBlock]
    · intro e2
      simp only [Value.ownBlock, Option.some.injEq] at e2
      subst e2
      rw [hg] at hg'
      simp only [Option.some.injEq, Obj.cells.injEq] at hg'
      exact he hg'.2.1

theorem gath_end {s : ByteArray} {i : Nat} (acc : List (Nat × Bool)) (h : ¬ i < s.size) : gath s i acc = none := by rw [gath, dif_neg h]
theorem gath_stop {s : ByteArray} {i : Nat} (acc : List (Nat × Bool)) (h : i < s.size) (h1 : s[i].toNat = 93) : gath s i acc = some (acc, i) := by
  rw [gath, dif_pos h, if_pos (UInt8.toNat_inj.1 h1)]
theorem gath_esc {s : ByteArray} {i : Nat} (acc : List (Nat × Bool)) (h : i < s.size) (h1 : s[i].toNat = 92) (h2 : i + 1 < s.size) : gath s i acc = gath s (i + 2) (acc ++ [(s[i + 1].toNat, false)]) := by
  have e : s[i] = 92 := UInt8.toNat_inj.1 h1
  rw [gath, dif_pos h, if_neg (by rw [e]; decide), if_pos e, dif_pos h2]
theorem gath_bad {s : ByteArray} {i : Nat} (acc : List (Nat × Bool)) (h : i < s.size) (h1 : s[i].toNat = 92) (h2 : ¬ i + 1 < s.size) : gath s i acc = none := by
  have e : s[i] = 92 := UInt8.toNat_inj.1 h1
  rw [gath, dif_pos h, if_neg (by rw [e]; decide), if_pos e, dif_neg h2]
theorem gath_on {s : ByteArray} {i : Nat} (acc : List (Nat × Bool)) (h : i < s.size) (h1 : s[i].toNat ≠ 93) (h2 : s[i].toNat ≠ 92) : gath s i acc = gath s (i + 1) (acc ++ [(s[i].toNat, true)]) := by
  rw [gath, dif_pos h, if_neg (fun e => h1 (by rw [e]; rfl)), if_neg (fun e => h2 (by rw [e]; rfl))]
def bytesOf (l : List (Nat × Bool)) : List Value := l.map (fun p => .int .u8 p.1)
def baresOf (l : List (Nat × Bool)) : List Value := l.map (fun p => .bool p.2)
theorem bytes_snoc (l : List (Nat × Bool)) (b : Nat) (f : Bool) : bytesOf (l ++ [(b, f)]) = bytesOf l ++ [.int .u8 b] := by unfold bytesOf; simp
theorem bares_snoc (l : List (Nat × Bool)) (b : Nat) (f : Bool) : baresOf (l ++ [(b, f)]) = baresOf l ++ [.bool f] := by unfold baresOf; simp
theorem one_val (v : Value) (h : v.oneCell' = true) : ∀ u ∈ ([v] : List Value), u.oneCell' = true := by intro u hu; simp at hu; subst hu; exact h
theorem own_not {w : World} {b s n r : Nat} {e t : TypeId} {v : Value} {xs : List Value} {cs : Array Value} (h : w.ownsRow b e s v n xs) (hr : w.heap[r]? = some (.cells cs t (0, 0))) (he : e ≠ t) : some r ≠ v.ownBlock := by
  rcases h.2 with ⟨rfl, -⟩ | ⟨g, cap, cur, rfl, hb, hg, -⟩
  · simp [Value.ownBlock]
  · intro e2
    simp only [Value.ownBlock, Option.some.injEq] at e2
    subst e2
    rw [hg] at hr
    simp only [Option.some.injEq, Obj.cells.injEq] at hr
    exact he hr.2.1
/-- what the members' loop knows -/
structure GW (s : ByteArray) (i0 : Nat) (w : World) (r i : Nat) (acc : List (Nat × Bool)) (li ba : Value) (wr : World) : Prop where
  hi : i ≤ s.size
  hn : acc.length ≤ i
  hb : ∀ p ∈ acc, p.1 < 256
  hg : gath s i0 [] = gath s i acc
  L : wr.ownsRow w.heap.size 5 1 li acc.length (bytesOf acc)
  B : wr.ownsRow w.heap.size 4 1 ba acc.length (baresOf acc)
  G : w.grownBy wr none
  R : wr.heap[r]? = some (.cells #[.int .u64 0, .int .u64 0, .int .u64 0, .int .u64 0] 29 (0, 0))
/-- between the two appends -/
structure GW1 (w : World) (r : Nat) (b : Nat) (acc : List (Nat × Bool)) (v1 ba : Value) (wr : World) : Prop where
  L : wr.ownsRow w.heap.size 5 1 v1 (acc.length + 1) (bytesOf acc ++ [.int .u8 b])
  B : wr.ownsRow w.heap.size 4 1 ba acc.length (baresOf acc)
  G : w.grownBy wr none
  R : wr.heap[r]? = some (.cells #[.int .u64 0, .int .u64 0, .int .u64 0, .int .u64 0] 29 (0, 0))
theorem gw_first {s : ByteArray} {i0 : Nat} {w : World} {r i : Nat} {acc : List (Nat × Bool)} {li ba v1 : Value} {wr w2 : World} {b : Nat} (h : GW s i0 w r i acc li ba wr)
    (o : w2.ownsRow w.heap.size 5 1 v1 (acc.length + 1) (bytesOf acc ++ [.int .u8 b])) (g : (wr.alloc (.cells #[.int .u8 b] 5)).grownBy w2 li.ownBlock) : GW1 w r b acc v1 ba w2 := by
  have ga := World.grownBy_alloc wr (.cells #[.int .u8 b] 5) none
  have hR := heap_grown ga h.R
  have hL := h.L.alloc (.cells #[.int .u8 b] 5)
  have hB := h.B.alloc (.cells #[.int .u8 b] 5)
  refine ⟨o, hB.kept g (own_apart hB hL (by decide)), (h.G.trans ga).andThen g (fun j e => .inl (h.L.lt j e).1), ?_⟩
  rw [g.block r (Array.getElem?_eq_some_iff.1 hR).1 (own_not hL hR (by decide))]
  exact hR
theorem gw_second {s : ByteArray} {i0 : Nat} {w : World} {r i i' : Nat} {acc : List (Nat × Bool)} {li ba v1 v2 : Value} {wr w2 w4 : World} {b : Nat} {f : Bool} (h0 : GW s i0 w r i acc li ba wr) (h : GW1 w r b acc v1 ba w2)
    (o : w4.ownsRow w.heap.size 4 1 v2 (acc.length + 1) (baresOf acc ++ [.bool f])) (g : (w2.alloc (.cells #[.bool f] 4)).grownBy w4 ba.ownBlock)
    (h1 : i < i') (h2 : i' ≤ s.size) (hb : b < 256) (hg : gath s i acc = gath s i' (acc ++ [(b, f)])) : GW s i0 w r i' (acc ++ [(b, f)]) v1 v2 w4 := by
  have ga := World.grownBy_alloc w2 (.cells #[.bool f] 4) none
  have hR := heap_grown ga h.R
  have hL := h.L.alloc (.cells #[.bool f] 4)
  have hB := h.B.alloc (.cells #[.bool f] 4)
  have hn := h0.hn
  refine ⟨h2, by simp; omega, ?_, h0.hg.trans hg, ?_, ?_, (h.G.trans ga).andThen g (fun j e => .inl (h.B.lt j e).1), ?_⟩
  · intro p hp
    rcases List.mem_append.1 hp with hp | hp
    · exact h0.hb p hp
    · simp at hp; subst hp; exact hb
  · rw [bytes_snoc, List.length_append]
    exact hL.kept g (own_apart hL hB (by decide))
  · rw [bares_snoc, List.length_append]; exact o
  · rw [g.block r (Array.getElem?_eq_some_iff.1 hR).1 (own_not hB hR (by decide))]
    exact hR

theorem back_pair (T : TypeId) {e : TypeId} (hT : Tryd.prog.underlying T = some (.array 4 e)) (hi : (Tryd.prog.info? T).map (·.size) = some 4) {fn : Func} {p q : Tmp} {w : World} {g : Nat} {s : BitVec 256} {tmps : Array Value} {v : Value} (hf : fn.results = #[.cell p T, .tmp q])
    (hp : tmps.getD p undef = .pointer (some ⟨g, 0, none⟩)) (hq : tmps.getD q undef = v) (hg : w.heap[g]? = some (.cells #[.int .u64 (wd s 0), .int .u64 (wd s 1), .int .u64 (wd s 2), .int .u64 (wd s 3)] T (0, 0))) :
    (results fn tmps).run Tryd.prog w = .ok (.tuple #[setV s, v]) w := by
  have hp' : tmps[p]?.getD undef = .pointer (some ⟨g, 0, none⟩) := by simpa using hp
  have hq' : tmps[q]?.getD undef = v := by simpa using hq
  have hl := run_loadVar_row (P := Tryd.prog) w g T T _ (0, 0) _ hg hT rfl hi
  simp [results, hf, hp', hq', asAddr, hl]

theorem zero_four {w : World} {r : Nat} {T : TypeId} {a0 a1 a2 a3 : Value} (h : w.heap[r]? = some (.cells #[a0, a1, a2, a3] T (0, 0))) : ((((w.setCell ⟨r, 0, none⟩ (.int .u64 0)).setCell ⟨r, 1, none⟩ (.int .u64 0)).setCell ⟨r, 2, none⟩ (.int .u64 0)).setCell ⟨r, 3, none⟩ (.int .u64 0)).heap[r]? = some (.cells #[.int .u64 (wd emp 0), .int .u64 (wd emp 1), .int .u64 (wd emp 2), .int .u64 (wd emp 3)] T (0, 0)) := by
  rw [wd_emp, wd_emp, wd_emp, wd_emp]; exact set_four h _ _ _ _
theorem clsQ_none {s : ByteArray} {n : Bool} {i : Nat} (h : gath s i [] = none) : clsQ s n i = none := by unfold clsQ; rw [h]
theorem clsQ_empty {s : ByteArray} {n : Bool} {i e : Nat} (h : gath s i [] = some ([], e)) : clsQ s n i = none := by unfold clsQ; rw [h]; simp
theorem clsQ_bad {s : ByteArray} {n : Bool} {i e : Nat} {l : List (Nat × Bool)} (h : gath s i [] = some (l, e)) (hr : rng l 0 (fun _ => false) = none) : clsQ s n i = none := by
  unfold clsQ; rw [h]; simp only [hr]; split <;> rfl
theorem clsQ_some {s : ByteArray} {n : Bool} {i e : Nat} {l : List (Nat × Bool)} {f : Nat → Bool} (h : gath s i [] = some (l, e)) (hl : l ≠ []) (hr : rng l 0 (fun _ => false) = some f) : clsQ s n i = some (mkS (fun b => f b != n), e) := by
  unfold clsQ; rw [h]; simp only [hr, if_neg hl]
theorem rng_end {l : List (Nat × Bool)} {i : Nat} (f : Nat → Bool) (h : ¬ i < l.length) : rng l i f = some f := by rw [rng, dif_neg h]
theorem rng_one {l : List (Nat × Bool)} {i lo : Nat} {x : Bool} (f : Nat → Bool) (h : l[i]? = some (lo, x)) (hn : ∀ c b, i + 2 < l.length → l[i + 1]? = some (c, b) → ¬ (c = 45 ∧ b = true)) : rng l i f = rng l (i + 1) (fun b => f b || b == lo) := by
  obtain ⟨hi, e⟩ := List.getElem?_eq_some_iff.1 h
  rw [rng, dif_pos hi]
  by_cases h2 : i + 2 < l.length
  · have h3 := hn (l[i + 1]).1 (l[i + 1]).2 h2 (List.getElem?_eq_getElem (by omega))
    simp only [h2, dif_pos, h3, if_false, e]
  · simp only [h2, dif_neg, not_false_eq_true, e]
theorem rng_two {l : List (Nat × Bool)} {i lo hi' : Nat} {x y : Bool} (f : Nat → Bool) (h : l[i]? = some (lo, x)) (h1 : l[i + 1]? = some (45, true)) (h2 : l[i + 2]? = some (hi', y)) : rng l i f = if hi' < lo then none else rng l (i + 3) (fun b => f b || decide (lo ≤ b ∧ b ≤ hi')) := by
  obtain ⟨hi, e⟩ := List.getElem?_eq_some_iff.1 h
  obtain ⟨hi1, e1⟩ := List.getElem?_eq_some_iff.1 h1
  obtain ⟨hi2, e2⟩ := List.getElem?_eq_some_iff.1 h2
  rw [rng, dif_pos hi]
  simp only [hi2, dif_pos, e1, and_self, if_true, e, e2]
theorem owns_shape {w : World} {base s n : Nat} {e : TypeId} {v : Value} {xs : List Value} (h : w.ownsRow base e s v n xs) : ∃ a cap, v = .slice a n cap := by
  rcases h.2 with ⟨rfl, h0⟩ | ⟨g, cap, cur, rfl, -⟩
  · exact ⟨none, 0, by rw [h0]⟩
  · exact ⟨_, cap, rfl⟩
/-- an own row that isn't empty, cell by cell -/
theorem row_cells {w : World} {base n : Nat} {e : TypeId} {v : Value} {xs : List Value} (h : w.ownsRow base e 1 v n xs) (hn : n ≠ 0) : ∃ g cap, v = .slice (some ⟨g, 0, none⟩) n cap ∧ g < w.heap.size ∧ ∀ j x, xs[j]? = some x → w.cell? ⟨g, j, none⟩ = some x := by
  rcases h.2 with ⟨rfl, h0⟩ | ⟨g, cap, cur, rfl, hb, hg, _⟩
  · exact absurd h0 hn
  · refine ⟨g, cap, rfl, (Array.getElem?_eq_some_iff.1 hg).1, fun j x hx => ?_⟩
    have := h.cells (g := g) rfl j x hx
    rwa [Addr.add_lit, Nat.zero_add] at this
/-- what the members hold, in a world in which the array q alone has turned -/
structure MW (acc : List (Nat × Bool)) (w : World) (r q gl gb : Nat) (f : Nat → Bool) (wr : World) : Prop where
  L : ∀ (j b : Nat) (x : Bool), acc[j]? = some (b, x) → wr.cell? ⟨gl, j, none⟩ = some (.int .u8 b)
  B : ∀ (j b : Nat) (x : Bool), acc[j]? = some (b, x) → wr.cell? ⟨gb, j, none⟩ = some (.bool x)
  G : w.grownBy wr none
  R : wr.heap[r]? = some (.cells #[.int .u64 0, .int .u64 0, .int .u64 0, .int .u64 0] 29 (0, 0))
  Q : wr.heap[q]? = some (.cells (arrV f) 85 (0, 0))
  nq : w.heap.size ≤ q ∧ gl ≠ q ∧ gb ≠ q ∧ r ≠ q
theorem MW.set {acc : List (Nat × Bool)} {w : World} {r q gl gb : Nat} {f f' : Nat → Bool} {wr : World} (h : MW acc w r q gl gb f wr) (b : Nat) (v : Bool) (hf : (arrV f).setIfInBounds b (.bool v) = arrV f') : MW acc w r q gl gb f' (wr.setCell ⟨q, b, none⟩ (.bool v)) :=
  ⟨fun j c x hx => (World.cell?_setCell_far wr ⟨q, b, none⟩ ⟨gl, j, none⟩ _ (Ne.symm h.nq.2.1)).trans (h.L j c x hx), fun j c x hx => (World.cell?_setCell_far wr ⟨q, b, none⟩ ⟨gb, j, none⟩ _ (Ne.symm h.nq.2.2.1)).trans (h.B j c x hx),
   grown_set h.G _ _ h.nq.1, (heap_setCell_other wr ⟨q, b, none⟩ r _ h.nq.2.2.2).trans h.R, by rw [← hf]; exact heap_setCell_same wr q b _ _ _ h.Q, h.nq⟩
theorem MW.ext {acc : List (Nat × Bool)} {w : World} {r q gl gb : Nat} {f f' : Nat → Bool} {wr : World} (h : MW acc w r q gl gb f wr) (hf : ∀ b, b < 256 → f b = f' b) : MW acc w r q gl gb f' wr :=
  ⟨h.L, h.B, h.G, h.R, by rw [← arr_ext hf]; exact h.Q, h.nq⟩

theorem fr_step (f : Nat → Bool) (lo b : Nat) (h : lo ≤ b) (c : Nat) : (f c || decide (lo ≤ c ∧ c < b + 1)) = ((f c || decide (lo ≤ c ∧ c < b)) || c == b) := by
  cases f c
  · rw [Bool.eq_iff_iff]; simp; omega
  · simp
theorem fr_last (f : Nat → Bool) (lo b hh : Nat) (h1 : ¬ b ≤ hh) (h2 : b ≤ hh + 1) (c : Nat) : (f c || decide (lo ≤ c ∧ c < b)) = (f c || decide (lo ≤ c ∧ c ≤ hh)) := by
  have : b = hh + 1 := by omega
  subst this
  cases f c
  · rw [Bool.eq_iff_iff]; simp; omega
  · simp
theorem fr_one (f : Nat → Bool) (lo c : Nat) : (f c || decide (lo ≤ c ∧ c ≤ lo)) = (f c || c == lo) := by
  cases f c
  · rw [Bool.eq_iff_iff]; simp; omega
  · simp
theorem fr_start (f : Nat → Bool) (lo c : Nat) : f c = (f c || decide (lo ≤ c ∧ c < lo)) := by
  cases f c
  · rw [Bool.eq_iff_iff]; simp
  · simp
theorem arr_put (f g : Nat → Bool) (x : Nat) (v : Bool) (hg : ∀ b, b < 256 → g b = if b = x then v else f b) : (arrV f).setIfInBounds x (.bool v) = arrV g := by
  apply Array.ext_getElem?; intro i
  by_cases hi : i < 256
  · rw [arr_get g i hi, hg i hi, Array.getElem?_setIfInBounds]
    by_cases h : x = i
    · subst h; simp [arr_size, hi]
    · have h' : ¬ i = x := fun e => h e.symm
      simp [h, arr_get f i hi, h']
  · rw [Array.getElem?_eq_none (by simp [arr_size]; omega), Array.getElem?_eq_none (by simp [arr_size]; omega)]
theorem arr_flip (f : Nat → Bool) (k : Nat) (_ : k < 256) : (arrV (fun c => if c < k then !f c else f c)).setIfInBounds k (.bool (!f k)) = arrV (fun c => if c < k + 1 then !f c else f c) :=
  arr_put _ _ k (!f k) fun b _ => by
    by_cases h : b = k
    · subst h; simp
    · by_cases h2 : b < k
      · have : b < k + 1 := by omega
        simp [h, h2, this]
      · have : ¬ b < k + 1 := by omega
        simp [h, h2, this]
theorem hm_one {acc : List (Nat × Bool)} {w : World} {r q gl gb lo : Nat} {f : Nat → Bool} {wr : World} (h : MW acc w r q gl gb (fun c => f c || decide (lo ≤ c ∧ c ≤ lo)) wr) : Hid (MW acc w r q gl gb (fun c => f c || c == lo) wr) :=
  Lib.hid (h.ext (fun c _ => fr_one f lo c))
theorem drewN_heap (w : World) (n : Nat) : (w.drewN n).heap = w.heap := by
  induction n with
  | zero => rfl
  | succ n ih => exact ih
theorem MW.drewN {acc : List (Nat × Bool)} {w : World} {r q gl gb : Nat} {f : Nat → Bool} {wr : World} (h : MW acc w r q gl gb f wr) (n : Nat) : MW acc w r q gl gb f (wr.drewN n) := by
  have e := drewN_heap wr n
  refine ⟨fun j b x hx => ?_, fun j b x hx => ?_, grown_drewN h.G n, by rw [e]; exact h.R, by rw [e]; exact h.Q, h.nq⟩
  · have := h.L j b x hx; unfold World.cell? at this ⊢; rw [e]; exact this
  · have := h.B j b x hx; unfold World.cell? at this ⊢; rw [e]; exact this

set_option maxRecDepth 100000 in
set_option maxHeartbeats 8000000 in
theorem cSet (s : ByteArray) (at_ : Nat) (hs : s.size ≤ 100) (ha : at_ ≤ s.size) (w : World) :
    Calls Tryd.prog 41 #[.string s, .int .i64 at_] w fun e w' => ClsOut (clsP s at_) e ∧ w.grownBy w' none := by
  have B1 := Lib.hid (heap_alloc_new w (.cells #[.int .u64 0, .int .u64 0, .int .u64 0, .int .u64 0] 29))
  have G := Lib.hid (World.grownBy_alloc w (.cells #[.int .u64 0, .int .u64 0, .int .u64 0, .int .u64 0] 29) none)
  have HR := Lib.hid (Nat.le_refl w.heap.size)
  go_enter Tryd.func41, Tryd.ntmps41
  go_upto_region 1 with fail
  generalize hr : w.heap.size = r at B1 HR ⊢
  have HR2 := Lib.hid (show w.heap.size ≤ r by omega)
  clear HR hr
  generalize w.alloc _ = w1 at B1 G ⊢
  obtain ⟨n, en⟩ : ∃ n, n = caret s at_ := ⟨_, rfl⟩
  have HN := Lib.hid en
  have ER := Lib.hid (show clsQ s n (if n then at_ + 1 else at_) = clsP s at_ by rw [en]; rfl)
  have hcar : Hid (n = true → at_ < s.size) := Lib.hid (fun h => by
    rw [en] at h; unfold caret at h
    by_cases hi : at_ < s.size
    · exact hi
    · rw [dif_neg hi] at h; cases h)
  clear en
  go_cut [6] from 15 to 24 (fun s6 wx => s6 = .bool n ∧ wx = w1)
  case first =>
    by_cases hi : at_ < s.size
    · by_cases h94 : (s[at_].toNat : Int) = 94
      · have e94 : ((s[at_].toNat : Int) == 94) = true := by rw [h94]; rfl
        have E : n = true := by rw [HN.out]; unfold caret; rw [dif_pos hi]; simp; apply UInt8.toNat_inj.1; simp; omega
        have E' := Lib.hid E
        clear E h94
        go_wp2
        go_meet
        exact ⟨by rw [E'.out], rfl⟩
      · have e94 : ((s[at_].toNat : Int) == 94) = false := by simpa using h94
        have E : n = false := by rw [HN.out]; unfold caret; rw [dif_pos hi]; simp; intro e; rw [e] at h94; simp at h94
        have E' := Lib.hid E
        clear E h94
        go_wp2
        go_meet
        exact ⟨by rw [E'.out], rfl⟩
    · have E : n = false := by rw [HN.out]; unfold caret; rw [dif_neg hi]
      have E' := Lib.hid E
      have hd : decide ((at_ : Int) < s.size) = false := decide_eq_false (by omega)
      clear E
      go_wp2
      go_meet
      exact ⟨by rw [E'.out], rfl⟩
  case rest =>
    obtain ⟨rfl, rfl⟩ := hcut
    clear HN
    obtain ⟨iu, hiu, hu0, hu1, hu2⟩ := info_parts infoByte
    have IU := Lib.hid hiu; have ZU0 := Lib.hid hu0; have ZU1 := Lib.hid hu1; have ZU2 := Lib.hid hu2
    obtain ⟨ib, hib, hb0, hb1, hb2⟩ := info_parts infoBool
    have IB := Lib.hid hib; have ZB0 := Lib.hid hb0; have ZB1 := Lib.hid hb1; have ZB2 := Lib.hid hb2
    clear hiu hu0 hu1 hu2 hib hb0 hb1 hb2
    have HS := Lib.hid (G.out.size)
    obtain ⟨i0, hi0, e0⟩ : ∃ i0 : Nat, i0 ≤ s.size ∧ i0 = if n then at_ + 1 else at_ := ⟨_, by
      cases n
      · exact ha
      · have := hcar.out rfl; simp; omega, rfl⟩
    have O1 := World.ownsRow_made (base := w.heap.size) (e := 5) (size := 1) wc #[] 0 (by have := HS.out; omega) (by decide) rfl
    have O2 := World.ownsRow_made (base := w.heap.size) (e := 4) (size := 1) (wc.alloc (.cells #[] 5)) #[] 0 (by have := HS.out; simp; omega) (by decide) rfl
    have W0 := Lib.hid (show GW s i0 w r i0 [] (.slice (some ⟨wc.heap.size, 0, none⟩) 0 0) (.slice (some ⟨wc.heap.size + 1, 0, none⟩) 0 0) ((wc.alloc (.cells #[] 5)).alloc (.cells #[] 4)) from
      ⟨hi0, Nat.zero_le _, by simp, rfl, owns_kept O1 (World.grownBy_alloc _ _ _), by simpa [baresOf] using O2, G.out.trans ((World.grownBy_alloc _ _ _).trans (World.grownBy_alloc _ _ _)), heap_grown ((World.grownBy_alloc _ _ _).trans (World.grownBy_alloc _ _ _)) B1.out⟩)
    clear O1 O2 hi0
    rw [← e0] at ER
    have E0 := Lib.hid e0
    clear e0
    cases n
    all_goals
      go_upto_block 0 with fail
      go_cut [1, 7, 8] from 30 to 70 (fun s1 s7 s8 wx => ∃ (i : Nat) (acc : List (Nat × Bool)), s1 = .int .i64 i ∧ Hid (GW s i0 w r i acc s7 s8 wx) ∧ Hid (gath s i0 [] = if i < s.size then some (acc, i) else none))
      case first =>
        go_wp2_with fail
        generalize ((wc.alloc _).alloc _) = wd0 at W0 ⊢
        go_loopg [1, 7, 8] (s.size - i0) (fun g s1 s7 s8 wr => ∃ (i : Nat) (acc : List (Nat × Bool)), s1 = .int .i64 i ∧ g = s.size - i ∧ Hid (GW s i0 w r i acc s7 s8 wr))
        case atStart => exact ⟨i0, [], by rw [E0.out]; first | rfl | (show _ = Value.int IntKind.i64 ((at_ + 1 : Nat) : Int); go_num), rfl, W0⟩
        case round =>
          obtain ⟨i, acc, rfl, rfl, hW⟩ := hrel
          by_cases hi : i < s.size
          · obtain ⟨c, hc⟩ : ∃ c, c = s[i].toNat := ⟨_, rfl⟩
            have HB8 := Lib.hid (show c < 256 by rw [hc]; exact UInt8.toNat_lt _)
            by_cases h93 : c = 93
            · have HG := Lib.hid (hW.out.hg.trans (gath_stop acc hi (by rw [← hc]; exact h93)))
              have e93 : ((s[i].toNat : Int) == 93) = true := by rw [← hc, h93]; rfl
              have n93 : ((s[i].toNat : Int) != 93) = false := by rw [← hc, h93]; rfl
              clear h93 hc
              go_wp2
              go_meet
              exact ⟨i, acc, rfl, hW, Lib.hid (by rw [HG.out, if_pos hi])⟩
            · have e93 : ((s[i].toNat : Int) == 93) = false := by rw [← hc]; simp; omega
              have n93 : ((s[i].toNat : Int) != 93) = true := by rw [← hc]; simp; omega
              by_cases h92 : c = 92
              · have e92 : ((s[i].toNat : Int) == 92) = true := by rw [← hc, h92]; rfl
                by_cases hi1 : i + 1 < s.size
                · have GE := Lib.hid (gath_esc acc hi (by rw [← hc]; exact h92) hi1)
                  clear h92 h93 HB8 hc
                  have HB8 := Lib.hid (UInt8.toNat_lt s[i + 1])
                  have tok1 : True := trivial
                  go_wp2_with (first
                    | (at_builtin; have _t := tok1; refine wpList_append_own _ rfl _ _ 99 rfl w.heap.size 5 iu _ 1 1 Tryd.underlying99 IU.out ZU0.out ZU1.out ZU2.out rfl (by decide) _ _ _ rfl (hW.out.L.alloc _) ⟨_, 0, none⟩ 1 1 [.int .u8 s[i + 1].toNat] rfl rfl (new_cell1 _ _ _ _ (by simp)) (one_val _ rfl) (by have := hW.out.hn; have := hW.out.hi; unfold maxLen; omega) (by have := hW.out.hn; have := hW.out.hi; omega) (by have := hW.out.G.size; simp; omega) ?_; intro v1 w2 hown1 hgrow1 _; have ST := Lib.hid (gw_first hW.out hown1 hgrow1); clear hown1 hgrow1 tok1 _t)
                    | (at_builtin; refine wpList_append_own _ rfl _ _ 100 rfl w.heap.size 4 ib _ 1 1 Tryd.underlying100 IB.out ZB0.out ZB1.out ZB2.out rfl (by decide) _ _ _ rfl (ST.out.B.alloc _) ⟨_, 0, none⟩ 1 1 [.bool false] rfl rfl (new_cell1 _ _ _ _ (by simp)) (one_val _ rfl) (by have := hW.out.hn; have := hW.out.hi; unfold maxLen; omega) (by have := hW.out.hn; have := hW.out.hi; omega) (by have := ST.out.G.size; simp; omega) ?_; intro v2 w4 hown2 hgrow2 _; have HF := Lib.hid (gw_second hW.out ST.out hown2 hgrow2 (i' := i + 2) (by omega) (by omega) HB8.out GE.out); clear hown2 hgrow2))
                  go_roundg (s.size - (i + 2))
                  case measure => omega
                  case rel => exact ⟨i + 2, _, by go_num, rfl, HF⟩
                · have HG := Lib.hid (hW.out.hg.trans (gath_bad acc hi (by rw [← hc]; exact h92) hi1))
                  clear h92 h93 HB8 hc
                  have hR := Lib.hid hW.out.R
                  obtain ⟨r0, r1, r2, r3⟩ := four_cells hR.out
                  have fr := four_free hR.out
                  have EN := Lib.hid (ER.out.symm.trans (clsQ_none HG.out))
                  go_wp2
                  refine bodyPost_ret (v := .tuple #[setV emp, .int .i64 (-1)]) (back_pair 29 Tryd.underlying29 (by kernel_rfl) Tryd.results41 rfl rfl (zero_four hR.out)) rfl ⟨by rw [EN.out]; rfl, ?_⟩
                  exact grown_set (grown_set (grown_set (grown_set hW.out.G _ _ HR2.out) _ _ HR2.out) _ _ HR2.out) _ _ HR2.out
              · have e92 : ((s[i].toNat : Int) == 92) = false := by rw [← hc]; simp; omega
                have GE := Lib.hid (gath_on acc hi (by rw [← hc]; exact h93) (by rw [← hc]; exact h92))
                clear h92 h93 HB8 hc
                have HB8 := Lib.hid (UInt8.toNat_lt s[i])
                have tok1 : True := trivial
                go_wp2_with (first
                  | (at_builtin; have _t := tok1; refine wpList_append_own _ rfl _ _ 99 rfl w.heap.size 5 iu _ 1 1 Tryd.underlying99 IU.out ZU0.out ZU1.out ZU2.out rfl (by decide) _ _ _ rfl (hW.out.L.alloc _) ⟨_, 0, none⟩ 1 1 [.int .u8 s[i].toNat] rfl rfl (new_cell1 _ _ _ _ (by simp)) (one_val _ rfl) (by have := hW.out.hn; have := hW.out.hi; unfold maxLen; omega) (by have := hW.out.hn; have := hW.out.hi; omega) (by have := hW.out.G.size; simp; omega) ?_; intro v1 w2 hown1 hgrow1 _; have ST := Lib.hid (gw_first hW.out hown1 hgrow1); clear hown1 hgrow1 tok1 _t)
                  | (at_builtin; refine wpList_append_own _ rfl _ _ 100 rfl w.heap.size 4 ib _ 1 1 Tryd.underlying100 IB.out ZB0.out ZB1.out ZB2.out rfl (by decide) _ _ _ rfl (ST.out.B.alloc _) ⟨_, 0, none⟩ 1 1 [.bool true] rfl rfl (new_cell1 _ _ _ _ (by simp)) (one_val _ rfl) (by have := hW.out.hn; have := hW.out.hi; unfold maxLen; omega) (by have := hW.out.hn; have := hW.out.hi; omega) (by have := ST.out.G.size; simp; omega) ?_; intro v2 w4 hown2 hgrow2 _; have HF := Lib.hid (gw_second hW.out ST.out hown2 hgrow2 (i' := i + 1) (by omega) (by omega) HB8.out GE.out); clear hown2 hgrow2))
                go_roundg (s.size - (i + 1))
                case measure => omega
                case rel => exact ⟨i + 1, _, by go_num, rfl, HF⟩
          · have HG := Lib.hid (hW.out.hg.trans (gath_end acc hi))
            have hd : decide ((i : Int) < s.size) = false := decide_eq_false (by omega)
            go_wp2
            go_meet
            exact ⟨i, acc, rfl, hW, Lib.hid (by rw [HG.out, if_neg hi])⟩
      case rest =>
        obtain ⟨i, acc, rfl, hW, HG⟩ := hcut
        clear W0 B1 G
        have hil := hW.out.hi
        have hnl := hW.out.hn
        by_cases hi : i < s.size
        · rw [if_pos hi] at HG
          have dge : decide ((s.size : Int) ≤ i) = false := decide_eq_false (by omega)
          by_cases hz : acc.length = 0
          · have hnil : acc = [] := List.eq_nil_of_length_eq_zero hz
            have HG2 := Lib.hid (show gath s i0 [] = some ([], i) by rw [HG.out, hnil])
            have dz : ((acc.length : Int) == 0) = true := by rw [hz]; rfl
            clear hnil hz
            obtain ⟨la, lc, rfl⟩ := owns_shape hW.out.L
            have hR := Lib.hid (hW.out.R)
            have EN := Lib.hid (ER.out.symm.trans (clsQ_empty HG2.out))
            obtain ⟨r0, r1, r2, r3⟩ := four_cells hR.out
            have fr := four_free hR.out
            go_wp2
            refine bodyPost_ret (v := .tuple #[setV emp, .int .i64 (-1)]) (back_pair 29 Tryd.underlying29 (by kernel_rfl) Tryd.results41 rfl rfl (zero_four hR.out)) rfl ⟨by rw [EN.out]; rfl, ?_⟩
            exact grown_set (grown_set (grown_set (grown_set hW.out.G _ _ HR2.out) _ _ HR2.out) _ _ HR2.out) _ _ HR2.out
          · have dz : ((acc.length : Int) == 0) = false := by simpa using hz
            have hne := Lib.hid (show acc ≠ [] by intro e; rw [e] at hz; exact hz rfl)
            obtain ⟨gl, cl, rfl, hgl, HL⟩ := row_cells hW.out.L hz
            obtain ⟨gb, cb, rfl, hgb, HB⟩ := row_cells hW.out.B hz
            have HLL := Lib.hid (show ∀ (j b : Nat) (x : Bool), acc[j]? = some (b, x) → wc.cell? ⟨gl, j, none⟩ = some (.int .u8 b) from fun j b x hx => HL j _ (by unfold bytesOf; rw [List.getElem?_map, hx]; rfl))
            have HBB := Lib.hid (show ∀ (j b : Nat) (x : Bool), acc[j]? = some (b, x) → wc.cell? ⟨gb, j, none⟩ = some (.bool x) from fun j b x hx => HB j _ (by unfold baresOf; rw [List.getElem?_map, hx]; rfl))
            clear HL HB hz
            obtain ⟨hz, hsz⟩ := zero_of_info infoArr7
            have hZs := arr_size (fun _ => false)
            have hZ1 := arr_one (fun _ => false)
            have b2 := heap_alloc_new wc (.cells (arrV fun _ => false) 85)
            have s2 := store_same (P := Tryd.prog) b2 (by rw [hZs]; exact hsz) hZ1
            have hrl : r < wc.heap.size := (Array.getElem?_eq_some_iff.1 hW.out.R).1
            have M0 := Lib.hid (show MW acc w r wc.heap.size gl gb (fun _ => false) (wc.alloc (.cells (arrV fun _ => false) 85)) from
              ⟨fun j b x hx => cell_al (HLL.out j b x hx) _, fun j b x hx => cell_al (HBB.out j b x hx) _, hW.out.G.trans (World.grownBy_alloc _ _ _), heap_grown (World.grownBy_alloc _ _ _) hW.out.R, b2, hW.out.G.size, by omega, by omega, by omega⟩)
            generalize hZZ : (arrV fun _ => false) = Z at hz hZs s2 M0
            clear b2 hZ1 hrl hsz hgl hgb HLL HBB
            have AB := Lib.hid hW.out.hb
            go_upto_region 17 with fail
            generalize wc.heap.size = q at M0 ⊢
            generalize wc.alloc _ = w5 at M0 ⊢
            clear hz hZs s2 hZZ hW dge dz
            go_wp2_with fail
            go_loopw [10, 11, 12, 13] (fun sj _ _ _ wr => ∃ (j : Nat) (f : Nat → Bool), sj = .int .i64 j ∧ Hid (rng acc 0 (fun _ => false) = rng acc j f) ∧ Hid (MW acc w r q gl gb f wr)) (fun sj _ _ _ _ => acc.length - (intOf sj).toNat)
            case atStart => exact ⟨0, fun _ => false, rfl, Lib.hid rfl, M0⟩
            case round =>
              obtain ⟨j, f, rfl, hF, hM⟩ := hrel
              by_cases hj : j < acc.length
              · obtain ⟨⟨lo, x⟩, hx⟩ : ∃ p, acc[j]? = some p := ⟨_, List.getElem?_eq_getElem hj⟩
                have hlo := AB.out _ (List.mem_of_getElem? hx)
                simp only at hlo
                have c0 := hM.out.L j lo x hx
                have HX := Lib.hid hx
                clear hx
                go_wp2_with fail
                go_quiet (fail)
                have hMz := Lib.hid (hM.out.drewN nq)
                generalize wr.drewN nq = wz at hMz ⊢
                clear c0
                by_cases h2 : j + 2 < acc.length
                · have d2 : decide ((j : Int) + 2 < acc.length) = true := decide_eq_true (by omega)
                  obtain ⟨⟨c1, x1⟩, h1⟩ : ∃ p, acc[j + 1]? = some p := ⟨_, List.getElem?_eq_getElem (by omega)⟩
                  have e1 := hMz.out.L (j + 1) c1 x1 h1
                  have e2 := hMz.out.B (j + 1) c1 x1 h1
                  have H1 := Lib.hid h1
                  clear h1
                  by_cases hr45 : c1 = 45 ∧ x1 = true
                  · obtain ⟨rfl, rfl⟩ := hr45
                    obtain ⟨⟨hh, y⟩, h3⟩ : ∃ p, acc[j + 2]? = some p := ⟨_, List.getElem?_eq_getElem h2⟩
                    have hhi := AB.out _ (List.mem_of_getElem? h3)
                    simp only at hhi
                    have e3 := hMz.out.L (j + 2) hh y h3
                    have HT := Lib.hid (rng_two f HX.out H1.out h3)
                    clear h3
                    by_cases hbad : hh < lo
                    · have db : decide ((hh : Int) < lo) = true := decide_eq_true (by omega)
                      have HB2 := Lib.hid (hF.out.trans (HT.out.trans (if_pos hbad)))
                      have hR := Lib.hid (hMz.out.R)
                      have EN := Lib.hid (ER.out.symm.trans (clsQ_bad HG.out HB2.out))
                      obtain ⟨r0, r1, r2, r3⟩ := four_cells hR.out
                      have fr := four_free hR.out
                      go_wp2
                      refine bodyPost_ret (v := .tuple #[setV emp, .int .i64 (-1)]) (back_pair 29 Tryd.underlying29 (by kernel_rfl) Tryd.results41 rfl rfl (zero_four hR.out)) rfl ⟨by rw [EN.out]; rfl, ?_⟩
                      exact grown_set (grown_set (grown_set (grown_set hMz.out.G _ _ HR2.out) _ _ HR2.out) _ _ HR2.out) _ _ HR2.out
                    · have db : decide ((hh : Int) < lo) = false := decide_eq_false (by omega)
                      have HRN := Lib.hid (hF.out.trans (HT.out.trans (if_neg hbad)))
                      clear HT
                      go_wp2_with fail
                      obtain ⟨wq, rfl⟩ : ∃ wq : World, wq = wr := ⟨_, rfl⟩
                      go_loopw [13] (fun sb wr => ∃ b : Nat, lo ≤ b ∧ b ≤ hh + 1 ∧ sb = .int .i64 b ∧ Hid (MW acc w r q gl gb (fun c => f c || decide (lo ≤ c ∧ c < b)) wr)) (fun sb _ => hh + 1 - (intOf sb).toNat)
                      case atStart => exact ⟨lo, Nat.le_refl _, by omega, rfl, Lib.hid (hMz.out.ext (fun c _ => fr_start f lo c))⟩
                      case round =>
                        obtain ⟨b, hb1, hb2, rfl, hM2⟩ := hrel
                        by_cases hble : b ≤ hh
                        · have HSet := Lib.hid (arr_set (fun c => f c || decide (lo ≤ c ∧ c < b)) (fun c => f c || decide (lo ≤ c ∧ c < b + 1)) b (fun c _ => fr_step f lo b hb1 c))
                          obtain ⟨ov, cv⟩ : ∃ ov, wr.cell? ⟨q, b, none⟩ = some ov := ⟨_, (cell_of_row wr q b _ _ _ hM2.out.Q).trans (arr_get _ b (by omega))⟩
                          have fv := four_free hM2.out.Q b
                          go_wp2
                          go_roundw
                          case rel => exact ⟨b + 1, by omega, by omega, by go_num, Lib.hid (hM2.out.set b true HSet.out)⟩
                          case measure => simp [intOf]; omega
                        · have hbd : decide ((b : Int) ≤ hh) = false := decide_eq_false (by omega)
                          have HM3 := Lib.hid (hM2.out.ext (f' := fun c => f c || decide (lo ≤ c ∧ c ≤ hh)) (fun c _ => fr_last f lo b hh hble hb2 c))
                          clear hM2
                          go_wp2_with fail
                          go_roundw
                          case rel => exact ⟨j + 3, _, by go_num, HRN, HM3⟩
                          case measure => simp [intOf]; omega
                  · have HRN := Lib.hid (hF.out.trans (rng_one f HX.out (fun c b hl hc => by rw [H1.out] at hc; cases hc; exact hr45)))
                    have key : (c1 = 45 ∧ x1 = false) ∨ c1 ≠ 45 := by
                      by_cases h45 : c1 = 45
                      · cases x1
                        · exact .inl ⟨h45, rfl⟩
                        · exact absurd ⟨h45, rfl⟩ hr45
                      · exact .inr h45
                    clear hr45
                    have dl : decide ((lo : Int) < lo) = false := decide_eq_false (by omega)
                    rcases key with ⟨rfl, rfl⟩ | h45
                    case' inr => have n45 : ((c1 : Int) == 45) = false := by simp; omega
                    all_goals
                      go_wp2_with fail
                      obtain ⟨wq, rfl⟩ : ∃ wq : World, wq = wr := ⟨_, rfl⟩
                      go_loopw [13] (fun sb wr => ∃ b : Nat, lo ≤ b ∧ b ≤ lo + 1 ∧ sb = .int .i64 b ∧ Hid (MW acc w r q gl gb (fun c => f c || decide (lo ≤ c ∧ c < b)) wr)) (fun sb _ => lo + 1 - (intOf sb).toNat)
                      case atStart => exact ⟨lo, Nat.le_refl _, by omega, rfl, Lib.hid (hMz.out.ext (fun c _ => fr_start f lo c))⟩
                      case round =>
                        obtain ⟨b, hb1, hb2, rfl, hM2⟩ := hrel
                        by_cases hble : b ≤ lo
                        · have HSet := Lib.hid (arr_set (fun c => f c || decide (lo ≤ c ∧ c < b)) (fun c => f c || decide (lo ≤ c ∧ c < b + 1)) b (fun c _ => fr_step f lo b hb1 c))
                          obtain ⟨ov, cv⟩ : ∃ ov, wr.cell? ⟨q, b, none⟩ = some ov := ⟨_, (cell_of_row wr q b _ _ _ hM2.out.Q).trans (arr_get _ b (by omega))⟩
                          have fv := four_free hM2.out.Q b
                          go_wp2
                          go_roundw
                          case rel => exact ⟨b + 1, by omega, by omega, by go_num, Lib.hid (hM2.out.set b true HSet.out)⟩
                          case measure => simp [intOf]; omega
                        · have hbd : decide ((b : Int) ≤ lo) = false := decide_eq_false (by omega)
                          have HM3 := Lib.hid (hM2.out.ext (f' := fun c => f c || decide (lo ≤ c ∧ c ≤ lo)) (fun c _ => fr_last f lo b lo hble hb2 c))
                          clear hM2
                          go_wp2_with fail
                          go_roundw
                          case rel => exact ⟨j + 1, _, by go_num, HRN, hm_one HM3.out⟩
                          case measure => simp [intOf]; omega
                · have d2 : decide ((j : Int) + 2 < acc.length) = false := decide_eq_false (by omega)
                  have HRN := Lib.hid (hF.out.trans (rng_one f HX.out (fun c b hl hc => absurd hl h2)))
                  have dl : decide ((lo : Int) < lo) = false := decide_eq_false (by omega)
                  go_wp2_with fail
                  obtain ⟨wq, rfl⟩ : ∃ wq : World, wq = wr := ⟨_, rfl⟩
                  go_loopw [13] (fun sb wr => ∃ b : Nat, lo ≤ b ∧ b ≤ lo + 1 ∧ sb = .int .i64 b ∧ Hid (MW acc w r q gl gb (fun c => f c || decide (lo ≤ c ∧ c < b)) wr)) (fun sb _ => lo + 1 - (intOf sb).toNat)
                  case atStart => exact ⟨lo, Nat.le_refl _, by omega, rfl, Lib.hid (hMz.out.ext (fun c _ => fr_start f lo c))⟩
                  case round =>
                    obtain ⟨b, hb1, hb2, rfl, hM2⟩ := hrel
                    by_cases hble : b ≤ lo
                    · have HSet := Lib.hid (arr_set (fun c => f c || decide (lo ≤ c ∧ c < b)) (fun c => f c || decide (lo ≤ c ∧ c < b + 1)) b (fun c _ => fr_step f lo b hb1 c))
                      obtain ⟨ov, cv⟩ : ∃ ov, wr.cell? ⟨q, b, none⟩ = some ov := ⟨_, (cell_of_row wr q b _ _ _ hM2.out.Q).trans (arr_get _ b (by omega))⟩
                      have fv := four_free hM2.out.Q b
                      go_wp2
                      go_roundw
                      case rel => exact ⟨b + 1, by omega, by omega, by go_num, Lib.hid (hM2.out.set b true HSet.out)⟩
                      case measure => simp [intOf]; omega
                    · have hbd : decide ((b : Int) ≤ lo) = false := decide_eq_false (by omega)
                      have HM3 := Lib.hid (hM2.out.ext (f' := fun c => f c || decide (lo ≤ c ∧ c ≤ lo)) (fun c _ => fr_last f lo b lo hble hb2 c))
                      clear hM2
                      go_wp2_with fail
                      go_roundw
                      case rel => exact ⟨j + 1, _, by go_num, HRN, hm_one HM3.out⟩
                      case measure => simp [intOf]; omega
              · have HE := Lib.hid (hF.out.trans (rng_end f hj))
                have ES0 := Lib.hid (ER.out.symm.trans (clsQ_some HG.out hne.out HE.out))
                first
                  | (have ES := Lib.hid (show clsP s at_ = some (mkS f, i) by rw [ES0.out, show (fun b => f b != false) = f from funext (fun b => by simp)])
                     have HMF := hM
                     clear ES0
                     have HI := Lib.hid (show (Tryd.prog.info? 85).map (·.size) = some (arrV f).size by rw [arr_size]; exact (zero_of_info infoArr7).2)
                     have C := Lib.hid (fun w => cROf f w)
                     have HQ := Lib.hid HMF.out.Q
                     have HRR := Lib.hid HMF.out.R
                     generalize mkS f = tt at C ES
                     generalize arrV f = X at HQ HI C
                     go_wp2_with (first
                       | (refine wpList_load_row rfl 85 (.tmp 9) rfl q rfl 85 X (0, 0) _ HQ.out Tryd.underlying85 rfl HI.out ?_)
                       | (go_at_call 42; refine (C.out _).mono ?_; rintro e w8 ⟨rfl, g8⟩; have B8 := Lib.hid (heap_grown g8 HRR.out); have G8 := Lib.hid (HMF.out.G.trans g8); clear g8; obtain ⟨r0, r1, r2, r3⟩ := four_cells B8.out; have fr := four_free B8.out))
                     refine bodyPost_ret (v := .tuple #[setV tt, .int .i64 i]) (back_pair 29 Tryd.underlying29 (by kernel_rfl) Tryd.results41 rfl rfl (set_four B8.out _ _ _ _)) rfl ⟨by rw [ES.out]; rfl, ?_⟩
                     exact grown_set (grown_set (grown_set (grown_set G8.out _ _ HR2.out) _ _ HR2.out) _ _ HR2.out) _ _ HR2.out)
                  | (have ES := Lib.hid (show clsP s at_ = some (mkS (fun b => !f b), i) by rw [ES0.out, show (fun b => f b != true) = (fun b => !f b) from funext (fun b => by simp)])
                     clear ES0
                     go_wp2_with fail
                     obtain ⟨wq, rfl⟩ : ∃ wq : World, wq = wr := ⟨_, rfl⟩
                     go_loopw [14, 138] (fun _ sk wr => ∃ k : Nat, k ≤ 256 ∧ sk = .int .i64 k ∧ Hid (MW acc w r q gl gb (fun c => if c < k then !f c else f c) wr)) (fun _ sk _ => 256 - (intOf sk).toNat)
                     case atStart => exact ⟨0, by omega, rfl, Lib.hid (hM.out.ext (fun c _ => by simp))⟩
                     case round =>
                       obtain ⟨k, hk, rfl, hMk⟩ := hrel
                       by_cases hk2 : k < 256
                       · have cv : wr.cell? ⟨q, k, none⟩ = some (.bool (f k)) := (cell_of_row wr q k _ _ _ hMk.out.Q).trans (by rw [arr_get _ k hk2]; simp)
                         have fv := four_free hMk.out.Q k
                         have HSet := Lib.hid (arr_flip f k hk2)
                         obtain ⟨fk, efk⟩ : ∃ fk, f k = fk := ⟨_, rfl⟩
                         rw [efk] at cv HSet
                         clear efk
                         go_wp2
                         go_roundw
                         case rel => exact ⟨k + 1, by omega, by go_num, Lib.hid (hMk.out.set k (!fk) HSet.out)⟩
                         case measure => simp [intOf]; omega
                       · obtain rfl : k = 256 := by omega
                         have HMF := Lib.hid (hMk.out.ext (f' := fun b => !f b) (fun c hc => by simp [hc]))
                         clear hMk
                         have HI := Lib.hid (show (Tryd.prog.info? 85).map (·.size) = some (arrV (fun b => !f b)).size by rw [arr_size]; exact (zero_of_info infoArr7).2)
                         have C := Lib.hid (fun w => cROf (fun b => !f b) w)
                         have HQ := Lib.hid HMF.out.Q
                         have HRR := Lib.hid HMF.out.R
                         generalize mkS (fun b => !f b) = tt at C ES
                         generalize arrV (fun b => !f b) = X at HQ HI C
                         go_wp2_with (first
                           | (refine wpList_load_row rfl 85 (.tmp 9) rfl q rfl 85 X (0, 0) _ HQ.out Tryd.underlying85 rfl HI.out ?_)
                           | (go_at_call 42; refine (C.out _).mono ?_; rintro e w8 ⟨rfl, g8⟩; have B8 := Lib.hid (heap_grown g8 HRR.out); have G8 := Lib.hid (HMF.out.G.trans g8); clear g8; obtain ⟨r0, r1, r2, r3⟩ := four_cells B8.out; have fr := four_free B8.out))
                         refine bodyPost_ret (v := .tuple #[setV tt, .int .i64 i]) (back_pair 29 Tryd.underlying29 (by kernel_rfl) Tryd.results41 rfl rfl (set_four B8.out _ _ _ _)) rfl ⟨by rw [ES.out]; rfl, ?_⟩
                         exact grown_set (grown_set (grown_set (grown_set G8.out _ _ HR2.out) _ _ HR2.out) _ _ HR2.out) _ _ HR2.out)
        · rw [if_neg hi] at HG
          have dge : decide ((s.size : Int) ≤ i) = true := decide_eq_true (by omega)
          have hR := Lib.hid (hW.out.R)
          have EN := Lib.hid (ER.out.symm.trans (clsQ_none HG.out))
          obtain ⟨r0, r1, r2, r3⟩ := four_cells hR.out
          have fr := four_free hR.out
          go_wp2
          refine bodyPost_ret (v := .tuple #[setV emp, .int .i64 (-1)]) (back_pair 29 Tryd.underlying29 (by kernel_rfl) Tryd.results41 rfl rfl (zero_four hR.out)) rfl ⟨by rw [EN.out]; rfl, ?_⟩
          exact grown_set (grown_set (grown_set (grown_set hW.out.G _ _ HR2.out) _ _ HR2.out) _ _ HR2.out) _ _ HR2.out
end Go.Proofs.YtliefnjhobdphaaDoor
