/- Walks of layer 6: the bytes that are as asked, rising; Bytes; the bytes between two. -/
import Derived.Test.YtkemhpjgmnibpaaClsC
namespace Go.Proofs.Ytkemhpjgmnibpaa
open Go.RowKit

/-- the first n bytes that are as asked -/
def whr (f : Nat → Bool) (n : Nat) : List Nat := (List.range n).filter f
def byteV (b : Nat) : Value := .int .u8 b
theorem whr_yes {f : Nat → Bool} {n : Nat} (h : f n = true) : whr f (n + 1) = whr f n ++ [n] := by
  unfold whr; rw [List.range_succ, List.filter_append]; simp [h]
theorem whr_no {f : Nat → Bool} {n : Nat} (h : f n = false) : whr f (n + 1) = whr f n := by
  unfold whr; rw [List.range_succ, List.filter_append]; simp [h]
theorem whr_len (f : Nat → Bool) (n : Nat) : (whr f n).length ≤ n := by
  unfold whr; have := List.length_filter_le f (List.range n); simpa using this
theorem owns_kept {w w' : World} {base : Nat} {e : TypeId} {size n : Nat} {v : Value} {xs : List Value} (h : w.ownsRow base e size v n xs) (hg : w.grownBy w' none) : w'.ownsRow base e size v n xs :=
  h.kept hg (by cases hv : v.ownBlock <;> simp)
theorem infoByte : (Try.prog.info? 5).map (fun i => (i.zero, i.size, i.bytes)) = some (some (.int .u8 0), 1, 1) := by kernel_rfl
theorem new_byte (w : World) (s : Int) (t : TypeId) (n : Nat) (hn : n = w.heap.size) : ∀ j u, ([.int .u8 s] : List Value)[j]? = some u → (w.alloc (.cells #[.int .u8 s] t)).cell? ((⟨n, 0, none⟩ : Addr).add j) = some u := by
  subst hn
  exact World.news_of_block (cs := #[.int .u8 s]) (t := t) (fr := (0, 0)) (heap_alloc_new w _)
theorem one_byte (s : Int) : ∀ u ∈ ([.int .u8 s] : List Value), u.oneCell' = true := by intro u hu; simp at hu; subst hu; rfl

set_option maxRecDepth 100000 in
set_option maxHeartbeats 2000000 in
theorem cWhere (fn : Nat) (first cap : Array Value) (A : Nat → Array Value) (hA : ∀ b : Nat, first ++ #[.int .u8 b] ++ cap = A b) (f : Nat → Bool) (w : World)
    (hent : ∀ args w, (callFunc fn args).run Try.prog w = .ok (.enter fn args) w)
    (hcall : ∀ b, b < 256 → ∀ wr, w.grownBy wr none → Calls Try.prog fn (A b) wr fun e w' => e = .returned (.bool (f b)) ∧ wr.grownBy w' none) :
    Calls Try.prog 20 #[.func (.func fn) first cap] w fun e w' => ∃ v, e = .returned v ∧ w'.ownsRow w.heap.size 5 1 v (whr f 256).length ((whr f 256).map byteV) ∧ w.grownBy w' none := by
  have HC := Lib.hid (show ∀ b, b < 256 → ∀ wr, w.grownBy wr none → Calls Try.prog fn (first ++ #[.int .u8 b] ++ cap) wr fun e w' => e = .returned (.bool (f b)) ∧ wr.grownBy w' none from fun i hi wr hg => by rw [hA]; exact hcall i hi wr hg)
  clear hcall hA
  obtain ⟨i0, hi, hz0, hz1, hz2⟩ := info_parts infoByte
  have I := Lib.hid hi; have Z0 := Lib.hid hz0; have Z1 := Lib.hid hz1; have Z2 := Lib.hid hz2
  clear hi hz0 hz1 hz2
  go_enter Try.func20, Try.ntmps20
  go_wp2
  go_loopw [3, 4, 5] (fun out _ i wr => ∃ k : Nat, k ≤ 256 ∧ i = .int .i64 k ∧ Hid (wr.ownsRow w.heap.size 5 1 out (whr f k).length ((whr f k).map byteV)) ∧ Hid (w.grownBy wr none)) (fun _ _ i _ => 256 - (intOf i).toNat)
  case atStart => exact ⟨0, by omega, rfl, Lib.hid (World.ownsRow_nil _ _ _ _), Lib.hid (World.grownBy.refl _ _)⟩
  case round =>
    obtain ⟨k, hk, rfl, hrow, hG⟩ := hrel
    by_cases hlt : k < 256
    · have CK := Lib.hid (HC.out k hlt wr hG.out)
      have L := Lib.hid (whr_len f k)
      cases hfk : f k
      · have W := Lib.hid (whr_no hfk)
        have CK2 := Lib.hid (hfk ▸ CK.out)
        clear hfk CK
        go_wp2_with fail
        refine CK2.out.mono ?_
        rintro e w1 ⟨rfl, g1⟩
        have G1 := Lib.hid (hG.out.trans g1); have O1 := Lib.hid (owns_kept hrow.out g1)
        clear g1
        go_wp2
        go_roundw
        case rel => exact ⟨k + 1, by omega, by go_num, Lib.hid (by rw [W.out]; exact O1.out), G1⟩
        case measure => simp [intOf]; omega
      · have W := Lib.hid (whr_yes hfk)
        have CK2 := Lib.hid (hfk ▸ CK.out)
        clear hfk CK
        go_wp2_with fail
        refine CK2.out.mono ?_
        rintro e w1 ⟨rfl, g1⟩
        have G1 := Lib.hid (hG.out.trans g1); have O1 := Lib.hid (owns_kept hrow.out g1)
        clear g1
        go_wp2_with (at_builtin; refine wpList_append_own _ rfl _ _ 22 rfl w.heap.size 5 i0 _ 1 1 Try.underlying22 I.out Z0.out Z1.out Z2.out rfl (by decide) _ _ _ rfl (O1.out.alloc _) ⟨_, 0, none⟩ 1 1 [.int .u8 k] rfl rfl (new_byte _ k _ _ (by simp)) (one_byte k) (by have := L.out; unfold maxLen; omega) (by have := L.out; omega) (by have := G1.out.size; simp; omega) ?_; intro v' w2 hown' hgrow2 hnil2; have HOWN := Lib.hid hown'; have G2 := Lib.hid ((G1.out.trans (World.grownBy_alloc w1 (.cells #[.int .u8 k] 5) none)).andThen hgrow2 (fun j e => .inl (O1.out.lt j e).1)); clear hown' hgrow2 hnil2)
        go_roundw
        case rel => exact ⟨k + 1, by omega, by go_num, Lib.hid (by rw [W.out, List.length_append, List.map_append]; exact HOWN.out), G2⟩
        case measure => simp [intOf]; omega
    · obtain rfl : k = 256 := by omega
      go_wp2
      go_ret
      exact ⟨_, rfl, hrow.out, hG.out⟩

/-- a slice of bytes that lies in memory -/
def BRow (w : World) (v : Value) (l : List Nat) : Prop :=
  ∃ a c, v = .slice a l.length c ∧ (l.length ≤ 300 ∧ ∀ b ∈ l, b < 256) ∧ (l ≠ [] → ∃ b off, a = some ⟨b, off, none⟩ ∧ b < w.heap.size ∧ ∀ k x, l[k]? = some x → w.cell? ⟨b, off + k, none⟩ = some (byteV x))
theorem BRow.grown {w w' : World} {v : Value} {l : List Nat} (h : BRow w v l) (g : w.grownBy w' none) : BRow w' v l := by
  obtain ⟨a, c, hv, hl, hr⟩ := h
  refine ⟨a, c, hv, hl, fun hn => ?_⟩
  obtain ⟨b, off, ha, hb, hc⟩ := hr hn
  exact ⟨b, off, ha, Nat.lt_of_lt_of_le hb g.size, fun k x hx => g.cell (hc k x hx) (by simp)⟩

theorem brow_of_owns {w : World} {base : Nat} {v : Value} {l : List Nat} (h : w.ownsRow base 5 1 v l.length (l.map byteV)) (hn : l.length ≤ 300) (hb : ∀ b ∈ l, b < 256) : BRow w v l := by
  rcases h.2 with ⟨rfl, h0⟩ | ⟨g, cap, cur, rfl, hb', hg, h1, h2, h3, h4⟩
  · exact ⟨none, 0, by rw [h0], ⟨hn, hb⟩, fun hne => absurd (List.eq_nil_of_length_eq_zero h0) hne⟩
  · refine ⟨_, cap, rfl, ⟨hn, hb⟩, fun _ => ⟨g, 0, rfl, (Array.getElem?_eq_some_iff.1 hg).1, fun j x hx => ?_⟩⟩
    have := h.cells (g := g) rfl j (byteV x) (by rw [List.getElem?_map, hx]; rfl)
    rwa [Addr.add_lit] at this
theorem whr_lt (f : Nat → Bool) : ∀ b ∈ whr f 256, b < 256 := by
  intro b hb; unfold whr at hb; have := (List.mem_filter.1 hb).1; simpa using this

set_option maxHeartbeats 1000000 in
theorem cBytes (s : BitVec 256) (w : World) :
    Calls Try.prog 13 #[setV s] w fun e w' => ∃ v, e = .returned v ∧ BRow w' v (whr (inn s) 256) ∧ w.grownBy w' none := by
  have hmf : ∀ (fn : Fn) (first cap : Array Value) (w : World), (Instr.makeFunc fn first cap).run Try.prog w = .ok (.func fn first cap) w := fun _ _ _ _ => rfl
  have e1 : ∀ args w, (callFunc 15 args).run Try.prog w = .ok (.enter 15 args) w := enters_of Try.func15 (by kernel_rfl) rfl
  have E1 := Lib.hid e1
  clear e1
  go_enter Try.func13, Try.ntmps13
  go_upto_region 1 with fail
  have G := Lib.hid (World.grownBy_alloc w (.cells #[.int .u64 (wd s 0), .int .u64 (wd s 1), .int .u64 (wd s 2), .int .u64 (wd s 3)] 27) none)
  obtain ⟨c0, c1, c2, c3⟩ := set_new w s 27
  generalize w.heap.size = p at c0 c1 c2 c3 ⊢
  generalize w.alloc (.cells #[.int .u64 (wd s 0), .int .u64 (wd s 1), .int .u64 (wd s 2), .int .u64 (wd s 3)] 27) = w1 at G c0 c1 c2 c3 ⊢
  go_wp2_with fail
  refine (cWhere 15 #[setV s] #[] (fun b => #[setV s, .int .u8 b]) (fun b => by simp) (inn s) w1 E1.out (fun b hb wr _ => cHas s b wr hb)).mono ?_
  rintro e w2 ⟨v, rfl, o2, g2⟩
  have R := Lib.hid (brow_of_owns o2 (Nat.le_trans (whr_len _ _) (by omega)) (whr_lt _))
  have G2 := Lib.hid (G.out.trans g2)
  clear o2 g2
  go_wp2
  go_ret
  exact ⟨_, rfl, R.out, G2.out⟩

def btw (lo hi : Nat) (b : Nat) : Bool := decide (lo ≤ b ∧ b ≤ hi)
theorem cBtw (lo hi b p q : Nat) (w : World) (h1 : w.cell? ⟨p, 0, none⟩ = some (.int .u8 lo)) (h2 : w.cell? ⟨q, 0, none⟩ = some (.int .u8 hi)) :
    Calls Try.prog 21 #[.int .u8 b, .pointer (some ⟨p, 0, none⟩), .pointer (some ⟨q, 0, none⟩)] w fun e w' => e = .returned (.bool (btw lo hi b)) ∧ w.grownBy w' none := by
  unfold btw
  by_cases k1 : lo ≤ b
  · by_cases k2 : b ≤ hi
    · have H : decide (lo ≤ b ∧ b ≤ hi) = true := by simp [k1, k2]
      have H' := Lib.hid H
      clear H
      go_enter Try.func21, Try.ntmps21
      go_wp2
      go_ret
      exact ⟨ret_bool (by rw [H'.out]), World.grownBy.refl _ _⟩
    · have H : decide (lo ≤ b ∧ b ≤ hi) = false := by simp [k2]
      have H' := Lib.hid H
      clear H
      go_enter Try.func21, Try.ntmps21
      go_wp2
      go_ret
      exact ⟨ret_bool (by rw [H'.out]), World.grownBy.refl _ _⟩
  · have H : decide (lo ≤ b ∧ b ≤ hi) = false := by simp [k1]
    have H' := Lib.hid H
    clear H
    have k1' : decide (lo ≤ b) = false := by simpa using k1
    go_enter Try.func21, Try.ntmps21
    go_wp2
    go_ret
    exact ⟨ret_bool (by rw [H'.out]), World.grownBy.refl _ _⟩

/-- a byte alone; a set with one byte more; the set of a list -/
def one (b : Nat) : BitVec 256 := BitVec.ofNat 256 (2 ^ b)
def ins (s : BitVec 256) (b : Nat) : BitVec 256 := un s (one b)
def ofL (l : List Nat) : BitVec 256 := l.foldl ins emp
theorem inn_one (b j : Nat) (hj : j < 256) : inn (one b) j = decide (j = b) := by
  unfold inn one
  rw [BitVec.getLsbD_ofNat, Nat.testBit_two_pow]
  simp only [hj, decide_true, Bool.true_and]
  by_cases h : b = j
  · simp [h]
  · have h' : j ≠ b := fun e => h e.symm
    simp [h, h']
theorem wn_one (b i : Nat) (hi : i < 4) : wn (one b) i = if i = b / 64 then 2 ^ (b % 64) else 0 := by
  apply Nat.eq_of_testBit_eq; intro j
  rw [wn_bit]
  by_cases hj : j < 64
  · rw [inn_one b _ (by omega)]
    by_cases h : i = b / 64
    · rw [if_pos h, Nat.testBit_two_pow]
      by_cases h2 : b % 64 = j
      · have : 64 * i + j = b := by omega
        simp [hj, h2, this]
      · have : ¬ 64 * i + j = b := by omega
        simp [h2, this]
    · have : ¬ 64 * i + j = b := by omega
      simp [h, this]
  · by_cases h : i = b / 64
    · have h2 : ¬ b % 64 = j := by omega
      rw [if_pos h, Nat.testBit_two_pow]; simp [hj, h2]
    · simp [hj, h]
theorem ins_same (s : BitVec 256) (b : Nat) (hb : b < 256) : bits .or .u64 (wd s (b / 64)) (IntKind.u64.wrap ((2 : Int) ^ (b % 64))) = wd (ins s b) (b / 64) := by
  have h := wd_or s (one b) (b / 64)
  have e : wd (one b) (b / 64) = (2 : Int) ^ (b % 64) := by
    unfold wd; rw [wn_one b _ (by omega), if_pos rfl, Int.natCast_pow]; rfl
  have hw : IntKind.u64.wrap (wd (one b) (b / 64)) = wd (one b) (b / 64) := by
    have h0 := wd_ge (one b) (b / 64); have h1 := wd_lt (one b) (b / 64)
    rw [IntKind.wrap_u64]; omega
  rw [← e, hw]; exact h
theorem ins_other (s : BitVec 256) (b i : Nat) (hi : i < 4) (h : i ≠ b / 64) : wd (ins s b) i = wd s i := by
  unfold ins wd; rw [wn_or, wn_one b i hi, if_neg h, Nat.or_zero]
/-- the four words, as they lie -/
def setC (s : BitVec 256) : Array Value := #[.int .u64 (wd s 0), .int .u64 (wd s 1), .int .u64 (wd s 2), .int .u64 (wd s 3)]
theorem setC_ins (s : BitVec 256) (b : Nat) (hb : b < 256) : (setC s).setIfInBounds (b / 64) (.int .u64 (wd (ins s b) (b / 64))) = setC (ins s b) := by
  have h0 := ins_other s b 0 (by omega); have h1 := ins_other s b 1 (by omega); have h2 := ins_other s b 2 (by omega); have h3 := ins_other s b 3 (by omega)
  obtain e | e | e | e : b / 64 = 0 ∨ b / 64 = 1 ∨ b / 64 = 2 ∨ b / 64 = 3 := by omega
  · rw [e]; unfold setC; rw [h1 (by omega), h2 (by omega), h3 (by omega)]; rfl
  · rw [e]; unfold setC; rw [h0 (by omega), h2 (by omega), h3 (by omega)]; rfl
  · rw [e]; unfold setC; rw [h0 (by omega), h1 (by omega), h3 (by omega)]; rfl
  · rw [e]; unfold setC; rw [h0 (by omega), h1 (by omega), h2 (by omega)]; rfl
theorem setC_get (s : BitVec 256) (i : Nat) (hi : i < 4) : (setC s)[i]? = some (.int .u64 (wd s i)) := by
  obtain rfl | rfl | rfl | rfl : i = 0 ∨ i = 1 ∨ i = 2 ∨ i = 3 := by omega
  all_goals rfl
theorem ofL_take {l : List Nat} {k x : Nat} (h : l[k]? = some x) : ofL (l.take (k + 1)) = ins (ofL (l.take k)) x := by
  have : l.take (k + 1) = l.take k ++ [x] := by
    obtain ⟨hk, e⟩ := List.getElem?_eq_some_iff.1 h
    rw [List.take_succ_eq_append_getElem hk, e]
  unfold ofL; rw [this, List.foldl_append]; rfl

set_option maxHeartbeats 1000000 in
theorem cOf (v : Value) (l : List Nat) (w : World) (h : BRow w v l) :
    Calls Try.prog 7 #[v] w fun e w' => e = .returned (setV (ofL l)) ∧ w.grownBy w' none := by
  have H := Lib.hid h
  obtain ⟨a, c, rfl, ⟨hn, hlt⟩, -⟩ := h
  have HL := Lib.hid hlt
  clear hlt
  go_enter Try.func7, Try.ntmps7
  go_wp2
  obtain ⟨b1, b2, g⟩ := heap2 w (.cells #[.int .u64 0, .int .u64 0, .int .u64 0, .int .u64 0] 27) (.cells #[.int .u64 0, .int .u64 0, .int .u64 0, .int .u64 0] 27)
  generalize ((w.alloc _).alloc _) = w1 at b1 b2 g ⊢
  have hne : w.heap.size ≠ w.heap.size + 1 := by omega
  obtain ⟨r, er⟩ : ∃ r, r = w.heap.size := ⟨_, rfl⟩
  obtain ⟨p, ep⟩ : ∃ p, p = w.heap.size + 1 := ⟨_, rfl⟩
  have HP := Lib.hid (show w.heap.size ≤ p by omega)
  have HR := Lib.hid (show w.heap.size ≤ r by omega)
  rw [← ep] at b2 hne ⊢
  rw [← er] at b1 hne ⊢
  have B1 := Lib.hid b1
  have B2 := Lib.hid (show w1.heap[p]? = some (.cells (setC (ofL [])) 27 (0, 0)) by rw [b2]; unfold setC ofL; simp [wd_emp])
  have G := Lib.hid g
  clear er ep b1 b2 g
  go_loopw [5, 8] (fun _ i wr => ∃ k : Nat, k ≤ l.length ∧ i = .int .i64 k ∧ Hid (w.grownBy wr none) ∧ Hid (wr.heap[r]? = some (.cells #[.int .u64 0, .int .u64 0, .int .u64 0, .int .u64 0] 27 (0, 0))) ∧ Hid (wr.heap[p]? = some (.cells (setC (ofL (l.take k))) 27 (0, 0)))) (fun _ i _ => l.length - (intOf i).toNat)
  case atStart => exact ⟨0, Nat.zero_le _, rfl, G, B1, B2⟩
  case round =>
    obtain ⟨k, hk, rfl, hG, hB1, hB2⟩ := hrel
    by_cases hlt : k < l.length
    · obtain ⟨x, hx⟩ : ∃ x, l[k]? = some x := ⟨_, List.getElem?_eq_getElem hlt⟩
      have hx256 := HL.out x (List.mem_of_getElem? hx)
      obtain ⟨a', c', e, -, hr⟩ := H.out.grown hG.out
      cases e
      obtain ⟨b, off, rfl, -, hc⟩ := hr (by intro e; rw [e] at hlt; simp at hlt)
      have hcell : wr.cell? ⟨b, off + k, none⟩ = some (.int .u8 x) := hc k x hx
      have HX := Lib.hid (ofL_take hx)
      clear hc hx hr
      generalize ofL (l.take k) = s at hB2 HX
      have c0 := (cell_of_row wr p (x / 64) _ _ _ hB2.out).trans (setC_get s (x / 64) (by omega))
      have f0 := four_free hB2.out (x / 64)
      have v0 := wd_ge s (x / 64); have v1 := wd_le s (x / 64)
      have HI := Lib.hid (ins_same s x hx256)
      have HC := Lib.hid (setC_ins s x hx256)
      go_wp2
      go_roundw
      case rel =>
        rw [HI.out]
        exact ⟨k + 1, by omega, by go_num, Lib.hid (grown_set hG.out _ _ HP.out), Lib.hid ((heap_setCell_other wr _ r _ hne).trans hB1.out), Lib.hid (by rw [HX.out, ← HC.out]; exact heap_setCell_same wr p (x / 64) _ _ _ hB2.out)⟩
      case measure => simp [intOf]; omega
    · obtain rfl : k = l.length := by omega
      have hB2' := hB2.out
      rw [List.take_length] at hB2'
      have hB := Lib.hid hB2'
      clear hB2 hB2'
      obtain ⟨p0, p1, p2, p3⟩ := four_cells hB.out
      obtain ⟨r0, r1, r2, r3⟩ := four_cells hB1.out
      have fr := four_free hB1.out
      go_wp2
      refine bodyPost_ret (v := setV (ofL l)) (back_set Try.results7 rfl (set_four hB1.out _ _ _ _)) rfl ⟨rfl, ?_⟩
      exact grown_set (grown_set (grown_set (grown_set hG.out _ _ HR.out) _ _ HR.out) _ _ HR.out) _ _ HR.out

def spn (lo hi : Nat) : BitVec 256 := ofL (whr (btw lo hi) 256)

set_option maxHeartbeats 1000000 in
theorem cSpan (lo hi : Nat) (w : World) :
    Calls Try.prog 9 #[.int .u8 lo, .int .u8 hi] w fun e w' => e = .returned (setV (spn lo hi)) ∧ w.grownBy w' none := by
  have hmf : ∀ (fn : Fn) (first cap : Array Value) (w : World), (Instr.makeFunc fn first cap).run Try.prog w = .ok (.func fn first cap) w := fun _ _ _ _ => rfl
  have e1 : ∀ args w, (callFunc 21 args).run Try.prog w = .ok (.enter 21 args) w := enters_of Try.func21 (by kernel_rfl) rfl
  have E1 := Lib.hid e1
  clear e1
  go_enter Try.func9, Try.ntmps9
  go_upto_region 1 with fail
  obtain ⟨b1, b2, b3, g⟩ := heap3 w (.cells #[.int .u8 lo] 5) (.cells #[.int .u8 hi] 5) (.cells #[.int .u64 0, .int .u64 0, .int .u64 0, .int .u64 0] 27)
  generalize (((w.alloc _).alloc _).alloc _) = w1 at b1 b2 b3 g ⊢
  obtain ⟨p, ep⟩ : ∃ p, p = w.heap.size := ⟨_, rfl⟩
  obtain ⟨q, eq⟩ : ∃ q, q = w.heap.size + 1 := ⟨_, rfl⟩
  obtain ⟨r, er⟩ : ∃ r, r = w.heap.size + 1 + 1 := ⟨_, rfl⟩
  have HR := Lib.hid (show w.heap.size ≤ r by omega)
  rw [← er] at b3 ⊢
  rw [← eq] at b2 ⊢
  rw [← ep] at b1 ⊢
  have C1 := Lib.hid (cell_of_one b1); have C2 := Lib.hid (cell_of_one b2); have B3 := Lib.hid b3; have G := Lib.hid g
  clear b1 b2 b3 g ep eq er
  have C := Lib.hid (fun b (_ : b < 256) wr (hg : w1.grownBy wr none) => cBtw lo hi b p q wr (hg.cell C1.out (by simp)) (hg.cell C2.out (by simp)))
  go_wp2_with fail
  refine (cWhere 21 #[] #[.pointer (some ⟨p, 0, none⟩), .pointer (some ⟨q, 0, none⟩)] (fun b => #[.int .u8 b, .pointer (some ⟨p, 0, none⟩), .pointer (some ⟨q, 0, none⟩)]) (fun b => by simp) (btw lo hi) w1 E1.out C.out).mono ?_
  rintro e w2 ⟨v, rfl, o2, g2⟩
  have R := Lib.hid (brow_of_owns o2 (Nat.le_trans (whr_len _ _) (by omega)) (whr_lt _))
  have B4 := Lib.hid (heap_grown g2 B3.out)
  have G2 := Lib.hid (G.out.trans g2)
  clear o2 g2 C
  go_wp2_with fail
  refine (cOf v (whr (btw lo hi) 256) w2 R.out).mono ?_
  rintro e w3 ⟨rfl, g3⟩
  have B5 := Lib.hid (heap_grown g3 B4.out)
  obtain ⟨r0, r1, r2, r3⟩ := four_cells B5.out
  have fr := four_free B5.out
  have G3 := Lib.hid (G2.out.trans g3)
  clear g3
  have HS := Lib.hid (show ofL (whr (btw lo hi) 256) = spn lo hi from rfl)
  generalize ofL (whr (btw lo hi) 256) = z at HS ⊢
  go_wp2
  refine bodyPost_ret (v := setV z) (back_set Try.results9 rfl (set_four B5.out _ _ _ _)) rfl ⟨by rw [HS.out], ?_⟩
  exact grown_set (grown_set (grown_set (grown_set G3.out _ _ HR.out) _ _ HR.out) _ _ HR.out) _ _ HR.out

/-! what is in these sets -/
theorem inn_un (s t : BitVec 256) (b : Nat) : inn (un s t) b = (inn s b || inn t b) := by unfold inn un; exact BitVec.getLsbD_or
theorem inn_me (s t : BitVec 256) (b : Nat) : inn (me s t) b = (inn s b && inn t b) := by unfold inn me; exact BitVec.getLsbD_and
theorem inn_no (s : BitVec 256) (b : Nat) (hb : b < 256) : inn (no s) b = !inn s b := by unfold inn no; simp [hb]
theorem inn_emp (b : Nat) : inn emp b = false := by unfold inn emp; simp
theorem inn_foldl (b : Nat) (hb : b < 256) : ∀ (l : List Nat) (s : BitVec 256), inn (l.foldl ins s) b = (inn s b || l.contains b)
  | [], s => by simp
  | x :: l, s => by
    show inn (l.foldl ins (ins s x)) b = _
    rw [inn_foldl b hb l]
    unfold ins
    rw [inn_un, inn_one x b hb, List.contains_cons, Bool.or_assoc]
    congr 1
theorem inn_ofL (l : List Nat) (b : Nat) (hb : b < 256) : inn (ofL l) b = l.contains b := by
  unfold ofL; rw [inn_foldl b hb, inn_emp, Bool.false_or]
theorem inn_spn (lo hi b : Nat) (hb : b < 256) : inn (spn lo hi) b = btw lo hi b := by
  unfold spn; rw [inn_ofL _ _ hb]
  unfold whr
  rw [Bool.eq_iff_iff]
  simp [hb]
theorem inn_ext {s t : BitVec 256} (h : ∀ b, b < 256 → inn s b = inn t b) : s = t := BitVec.eq_of_getLsbD_eq h
end Go.Proofs.Ytkemhpjgmnibpaa
