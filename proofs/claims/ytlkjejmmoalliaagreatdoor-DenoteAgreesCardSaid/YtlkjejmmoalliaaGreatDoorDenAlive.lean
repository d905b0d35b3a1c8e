/- Where a node's spans end, told; whether it spans; whether a text is in its language. The chapter's example of layer 10. -/
import Derived.Test.YtlkjejmmoalliaaGreatDoorDenEnds
import Derived.Test.YtlkjejmmoalliaaGreatDoorIRow
import Derived.Test.YtlkjejmmoalliaaGreatDoorRexLit
namespace Go.Proofs.YtlkjejmmoalliaaGreatDoor
open Go.RowKit

/-- the places at which a node's spans end -/
def EndsL (n : Ni) (s : ByteArray) (fr : Int) (l : List Nat) : Prop := l.Pairwise (· < ·) ∧ ∀ r : Nat, r ∈ l ↔ (0 ≤ fr ∧ fr ≤ s.size ∧ rgtN n = true ∧ SpN s n fr.toNat r)
theorem EndsL.same {n : Ni} {s : ByteArray} {fr : Int} {l l' : List Nat} (h : EndsL n s fr l) (h' : EndsL n s fr l') : l = l' := rising_same h.1 h'.1 fun x => (h.2 x).trans (h'.2 x).symm
theorem EndsL.le {n : Ni} {s : ByteArray} {fr : Int} {l : List Nat} (h : EndsL n s fr l) : ∀ r ∈ l, r < s.size + 1 := fun r hr => by
  obtain ⟨h1, h2, -, h4⟩ := (h.2 r).1 hr
  have := sp_goes s n _ _ (by omega) h4
  omega
theorem EndsL.len {n : Ni} {s : ByteArray} {fr : Int} {l : List Nat} (h : EndsL n s fr l) : l.length ≤ s.size + 1 :=
  nodup_le _ _ (h.1.imp fun h => Nat.ne_of_lt h) h.le
theorem EndsL.empty {n : Ni} {s : ByteArray} {fr : Int} {l : List Nat} (h : EndsL n s fr l) (hr : rgtN n = false) : l = [] := by
  cases l with
  | nil => rfl
  | cons x l => have := ((h.2 x).1 (by simp)).2.2.1; rw [hr] at this; cases this
abbrev intsN (l : List Nat) : List Value := l.map fun (r : Nat) => Value.int .i64 r
abbrev castN (l : List Nat) : List Int := l.map fun (r : Nat) => (r : Int)
theorem irow_owns {w : World} {b : Nat} {e : TypeId} {v : Value} {l : List Nat} (h : w.ownsRow b e 1 v l.length (intsN l)) : IRow w v (castN l) := by
  rcases Nat.eq_zero_or_pos l.length with h0 | h0
  · obtain ⟨a, c, rfl⟩ := owns_shape h
    have := List.eq_nil_of_length_eq_zero h0
    subst this
    exact ⟨a, c, rfl, fun k x hx => by simp at hx⟩
  · obtain ⟨g, cap, rfl, -, hc⟩ := row_cells h (by omega)
    refine ⟨some ⟨g, 0, none⟩, cap, by simp, fun k x hx => ⟨g, 0, rfl, ?_⟩⟩
    have := hc k (.int .i64 x) (by
      rw [List.getElem?_map] at hx ⊢
      cases e : l[k]? with
      | none => rw [e] at hx; cases hx
      | some y => rw [e] at hx; simp at hx; subst hx; rfl)
    rw [Nat.zero_add]; exact this
/-- what Ends answers -/
def EndsAt (n : Ni) (s : ByteArray) (fr : Int) (w : World) (e : Ending) (w' : World) : Prop :=
  w.grownBy w' none ∧ ∃ (v : Value) (l : List Nat), e = .returned v ∧ w'.ownsRow w.heap.size 3 1 v l.length (intsN l) ∧ EndsL n s fr l
theorem ends_at {n : Ni} {s : ByteArray} {fr : Int} {l : List Nat} (hp : l.Pairwise (· < ·)) (hm : ∀ r : Nat, r ∈ l ↔ (0 ≤ fr ∧ fr ≤ s.size ∧ rgtN n = true ∧ (r : Int) ≤ s.size ∧ SpN s n fr.toNat r)) : EndsL n s fr l := ⟨hp, fun r => by
  rw [hm]
  constructor
  · rintro ⟨h1, h2, h3, -, h4⟩; exact ⟨h1, h2, h3, h4⟩
  · rintro ⟨h1, h2, h3, h4⟩
    have := sp_goes s n _ _ (by omega) h4
    exact ⟨h1, h2, h3, by omega, h4⟩⟩
set_option maxRecDepth 100000 in
set_option maxHeartbeats 2000000 in
theorem cEndsF (n : Ni) (a : Option Addr) (m c : Nat) (fr : Int) (s : ByteArray) (w : World) (hsz : szN n ≤ 200) (hs : s.size ≤ 100) (hK : KidsE w (.slice a m c) n.kids) :
    Calls Tryz.prog 11 #[niV n (.slice a m c), .string s, .int .i64 fr] w (EndsAt n s fr w) := by
  have HE := Lib.hid (fun w1 h => cEnds n a m c fr s.size s w1 hsz hs (by omega) h)
  have ga := World.grownBy_alloc w (.cells #[.int .i64 n.kind, .int .i64 n.index, .int .u64 (wd n.set 0), .int .u64 (wd n.set 1), .int .u64 (wd n.set 2), .int .u64 (wd n.set 3), .slice a m c] 28) none
  have B1 := Lib.hid (heap_alloc_new w (.cells #[.int .i64 n.kind, .int .i64 n.index, .int .u64 (wd n.set 0), .int .u64 (wd n.set 1), .int .u64 (wd n.set 2), .int .u64 (wd n.set 3), .slice a m c] 28))
  have K1 := Lib.hid (hK.grown ga)
  have G1 := Lib.hid ga
  clear ga hK hsz
  go_enter Tryz.func11, Tryz.ntmps11
  go_upto_region 1 with fail
  generalize w.alloc _ = w1 at B1 K1 G1 ⊢
  generalize w.heap.size = q at B1 ⊢
  obtain ⟨c0, c1, c2, c3, c4, c5, c6⟩ := seven_cells B1.out
  go_wp2_with (go_at_call 21; (with_reducible refine (HE.out _ K1.out).mono ?_); rintro e w2 ⟨g2, v, l, rfl, ho, hp, hm⟩; have HL := Lib.hid (ends_at hp hm); have HO := Lib.hid ho; have G2 := Lib.hid g2; obtain ⟨va, vc, rfl⟩ := owns_shape ho; clear ho hp hm g2)
  go_ret
  exact ⟨G1.out.trans G2.out, _, l, rfl, own_low HO.out G1.out.size, HL.out⟩

/-- at which place a number stands in a row -/
def idxI (l : List Int) (x : Int) : Int := if x ∈ l then (l.idxOf x : Nat) else -1
theorem idxI_yes {l : List Int} {x : Int} {j : Nat} (h : l[j]? = some x) (hn : x ∉ l.take j) : idxI l x = j := by
  unfold idxI
  rw [if_pos (List.mem_of_getElem? h)]
  have hj := (List.getElem?_eq_some_iff.1 h).1
  have e : l = l.take j ++ l.drop j := (List.take_append_drop j l).symm
  rw [e, List.idxOf_append, if_neg hn]
  rw [List.drop_eq_getElem_cons hj, (List.getElem?_eq_some_iff.1 h).2]
  simp [List.length_take]; omega
theorem idxI_ge (l : List Int) (x : Int) : decide (idxI l x ≥ 0) = l.contains x := by
  unfold idxI
  rw [Bool.eq_iff_iff]
  split <;> simp_all
set_option maxRecDepth 100000 in
set_option maxHeartbeats 2000000 in
theorem cIndexInt (v : Value) (l : List Int) (x : Int) (w : World) (hl : l.length ≤ 1000) (h : IRow w v l) :
    Calls Tryz.prog 58 #[v, .int .i64 x] w fun e w' => e = .returned (.int .i64 (idxI l x)) ∧ w = w' := by
  have HA := Lib.hid h
  have HN := Lib.hid (show x ∉ l → idxI l x = -1 from fun h => by unfold idxI; rw [if_neg h])
  have HY := Lib.hid (fun (j : Nat) (h1 : l[j]? = some x) (h2 : x ∉ l.take j) => idxI_yes h1 h2)
  generalize idxI l x = z at HN HY ⊢
  obtain ⟨a, c, rfl, -⟩ := h
  go_enter Tryz.func58, Tryz.ntmps58
  go_wp2
  go_loop [5, 8] (fun _ i => ∃ j : Nat, j ≤ l.length ∧ i = .int .i64 j ∧ Hid (x ∉ l.take j)) (fun _ i => l.length - (intOf i).toNat)
  case atStart => exact ⟨0, Nat.zero_le _, rfl, Lib.hid (by simp)⟩
  case round =>
    obtain ⟨j, hj, rfl, hN⟩ := hrel
    by_cases hlt : j < l.length
    · obtain ⟨y, hy⟩ : ∃ y, l[j]? = some y := ⟨_, List.getElem?_eq_getElem hlt⟩
      obtain ⟨a', c', e1, h1⟩ := HA.out
      cases e1
      obtain ⟨p, o, rfl, z1⟩ := h1 j y hy
      clear h1
      by_cases hxy : x = y
      · subst hxy
        have HZ := Lib.hid (HY.out j hy hN.out)
        clear hy
        go_wp2
        go_ret
        exact ⟨ret_int HZ.out.symm, rfl⟩
      · have hd : (x == y) = false := by simpa using hxy
        have HT := Lib.hid (show x ∉ l.take (j + 1) from fun h => by
          rw [List.take_add_one, hy] at h
          rcases List.mem_append.1 h with h | h
          · exact hN.out h
          · simp at h; exact hxy h)
        clear hy hxy
        go_wp2
        go_round
        case rel => exact ⟨j + 1, by omega, by go_num, HT⟩
        case measure => simp [intOf]; omega
    · obtain rfl : j = l.length := by omega
      have HZ := Lib.hid (HN.out (by have := hN.out; rwa [List.take_length] at this))
      go_wp2
      go_ret
      exact ⟨ret_int HZ.out.symm, rfl⟩
set_option maxHeartbeats 1000000 in
theorem cContInt (v : Value) (l : List Int) (x : Int) (w : World) (hl : l.length ≤ 1000) (h : IRow w v l) :
    Calls Tryz.prog 41 #[v, .int .i64 x] w fun e w' => e = .returned (.bool (l.contains x)) ∧ w = w' := by
  have HI := Lib.hid (cIndexInt v l x w hl h)
  have HZ := Lib.hid (idxI_ge l x)
  generalize idxI l x = z at HI HZ
  generalize l.contains x = b at HZ ⊢
  obtain ⟨a, c, rfl, -⟩ := h
  go_enter Tryz.func41, Tryz.ntmps41
  go_wp2_with (go_at_call 58; (with_reducible refine HI.out.mono ?_); rintro e w2 ⟨rfl, rfl⟩)
  go_ret
  exact ⟨ret_bool HZ.out, rfl⟩
/-- whether a node spans from a place to another one -/
noncomputable def spB (n : Ni) (s : ByteArray) (fr tq : Int) : Bool := dB (0 ≤ fr ∧ fr ≤ s.size ∧ rgtN n = true ∧ 0 ≤ tq ∧ SpN s n fr.toNat tq.toNat)
theorem spB_in {n : Ni} {s : ByteArray} {fr tq : Int} {l : List Nat} (hm : ∀ r : Nat, r ∈ l ↔ (0 ≤ fr ∧ fr ≤ s.size ∧ rgtN n = true ∧ (r : Int) ≤ tq ∧ SpN s n fr.toNat r)) : (castN l).contains tq = spB n s fr tq := by
  unfold spB
  rw [Bool.eq_iff_iff, dB_iff, List.contains_iff_mem, List.mem_map]
  constructor
  · rintro ⟨r, hr, rfl⟩
    obtain ⟨h1, h2, h3, -, h4⟩ := (hm r).1 hr
    exact ⟨h1, h2, h3, by omega, by simpa using h4⟩
  · rintro ⟨h1, h2, h3, h4, h5⟩
    exact ⟨tq.toNat, (hm _).2 ⟨h1, h2, h3, by omega, h5⟩, by omega⟩
theorem ends_len {n : Ni} {s : ByteArray} {fr tq : Int} {l : List Nat} (hp : l.Pairwise (· < ·)) (hm : ∀ r : Nat, r ∈ l ↔ (0 ≤ fr ∧ fr ≤ s.size ∧ rgtN n = true ∧ (r : Int) ≤ tq ∧ SpN s n fr.toNat r)) : l.length ≤ s.size + 1 :=
  nodup_le _ _ (hp.imp fun h => Nat.ne_of_lt h) fun r hr => by
    obtain ⟨h1, h2, -, -, h4⟩ := (hm r).1 hr
    have := sp_goes s n _ _ (by omega) h4
    omega
set_option maxRecDepth 100000 in
set_option maxHeartbeats 2000000 in
theorem cSpansF (n : Ni) (a : Option Addr) (m c : Nat) (fr tq : Int) (s : ByteArray) (w : World) (hsz : szN n ≤ 200) (hs : s.size ≤ 100) (hto : tq ≤ s.size + 1) (hK : KidsE w (.slice a m c) n.kids) :
    Calls Tryz.prog 20 #[niV n (.slice a m c), .string s, .int .i64 fr, .int .i64 tq] w fun e w' => e = .returned (.bool (spB n s fr tq)) ∧ w.grownBy w' none := by
  have HE := Lib.hid (fun w1 h => cEnds n a m c fr tq s w1 hsz hs hto h)
  have HB := Lib.hid (fun l hm => spB_in (n := n) (s := s) (fr := fr) (tq := tq) (l := l) hm)
  have ga := World.grownBy_alloc w (.cells #[.int .i64 n.kind, .int .i64 n.index, .int .u64 (wd n.set 0), .int .u64 (wd n.set 1), .int .u64 (wd n.set 2), .int .u64 (wd n.set 3), .slice a m c] 28) none
  have B1 := Lib.hid (heap_alloc_new w (.cells #[.int .i64 n.kind, .int .i64 n.index, .int .u64 (wd n.set 0), .int .u64 (wd n.set 1), .int .u64 (wd n.set 2), .int .u64 (wd n.set 3), .slice a m c] 28))
  have K1 := Lib.hid (hK.grown ga)
  have G1 := Lib.hid ga
  clear ga hK hsz hto
  generalize spB n s fr tq = z at HB ⊢
  go_enter Tryz.func20, Tryz.ntmps20
  go_upto_region 1 with fail
  generalize w.alloc _ = w1 at B1 K1 G1 ⊢
  generalize w.heap.size = q at B1 ⊢
  obtain ⟨c0, c1, c2, c3, c4, c5, c6⟩ := seven_cells B1.out
  go_wp2_with (first
    | (go_at_call 21; (with_reducible refine (HE.out _ K1.out).mono ?_); rintro e w2 ⟨g2, v, l, rfl, ho, hp, hm⟩; have HL := Lib.hid (HB.out l hm); have CC := Lib.hid (HL.out ▸ cContInt v (castN l) tq w2 (by have := ends_len hp hm; simp; omega) (irow_owns ho)); have G2 := Lib.hid (G1.out.trans g2); obtain ⟨va, vc, rfl⟩ := owns_shape ho; clear ho hp hm g2 HL)
    | (go_at_call 41; (with_reducible refine CC.out.mono ?_); rintro e w3 ⟨rfl, rfl⟩))
  go_ret
  exact ⟨rfl, G2.out⟩
set_option maxRecDepth 100000 in
set_option maxHeartbeats 2000000 in
theorem cIn (n : Ni) (a : Option Addr) (m c : Nat) (s : ByteArray) (w : World) (hsz : szN n ≤ 200) (hs : s.size ≤ 100) (hK : KidsE w (.slice a m c) n.kids) :
    Calls Tryz.prog 9 #[niV n (.slice a m c), .string s] w fun e w' => e = .returned (.bool (spB n s 0 s.size)) ∧ w.grownBy w' none := by
  have HE := Lib.hid (fun w1 h => cSpansF n a m c 0 s.size s w1 hsz hs (by omega) h)
  have ga := World.grownBy_alloc w (.cells #[.int .i64 n.kind, .int .i64 n.index, .int .u64 (wd n.set 0), .int .u64 (wd n.set 1), .int .u64 (wd n.set 2), .int .u64 (wd n.set 3), .slice a m c] 28) none
  have B1 := Lib.hid (heap_alloc_new w (.cells #[.int .i64 n.kind, .int .i64 n.index, .int .u64 (wd n.set 0), .int .u64 (wd n.set 1), .int .u64 (wd n.set 2), .int .u64 (wd n.set 3), .slice a m c] 28))
  have K1 := Lib.hid (hK.grown ga)
  have G1 := Lib.hid ga
  clear ga hK hsz
  generalize spB n s 0 s.size = z at HE ⊢
  go_enter Tryz.func9, Tryz.ntmps9
  go_upto_region 1 with fail
  generalize w.alloc _ = w1 at B1 K1 G1 ⊢
  generalize w.heap.size = q at B1 ⊢
  obtain ⟨c0, c1, c2, c3, c4, c5, c6⟩ := seven_cells B1.out
  go_wp2_with (go_at_call 20; (with_reducible refine (HE.out _ K1.out).mono ?_); rintro e w2 ⟨rfl, g2⟩; have G2 := Lib.hid (G1.out.trans g2); clear g2)
  go_ret
  exact ⟨rfl, G2.out⟩
abbrev noB : ByteArray := ⟨#[]⟩
end Go.Proofs.YtlkjejmmoalliaaGreatDoor

namespace Go.Proofs.YtlkjejmmoalliaaGreatDoor
open Go.RowKit

abbrev exS10 : ByteArray := ⟨#[97, 42]⟩
def exM10 : Nd := .mk 4 0 emp [.mk 1 0 (one 97) []]
theorem par_exS10 : parN exS10 = (exM10, 0) := by
  have hs : exS10.size = 2 := rfl
  refine par_ok (by rw [hs]; decide) (n := exM10) ?_ (by simp [grpN, exM10, cntN, cntL])
  have h0 : sgn exS10 0 = (sgn exS10 1).map (⟨0, one 97⟩ :: ·) := sgn_lit (show 0 < exS10.size by decide) (by decide)
  rw [fin_set h0]
  have hr := fin_rep (s := exS10) (i := 1) (c1 := 42) (k := 4) (by rfl) (.inl ⟨rfl, rfl⟩) [] [] [] (.mk 1 0 (one 97) []) 0
  rw [hr, fin_end (by rw [hs]; decide)]
  rfl
abbrev aN : Ni := .mk 1 0 (one 97) []
theorem exI10 : toI exM10 = starI aN := by simp [exM10, toI, toL]
theorem sp_aN (s : ByteArray) (i j : Nat) : SpN s aN i j ↔ j = i + 1 ∧ byt9 s i (one 97) = true := by rw [sp_eq]; simp [Ni.kind, Ni.set]
theorem byt_at {s : ByteArray} {i : Nat} (h : i < s.size) (c : BitVec 256) : byt9 s i c = inn c s[i].toNat := by unfold byt9; rw [dif_pos h]
theorem byt_out {s : ByteArray} {i : Nat} (h : ¬i < s.size) (c : BitVec 256) : byt9 s i c = false := by unfold byt9; rw [dif_neg h]
theorem run_aN {s : ByteArray} {k : Nat} (h : ∀ i, i < k → byt9 s i (one 97) = true) : ∀ m, m ≤ k → RT (SpN s aN) 0 m := by
  intro m
  induction m with
  | zero => intro _; exact .nil _
  | succ m ih => intro hm; exact (ih (by omega)).trans (.one ((sp_aN ..).2 ⟨rfl, h m (by omega)⟩))
theorem run_aN_le {s : ByteArray} {k j : Nat} (hk : byt9 s k (one 97) = false) (h : RT (SpN s aN) 0 j) : j ≤ k := by
  have : ∀ {i j}, RT (SpN s aN) i j → i ≤ k → j ≤ k := by
    intro i j h
    induction h with
    | nil => exact id
    | cons h1 _ ih =>
      intro hi
      rw [sp_aN] at h1
      obtain ⟨rfl, h1⟩ := h1
      refine ih ?_
      rcases Nat.lt_or_eq_of_le hi with h | rfl
      · omega
      · rw [hk] at h1; cases h1
  exact this h (Nat.zero_le _)
theorem ex_right : rgtN (starI aN) = true := by simp [rgtN, rgtL, kidsOk, idxOk, setOk]
abbrev exAab : ByteArray := ⟨#[97, 97, 98]⟩
abbrev exAa : ByteArray := ⟨#[97, 97]⟩
abbrev exB : ByteArray := ⟨#[98]⟩
theorem ex_ends : EndsL (toI exM10) exAab 0 [0, 1, 2] := by
  rw [exI10]
  have h0 : byt9 exAab 0 (one 97) = true := by rw [byt_at (show 0 < exAab.size by decide)]; rw [inn_one _ _ (by decide)]; rfl
  have h1 : byt9 exAab 1 (one 97) = true := by rw [byt_at (show 1 < exAab.size by decide)]; rw [inn_one _ _ (by decide)]; rfl
  have h2 : byt9 exAab 2 (one 97) = false := by rw [byt_at (show 2 < exAab.size by decide)]; rw [inn_one _ _ (by decide)]; rfl
  refine ⟨by simp, fun r => ?_⟩
  rw [sp_star, ex_right]
  constructor
  · intro hr
    refine ⟨by omega, by omega, rfl, run_aN (k := 2) (fun i hi => ?_) r (by simp at hr; omega)⟩
    obtain rfl | rfl : i = 0 ∨ i = 1 := by omega
    · exact h0
    · exact h1
  · rintro ⟨-, -, -, h⟩
    have := run_aN_le h2 h
    simp; omega
theorem ex_in1 : spB (toI exM10) exAa 0 (2 : Nat) = true := by
  rw [exI10]
  refine dB_yes ⟨by omega, by decide, ex_right, by omega, ?_⟩
  rw [sp_star]
  refine run_aN (k := 2) (fun i hi => ?_) 2 (by omega)
  obtain rfl | rfl : i = 0 ∨ i = 1 := by omega
  · rw [byt_at (show 0 < exAa.size by decide)]; rw [inn_one _ _ (by decide)]; rfl
  · rw [byt_at (show 1 < exAa.size by decide)]; rw [inn_one _ _ (by decide)]; rfl
theorem ex_in2 : spB (toI exM10) exB 0 (1 : Nat) = false := by
  rw [exI10]
  refine dB_no fun ⟨_, _, _, _, h⟩ => ?_
  rw [sp_star] at h
  have h0 : byt9 exB 0 (one 97) = false := by rw [byt_at (show 0 < exB.size by decide)]; rw [inn_one _ _ (by decide)]; rfl
  have := run_aN_le h0 h
  simp at this
theorem ex_sz : szN (toI exM10) ≤ 200 := by rw [exI10]; simp [szN, szL]
theorem cParseI (A : Nat → Addr) (s : ByteArray) (w : World) (hs : s.size ≤ 100) (hE : PEnv A w) :
    Calls Tryz.prog 5 #[.string s] w fun e w' => (∃ a m k, e = .returned (.tuple #[niV (toI (parN s).1) (.slice a m k), errV A (parN s).2]) ∧ KidsE w' (.slice a m k) (toI (parN s).1).kids) ∧ w.grownBy w' none :=
  (cParse A s w hs hE).mono fun _ _ ⟨⟨a, m, k, h1, h2⟩, g⟩ => ⟨⟨a, m, k, by rw [h1, ndV_toI], by rw [toI_kids]; exact kids_toI h2⟩, g⟩
theorem three_cells {w : World} {b : Nat} {v0 v1 v2 : Value} {t : TypeId} (h : w.heap[b]? = some (.cells #[v0, v1, v2] t (0, 0))) :
    w.cell? ⟨b, 0, none⟩ = some v0 ∧ w.cell? ⟨b, 1, none⟩ = some v1 ∧ w.cell? ⟨b, 2, none⟩ = some v2 := by
  refine ⟨?_, ?_, ?_⟩ <;> (unfold World.cell?; rw [h]; rfl)
theorem irow_three {w : World} {b : Nat} {t : TypeId} (h : w.heap[b]? = some (.cells #[.int .i64 0, .int .i64 1, .int .i64 2] t (0, 0))) : IRow w (.slice (some ⟨b, 0, none⟩) 3 3) (castN [0, 1, 2]) := by
  obtain ⟨h0, h1, h2⟩ := three_cells h
  refine ⟨_, 3, rfl, fun k x hx => ⟨b, 0, rfl, ?_⟩⟩
  rw [Nat.zero_add]
  obtain rfl | rfl | rfl | hk : k = 0 ∨ k = 1 ∨ k = 2 ∨ 3 ≤ k := by omega
  · simp [castN] at hx; subst hx; exact h0
  · simp [castN] at hx; subst hx; exact h1
  · simp [castN] at hx; subst hx; exact h2
  · rw [List.getElem?_eq_none (by simpa using hk)] at hx; cases hx
set_option maxRecDepth 100000 in
set_option maxHeartbeats 2000000 in
theorem lAlive10 (A : Nat → Addr) (w : World) (hE : PEnv A w) : Calls Tryz.prog 4 #[] w fun e w' => e = .returned (.bool true) ∧ w.grownBy w' none := by
  have CP := Lib.hid (show Calls Tryz.prog 5 #[.string exS10] w fun e w' => (∃ a m k, e = .returned (.tuple #[niV (toI exM10) (.slice a m k), .nilIface]) ∧ KidsE w' (.slice a m k) (toI exM10).kids) ∧ w.grownBy w' none from by
    have := cParseI A exS10 w (by decide) hE
    rw [par_exS10] at this
    exact this)
  have CE := Lib.hid (fun w a m k h => cEndsF (toI exM10) a m k 0 exAab w ex_sz (by decide) h)
  have CA := Lib.hid (fun w a m k h => (ex_in1 ▸ cIn (toI exM10) a m k exAa w ex_sz (by decide) h))
  have CB := Lib.hid (fun w a m k h => (ex_in2 ▸ cIn (toI exM10) a m k exB w ex_sz (by decide) h))
  have HX := Lib.hid ex_ends
  clear hE
  generalize toI exM10 = n at CP CE CA CB HX
  go_enter Tryz.func4, Tryz.ntmps4
  go_upto_region 2 with (go_at_call 5; (with_reducible refine (CP.out).mono ?_); rintro e w1 ⟨⟨a, m, k, rfl, hk⟩, g1⟩)
  have ga := World.grownBy_alloc w1 (.cells #[.int .i64 n.kind, .int .i64 n.index, .int .u64 (wd n.set 0), .int .u64 (wd n.set 1), .int .u64 (wd n.set 2), .int .u64 (wd n.set 3), .slice a m k] 28) none
  have B1 := Lib.hid (heap_alloc_new w1 (.cells #[.int .i64 n.kind, .int .i64 n.index, .int .u64 (wd n.set 0), .int .u64 (wd n.set 1), .int .u64 (wd n.set 2), .int .u64 (wd n.set 3), .slice a m k] 28))
  have K1 := Lib.hid (hk.grown ga)
  have G1 := Lib.hid (g1.trans ga)
  clear ga g1 hk CP
  generalize w1.alloc _ = w2 at B1 K1 G1 ⊢
  generalize w1.heap.size = q at B1 ⊢
  obtain ⟨c0, c1, c2, c3, c4, c5, c6⟩ := seven_cells B1.out
  have CE2 := Lib.hid (CE.out w2 a m k K1.out)
  have SK := Lib.hid (fun w' (g : w2.grownBy w' none) => seven_cells (heap_grown g B1.out))
  go_wp2_with (first
    | (go_at_call 11; (with_reducible refine (CE2.out).mono ?_); rintro e w3 ⟨g3, v, l, rfl, ho, hl⟩; obtain rfl := hl.same HX.out; have I3 := Lib.hid (irow_owns ho); have O3 := Lib.hid (heap_alloc_new w3 (.cells #[.int .i64 0, .int .i64 1, .int .i64 2] 3)); have G3 := Lib.hid g3; have HSI := Lib.hid (fun w4 (g : w3.grownBy w4 none) vb (hb : IRow w4 vb (castN [0, 1, 2])) => cSameI v vb (castN [0, 1, 2]) w4 (by decide) (I3.out.grown g) hb); have CS := Lib.hid (HSI.out _ (World.grownBy_alloc w3 (.cells #[.int .i64 0, .int .i64 1, .int .i64 2] 3) none) _ (irow_three O3.out)); obtain ⟨va, vc, hv⟩ := owns_shape ho; have hv2 : v = .slice va 3 vc := hv; clear hv; subst hv2; clear ho hl g3 HSI c0 c1 c2 c3 c4 c5 c6)
    | (go_at_call 10; (with_reducible refine (CS.out).mono ?_); rintro e w5 ⟨rfl, g5⟩; have G5 := Lib.hid ((G3.out.trans (World.grownBy_alloc w3 (.cells #[.int .i64 0, .int .i64 1, .int .i64 2] 3) none)).trans g5); clear g5; obtain ⟨c0, c1, c2, c3, c4, c5, c6⟩ := SK.out _ G5.out; have CA2 := Lib.hid (CA.out w5 a m k (K1.out.grown G5.out)))
    | (go_at_call 9; (with_reducible refine (CA2.out).mono ?_); rintro e w6 ⟨rfl, g6⟩; have G6 := Lib.hid (G5.out.trans g6); clear g6 c0 c1 c2 c3 c4 c5 c6; obtain ⟨c0, c1, c2, c3, c4, c5, c6⟩ := SK.out _ G6.out; have CB2 := Lib.hid (CB.out w6 a m k (K1.out.grown G6.out)))
    | (go_at_call 9; (with_reducible refine (CB2.out).mono ?_); rintro e w7 ⟨rfl, g7⟩; have G7 := Lib.hid (G6.out.trans g7); clear g7))
  go_ret
  exact ⟨rfl, G1.out.trans G7.out⟩
end Go.Proofs.YtlkjejmmoalliaaGreatDoor
