/- What any two sets of bytes make together, and what is in them. -/
import Derived.Test.YtkemhpjgmnibpaaClsF
import Derived.Test.YtkemhpjgmnibpaaRegOwn
import Derived.Deep.CutRange
namespace Go.Proofs.Ytkemhpjgmnibpaa.classTells
open Go.RowKit

/-- a set in a block of its own -/
def SB (w : World) (b : Nat) (t : TypeId) (s : BitVec 256) : Prop := w.heap[b]? = some (.cells (setC s) t (0, 0))
theorem SB.grown {w w' : World} {b : Nat} {t : TypeId} {s : BitVec 256} (h : SB w b t s) (g : w.grownBy w' none) : SB w' b t s := heap_grown g h
theorem SB.at {w : World} {b : Nat} {t : TypeId} {s : BitVec 256} (h : SB w b t s) : SetAt w b s := set_of_block h
theorem infoS : (Try.prog.info? 27).map (·.size) = some 4 := by kernel_rfl
theorem infoA : (Try.prog.info? 26).map (·.size) = some 4 := by kernel_rfl
theorem setC_one (s : BitVec 256) : (setC s).all (·.oneCell') = true := by unfold setC; simp [Value.oneCell']
abbrev zeros : Array Value := #[.int .u64 0, .int .u64 0, .int .u64 0, .int .u64 0]

/-- the bytes in a set, place by place -/
theorem whr_split (f : Nat → Bool) (k n : Nat) (h : k ≤ n) : ∃ r, whr f n = whr f k ++ r := by
  induction n with
  | zero => obtain rfl : k = 0 := by omega
            exact ⟨[], by simp⟩
  | succ n ih =>
    by_cases hk : k = n + 1
    · subst hk; exact ⟨[], by simp⟩
    · obtain ⟨r, hr⟩ := ih (by omega)
      cases hf : f n
      · exact ⟨r, by rw [whr_no hf, hr]⟩
      · exact ⟨r ++ [n], by rw [whr_yes hf, hr, List.append_assoc]⟩
theorem whr_at (f : Nat → Bool) (k : Nat) (hk : k < 256) (hf : f k = true) : (whr f 256)[(whr f k).length]? = some k := by
  obtain ⟨r, hr⟩ := whr_split f (k + 1) 256 (by omega)
  rw [hr, whr_yes hf, List.append_assoc]
  simp
theorem whr_cnt (x : BitVec 256) : (whr (inn x) 256).length = cnt x := by unfold whr cnt; rw [List.countP_eq_length_filter]
theorem cnt_zero (x : BitVec 256) : (x == emp) = (decide (cnt x = 0)) := by
  rw [Bool.eq_iff_iff]; simp only [beq_iff_eq, decide_eq_true_eq]
  constructor
  · intro h; subst h
    rw [cnt_eq (f := fun _ => false) (fun b _ => inn_emp b)]; simp
  · intro h
    refine inn_ext fun b hb => ?_
    rw [inn_emp]
    unfold cnt at h
    rw [List.countP_eq_zero] at h
    have := h b (by simpa using hb)
    simpa using this
/-- are all bytes of one below k in the other? -/
def wth (x y : BitVec 256) (k : Nat) : Bool := (List.range k).all (fun j => !inn x j || inn y j)
theorem wth_step (x y : BitVec 256) (k : Nat) : wth x y (k + 1) = (wth x y k && (!inn x k || inn y k)) := by
  unfold wth; rw [List.range_succ, List.all_append]; simp
theorem wth_all (x y : BitVec 256) : (me x y == x) = wth x y 256 := by
  rw [Bool.eq_iff_iff]; simp only [beq_iff_eq]
  unfold wth
  rw [List.all_eq_true]
  constructor
  · intro h b _
    have e := inn_me x y b
    rw [h] at e
    cases hx : inn x b
    · rfl
    · rw [hx] at e; simp at e; rw [e]; rfl
  · intro h
    refine inn_ext fun b hb => ?_
    have := h b (by simpa using hb)
    rw [inn_me]
    cases hx : inn x b
    · rfl
    · rw [hx] at this; simpa using this

set_option maxRecDepth 100000 in
set_option maxHeartbeats 4000000 in
theorem walk (x y : BitVec 256) (w : World) :
    Calls Try.prog 4 #[setV x, setV y] w fun e w' => e = .returned (.bool true) ∧ w.grownBy w' none := by
  go_enter Try.func4, Try.ntmps4
  go_upto_region 1 with fail
  obtain ⟨b1, b2, g⟩ := heap2 w (.cells #[.int .u64 (wd x 0), .int .u64 (wd x 1), .int .u64 (wd x 2), .int .u64 (wd x 3)] 26) (.cells #[.int .u64 (wd y 0), .int .u64 (wd y 1), .int .u64 (wd y 2), .int .u64 (wd y 3)] 26)
  generalize ((w.alloc _).alloc _) = w1 at b1 b2 g ⊢
  generalize w.heap.size + 1 = q at b2 ⊢
  generalize w.heap.size = p at b1 ⊢
  have X1 : SB w1 p 26 x := b1
  have Y1 : SB w1 q 26 y := b2
  have G1 := Lib.hid g
  clear b1 b2 g
  go_wp2_with fail
  refine (lAlive6 _).mono ?_
  rintro e w2 ⟨rfl, g2⟩
  have HX := Lib.hid (X1.grown g2); have HY := Lib.hid (Y1.grown g2)
  have G2 := Lib.hid (G1.out.trans g2)
  clear g2 X1 Y1 G1
  go_upto_region 3 with fail
  go_cut [5, 6] from 18 to 19 (fun s5 s6 wx => ∃ a b : Nat, s5 = .pointer (some ⟨a, 0, none⟩) ∧ s6 = .pointer (some ⟨b, 0, none⟩) ∧ Hid (SB wx a 27 x ∧ SB wx b 27 y) ∧ Hid (w2.grownBy wx none))
  case first =>
    have hN : Neat [⟨0, 18, setV x⟩, ⟨1, 19, setV y⟩] [⟨2, 4, 5, 27, zeros, setC x⟩, ⟨3, 5, 6, 27, zeros, setC y⟩] := by
      constructor <;> simp
    refine wp_region_own (by kernel_rfl) (by kernel_rfl) [⟨0, 18, setV x⟩, ⟨1, 19, setV y⟩] [⟨2, 4, 5, 27, zeros, setC x⟩, ⟨3, 5, 6, 27, zeros, setC y⟩] (by simp) (by simp) (by simp) ?_ ?_
    · intro L a' w' i o ho R hL hd
      have hi : i < 6 := by
        have := (Array.getElem?_eq_some_iff.1 ho).1
        simpa using this
      obtain rfl | rfl | rfl | rfl | rfl | rfl : i = 0 ∨ i = 1 ∨ i = 2 ∨ i = 3 ∨ i = 4 ∨ i = 5 := by omega
      · refine wpOp_of rfl rfl (wp_load_row 26 (.tmp 2) rfl p (R.slot (by simp) rfl) 26 (setC x) (0, 0) _ (HX.out.grown R.g) Try.underlying26 rfl infoA ?_)
        exact R.val hN (p := ⟨0, 18, setV x⟩) (.head _) (by simp) (World.grownBy.refl _ _)
      · refine wpOp_of rfl rfl (wp_load_row 26 (.tmp 3) rfl q (R.slot (by simp) rfl) 26 (setC y) (0, 0) _ (HY.out.grown R.g) Try.underlying26 rfl infoA ?_)
        exact R.val hN (p := ⟨1, 19, setV y⟩) (.tail _ (.head _)) (by simp) (World.grownBy.refl _ _)
      · refine wpOp_of rfl rfl (wp_made (v := ptr w'.heap.size) (w' := w'.alloc (.cells zeros 27)) (by kernel_rfl) ?_)
        exact R.make hN (p := ⟨2, 4, 5, 27, zeros, setC x⟩) (.head _) (by simp) hL
      · refine wpOp_of rfl rfl (wp_made (v := ptr w'.heap.size) (w' := w'.alloc (.cells zeros 27)) (by kernel_rfl) ?_)
        exact R.make hN (p := ⟨3, 5, 6, 27, zeros, setC y⟩) (.tail _ (.head _)) (by simp) hL
      · cases ho
        have l0 := hd 0 (by decide +kernel); have l2 := hd 2 (by decide +kernel)
        obtain ⟨b, hb1, hb2, hb3⟩ := R.A ⟨2, 4, 5, 27, zeros, setC x⟩ (.head _) l2
        simp only [hL, Bool.false_eq_true, if_false] at hb3
        refine wpOp_of rfl rfl (wp_store_row 27 (.tmp 5) (.tmp 18) rfl b (setC x) hb2 (R.E ⟨0, 18, setV x⟩ (.head _) l0) 27 zeros hb3 infoS rfl (setC_one x) ?_)
        exact R.put hN (p := ⟨2, 4, 5, 27, zeros, setC x⟩) (.head _) l2 hb2
      · cases ho
        have l1 := hd 1 (by decide +kernel); have l3 := hd 3 (by decide +kernel)
        obtain ⟨b, hb1, hb2, hb3⟩ := R.A ⟨3, 5, 6, 27, zeros, setC y⟩ (.tail _ (.head _)) l3
        simp only [hL, Bool.false_eq_true, if_false] at hb3
        refine wpOp_of rfl rfl (wp_store_row 27 (.tmp 6) (.tmp 19) rfl b (setC y) hb2 (R.E ⟨1, 19, setV y⟩ (.tail _ (.head _)) l1) 27 zeros hb3 infoS rfl (setC_one y) ?_)
        exact R.put hN (p := ⟨3, 5, 6, 27, zeros, setC y⟩) (.tail _ (.head _)) l3 hb2
    · intro u w' g hO
      obtain ⟨b5, -, e5, B5⟩ := hO ⟨2, 4, 5, 27, zeros, setC x⟩ (.head _)
      obtain ⟨b6, -, e6, B6⟩ := hO ⟨3, 5, 6, 27, zeros, setC y⟩ (.tail _ (.head _))
      simp only [List.map_cons, List.map_nil, List.cons_append, List.nil_append] at e5 e6 ⊢
      rw [e5, e6]
      simp only [putL, List.foldl_cons, List.foldl_nil]
      have P5 := Lib.hid (show SB w' b5 27 x from B5); have P6 := Lib.hid (show SB w' b6 27 y from B6); have GG := Lib.hid g
      clear B5 B6 g hO hN
      go_simp
      go_wp2_with fail
      go_meet
      exact ⟨_, _, rfl, rfl, Lib.hid ⟨P5.out, P6.out⟩, GG⟩
  case rest =>
    obtain ⟨a, b, rfl, rfl, hs, hg⟩ := hcut
    have G3 := Lib.hid (G2.out.trans hg.out)
    have HX3 := Lib.hid (HX.out.grown hg.out); have HY3 := Lib.hid (HY.out.grown hg.out)
    clear HX HY G2 hg
    go_upto_region 4 with fail
    go_cut [7, 8, 9] from 20 to 27 (fun s7 s8 s9 wx => ∃ c d e : Nat, s7 = .pointer (some ⟨c, 0, none⟩) ∧ s8 = .pointer (some ⟨d, 0, none⟩) ∧ s9 = .pointer (some ⟨e, 0, none⟩) ∧ Hid (SB wx c 27 (un x y) ∧ SB wx d 27 (me x y) ∧ SB wx e 27 (no x)) ∧ Hid (wc.grownBy wx none))
    case first =>
      have hN : Neat [⟨0, 20, setV x⟩, ⟨1, 21, setV y⟩, ⟨2, 22, setV (un x y)⟩, ⟨3, 23, setV x⟩, ⟨4, 24, setV y⟩, ⟨5, 25, setV (me x y)⟩, ⟨6, 26, setV x⟩, ⟨7, 27, setV (no x)⟩] [⟨8, 11, 7, 27, zeros, setC (un x y)⟩, ⟨9, 12, 8, 27, zeros, setC (me x y)⟩, ⟨10, 13, 9, 27, zeros, setC (no x)⟩] := by
        constructor <;> simp
      refine wp_region_own (by kernel_rfl) (by kernel_rfl) [⟨0, 20, setV x⟩, ⟨1, 21, setV y⟩, ⟨2, 22, setV (un x y)⟩, ⟨3, 23, setV x⟩, ⟨4, 24, setV y⟩, ⟨5, 25, setV (me x y)⟩, ⟨6, 26, setV x⟩, ⟨7, 27, setV (no x)⟩] [⟨8, 11, 7, 27, zeros, setC (un x y)⟩, ⟨9, 12, 8, 27, zeros, setC (me x y)⟩, ⟨10, 13, 9, 27, zeros, setC (no x)⟩] (by simp) (by simp) (by simp) ?_ ?_
      · intro L a' w' i o ho R hL hd
        have hi : i < 14 := by
          have := (Array.getElem?_eq_some_iff.1 ho).1
          simpa using this
        obtain rfl | rfl | rfl | rfl | rfl | rfl | rfl | rfl | rfl | rfl | rfl | rfl | rfl | rfl : i = 0 ∨ i = 1 ∨ i = 2 ∨ i = 3 ∨ i = 4 ∨ i = 5 ∨ i = 6 ∨ i = 7 ∨ i = 8 ∨ i = 9 ∨ i = 10 ∨ i = 11 ∨ i = 12 ∨ i = 13 := by omega
        · refine wpOp_of rfl rfl (wp_load_row 27 (.tmp 5) rfl a (R.slot (by simp) rfl) 27 (setC x) (0, 0) _ (hs.out.1.grown R.g) Try.underlying27 rfl infoS ?_)
          exact R.val hN (p := ⟨0, 20, setV x⟩) (.head _) (by simp) (World.grownBy.refl _ _)
        · refine wpOp_of rfl rfl (wp_load_row 27 (.tmp 6) rfl b (R.slot (by simp) rfl) 27 (setC y) (0, 0) _ (hs.out.2.grown R.g) Try.underlying27 rfl infoS ?_)
          exact R.val hN (p := ⟨1, 21, setV y⟩) (.tail _ (.head _)) (by simp) (World.grownBy.refl _ _)
        · cases ho
          have v0 : a'.eval (.tmp 20) = setV x := R.E ⟨0, 20, setV x⟩ (.head _) (hd 0 (by decide +kernel))
          have v1 : a'.eval (.tmp 21) = setV y := R.E ⟨1, 21, setV y⟩ (.tail _ (.head _)) (hd 1 (by decide +kernel))
          refine wpOp_of rfl rfl (wp_called (f := 10) (args := #[a'.eval (.tmp 20), a'.eval (.tmp 21)]) (v := setV (un x y)) (R := fun w'' => w'.grownBy w'' none) (by kernel_rfl) (by rw [v0, v1]; exact cUnion x y w') (fun w'' g => ?_))
          exact R.val hN (p := ⟨2, 22, setV (un x y)⟩) (.tail _ (.tail _ (.head _))) (by simp) g
        · refine wpOp_of rfl rfl (wp_load_row 27 (.tmp 5) rfl a (R.slot (by simp) rfl) 27 (setC x) (0, 0) _ (hs.out.1.grown R.g) Try.underlying27 rfl infoS ?_)
          exact R.val hN (p := ⟨3, 23, setV x⟩) (.tail _ (.tail _ (.tail _ (.head _)))) (by simp) (World.grownBy.refl _ _)
        · refine wpOp_of rfl rfl (wp_load_row 27 (.tmp 6) rfl b (R.slot (by simp) rfl) 27 (setC y) (0, 0) _ (hs.out.2.grown R.g) Try.underlying27 rfl infoS ?_)
          exact R.val hN (p := ⟨4, 24, setV y⟩) (.tail _ (.tail _ (.tail _ (.tail _ (.head _))))) (by simp) (World.grownBy.refl _ _)
        · cases ho
          have v3 : a'.eval (.tmp 23) = setV x := R.E ⟨3, 23, setV x⟩ (.tail _ (.tail _ (.tail _ (.head _)))) (hd 3 (by decide +kernel))
          have v4 : a'.eval (.tmp 24) = setV y := R.E ⟨4, 24, setV y⟩ (.tail _ (.tail _ (.tail _ (.tail _ (.head _))))) (hd 4 (by decide +kernel))
          refine wpOp_of rfl rfl (wp_called (f := 11) (args := #[a'.eval (.tmp 23), a'.eval (.tmp 24)]) (v := setV (me x y)) (R := fun w'' => w'.grownBy w'' none) (by kernel_rfl) (by rw [v3, v4]; exact cMeet x y w') (fun w'' g => ?_))
          exact R.val hN (p := ⟨5, 25, setV (me x y)⟩) (.tail _ (.tail _ (.tail _ (.tail _ (.tail _ (.head _)))))) (by simp) g
        · refine wpOp_of rfl rfl (wp_load_row 27 (.tmp 5) rfl a (R.slot (by simp) rfl) 27 (setC x) (0, 0) _ (hs.out.1.grown R.g) Try.underlying27 rfl infoS ?_)
          exact R.val hN (p := ⟨6, 26, setV x⟩) (.tail _ (.tail _ (.tail _ (.tail _ (.tail _ (.tail _ (.head _))))))) (by simp) (World.grownBy.refl _ _)
        · cases ho
          have v6 : a'.eval (.tmp 26) = setV x := R.E ⟨6, 26, setV x⟩ (.tail _ (.tail _ (.tail _ (.tail _ (.tail _ (.tail _ (.head _))))))) (hd 6 (by decide +kernel))
          refine wpOp_of rfl rfl (wp_called (f := 12) (args := #[a'.eval (.tmp 26)]) (v := setV (no x)) (R := fun w'' => w'.grownBy w'' none) (by kernel_rfl) (by rw [v6]; exact cNot x w') (fun w'' g => ?_))
          exact R.val hN (p := ⟨7, 27, setV (no x)⟩) (.tail _ (.tail _ (.tail _ (.tail _ (.tail _ (.tail _ (.tail _ (.head _)))))))) (by simp) g
        · refine wpOp_of rfl rfl (wp_made (v := ptr w'.heap.size) (w' := w'.alloc (.cells zeros 27)) (by kernel_rfl) ?_)
          exact R.make hN (p := ⟨8, 11, 7, 27, zeros, setC (un x y)⟩) (.head _) (by simp) hL
        · refine wpOp_of rfl rfl (wp_made (v := ptr w'.heap.size) (w' := w'.alloc (.cells zeros 27)) (by kernel_rfl) ?_)
          exact R.make hN (p := ⟨9, 12, 8, 27, zeros, setC (me x y)⟩) (.tail _ (.head _)) (by simp) hL
        · refine wpOp_of rfl rfl (wp_made (v := ptr w'.heap.size) (w' := w'.alloc (.cells zeros 27)) (by kernel_rfl) ?_)
          exact R.make hN (p := ⟨10, 13, 9, 27, zeros, setC (no x)⟩) (.tail _ (.tail _ (.head _))) (by simp) hL
        · cases ho
          have l0 := hd 2 (by decide +kernel); have l2 := hd 8 (by decide +kernel)
          obtain ⟨b', hb1, hb2, hb3⟩ := R.A ⟨8, 11, 7, 27, zeros, setC (un x y)⟩ (.head _) l2
          simp only [hL, Bool.false_eq_true, if_false] at hb3
          refine wpOp_of rfl rfl (wp_store_row 27 (.tmp 7) (.tmp 22) rfl b' (setC (un x y)) hb2 (R.E ⟨2, 22, setV (un x y)⟩ (.tail _ (.tail _ (.head _))) l0) 27 zeros hb3 infoS rfl (setC_one _) ?_)
          exact R.put hN (p := ⟨8, 11, 7, 27, zeros, setC (un x y)⟩) (.head _) l2 hb2
        · cases ho
          have l0 := hd 5 (by decide +kernel); have l2 := hd 9 (by decide +kernel)
          obtain ⟨b', hb1, hb2, hb3⟩ := R.A ⟨9, 12, 8, 27, zeros, setC (me x y)⟩ (.tail _ (.head _)) l2
          simp only [hL, Bool.false_eq_true, if_false] at hb3
          refine wpOp_of rfl rfl (wp_store_row 27 (.tmp 8) (.tmp 25) rfl b' (setC (me x y)) hb2 (R.E ⟨5, 25, setV (me x y)⟩ (.tail _ (.tail _ (.tail _ (.tail _ (.tail _ (.head _)))))) l0) 27 zeros hb3 infoS rfl (setC_one _) ?_)
          exact R.put hN (p := ⟨9, 12, 8, 27, zeros, setC (me x y)⟩) (.tail _ (.head _)) l2 hb2
        · cases ho
          have l0 := hd 7 (by decide +kernel); have l2 := hd 10 (by decide +kernel)
          obtain ⟨b', hb1, hb2, hb3⟩ := R.A ⟨10, 13, 9, 27, zeros, setC (no x)⟩ (.tail _ (.tail _ (.head _))) l2
          simp only [hL, Bool.false_eq_true, if_false] at hb3
          refine wpOp_of rfl rfl (wp_store_row 27 (.tmp 9) (.tmp 27) rfl b' (setC (no x)) hb2 (R.E ⟨7, 27, setV (no x)⟩ (.tail _ (.tail _ (.tail _ (.tail _ (.tail _ (.tail _ (.tail _ (.head _)))))))) l0) 27 zeros hb3 infoS rfl (setC_one _) ?_)
          exact R.put hN (p := ⟨10, 13, 9, 27, zeros, setC (no x)⟩) (.tail _ (.tail _ (.head _))) l2 hb2
      · intro u w' g hO
        obtain ⟨b7, -, e7, B7⟩ := hO ⟨8, 11, 7, 27, zeros, setC (un x y)⟩ (.head _)
        obtain ⟨b8, -, e8, B8⟩ := hO ⟨9, 12, 8, 27, zeros, setC (me x y)⟩ (.tail _ (.head _))
        obtain ⟨b9, -, e9, B9⟩ := hO ⟨10, 13, 9, 27, zeros, setC (no x)⟩ (.tail _ (.tail _ (.head _)))
        simp only [List.map_cons, List.map_nil, List.cons_append, List.nil_append] at e7 e8 e9 ⊢
        rw [e7, e8, e9]
        simp only [putL, List.foldl_cons, List.foldl_nil]
        have P7 := Lib.hid (show SB w' b7 27 (un x y) from B7); have P8 := Lib.hid (show SB w' b8 27 (me x y) from B8); have P9 := Lib.hid (show SB w' b9 27 (no x) from B9); have GG := Lib.hid g
        clear B7 B8 B9 g hO hN
        go_simp
        go_wp2_with fail
        go_meet
        exact ⟨_, _, _, rfl, rfl, rfl, Lib.hid ⟨P7.out, P8.out, P9.out⟩, GG⟩
    case rest =>
      obtain ⟨c, d, e, rfl, rfl, rfl, hs4, hg4⟩ := hcut
      have G4 := Lib.hid (G3.out.trans hg4.out)
      have HX4 := Lib.hid (HX3.out.grown hg4.out); have HY4 := Lib.hid (HY3.out.grown hg4.out)
      have hx4 := Lib.hid (hs.out.1.grown hg4.out); have hy4 := Lib.hid (hs.out.2.grown hg4.out)
      clear HX3 HY3 G3 hg4 hs
      obtain ⟨c0, c1, c2, c3⟩ := hx4.out.at
      go_wp2_with fail
      refine (cBytes x _).mono ?_
      rintro e5 w5 ⟨v, rfl, br, g5⟩
      have BR := Lib.hid br
      have G5 := Lib.hid (G4.out.trans g5)
      have HX5 := Lib.hid (HX4.out.grown g5); have HY5 := Lib.hid (HY4.out.grown g5)
      have hx5 := Lib.hid (hx4.out.grown g5); have hy5 := Lib.hid (hy4.out.grown g5)
      have hu5 := Lib.hid (hs4.out.1.grown g5); have hm5 := Lib.hid (hs4.out.2.1.grown g5); have hn5 := Lib.hid (hs4.out.2.2.grown g5)
      clear HX4 HY4 hx4 hy4 hs4 g5 br G4 c0 c1 c2 c3
      obtain ⟨va, vc, rfl, ⟨hvl, -⟩, -⟩ := BR.out
      go_wp2_with fail
      go_loopw [11, 12, 13, 14, 15] (fun n wi i _ _ wr => ∃ k : Nat, k ≤ 256 ∧ i = .int .i64 k ∧ n = .int .i64 ((whr (inn x) k).length : Nat) ∧ wi = .bool (wth x y k) ∧ Hid (w5.grownBy wr none)) (fun _ _ i _ _ _ => 256 - (intOf i).toNat)
      case atStart => exact ⟨0, by omega, rfl, rfl, rfl, Lib.hid (World.grownBy.refl _ _)⟩
      case round =>
        obtain ⟨k, hk, rfl, rfl, rfl, hG⟩ := hrel
        by_cases hlt : k < 256
        · have BRr := Lib.hid (BR.out.grown hG.out)
          have AT := Lib.hid (whr_at (inn x) k hlt)
          have LY := Lib.hid (fun h : inn x k = true => whr_yes h); have LN := Lib.hid (fun h : inn x k = false => whr_no h)
          have WS := Lib.hid (wth_step x y k)
          have HL := Lib.hid (whr_len (inn x) k)
          have CRX := Lib.hid (fun w => cRHas x k w hlt); have CRY := Lib.hid (fun w => cRHas y k w hlt)
          have CX := Lib.hid (fun w => cHas x k w hlt)
          have CU := Lib.hid (fun w => inn_un x y k ▸ cHas (un x y) k w hlt)
          have CM := Lib.hid (fun w => inn_me x y k ▸ cHas (me x y) k w hlt)
          have CN := Lib.hid (fun w => inn_no x k hlt ▸ cHas (no x) k w hlt)
          obtain ⟨px, epx⟩ : ∃ b, inn x k = b := ⟨_, rfl⟩
          obtain ⟨py, epy⟩ : ∃ b, inn y k = b := ⟨_, rfl⟩
          rw [epx] at AT LY LN WS CRX CX CU CM CN
          rw [epy] at WS CRY CU CM
          clear epx epy
          generalize wth x y k = wv at WS
          have LEN : Hid ((whr (inn x) (k + 1)).length = (whr (inn x) k).length + (if px then 1 else 0)) := Lib.hid (by
            cases px
            · rw [LN.out rfl]; rfl
            · rw [LY.out rfl]; simp)
          have ATT : Hid (px = true → (whr (inn x) k).length < (whr (inn x) 256).length) := Lib.hid (fun h => (List.getElem?_eq_some_iff.1 (AT.out h)).1)
          have HM : (whr (inn x) k).length ≤ 256 := by have := HL.out; omega
          obtain ⟨m, em⟩ : ∃ m, m = (whr (inn x) k).length := ⟨_, rfl⟩
          rw [← em] at AT LEN ATT HM ⊢
          clear em LY LN HL
          have w0 := Lib.hid (HX5.out.grown hG.out); have w1' := Lib.hid (HY5.out.grown hG.out)
          have k0 : ∀ u : Gr wr, u.W.cell? ⟨p, 0, none⟩ = some (.int .u64 (wd x 0)) := fun u => (w0.out.at.grown u.g).c0
          have k1 : ∀ u : Gr wr, u.W.cell? ⟨p, 1, none⟩ = some (.int .u64 (wd x 1)) := fun u => (w0.out.at.grown u.g).c1
          have k2 : ∀ u : Gr wr, u.W.cell? ⟨p, 2, none⟩ = some (.int .u64 (wd x 2)) := fun u => (w0.out.at.grown u.g).c2
          have k3 : ∀ u : Gr wr, u.W.cell? ⟨p, 3, none⟩ = some (.int .u64 (wd x 3)) := fun u => (w0.out.at.grown u.g).c3
          have l0 : ∀ u : Gr wr, u.W.cell? ⟨q, 0, none⟩ = some (.int .u64 (wd y 0)) := fun u => (w1'.out.at.grown u.g).c0
          have l1 : ∀ u : Gr wr, u.W.cell? ⟨q, 1, none⟩ = some (.int .u64 (wd y 1)) := fun u => (w1'.out.at.grown u.g).c1
          have l2 : ∀ u : Gr wr, u.W.cell? ⟨q, 2, none⟩ = some (.int .u64 (wd y 2)) := fun u => (w1'.out.at.grown u.g).c2
          have l3 : ∀ u : Gr wr, u.W.cell? ⟨q, 3, none⟩ = some (.int .u64 (wd y 3)) := fun u => (w1'.out.at.grown u.g).c3
          have inst : Nonempty (Gr wr) := ⟨⟨wr, World.grownBy.refl _ _⟩⟩
          go_upto_region 11 with fail
          refine wp_region_grows (by kernel_rfl) (by kernel_rfl) ?_
          repeat (go_big_quiet_step (first
            | (go_at_call 14; with_reducible refine (CRX.out _).mono ?_; rintro e w9 ⟨he, g9⟩; exact ⟨he, ⟨_, (Gr.g _).trans g9⟩, rfl⟩)
            | (go_at_call 14; with_reducible refine (CRY.out _).mono ?_; rintro e w9 ⟨he, g9⟩; exact ⟨he, ⟨_, (Gr.g _).trans g9⟩, rfl⟩)))
          refine wpQuiet_nil ?_
          rintro w6 ⟨⟨_, gg⟩, rfl⟩
          have G6 := Lib.hid (hG.out.trans gg)
          clear k0 k1 k2 k3 l0 l1 l2 l3 inst w0 w1' CRX CRY BRr gg hG
          have hxx := Lib.hid (hx5.out.grown G6.out); have huu := Lib.hid (hu5.out.grown G6.out); have hmm := Lib.hid (hm5.out.grown G6.out); have hnn := Lib.hid (hn5.out.grown G6.out)
          obtain ⟨a0, a1, a2, a3⟩ := hxx.out.at
          cases px
          · cases py
            all_goals cases wv
            all_goals
              go_wp2_with fail
              refine (CX.out _).mono ?_
              rintro e7 w7 ⟨rfl, g7⟩
              clear a0 a1 a2 a3
              obtain ⟨a0, a1, a2, a3⟩ := (huu.out.grown g7).at
              go_wp2_with fail
              refine (CU.out _).mono ?_
              rintro e8 w8 ⟨rfl, g8⟩
              clear a0 a1 a2 a3
              obtain ⟨a0, a1, a2, a3⟩ := (hmm.out.grown (g7.trans g8)).at
              go_wp2_with fail
              refine (CM.out _).mono ?_
              rintro e9 w9 ⟨rfl, g9⟩
              clear a0 a1 a2 a3
              obtain ⟨a0, a1, a2, a3⟩ := (hnn.out.grown (g7.trans (g8.trans g9))).at
              go_wp2_with fail
              refine (CN.out _).mono ?_
              rintro e10 w10 ⟨rfl, g10⟩
              have G10 := Lib.hid (G6.out.trans (g7.trans (g8.trans (g9.trans g10))))
              clear a0 a1 a2 a3 g7 g8 g9 g10
              go_wp2_with fail
              go_roundw
              case rel => exact ⟨k + 1, by omega, by go_num, by rw [LEN.out, if_neg (by decide)]; rfl, by rw [WS.out]; rfl, G10⟩
              case measure => simp [intOf]; omega
          · have hT := ATT.out rfl
            have HAT := Lib.hid (AT.out rfl)
            have LEN1 : Hid ((whr (inn x) (k + 1)).length = m + 1) := Lib.hid LEN.out
            clear AT LEN ATT
            have hTd : decide ((whr (inn x) 256).length ≤ m) = false := decide_eq_false (by omega)
            cases py
            all_goals cases wv
            all_goals
              go_wp2_with fail
              refine (CX.out _).mono ?_
              rintro e7 w7 ⟨rfl, g7⟩
              clear a0 a1 a2 a3
              obtain ⟨a0, a1, a2, a3⟩ := (huu.out.grown g7).at
              go_wp2_with fail
              refine (CU.out _).mono ?_
              rintro e8 w8 ⟨rfl, g8⟩
              clear a0 a1 a2 a3
              obtain ⟨a0, a1, a2, a3⟩ := (hmm.out.grown (g7.trans g8)).at
              go_wp2_with fail
              refine (CM.out _).mono ?_
              rintro e9 w9 ⟨rfl, g9⟩
              clear a0 a1 a2 a3
              obtain ⟨a0, a1, a2, a3⟩ := (hnn.out.grown (g7.trans (g8.trans g9))).at
              go_wp2_with fail
              refine (CN.out _).mono ?_
              rintro e10 w10 ⟨rfl, g10⟩
              have G10 := Lib.hid (G6.out.trans (g7.trans (g8.trans (g9.trans g10))))
              clear a0 a1 a2 a3 g7 g8 g9 g10
              obtain ⟨a', c', e', -, hr⟩ := BR.out.grown G10.out
              cases e'
              obtain ⟨bb, off, rfl, -, hc⟩ := hr (by intro e; rw [e] at hT; simp at hT)
              have hcell : w10.cell? ⟨bb, off + m, none⟩ = some (.int .u8 k) := hc m k HAT.out
              clear hc hr
              go_wp2_with fail
              go_roundw
              case rel => exact ⟨k + 1, by omega, by go_num, by rw [LEN1.out]; go_num, by rw [WS.out]; rfl, G10⟩
              case measure => simp [intOf]; omega
        · obtain rfl : k = 256 := by omega
          rw [← wth_all]
          have CC := Lib.hid (fun w => cCount x w)
          have CE := Lib.hid (fun w => cnt_zero x ▸ cEmpty x w)
          have CW := Lib.hid (fun w => cWithin x y w)
          generalize (me x y == x) = wv at CW ⊢
          have HCN := whr_cnt x
          have HCL := cnt_le x
          rw [HCN]
          obtain ⟨N, eN⟩ : ∃ N, N = cnt x := ⟨_, rfl⟩
          rw [← eN] at CC CE HCL ⊢
          have hxx := Lib.hid (hx5.out.grown hG.out); have hyy := Lib.hid (hy5.out.grown hG.out)
          clear eN HCN
          obtain ⟨a0, a1, a2, a3⟩ := hxx.out.at
          have tail : ∀ bz : Bool, decide (N = 0) = bz → ((N : Int) == 0) = bz := fun bz h => by rw [← h]; rw [Bool.eq_iff_iff]; simp
          cases hz : decide (N = 0)
          all_goals
            have hz' := tail _ hz
            rw [hz] at CE
            clear hz tail
            go_wp2_with fail
            refine (CC.out _).mono ?_
            rintro e7 w7 ⟨rfl, g7⟩
            clear a0 a1 a2 a3
            obtain ⟨a0, a1, a2, a3⟩ := (hxx.out.grown g7).at
            go_wp2_with fail
            refine (CE.out _).mono ?_
            rintro e8 w8 ⟨rfl, g8⟩
            clear a0 a1 a2 a3
            obtain ⟨a0, a1, a2, a3⟩ := (hxx.out.grown (g7.trans g8)).at
            obtain ⟨b0, b1, b2, b3⟩ := (hyy.out.grown (g7.trans g8)).at
            go_wp2_with fail
            refine (CW.out _).mono ?_
            rintro e9 w9 ⟨rfl, g9⟩
            have G10 := Lib.hid (G5.out.trans (hG.out.trans (g7.trans (g8.trans g9))))
            clear a0 a1 a2 a3 b0 b1 b2 b3 g7 g8 g9
            go_wp2
            go_ret
            exact ⟨rfl, G10.out⟩
end Go.Proofs.Ytkemhpjgmnibpaa.classTells
