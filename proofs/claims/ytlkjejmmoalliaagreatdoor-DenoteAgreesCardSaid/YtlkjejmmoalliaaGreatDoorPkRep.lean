/- slices.Reverse at ways. slices.Repeat of one number. -/
import Derived.Test.YtlkjejmmoalliaaGreatDoorPkMem
import Derived.BigRegion
import Derived.Test.YtlkjejmmoalliaaGreatDoorShelf
import Derived.Deep.RegionLaw
import Derived.Laws.CopyOwn
namespace Go.Proofs.YtlkjejmmoalliaaGreatDoor
open Go.RowKit

theorem flatW_set : ∀ (L : List Wx) (k : Nat) (c : Wx), k < L.length → ((flatW L).set (k * 2) (.int .i64 c.a)).set (k * 2 + 1) (.pointer (some ⟨c.b, 0, none⟩)) = flatW (L.set k c) := by
  intro L
  induction L with
  | nil => intro k c hx; simp at hx
  | cons y L ih =>
    intro k c hx
    cases k with
    | zero => rw [List.set_cons_zero, flatW_cons, flatW_cons]; rfl
    | succ k =>
      rw [List.set_cons_succ, flatW_cons, flatW_cons, ← ih k c (by simpa using hx)]
      show ((_ :: _ :: flatW L).set _ _).set _ _ = _ :: _ :: _
      rw [show (k + 1) * 2 = k * 2 + 1 + 1 by omega, List.set_cons_succ, List.set_cons_succ, List.set_cons_succ, List.set_cons_succ]; rfl
/-- as far as turned: k from each end -/
def RevTo (N : List Wx) (k : Nat) (D : List Wx) : Prop := D.length = N.length ∧ ∀ x, x < N.length → D[x]? = if x < k ∨ N.length ≤ x + k then N[N.length - 1 - x]? else N[x]?
theorem rev_start (N : List Wx) : RevTo N 0 N := ⟨rfl, fun x hx => by rw [if_neg (by omega)]⟩
theorem rev_end {N D : List Wx} {k : Nat} (h : RevTo N k D) (hk : N.length ≤ 2 * k + 1) : D = N.reverse := by
  apply List.ext_getElem?
  intro x
  by_cases hx : x < N.length
  · rw [h.2 x hx, List.getElem?_reverse hx]
    split
    · rfl
    · rw [show N.length - 1 - x = x by omega]
  · rw [List.getElem?_eq_none (by rw [h.1]; omega), List.getElem?_eq_none (by simp; omega)]
theorem rev_step {N D : List Wx} {k : Nat} {a b : Wx} (h : RevTo N k D) (hk : 2 * k + 1 < N.length) (ha : D[k]? = some a) (hb : D[N.length - 1 - k]? = some b) : RevTo N (k + 1) ((D.set k b).set (N.length - 1 - k) a) := by
  refine ⟨by simp [h.1], fun x hx => ?_⟩
  have h1 := h.2 k (by omega)
  have h2 := h.2 (N.length - 1 - k) (by omega)
  rw [if_neg (by omega), ha] at h1
  rw [if_neg (by omega), hb] at h2
  rw [List.getElem?_set, List.getElem?_set]
  by_cases e1 : N.length - 1 - k = x
  · rw [if_pos e1, if_pos (by simp [h.1]; omega), if_pos (by omega), ← e1, show N.length - 1 - (N.length - 1 - k) = k by omega]; exact h1
  · rw [if_neg e1]
    by_cases e2 : k = x
    · subst e2; rw [if_pos rfl, if_pos (by rw [h.1]; omega), if_pos (by omega)]; exact h2
    · rw [if_neg e2, h.2 x hx]
      by_cases e3 : x < k ∨ N.length ≤ x + k
      · rw [if_pos e3, if_pos (by omega)]
      · rw [if_neg e3, if_neg (by omega)]

set_option maxRecDepth 100000 in
set_option maxHeartbeats 4000000 in
theorem cRev (base g n cap : Nat) (N : List Wx) (w : World) (hn : N.length = n) (hmax : n ≤ 1000000) (h : w.ownsRow base 57 2 (.slice (some ⟨g, 0, none⟩) n cap) n (flatW N)) :
    Calls Tryz.prog 35 #[.slice (some ⟨g, 0, none⟩) n cap] w fun e w' => e = .returned (.tuple #[]) ∧ w'.ownsRow base 57 2 (.slice (some ⟨g, 0, none⟩) n cap) n (flatW N.reverse) ∧ w.grownBy w' (some g) := by
  have H := Lib.hid h
  have HN := Lib.hid hn
  clear h hn
  go_enter Tryz.func35, Tryz.ntmps35
  go_wp2
  go_loopw [2, 3] (fun i j wr => ∃ k : Nat, 2 * k ≤ n + 1 ∧ i = .int .i64 k ∧ j = .int .i64 ((n : Int) - 1 - k) ∧ ∃ D, Hid (RevTo N k D) ∧ Hid (wr.ownsRow base 57 2 (.slice (some ⟨g, 0, none⟩) n cap) n (flatW D)) ∧ Hid (w.grownBy wr (some g))) (fun i _ _ => n - (intOf i).toNat)
  case atStart => exact ⟨0, by omega, rfl, by simp, N, Lib.hid (rev_start N), H, Lib.hid (World.grownBy.refl _ _)⟩
  case round =>
    obtain ⟨k, hk, rfl, rfl, D, hD, hR, hG⟩ := hrel
    by_cases hlt : 2 * k + 1 < n
    · obtain ⟨m, hm⟩ : ∃ m : Nat, m = n - 1 - k := ⟨_, rfl⟩
      have hmi : (n : Int) - 1 - k = m := by omega
      have HMI := Lib.hid hmi
      have hmk : k < m := by omega
      have hmn : m < n := by omega
      obtain ⟨a, ha⟩ : ∃ a, D[k]? = some a := ⟨_, List.getElem?_eq_getElem (by rw [hD.out.1, HN.out]; omega)⟩
      obtain ⟨b, hb⟩ : ∃ b, D[m]? = some b := ⟨_, List.getElem?_eq_getElem (by rw [hD.out.1, HN.out]; omega)⟩
      have HNX := Lib.hid (show RevTo N (k + 1) ((D.set k b).set m a) by
        have := rev_step hD.out (by rw [HN.out]; omega) ha (by rw [HN.out, ← hm]; exact hb)
        rw [HN.out, ← hm] at this; exact this)
      have c0 := hR.out.cells (g := g) rfl _ _ (flatW_get _ _ _ ha).1
      have c1 := hR.out.cells (g := g) rfl _ _ (flatW_get _ _ _ ha).2
      have c2 := hR.out.cells (g := g) rfl _ _ (flatW_get _ _ _ hb).1
      have c3 := hR.out.cells (g := g) rfl _ _ (flatW_get _ _ _ hb).2
      rw [Addr.add_lit, Nat.zero_add] at c0 c1 c2 c3
      have fr := fun j => hR.out.frozenAt j
      rw [hmi]
      obtain ⟨o1, g1⟩ := hR.out.stored (k * 2) (.int .i64 b.a)
      obtain ⟨o2, g2⟩ := o1.stored (k * 2 + 1) (.pointer (some ⟨b.b, 0, none⟩))
      obtain ⟨o3, g3⟩ := o2.stored (m * 2) (.int .i64 a.a)
      obtain ⟨o4, g4⟩ := o3.stored (m * 2 + 1) (.pointer (some ⟨a.b, 0, none⟩))
      have hl : D.length = n := hD.out.1.trans HN.out
      rw [flatW_set D k b (by rw [hl]; omega), flatW_set _ m a (by simp [hl]; omega)] at o4
      have O4 := Lib.hid o4
      have G4 := Lib.hid ((((hG.out.trans g1).trans g2).trans g3).trans g4)
      clear ha hb o1 o2 o3 o4 g1 g2 g3 g4 hl hm hmi
      go_wp2
      go_region
      all_goals
        go_wp2
        go_roundw
        case rel => exact ⟨k + 1, by omega, by go_num, by have := HMI.out; first | (congr 1; omega) | (simp; omega), _, HNX, Lib.hid (O4.out.kept (grown_drew (World.grownBy.refl _ none)) (.inr (by simp [Value.ownBlock]))), Lib.hid (grown_drew G4.out)⟩
        case measure => simp [intOf]; omega
    · have HE := Lib.hid (rev_end hD.out (by rw [HN.out]; omega))
      go_wp2
      go_end0
      exact ⟨rfl, by rw [← HE.out]; exact hR.out, hG.out⟩
end Go.Proofs.YtlkjejmmoalliaaGreatDoor

namespace Go.Proofs.YtlkjejmmoalliaaGreatDoor
open Go.RowKit

theorem infoI9 : (Tryz.prog.info? 3).map (fun i => (i.zero, i.size, i.bytes)) = some (some (.int .i64 0), 1, 8) := by kernel_rfl
theorem sizeI9 : (Tryz.prog.info? 3).map (·.size) = some 1 := by kernel_rfl
theorem cMul1 (n : Nat) (w : World) (hn : n < 1000000) : Calls Tryz.prog 34 #[.int .u64 1, .int .u64 n] w fun e w' => e = .returned (.tuple #[.int .u64 0, .int .u64 n]) ∧ w = w' := by
  refine (Tryz.bits_Mul 1 n (by omega) (by omega) w).mono ?_
  rintro e w' ⟨rfl, rfl⟩
  refine ⟨?_, rfl⟩
  rw [show 1 * n / 18446744073709551616 = 0 by omega, show 1 * n % 18446744073709551616 = n by omega]
  rfl
def filR (n m : Nat) (v : Int) : List Value := intsV (List.replicate m v ++ List.replicate (n - m) 0)
theorem filR_len {n m : Nat} (v : Int) (h : m ≤ n) : (filR n m v).length = n := by unfold filR; rw [intsV_len]; simp; omega
theorem filR_all (n : Nat) (v : Int) : filR n n v = intsV (List.replicate n v) := by unfold filR; simp
theorem intsV_append (a b : List Int) : intsV (a ++ b) = intsV a ++ intsV b := by unfold intsV; simp
theorem intsV_rep (n : Nat) (v : Int) : intsV (List.replicate n v) = List.replicate n (.int .i64 v) := by unfold intsV; simp
theorem filR_splice {n m c : Nat} (v : Int) (h : m + c ≤ n) : splice (filR n m v) m (intsV (List.replicate c v)) = filR n (m + c) v := by
  unfold splice filR
  rw [intsV_append, intsV_append, intsV_rep, intsV_rep, intsV_rep, intsV_rep, intsV_rep]
  rw [List.take_left' (by simp), List.length_replicate, List.drop_append, List.drop_of_length_le (by simp)]
  simp only [List.length_replicate, List.nil_append, List.drop_replicate]
  rw [← List.append_assoc, List.replicate_append_replicate]
  congr 2
  omega
theorem rep_get {c j : Nat} {v : Int} {u : Value} (h : (intsV (List.replicate c v))[j]? = some u) : u = .int .i64 v ∧ j < c := by
  rw [intsV_rep, List.getElem?_replicate] at h
  split at h
  · cases h; exact ⟨rfl, by assumption⟩
  · cases h
theorem filR_get {n m j : Nat} (v : Int) (hj : j < m) : (filR n m v)[j]? = some (.int .i64 v) := by
  unfold filR
  exact intsV_get (by rw [List.getElem?_append_left (by simpa using hj), List.getElem?_replicate, if_pos hj])
theorem own_base {w : World} {b b' s n : Nat} {e : TypeId} {v : Value} {xs : List Value} (h : w.ownsRow b e s v n xs) (hb : b' ≤ b) : w.ownsRow b' e s v n xs := by
  refine ⟨h.1, h.2.imp_right ?_⟩
  rintro ⟨g, cap, cur, e1, hg, h3⟩
  exact ⟨g, cap, cur, e1, Nat.le_trans hb hg, h3⟩
theorem own_block {w : World} {base n : Nat} {e : TypeId} {g : Nat} {xs : List Value} (h : w.ownsRow base e 1 (.slice (some ⟨g, 0, none⟩) n n) n xs) : w.heap[g]? = some (.cells xs.toArray e (0, 0)) ∧ base ≤ g ∧ n ≤ maxLen := by
  rcases h with ⟨hl, ⟨e1, -⟩ | ⟨g', cap', cur, e1, hg, hh, hn, hc, hs, ht⟩⟩
  · cases e1
  · cases e1
    have : cur.toList = xs := by rw [← ht, List.take_of_length_le (by simp [hs])]
    exact ⟨by rw [hh, ← this], hg, hc⟩
theorem own_of {w : World} {base n : Nat} {e : TypeId} {g : Nat} {xs : List Value} (h : w.heap[g]? = some (.cells xs.toArray e (0, 0))) (hl : xs.length = n) (hg : base ≤ g) (hn : n ≤ maxLen) : w.ownsRow base e 1 (.slice (some ⟨g, 0, none⟩) n n) n xs :=
  ⟨by omega, .inr ⟨g, n, _, rfl, hg, h, Nat.le_refl _, hn, by simp [hl], by rw [List.take_of_length_le (by simp [hl])]⟩⟩

theorem made_one (x : Value) (n : Nat) : madeCells #[x] n = Array.replicate n x := by
  apply Array.ext
  · simp [madeCells]
  · intro i h1 h2
    simp [madeCells, Nat.mod_one]

set_option maxRecDepth 100000 in
set_option maxHeartbeats 4000000 in
theorem cRepeat9 (g n : Nat) (v : Int) (w : World) (hn : n ≤ 100000) (h : w.cell? ⟨g, 0, none⟩ = some (.int .i64 v)) :
    Calls Tryz.prog 17 #[.slice (some ⟨g, 0, none⟩) 1 1, .int .i64 n] w fun e w' => ∃ r, e = .returned (.slice (some ⟨r, 0, none⟩) n n) ∧ w'.ownsRow w.heap.size 3 1 (.slice (some ⟨r, 0, none⟩) n n) n (intsV (List.replicate n v)) ∧ w.grownBy w' none := by
  obtain ⟨i0, hi, hz0, hz1, hz2⟩ := info_parts infoI9
  have I := Lib.hid hi; have Z0 := Lib.hid hz0; have Z1 := Lib.hid hz1; have Z2 := Lib.hid hz2
  clear hi hz0 hz1 hz2
  have HC := Lib.hid h
  have hgl := cell_block h
  have HGL := Lib.hid hgl
  clear h hgl
  have e1 : IntKind.u64.wrap (1 : Int) = 1 := by rw [IntKind.wrap_u64]; omega
  have e2 : IntKind.u64.wrap (n : Int) = n := by rw [IntKind.wrap_u64]; omega
  have e3 : IntKind.i64.wrap (n : Int) = n := by rw [IntKind.wrap_i64]; omega
  have CM := Lib.hid (fun W => cMul1 n W (by omega))
  go_enter Tryz.func17, Tryz.ntmps17
  go_upto_region 7 with (first
    | (go_at_call 34; (with_reducible refine (CM.out _).mono ?_); rintro e w' ⟨rfl, rfl⟩)
    | (at_make; refine wpList_make_full _ rfl (.tmp 29) (.tmp 29) 37 rfl w.heap.size 3 i0 _ 1 Tryz.underlying37 I.out Z0.out Z1.out .i64 .i64 _ _ n rfl rfl (by first | rfl | exact e3) (by first | rfl | exact e3) (by rw [Z2.out]; omega) (by unfold maxLen; omega) (Nat.le_refl _) ?_; intro w1 hown1 hg1; have O1 := Lib.hid hown1; have G1 := Lib.hid hg1; clear hown1 hg1))
  obtain ⟨r, er⟩ : ∃ r, r = w.heap.size := ⟨_, rfl⟩
  have HB := Lib.hid (show w1.heap[r]? = some (.cells (filR n 0 v).toArray 3 (0, 0)) by
    rw [er, (own_block O1.out).1]
    have := made_one (.int .i64 0) (n * 1)
    rw [show (Value.int .i64 0).cells = #[.int .i64 0] from rfl, this]
    unfold filR
    simp [intsV_rep])
  have HR := Lib.hid (show w.heap.size ≤ r by omega)
  rw [← er]
  clear er
  have HL := Lib.hid (below_of_grown G1.out)
  have C1 := Lib.hid (G1.out.cell HC.out (by simp))
  clear e1 e2 e3
  obtain ⟨c, hc⟩ : ∃ c, c = Nat.min 1 n := ⟨_, rfl⟩
  have HCL := Lib.hid hc
  have hc1 : c ≤ 1 := by rw [hc]; exact Nat.min_le_left _ _
  have hcn : c ≤ n := by rw [hc]; exact Nat.min_le_right _ _
  have hcp : 1 ≤ c ∨ n = 0 := by rw [hc]; show 1 ≤ min 1 n ∨ _; omega
  have HCP := Lib.hid hcp
  clear hc hcp
  have HS := Lib.hid (show 0 < (intsV (List.replicate c v)).length → (some ⟨r, 0, none⟩ : Option Addr) = some ⟨r, 0, none⟩ ∧ ∃ ad, (some ⟨g, 0, none⟩ : Option Addr) = some ad ∧ ∀ j u, (intsV (List.replicate c v))[j]? = some u → w1.cell? (ad.add j) = some u from fun _ => ⟨rfl, _, rfl, fun j u hu => by
    obtain ⟨rfl, hj⟩ := rep_get hu
    obtain rfl : j = 0 := by omega
    exact C1.out⟩)
  have HF := Lib.hid (show 0 + (intsV (List.replicate c v)).length ≤ (filR n 0 v).length by rw [intsV_len, List.length_replicate, filR_len v (by omega)]; omega)
  have H1 := Lib.hid (fun c => (show ∀ u ∈ intsV (List.replicate c v), u.oneCell' = true from fun u hu => by
    obtain ⟨j, hj⟩ := List.getElem?_of_mem hu
    obtain ⟨rfl, -⟩ := rep_get hj
    rfl))
  have HN := Lib.hid (show (intsV (List.replicate c v)).length = Nat.min 1 n by rw [intsV_len, List.length_replicate]; exact HCL.out)
  have HW := Lib.hid (show splice (filR n 0 v) 0 (intsV (List.replicate c v)) = filR n c v by have := filR_splice (n := n) (m := 0) (c := c) v (by omega); rwa [Nat.zero_add] at this)
  go_upto_block 0 with (refine wpList_copy_splice rfl (.tmp 31) (.tmp 32) 37 37 rfl 3 Tryz.underlying37 sizeI9 (some ⟨r, 0, none⟩) (some ⟨g, 0, none⟩) n n 1 1 rfl rfl r 0 (filR n 0 v) 3 HB.out (intsV (List.replicate c v)) HN.out HS.out HF.out (H1.out c) w.heap.size w HL.out HR.out ?_; intro w2 B2 L2; have L2' := Lib.hid L2; clear L2)
  have HLn := Lib.hid (fun c => show (intsV (List.replicate c v)).length = c by rw [intsV_len, List.length_replicate])
  rw [HLn.out c]
  have B2 := Lib.hid (show w2.heap[r]? = some (.cells (filR n c v).toArray 3 (0, 0)) by rw [B2.out, HW.out])
  clear HB HS HF HN HW HL CM O1 G1 C1 HC HGL HCL
  go_wp2
  go_loopw [8] (fun i wr => ∃ m : Nat, m ≤ n ∧ (1 ≤ m ∨ n = 0) ∧ i = .int .i64 m ∧ Hid (wr.heap[r]? = some (.cells (filR n m v).toArray 3 (0, 0))) ∧ Hid (Below w.heap.size w wr)) (fun i _ => n - (intOf i).toNat)
  case atStart => exact ⟨c, hcn, HCP.out, rfl, B2, L2'⟩
  case round =>
    obtain ⟨m, hm, hp, rfl, hB, hL⟩ := hrel
    by_cases hlt : m < n
    · obtain ⟨d, hd⟩ : ∃ d, d = Nat.min m (n - m) := ⟨_, rfl⟩
      have HN := Lib.hid (show (intsV (List.replicate d v)).length = Nat.min m (n - m) by rw [HLn.out]; exact hd)
      have hd1 : d ≤ m := by rw [hd]; exact Nat.min_le_left _ _
      have hd2 : d ≤ n - m := by rw [hd]; exact Nat.min_le_right _ _
      have hd3 : 1 ≤ d := by rw [hd]; show 1 ≤ min m (n - m); omega
      have HS := Lib.hid (show 0 < (intsV (List.replicate d v)).length → ∃ ad, (some ⟨r, 0, none⟩ : Option Addr) = some ad ∧ ∀ j u, (intsV (List.replicate d v))[j]? = some u → wr.drew.cell? (ad.add j) = some u from fun _ => ⟨_, rfl, fun j u hu => by
        obtain ⟨rfl, hj⟩ := rep_get hu
        rw [Addr.add_lit, Nat.zero_add]
        show wr.cell? _ = _
        rw [cell_of_row wr r j _ _ _ hB.out]
        simpa using filR_get v (by omega)⟩)
      have HF := Lib.hid (show m + (intsV (List.replicate d v)).length ≤ (filR n m v).length by rw [HLn.out, filR_len v hm]; omega)
      have HW := Lib.hid (filR_splice (n := n) (m := m) (c := d) v (by omega))
      have HD := Lib.hid (show wr.drew.heap[r]? = some (.cells (filR n m v).toArray 3 (0, 0)) from hB.out)
      have HLD := Lib.hid (show Below w.heap.size w wr.drew from hL.out.drew)
      have hw1 : IntKind.i64.wrap ((m : Int) + d) = (m : Int) + d := by rw [IntKind.wrap_i64]; omega
      have HW1 := Lib.hid hw1
      have hne : ¬ n = m := by omega
      clear hd hp
      go_wp2
      go_region_law (refine step_copy_splice rfl (.tmp 41) (.tmp 44) 37 37 rfl 3 Tryz.underlying37 sizeI9 (some ⟨r, m, none⟩) (some ⟨r, 0, none⟩) (n - m) (n - m) m n (by go_simp) (by go_simp) r m (filR n m v) 3 HD.out (intsV (List.replicate d v)) HN.out (fun h => ⟨rfl, HS.out h⟩) HF.out (H1.out d) w.heap.size w HLD.out HR.out ?_; intro w3 B3 L3; have L3' := Lib.hid L3; clear L3)
      all_goals
        have B4 := Lib.hid (show w3.heap[r]? = some (.cells (filR n (m + d) v).toArray 3 (0, 0)) by rw [B3.out, HW.out])
        have HX := Lib.hid (HLn.out d)
        rw [HX.out, HW1.out]
        go_simp
        go_roundw
        case rel => exact ⟨.int .i64 ((m : Int) + d), _, _, _, _, _, _, _, _, _, _, _, _, _, ⟨m + d, by omega, by omega, by go_num, B4, L3'⟩, rfl⟩
        case measure => simp [intOf]; omega
    · obtain rfl : m = n := by omega
      go_wp2
      go_ret
      exact ⟨r, rfl, own_of (by rw [hB.out, filR_all]) (by rw [HLn.out]) HR.out (by unfold maxLen; omega), grown_of_below hL.out⟩
end Go.Proofs.YtlkjejmmoalliaaGreatDoor
