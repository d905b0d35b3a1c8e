/- Walks: effects as of the document. -/
import Derived.Test.YtbcemenfklgnkaaGreatDoorEfRow
import Derived.Test.YtbcemenfklgnkaaGreatDoorBase
namespace Go.Proofs.YtbcemenfklgnkaaGreatDoor
open Go.RowKit Go.Maps

theorem infoEfR : (Tryz.prog.info? 49).map (fun i => (i.zero, i.size, i.bytes)) = some (some (.agg #[.int .i64 0, .string ByteArray.empty, .string ByteArray.empty]), 3, 40) := by kernel_rfl
theorem own_newE (w : World) (base : Nat) (hb : base ≤ w.heap.size) (t : TypeId) : (w.alloc (.cells #[] t)).ownsRow base t 3 (.slice (some ⟨w.heap.size, 0, none⟩) 0 0) 0 [] :=
  World.ownsRow_made w #[] 0 hb (by decide) rfl
theorem owns_kept {w w' : World} {base : Nat} {e : TypeId} {size n : Nat} {v : Value} {xs : List Value} (h : w.ownsRow base e size v n xs) (hg : w.grownBy w' none) : w'.ownsRow base e size v n xs :=
  h.kept hg (by rcases h.2 with ⟨rfl, _⟩ | ⟨g, cap, cur, rfl, _⟩ <;> simp [Value.ownBlock])
theorem newsAtE (w : World) (f : Ef) (t : TypeId) (n : Nat) (hn : n = w.heap.size) : ∀ j u, ([.int .i64 f.k, .string f.n, .string f.c] : List Value)[j]? = some u → (w.alloc (.cells #[.int .i64 f.k, .string f.n, .string f.c] t)).cell? ((⟨n, 0, none⟩ : Addr).add j) = some u := by
  subst hn; exact newsE w f t

set_option maxRecDepth 100000 in
set_option maxHeartbeats 1000000 in
theorem lOfE (v : Value) (l : List Ef) (w : World) (h : ERow w v l) (h60 : l.length ≤ 60) :
    Calls Tryz.prog 14 #[v] w fun e w' => ∃ v', e = .returned v' ∧ ERow w' v' l ∧ (∀ b off n c, v' = .slice (some ⟨b, off, none⟩) n c → w.heap.size ≤ b) ∧ w.grownBy w' none := by
  have HR := Lib.hid h
  obtain ⟨i0, hi, hz0, hz1, hz2⟩ := info_parts infoEfR
  have I := Lib.hid hi; have Z0 := Lib.hid hz0; have Z1 := Lib.hid hz1; have Z2 := Lib.hid hz2
  clear hi hz0 hz1 hz2
  obtain ⟨a, c, rfl, hn, HS, -⟩ := h
  have SIZES := Lib.hid HS
  have ST := Lib.hid (own_newE w _ (Nat.le_refl _) 49)
  clear HS
  go_enter Tryz.func14, Tryz.ntmps14
  go_wp2
  go_loopw [3, 5, 9] (fun out _ i wr => ∃ k : Nat, k ≤ l.length ∧ i = .int .i64 k ∧ Hid (wr.ownsRow w.heap.size 49 3 out k (cellsE (l.take k))) ∧ Hid (Below w.heap.size w wr)) (fun _ _ i _ => l.length - (intOf i).toNat)
  case atStart => exact ⟨0, Nat.zero_le _, rfl, ST, Lib.hid ((Below.refl _ _).alloc (Nat.le_refl _) _)⟩
  case round =>
    obtain ⟨k, hk, rfl, hrow, hB⟩ := hrel
    by_cases hlt : k < l.length
    · obtain ⟨b, off, c', f, e, hf, sn, sc, hb, c0, c1, c2⟩ := (HR.out.later hB.out).at k hlt
      cases e
      have HCF := Lib.hid (cellsE_take hf)
      have SZ := Lib.hid hB.out.size
      clear hf sn sc
      go_wp2_with (at_builtin; refine wpList_append_own _ rfl _ _ 41 rfl w.heap.size 49 i0 _ 3 40 Tryz.underlying41 I.out Z0.out Z1.out Z2.out rfl (by decide) _ _ _ rfl ((hrow.out.alloc _).alloc _) ⟨_, 0, none⟩ 1 1 [.int .i64 f.k, .string f.n, .string f.c] rfl rfl (newsAtE _ f _ _ (by simp)) (oneE f) (by unfold maxLen; omega) (by omega) (by have := SZ.out; simp; omega) ?_; intro v' w2 hown' hgrow2 hnil2)
      have HOWN := Lib.hid hown'
      have HB2 := Lib.hid (((hB.out.alloc hB.out.size (.cells #[.int .i64 f.k, .string f.n, .string f.c] 46)).alloc (by have := SZ.out; simp; omega) (.cells #[.int .i64 f.k, .string f.n, .string f.c] 49)).grown hgrow2 (by have := SZ.out; simp; omega) (fun j e => (hrow.out.lt j e).1))
      clear hown' hgrow2 hnil2
      go_roundw
      case rel => exact ⟨k + 1, by omega, by go_num, Lib.hid (by rw [HCF.out]; exact HOWN.out), HB2⟩
      case measure => simp [intOf]; omega
    · have hkl : k = l.length := by omega
      subst hkl
      have hrow' := hrow.out
      rw [List.take_of_length_le (Nat.le_refl _)] at hrow'
      have HROW := Lib.hid hrow'
      clear hrow' hrow
      go_wp2
      go_ret
      obtain ⟨e1, e2⟩ := erow_of_owns HROW.out (by omega) SIZES.out
      exact ⟨_, rfl, e1, e2, grown_of_below hB.out⟩
end Go.Proofs.YtbcemenfklgnkaaGreatDoor
