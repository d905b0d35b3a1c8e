/- The match of an expression's program, and what its groups have: matched, Parts. -/
import Derived.Test.YtgpmhnpacpgckaaDoorPkMatch
import Derived.Test.YtgpmhnpacpgckaaDoorPkPart
import Derived.Test.YtgpmhnpacpgckaaDoorPgOf
namespace Go.Proofs.YtgpmhnpacpgckaaDoor
open Go.RowKit

/-- what matched answers, the expression being right -/
def MtOut (r : Option (List Int)) (e : Ending) (w' : World) : Prop :=
  (r = none ∧ e = .returned (.tuple #[.slice none 0 0, .bool false, .nilIface])) ∨
  ∃ b k, r = some k ∧ e = .returned (.tuple #[.slice (some ⟨b, 0, none⟩) 20 20, .bool true, .nilIface]) ∧ w'.heap[b]? = some (.cells (intsV k).toArray 66 (0, 0)) ∧ k.length = 20
set_option maxRecDepth 100000 in
set_option maxHeartbeats 2000000 in
theorem cMatched (A : Nat → Addr) (x s : ByteArray) (r : Option (List Int)) (w : World) (hx : x.size ≤ 100) (hs : s.size ≤ 1000000) (hk : (parN x).2 = 0) (hl : (prgT x).length ≤ 1000) (hR : Run9 (prgT x) s [⟨0, 0, noK⟩] (fun _ _ => false) r) (hE : QEnv A w) :
    Calls Tryd.prog 16 #[.string x, .string s] w fun e w' => MtOut r e w' ∧ w.grownBy w' none := by
  have CP := Lib.hid (cProgOf A x w hx hE)
  rw [hk] at CP
  have CM := Lib.hid (fun a c W (h : CRow W (.slice a (prgT x).length c) (prgT x)) => cMatch9 (prgT x) s a c r W h hl hs hR)
  clear hE hR hk
  generalize prgT x = L at CP CM hl
  go_enter Tryd.func16, Tryd.ntmps16
  go_wp2_with fail
  refine CP.out.mono ?_
  rintro e w1 ⟨⟨a, c, he, hc⟩, g1⟩
  obtain rfl : e = .returned (.tuple #[.slice a L.length c, .nilIface]) := he
  have CM1 := Lib.hid (CM.out a c w1 hc)
  have G1 := Lib.hid g1
  clear hc g1 CM CP
  go_wp2_with fail
  refine CM1.out.mono ?_
  rintro e w2 ⟨hout, g2⟩
  have G2 := Lib.hid (G1.out.trans g2)
  clear g2 CM1
  rcases hout with ⟨rfl, rfl⟩ | ⟨b, k, rfl, rfl, hb, hk⟩
  · go_wp2
    go_ret3
    exact ⟨.inl ⟨rfl, rfl⟩, G2.out⟩
  · have HB := Lib.hid hb
    have HK := Lib.hid hk
    clear hb hk
    go_wp2
    go_ret3
    exact ⟨.inr ⟨b, k, rfl, rfl, HB.out, HK.out⟩, G2.out⟩

def textsV (l : List ByteArray) : List Value := l.map Value.string
def partsL (s : ByteArray) (k : List Int) (j : Nat) : List ByteArray := (List.range j).map fun (i : Nat) => partS s k (i : Int)
theorem parts_succ (s : ByteArray) (k : List Int) (j : Nat) : textsV (partsL s k (j + 1)) = textsV (partsL s k j) ++ [.string (partS s k j)] := by
  unfold partsL textsV; rw [List.range_succ]; simp
theorem parts_len (s : ByteArray) (k : List Int) (j : Nat) : (partsL s k j).length = j := by unfold partsL; simp
theorem infoS9 : (Tryd.prog.info? 9).map (fun i => (i.zero, i.size, i.bytes)) = some (some (.string ⟨#[]⟩), 1, 16) := by kernel_rfl
/-- what Parts answers where there is a match -/
def PtOut (s : ByteArray) (k : List Int) (e : Ending) (w' : World) : Prop :=
  ∃ b c, e = .returned (.tuple #[.slice (some ⟨b, 0, none⟩) 10 c, .bool true, .nilIface]) ∧ ∀ j, j < 10 → w'.cell? ⟨b, j, none⟩ = some (.string (partS s k j))
set_option maxRecDepth 100000 in
set_option maxHeartbeats 2000000 in
theorem cParts (A : Nat → Addr) (x s : ByteArray) (k : List Int) (w : World) (hx : x.size ≤ 100) (hs : s.size ≤ 1000000) (hk : (parN x).2 = 0) (hl : (prgT x).length ≤ 1000) (hR : Run9 (prgT x) s [⟨0, 0, noK⟩] (fun _ _ => false) (some k)) (hE : QEnv A w) :
    Calls Tryd.prog 11 #[.string x, .string s] w fun e w' => PtOut s k e w' ∧ w.grownBy w' none := by
  have CM := Lib.hid (cMatched A x s (some k) w hx hs hk hl hR hE)
  obtain ⟨i0, hi, hz0, hz1, hz2⟩ := info_parts infoS9
  have I := Lib.hid hi; have Z0 := Lib.hid hz0; have Z1 := Lib.hid hz1; have Z2 := Lib.hid hz2
  clear hi hz0 hz1 hz2 hE hR hk hl
  go_enter Tryd.func11, Tryd.ntmps11
  go_wp2_with fail
  refine CM.out.mono ?_
  rintro e w1 ⟨hout, g1⟩
  rcases hout with ⟨h, -⟩ | ⟨b, k', h, rfl, hb, hk⟩
  · cases h
  cases h
  have G1 := Lib.hid g1
  have KR := Lib.hid (irow_of_block hb hk 20)
  have HK := Lib.hid hk
  clear g1 hb hk CM
  go_upto_region 5 with (at_make; refine wpList_make_own _ rfl (.const (.int .i64 0)) (.const (.int .i64 10)) 36 rfl w1.heap.size 9 i0 _ 1 Tryd.underlying36 I.out Z0.out Z1.out .i64 .i64 _ 10 rfl rfl rfl (by rw [Z2.out]; omega) (by unfold maxLen; omega) (Nat.le_refl _) ?_; intro w2 hown2 hg2; have O2 := Lib.hid hown2; have G2 := Lib.hid hg2; clear hown2 hg2)
  go_wp2
  go_loopg [10, 11, 23] 10 (fun g v _ i wr => ∃ j : Nat, j + g = 10 ∧ i = .int .i64 j ∧ Hid (wr.ownsRow w1.heap.size 9 1 v j (textsV (partsL s k j))) ∧ Hid (w1.grownBy wr none))
  case atStart => exact ⟨0, rfl, rfl, O2, G2⟩
  case round =>
    obtain ⟨j, hj, rfl, hO, hG⟩ := hrel
    have HJ := Lib.hid hj
    have hj10 : j ≤ 10 := by omega
    clear hj
    by_cases hlt : j < 10
    · obtain ⟨va, vc, rfl⟩ := owns_shape hO.out
      have CP := Lib.hid (cPart s (.slice (some ⟨b, 0, none⟩) 20 20) k j wr (KR.out.grown hG.out) (by rw [HK.out]; omega))
      have HS := Lib.hid (parts_succ s k j)
      generalize partS s k j = x at CP HS
      go_wp2_with (first
        | (go_at_call 10; (with_reducible refine (CP.out).mono ?_); rintro e w5 ⟨rfl, g5⟩; have O5 := Lib.hid (hO.out.kept g5 (by cases va <;> simp [Value.ownBlock])); have G5 := Lib.hid (hG.out.trans g5); clear g5)
        | (at_builtin; refine wpList_append_own _ rfl _ _ 36 rfl w1.heap.size 9 i0 _ 1 16 Tryd.underlying36 I.out Z0.out Z1.out Z2.out rfl (by decide) _ _ _ rfl (O5.out.alloc _) ⟨_, 0, none⟩ 1 1 [.string x] rfl rfl (new_cell1 _ _ _ _ (by simp)) (one_val _ rfl) (by unfold maxLen; omega) (by omega) (by have := G5.out.size; simp; omega) ?_; intro v6 w6 hown6 hgrow6 _; have G6 := Lib.hid (G5.out.andThen ((World.grownBy_alloc w5 _ _).trans hgrow6) (fun j hj => .inl (O5.out.lt j hj).1)); have O6 := Lib.hid (show w6.ownsRow w1.heap.size 9 1 v6 (j + 1) (textsV (partsL s k (j + 1))) by rw [HS.out]; exact hown6); clear hown6 hgrow6))
      go_roundg (10 - (j + 1))
      case measure => have := HJ.out; omega
      case rel => exact ⟨j + 1, by omega, by go_num, O6, G6⟩
    · obtain rfl : j = 10 := by omega
      obtain ⟨g, cap, rfl, -, hc⟩ := row_cells hO.out (by omega)
      have HC := Lib.hid hc
      have G5 := Lib.hid (G1.out.trans hG.out)
      clear hc
      go_wp2
      go_ret3
      exact ⟨⟨g, cap, rfl, fun j hj => HC.out j _ (by unfold textsV partsL; simp [hj])⟩, G5.out⟩
end Go.Proofs.YtgpmhnpacpgckaaDoor
