/- Walks of package effect: a Touch of each. Effects compared. -/
import Derived.Test.YtbcemenfklgnkaaGreatDoorEfLists
import Derived.Laws.StructEq
namespace Go.Proofs.YtbcemenfklgnkaaGreatDoor
open Go.RowKit Go.Maps

def eqEf (f g : Ef) : Bool := f.k == g.k && f.n.toList == g.n.toList && f.c.toList == g.c.toList
theorem eqEf_self (f : Ef) : eqEf f f = true := by unfold eqEf; simp
theorem guardE (op : BinOp) (x y : Operand) (xs ys : Array Value) (w : World) : (eqGuard op 46 x y (.agg xs) (.agg ys)).run Tryz.prog w = .ok () w := run_eqGuard_agg w op _ x y xs ys (by kernel_rfl)
theorem neqEf (f g : Ef) (w : World) : (binOp .neq 46 (.agg #[.int .i64 f.k, .string f.n, .string f.c]) (.agg #[.int .i64 g.k, .string g.n, .string g.c])).run Tryz.prog w = .ok (.bool (!eqEf f g)) w := by
  have hS : Tryz.prog.underlying 46 = some (.struct (Tryz.prog.fieldsOf 46)) := by kernel_rfl
  have hp : Tryz.prog.stoodInHeld 46 = false := by kernel_rfl
  have u3 := Tryz.underlying3
  have a3 := Tryz.isAgg3
  have z3 := Tryz.sizeOf3
  have u9 := Tryz.underlying9
  have a9 := Tryz.isAgg9
  have z9 := Tryz.sizeOf9
  rw [run_neq_struct, show (10000 : Nat) = 9999 + 1 from rfl, run_equalIn_agg w 9999 _ _ _ hS hp]
  simp only [Program.fieldsOf, Tryz.underlying46]
  go_simp
  unfold eqEf
  by_cases h1 : (f.n.toList == g.n.toList) = true <;> by_cases h2 : (f.c.toList == g.c.toList) = true <;> by_cases h3 : (f.k == g.k) = true <;> simp_all

set_option maxHeartbeats 400000 in
theorem eTouch1 (s : ByteArray) (w : World) :
    Calls Tryz.prog 52 #[.string s] w fun e w' => e = .returned (.agg #[.int .i64 2, .string s, .string ⟨#[]⟩]) ∧ w.grownBy w' none := by
  go_enter Tryz.func52, Tryz.ntmps52
  go_wp2
  exact bodyPost_ret (v := .agg #[.int .i64 2, .string s, .string ⟨#[]⟩]) (by simp [results, Tryz.results52, go_sem]) rfl ⟨rfl, World.grownBy_alloc _ _ _⟩

theorem infoEf : (Tryz.prog.info? 46).map (fun i => (i.zero, i.size, i.bytes)) = some (some (.agg #[.int .i64 0, .string ByteArray.empty, .string ByteArray.empty]), 3, 40) := by kernel_rfl
theorem touch_take {ts : List ByteArray} {k : Nat} {s : ByteArray} (h : ts[k]? = some s) : touchL (ts.take (k + 1)) = touchL (ts.take k) ++ [⟨2, s, ⟨#[]⟩⟩] := by unfold touchL; rw [take_one _ k s h, List.map_append]; rfl

set_option maxRecDepth 100000 in
set_option maxHeartbeats 1000000 in
theorem eEachT (v : Value) (ts : List ByteArray) (w : World) (h : Row w v ts) (h60 : ts.length ≤ 60) :
    Calls Tryz.prog 51 #[v, .func (.func 52) #[] #[]] w fun e w' => ∃ v', e = .returned v' ∧ w'.ownsRow w.heap.size 46 3 v' ts.length (cellsE (touchL ts)) ∧ w.grownBy w' none := by
  have HR := Lib.hid h
  obtain ⟨i0, hi, hz0, hz1, hz2⟩ := info_parts infoEf
  have I := Lib.hid hi; have Z0 := Lib.hid hz0; have Z1 := Lib.hid hz1; have Z2 := Lib.hid hz2
  have eg : ∀ args w, (callFunc 52 args).run Tryz.prog w = .ok (.enter 52 args) w := enters_of Tryz.func52 (by kernel_rfl) rfl
  clear hi hz0 hz1 hz2
  obtain ⟨a, c, rfl, hn, -⟩ := h
  go_enter Tryz.func51, Tryz.ntmps51
  go_wp2
  go_loopw [5, 7, 10] (fun out _ i wr => ∃ k : Nat, k ≤ ts.length ∧ i = .int .i64 k ∧ Hid (wr.ownsRow w.heap.size 46 3 out k (cellsE (touchL (ts.take k)))) ∧ Hid (w.grownBy wr none)) (fun _ _ i _ => ts.length - (intOf i).toNat)
  case atStart => exact ⟨0, Nat.zero_le _, rfl, Lib.hid (World.ownsRow_nil _ _ _ _), Lib.hid (World.grownBy.refl _ _)⟩
  case round =>
    obtain ⟨k, hk, rfl, hrow, hG⟩ := hrel
    by_cases hlt : k < ts.length
    · obtain ⟨s, hs⟩ := get_of ts k hlt
      obtain ⟨a', c', e', -, hr⟩ := HR.out.grown hG.out
      cases e'
      obtain ⟨b, off, rfl, hb, hc⟩ := hr (by intro e; rw [e] at hlt; simp at hlt)
      have hcell := hc k s hs
      have HCF := Lib.hid (show cellsE (touchL (ts.take (k + 1))) = cellsE (touchL (ts.take k)) ++ [.int .i64 2, .string s, .string ⟨#[]⟩] by rw [touch_take hs, cellsE_snoc])
      have HC := Lib.hid (fun W => eTouch1 s W)
      clear hr hc hs
      go_wp2_with (first
        | (go_at_call 52; refine (HC.out _).mono ?_; rintro e w1 ⟨rfl, g1⟩; have G1 := Lib.hid (hG.out.trans g1); have O1 := Lib.hid (owns_kept hrow.out g1); clear g1)
        | (at_builtin; refine wpList_append_own _ rfl _ _ 23 rfl w.heap.size 46 i0 _ 3 40 Tryz.underlying23 I.out Z0.out Z1.out Z2.out rfl (by decide) _ _ _ rfl (O1.out.alloc _) ⟨_, 0, none⟩ 1 1 [.int .i64 2, .string s, .string ⟨#[]⟩] rfl rfl (newsAtE _ ⟨2, s, ⟨#[]⟩⟩ _ _ (by simp)) (oneE ⟨2, s, ⟨#[]⟩⟩) (by unfold maxLen; omega) (by omega) (by have := G1.out.size; simp; omega) ?_; intro v' w2 hown' hgrow2 hnil2; have HOWN := Lib.hid hown'; have G2 := Lib.hid ((G1.out.trans (World.grownBy_alloc w1 (.cells #[.int .i64 2, .string s, .string ⟨#[]⟩] 46) none)).andThen hgrow2 (fun j e => .inl (O1.out.lt j e).1)); clear hown' hgrow2 hnil2))
      go_roundw
      case rel => exact ⟨k + 1, by omega, by go_num, Lib.hid (by rw [HCF.out]; exact HOWN.out), G2⟩
      case measure => simp [intOf]; omega
    · have hkl : k = ts.length := by omega
      subst hkl
      have hrow' := hrow.out
      rw [List.take_of_length_le (Nat.le_refl _)] at hrow'
      have HROW := Lib.hid hrow'
      clear hrow' hrow
      go_wp2
      go_ret
      exact ⟨_, rfl, HROW.out, hG.out⟩

set_option maxHeartbeats 1000000 in
theorem eTouches (v : Value) (ts : List ByteArray) (w : World) (h : Row w v ts) (h60 : ts.length ≤ 60) (hs : ∀ x ∈ ts, x.size ≤ maxLen) :
    Calls Tryz.prog 27 #[v] w fun e w' => ∃ a c, e = .returned (.slice a ts.length c) ∧ ERow w' (.slice a ts.length c) (touchL ts) ∧ w.grownBy w' none := by
  have HE := Lib.hid (eEachT v ts w h h60)
  have SZ := Lib.hid (show ∀ f ∈ touchL ts, f.n.size ≤ maxLen ∧ f.c.size ≤ maxLen from fun f hf => by
    unfold touchL at hf
    obtain ⟨s, hm, rfl⟩ := List.mem_map.1 hf
    exact ⟨hs s hm, Nat.zero_le _⟩)
  obtain ⟨a, c, rfl, -, -⟩ := h
  clear hs
  go_enter Tryz.func27, Tryz.ntmps27
  go_wp2_with (go_at_call 51; refine HE.out.mono ?_; rintro e w1 ⟨v1, rfl, o1, g1⟩; have O1 := Lib.hid o1; have G1 := Lib.hid g1; clear o1 g1)
  go_ret
  have o1 := O1.out
  have e1 := (erow_of_owns (l := touchL ts) (by rw [touch_len]; exact o1) (by rw [touch_len]; omega) SZ.out).1
  obtain ⟨a', c', rfl⟩ := slice_of_owns o1
  exact ⟨a', c', rfl, e1, G1.out⟩
end Go.Proofs.YtbcemenfklgnkaaGreatDoor
