/- Walks of package effect: all names, and whether they are among the targets; a Touch of each. -/
import Derived.Test.YtbcemenfklgnkaaGreatDoorEfOf
import Derived.Test.YtbcemenfklgnkaaGreatDoorListF
import Derived.Test.YtbcemenfklgnkaaGreatDoorListR
import Derived.Test.YtbcemenfklgnkaaGreatDoorEfPlainB
namespace Go.Proofs.YtbcemenfklgnkaaGreatDoor
open Go.RowKit Go.Maps

/-- the names of effects -/
def namL (es : List Ef) : List ByteArray := es.map Ef.n
theorem nam_len (es : List Ef) : (namL es).length = es.length := by unfold namL; simp
theorem nam_take {es : List Ef} {k : Nat} {f : Ef} (h : es[k]? = some f) : namL (es.take (k + 1)) = namL (es.take k) ++ [f.n] := by unfold namL; rw [take_snocE h, List.map_append]; rfl
theorem Row.grown {w w' : World} {v : Value} {l : List ByteArray} (h : Row w v l) (hg : w.grownBy w' none) : Row w' v l := h.later (below_of_grown hg)

set_option maxHeartbeats 400000 in
theorem eName (f : Ef) (w : World) :
    Calls Tryz.prog 47 #[.agg #[.int .i64 f.k, .string f.n, .string f.c]] w fun e w' => e = .returned (.string f.n) ∧ w.grownBy w' none := by
  go_enter Tryz.func47, Tryz.ntmps47
  go_wp2
  go_ret
  exact ⟨rfl, World.grownBy_alloc _ _ _⟩

theorem new_str (w : World) (s : ByteArray) (t : TypeId) (n : Nat) (hn : n = w.heap.size) : ∀ j u, ([.string s] : List Value)[j]? = some u → (w.alloc (.cells #[.string s] t)).cell? ((⟨n, 0, none⟩ : Addr).add j) = some u := by
  subst hn
  exact World.news_of_block (cs := #[.string s]) (t := t) (fr := (0, 0)) (heap_alloc_new w _)
theorem one_str (s : ByteArray) : ∀ u ∈ ([.string s] : List Value), u.oneCell' = true := by intro u hu; simp at hu; subst hu; rfl

set_option maxRecDepth 100000 in
set_option maxHeartbeats 1000000 in
theorem eEach (v : Value) (es : List Ef) (w : World) (h : ERow w v es) (h60 : es.length ≤ 60) :
    Calls Tryz.prog 46 #[v, .func (.func 47) #[] #[]] w fun e w' => ∃ v', e = .returned v' ∧ w'.ownsRow w.heap.size 9 1 v' (namL es).length (cellsOf (namL es)) ∧ w.grownBy w' none := by
  have HR := Lib.hid h
  obtain ⟨i0, hi, hz0, hz1, hz2⟩ := info_parts infoStr
  have I := Lib.hid hi; have Z0 := Lib.hid hz0; have Z1 := Lib.hid hz1; have Z2 := Lib.hid hz2
  have eg : ∀ args w, (callFunc 47 args).run Tryz.prog w = .ok (.enter 47 args) w := enters_of Tryz.func47 (by kernel_rfl) rfl
  clear hi hz0 hz1 hz2
  obtain ⟨a, c, rfl, hn, -, -⟩ := h
  go_enter Tryz.func46, Tryz.ntmps46
  go_wp2
  go_loopw [5, 7, 10] (fun out _ i wr => ∃ k : Nat, k ≤ es.length ∧ i = .int .i64 k ∧ Hid (wr.ownsRow w.heap.size 9 1 out k (cellsOf (namL (es.take k)))) ∧ Hid (w.grownBy wr none)) (fun _ _ i _ => es.length - (intOf i).toNat)
  case atStart => exact ⟨0, Nat.zero_le _, rfl, Lib.hid (World.ownsRow_nil _ _ _ _), Lib.hid (World.grownBy.refl _ _)⟩
  case round =>
    obtain ⟨k, hk, rfl, hrow, hG⟩ := hrel
    by_cases hlt : k < es.length
    · obtain ⟨b, off, c', f, e, hf, sn, sc, hb, c0, c1, c2⟩ := (HR.out.grown hG.out).at k hlt
      cases e
      have HCF := Lib.hid (show cellsOf (namL (es.take (k + 1))) = cellsOf (namL (es.take k)) ++ [.string f.n] by rw [nam_take hf, cells_snoc])
      have SZ := Lib.hid hG.out.size
      have HC := Lib.hid (fun W => eName f W)
      have GX := Lib.hid (World.grownBy_alloc wr (.cells #[.int .i64 f.k, .string f.n, .string f.c] 46) none)
      clear hf sn sc
      go_wp2_with (first
        | (go_at_call 47; refine (HC.out _).mono ?_; rintro e w1 ⟨rfl, g1⟩; have G1 := Lib.hid (hG.out.trans (GX.out.trans g1)); have O1 := Lib.hid (owns_kept hrow.out (GX.out.trans g1)); clear g1)
        | (at_builtin; refine wpList_append_own _ rfl _ _ 51 rfl w.heap.size 9 i0 _ 1 16 Tryz.underlying51 I.out Z0.out Z1.out Z2.out rfl (by decide) _ _ _ rfl (O1.out.alloc _) ⟨_, 0, none⟩ 1 1 [.string f.n] rfl rfl (new_str _ f.n _ _ (by simp)) (one_str f.n) (by unfold maxLen; omega) (by omega) (by have := G1.out.size; simp; omega) ?_; intro v' w2 hown' hgrow2 hnil2; have HOWN := Lib.hid hown'; have G2 := Lib.hid ((G1.out.trans (World.grownBy_alloc w1 (.cells #[.string f.n] 9) none)).andThen hgrow2 (fun j e => .inl (O1.out.lt j e).1)); clear hown' hgrow2 hnil2))
      go_roundw
      case rel => exact ⟨k + 1, by omega, by go_num, Lib.hid (by rw [HCF.out]; exact HOWN.out), G2⟩
      case measure => simp [intOf]; omega
    · have hkl : k = es.length := by omega
      subst hkl
      have hrow' := hrow.out
      rw [List.take_of_length_le (Nat.le_refl _)] at hrow'
      have HROW := Lib.hid hrow'
      clear hrow' hrow
      go_wp2
      go_ret
      exact ⟨_, rfl, by rw [nam_len]; exact HROW.out, hG.out⟩

set_option maxHeartbeats 1000000 in
theorem eNames (v : Value) (es : List Ef) (w : World) (h : ERow w v es) (n40 : es.length ≤ 40) (hs : ∀ f ∈ es, f.n.size ≤ 100) :
    Calls Tryz.prog 23 #[v] w fun e w' => ∃ v', e = .returned v' ∧ Row w' v' (sortL (uni (namL es))) ∧ w.grownBy w' none := by
  have HE := Lib.hid (eEach v es w h (by omega))
  have SZ := Lib.hid (show ∀ x ∈ namL es, x.size ≤ 100 from fun x hx => by
    unfold namL at hx; obtain ⟨f, hf, rfl⟩ := List.mem_map.1 hx; exact hs f hf)
  have NL := Lib.hid (show (namL es).length ≤ 40 by rw [nam_len]; exact n40)
  have SL := Lib.hid (show (sortL (uni (namL es))).length ≤ 9223372036854775807 by
    rw [sort_len]; have := uni_len (namL es); have := NL.out; omega)
  clear h hs
  go_enter Tryz.func23, Tryz.ntmps23
  go_wp2_with (first
    | (go_at_call 46; refine HE.out.mono ?_; rintro e w1 ⟨v1, rfl, o1, g1⟩; have R1 := Lib.hid (row_of_owns o1 (by have := NL.out; omega)); have G1 := Lib.hid g1; clear o1 g1)
    | (go_at_call 45; refine (nSorted _ (namL es) _ R1.out NL.out SZ.out).mono ?_; rintro e w2 ⟨v2, rfl, o2, b2⟩; have R2 := Lib.hid (row_of_owns o2 SL.out); have G2 := Lib.hid (G1.out.trans (grown_of_below b2)); clear o2 b2))
  go_ret
  exact ⟨_, rfl, R2.out, G2.out⟩

/-! Own -/
set_option maxHeartbeats 1000000 in
theorem eOwn1 (f : Ef) (tv : Value) (ts : List ByteArray) (p : Nat) (w : World) (hp : w.cell? ⟨p, 0, none⟩ = some tv) (h : Row w tv ts) :
    Calls Tryz.prog 43 #[.agg #[.int .i64 f.k, .string f.n, .string f.c], .pointer (some ⟨p, 0, none⟩)] w fun e w' => e = .returned (.bool (!hasB ts f.n)) ∧ w.grownBy w' none := by
  have h0 := cell_al hp
  have HN := Lib.hid (Nat.ne_of_lt (cell_block hp))
  have HH := Lib.hid (fun W hW => nHas tv ts f.n W hW)
  have HR := Lib.hid h
  have GX := Lib.hid (World.grownBy_alloc w (.cells #[.int .i64 f.k, .string f.n, .string f.c] 46) none)
  obtain ⟨a, c, rfl, -, -⟩ := h
  go_enter Tryz.func43, Tryz.ntmps43
  go_wp2_with (go_at_call 44; refine (HH.out _ (HR.out.grown GX.out)).mono ?_; rintro e w' ⟨rfl, rfl⟩)
  go_ret
  exact ⟨rfl, GX.out⟩

def outE (ts : List ByteArray) (f : Ef) : Bool := !hasB ts f.n
def outI (es : List Ef) (ts : List ByteArray) : Int := match es.findIdx? (outE ts) with | some i => i | none => -1
theorem outI_own (es : List Ef) (ts : List ByteArray) : (!decide (0 ≤ outI es ts)) = ownE es ts := by
  unfold outI ownE
  cases h : es.findIdx? (outE ts) with
  | none =>
    rw [List.findIdx?_eq_none_iff] at h
    have : es.all (fun e => hasB ts e.n) = true := List.all_eq_true.2 fun e he => by
      have := h e he; unfold outE at this; simpa using this
    rw [this]; rfl
  | some i =>
    rw [List.findIdx?_eq_some_iff_getElem] at h
    obtain ⟨hi, h1, -⟩ := h
    have : es.all (fun e => hasB ts e.n) = false := List.all_eq_false.2 ⟨es[i], List.getElem_mem hi, by unfold outE at h1; simpa using h1⟩
    rw [this]
    simp
theorem outI_hit {es : List Ef} {ts : List ByteArray} {k : Nat} {f : Ef} (h : es[k]? = some f) (hf : outE ts f = true) (ha : (es.take k).any (outE ts) = false) : outI es ts = k := by
  unfold outI
  obtain ⟨hk, e⟩ := List.getElem?_eq_some_iff.1 h
  have : es.findIdx? (outE ts) = some k := by
    rw [List.findIdx?_eq_some_iff_getElem]
    refine ⟨hk, by rw [e]; exact hf, fun j hj => ?_⟩
    rw [List.any_eq_false] at ha
    have h2 := ha es[j] (List.mem_take_iff_getElem.2 ⟨j, by omega, rfl⟩)
    simpa using h2
  rw [this]
theorem outI_none {es : List Ef} {ts : List ByteArray} {k : Nat} (hk : es.length ≤ k) (ha : (es.take k).any (outE ts) = false) : outI es ts = -1 := by
  rw [List.take_of_length_le hk, List.any_eq_false] at ha
  unfold outI
  have : es.findIdx? (outE ts) = none := List.findIdx?_eq_none_iff.2 fun x hx => by simpa using ha x hx
  rw [this]

set_option maxRecDepth 100000 in
set_option maxHeartbeats 1000000 in
theorem eIndex (v tv : Value) (es : List Ef) (ts : List ByteArray) (p : Nat) (w : World) (h : ERow w v es) (hp : w.cell? ⟨p, 0, none⟩ = some tv) (ht : Row w tv ts) :
    Calls Tryz.prog 65 #[v, .func (.func 43) #[] #[.pointer (some ⟨p, 0, none⟩)]] w fun e w' => e = .returned (.int .i64 (outI es ts)) ∧ w.grownBy w' none := by
  have HR := Lib.hid h; have HP := Lib.hid hp; have HT := Lib.hid ht
  obtain ⟨a, c, rfl, hn, -, -⟩ := h
  have eg : ∀ args w, (callFunc 43 args).run Tryz.prog w = .ok (.enter 43 args) w := enters_of Tryz.func43 (by kernel_rfl) rfl
  clear hp ht
  go_enter Tryz.func65, Tryz.ntmps65
  go_wp2
  go_loopw [5, 8] (fun _ i wr => ∃ k : Nat, k ≤ es.length ∧ i = .int .i64 k ∧ Hid ((es.take k).any (outE ts) = false) ∧ Hid (w.grownBy wr none)) (fun _ i _ => es.length - (intOf i).toNat)
  case atStart => exact ⟨0, Nat.zero_le _, rfl, Lib.hid rfl, Lib.hid (World.grownBy.refl _ _)⟩
  case round =>
    obtain ⟨k, hk, rfl, ha, hG⟩ := hrel
    by_cases hlt : k < es.length
    · obtain ⟨b, off, c', f, e, hf, sn, sc, hb, c0, c1, c2⟩ := (HR.out.grown hG.out).at k hlt
      cases e
      have Hf := Lib.hid hf
      have hcon := fun W (hW : w.grownBy W none) => eOwn1 f tv ts p W (hW.cell HP.out (by simp)) (HT.out.grown hW)
      clear hf sn sc
      cases hq : hasB ts f.n
      · rw [hq] at hcon
        have HC := Lib.hid hcon
        have HI := Lib.hid (outI_hit (ts := ts) Hf.out (show outE ts f = true by unfold outE; rw [hq]; rfl) ha.out)
        clear hcon hq ha
        go_wp2_with (go_at_call 43; refine (HC.out _ hG.out).mono ?_; rintro e w1 ⟨rfl, hg⟩; have G := Lib.hid (hG.out.trans hg); clear hg)
        go_ret
        exact ⟨ret_int HI.out.symm, G.out⟩
      · rw [hq] at hcon
        have HC := Lib.hid hcon
        have HA := Lib.hid (take_any_snocE Hf.out (outE ts) ha.out (by unfold outE; rw [hq]; rfl))
        clear hcon hq ha
        go_wp2_with (go_at_call 43; refine (HC.out _ hG.out).mono ?_; rintro e w1 ⟨rfl, hg⟩; have G := Lib.hid (hG.out.trans hg); clear hg)
        go_roundw
        case rel => exact ⟨k + 1, by omega, by go_num, HA, G⟩
        case measure => simp [intOf]; omega
    · have HI := Lib.hid (outI_none (ts := ts) (show es.length ≤ k by omega) ha.out)
      go_wp2
      go_ret
      exact ⟨ret_int HI.out.symm, hG.out⟩

set_option maxHeartbeats 1000000 in
theorem eOwn (v tv : Value) (es : List Ef) (ts : List ByteArray) (w : World) (h : ERow w v es) (ht : Row w tv ts) :
    Calls Tryz.prog 21 #[v, tv] w fun e w' => e = .returned (.bool (ownE es ts)) ∧ w.grownBy w' none := by
  have G := Lib.hid (World.grownBy_alloc w (.cells #[tv] 51) none)
  have HI := Lib.hid (eIndex v tv es ts w.heap.size (w.alloc (.cells #[tv] 51)) (h.grown G.out) (by simp) (ht.grown G.out))
  have HO := Lib.hid (outI_own es ts)
  have HC := Lib.hid (show Calls Tryz.prog 42 #[v, .func (.func 43) #[] #[.pointer (some ⟨w.heap.size, 0, none⟩)]] (w.alloc (.cells #[tv] 51)) fun e w' => e = .returned (.bool (decide (0 ≤ outI es ts))) ∧ (w.alloc (.cells #[tv] 51)).grownBy w' none by
    generalize (w.alloc (.cells #[tv] 51)) = w1 at *
    generalize w.heap.size = p at *
    obtain ⟨a, c, rfl, -, -, -⟩ := h
    clear G HO
    generalize outI es ts = i at *
    go_enter Tryz.func42, Tryz.ntmps42
    go_wp2_with (go_at_call 65; refine (HI.out).mono ?_; rintro e w2 ⟨rfl, hg⟩; have G2 := Lib.hid hg; clear hg)
    go_ret
    exact ⟨rfl, G2.out⟩)
  obtain ⟨a, c, rfl, -, -, -⟩ := h
  obtain ⟨a2, c2, rfl, -, -⟩ := ht
  clear HI
  generalize decide (0 ≤ outI es ts) = d at *
  go_enter Tryz.func21, Tryz.ntmps21
  go_wp2_with (go_at_call 42; refine (HC.out).mono ?_; rintro e w1 ⟨rfl, hg⟩; have G2 := Lib.hid (G.out.trans hg); clear hg)
  go_ret
  rw [← HO.out]
  exact ⟨rfl, G2.out⟩
end Go.Proofs.YtbcemenfklgnkaaGreatDoor
