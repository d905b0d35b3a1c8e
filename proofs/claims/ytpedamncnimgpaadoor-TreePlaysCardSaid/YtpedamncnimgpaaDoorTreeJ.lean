/- Walks of package tree: Files. -/
import Derived.Test.YtpedamncnimgpaaDoorTreeI
import Derived.Test.YtpedamncnimgpaaDoorFileRow
namespace Go.Proofs.YtpedamncnimgpaaDoor
open Go.RowKit Go.Maps

theorem MapIs.key_size {w : World} {b : Nat} {l : List Fl} (h : MapIs w b l) {f : Fl} (hf : f ∈ l) : f.n.size ≤ maxLen := by
  obtain ⟨es, he, hk⟩ := World.ownsMap.keysOf h
  unfold toD at he
  rw [DataW.map.injEq] at he
  subst he
  obtain ⟨v, hv⟩ := hk (entF f) (List.mem_map_of_mem hf)
  obtain ⟨x, _, e, hx⟩ := Maps.keyOf_str Tryd.underlying9 hv
  have : f.n.data.toList = x := by
    have e' : keyS f.n = .string x := e
    unfold keyS at e'
    rwa [Lit.string.injEq] at e'
  rw [← this, Array.length_toList] at hx
  exact hx
theorem getL_rising {l : List Fl} (h : Rising l) {f : Fl} (hf : f ∈ l) : getL l f.n = f := by
  have hh : hasL l f.n = true := by
    unfold hasL; rw [List.any_eq_true]; exact ⟨f, hf, isN_self f⟩
  obtain ⟨g, hg⟩ := hasL_find.1 hh
  rw [getL_find hg]
  exact datF_unique h (List.mem_of_find?_eq_some hg) hf (find_name hg)
/-- the k-th name of a slice of names -/
theorem names_at {w : World} {base : Nat} {a : Option Addr} {c : Nat} {l : List Fl} (h : w.ownsRow base 9 1 (.slice a l.length c) l.length (nameVs l)) {k : Nat} {f : Fl} (hf : l[k]? = some f) :
    ∃ g, a = some ⟨g, 0, none⟩ ∧ base ≤ g ∧ g < w.heap.size ∧ w.cell? ⟨g, k, none⟩ = some (.string f.n) := by
  have hk : k < l.length := (List.getElem?_eq_some_iff.1 hf).1
  rcases h.2 with ⟨hv, h0⟩ | ⟨g, cap, cur, hv, hb, hg, h1, h2, h3, h4⟩
  · omega
  · cases hv
    refine ⟨g, rfl, hb, (Array.getElem?_eq_some_iff.1 hg).1, ?_⟩
    have := h.cells (g := g) rfl k (.string f.n) (by unfold nameVs; rw [List.getElem?_map, hf]; rfl)
    rw [Addr.add_lit] at this
    simpa using this

set_option maxRecDepth 100000 in
set_option maxHeartbeats 1000000 in
theorem tFiles (p b : Nat) (l : List Fl) (w : World) (h : IsTree w p b l) :
    Calls Tryd.prog 34 #[.pointer (some ⟨p, 0, none⟩)] w fun e w' => ∃ a c, e = .returned (.slice a l.length c) ∧ FC w' (.slice a l.length c) l ∧ w.grownBy w' none := by
  have HT := Lib.hid h
  have h40 : l.length ≤ 40 := h.2.2
  obtain ⟨i0, hi, hz0, hz1, hz2⟩ := info_parts infoFile
  have I := Lib.hid hi; have Z0 := Lib.hid hz0; have Z1 := Lib.hid hz1; have Z2 := Lib.hid hz2
  have HRI := Lib.hid (MapIs.rising h.2.1)
  clear hi hz0 hz1 hz2 h
  go_enter Tryd.func34, Tryd.ntmps34
  go_wp2_with fail
  refine (tNames p b l _ HT.out).mono ?_
  rintro e w1 ⟨a, c, rfl, ho, hb⟩
  have HO := Lib.hid ho; have HB := Lib.hid hb
  have T1 := Lib.hid (HT.out.kept (grown_of_below hb) (by simp) (by simp))
  clear ho hb
  go_wp2
  go_loopw [3, 5, 9] (fun out _ i wr => ∃ k : Nat, k ≤ l.length ∧ i = .int .i64 k ∧ Hid (wr.ownsRow w1.heap.size 31 3 out k (cellsF (l.take k))) ∧ Hid (Below w1.heap.size w1 wr)) (fun _ _ i _ => l.length - (intOf i).toNat)
  case atStart => exact ⟨0, Nat.zero_le _, rfl, Lib.hid ⟨rfl, .inl ⟨rfl, rfl⟩⟩, Lib.hid (Below.refl _ _)⟩
  case round =>
    obtain ⟨k, hk, rfl, hrow, hB⟩ := hrel
    by_cases hlt : k < l.length
    · have hf : l[k]? = some l[k] := List.getElem?_eq_getElem hlt
      obtain ⟨f, ef⟩ : ∃ f, f = l[k] := ⟨_, rfl⟩
      rw [← ef] at hf
      obtain ⟨g, rfl, -, hg, hcell⟩ := names_at HO.out hf
      have hcell2 := (hB.out.cell (p := ⟨g, k, none⟩) hg).trans hcell
      have TR := Lib.hid (T1.out.kept (grown_of_below hB.out) (by simp) (by simp))
      have hmem : f ∈ l := List.mem_of_getElem? hf
      have hl := TR.out.2.1.look (MapIs.key_size TR.out.2.1 hmem)
      rw [getL_rising HRI.out hmem] at hl
      have HCF := Lib.hid (cellsF_take hf)
      have SZ := Lib.hid hB.out.size
      clear hcell hf ef hmem hg
      go_wp2_with (first
        | (go_at_call 28; refine (tAll p b _ TR.out.1).mono ?_; rintro e w' ⟨rfl, rfl⟩)
        | (at_builtin; refine wpList_append_own _ rfl _ _ 48 rfl w1.heap.size 31 i0 _ 3 40 Tryd.underlying48 I.out Z0.out Z1.out Z2.out rfl (by decide) _ _ _ rfl (hrow.out.alloc _) ⟨wr.heap.size, 0, none⟩ 1 1 [.string f.n, .string f.c, .int .i64 f.t] rfl rfl (newsF _ _ _) (oneF f) (by unfold maxLen; omega) (by omega) (by have := SZ.out; simp; omega) ?_; intro v' w2 hown' hgrow2 hnil2))
      have HOWN := Lib.hid hown'
      have HB2 := Lib.hid ((hB.out.alloc hB.out.size (.cells #[.string f.n, .string f.c, .int .i64 f.t] 31)).grown hgrow2 (by have := SZ.out; simp; omega) (fun j e => (hrow.out.lt j e).1))
      clear hown' hgrow2 hnil2
      go_roundw
      case rel => exact ⟨k + 1, by omega, by go_num, Lib.hid (by rw [HCF.out]; exact HOWN.out), HB2⟩
      case measure => simp [intOf]; omega
    · have hkl : k = l.length := by omega
      subst hkl
      have hrow' := hrow.out
      rw [List.take_of_length_le (Nat.le_refl _)] at hrow'
      have HROW := Lib.hid hrow'
      clear hrow' hrow
      go_wp2
      go_ret
      obtain ⟨a', c', rfl⟩ := slice_of_owns HROW.out
      exact ⟨a', c', rfl, fc_of_owns HROW.out (by omega), (grown_of_below HB.out).trans (grown_of_below hB.out)⟩
end Go.Proofs.YtpedamncnimgpaaDoor
