/- Walks of package ar: Parse, Is. Walks of package ar: where a list has a member of a name; Find. Walks of package ar: Find. Walks of package ar: Set. The archive without members. Plain facts on what is set in an archive. -/
import Derived.Test.YtbcemenfklgnkaaGreatDoorArG
namespace Go.Proofs.YtbcemenfklgnkaaGreatDoor
open Go.RowKit

/-- what Parse answers -/
def ParsePost (s : ByteArray) (A : Nat → Addr) (w : World) (e : Ending) (w' : World) : Prop :=
  (archOf s = none ∧ e = .returned (.tuple #[.slice none 0 0, .iface 236 (.pointer (some (A 3)))]) ∧ w.grownBy w' none) ∨
  (∃ (l : List Mb) (v : Value), archOf s = some l ∧ e = .returned (.tuple #[v, .nilIface]) ∧ OwnM w' w.heap.size 113 v l ∧ w.grownBy w' none)
theorem ne_ba {x y : ByteArray} (h : x ≠ y) : (x.toList == y.toList) = false ∧ (x.toList != y.toList) = true := by
  have : (x.toList == y.toList) = false := by
    rw [beq_eq_false_iff_ne, Lib.toList_data, Lib.toList_data]
    exact fun e => h (ba_ext e)
  exact ⟨this, by rw [bne, this]; rfl⟩

set_option maxRecDepth 100000 in
set_option maxHeartbeats 4000000 in
theorem aParse (s : ByteArray) (A : Nat → Addr) (w : World) (hE : Env A w) (hs : s.size ≤ maxLen) :
    Calls Tryz.prog 86 #[.string s] w (ParsePost s A w) := by
  unfold maxLen at hs
  have HE := Lib.hid hE
  clear hE
  by_cases h9 : 900 < s.size
  · have HN := Lib.hid (archOf_none (s := s) (fun l hl => by have := arch_len hl; omega))
    have he := HE.out.e3
    go_enter Tryz.func86, Tryz.ntmps86
    go_wp2
    go_quiet (fail)
    go_wp2
    go_ret2
    exact .inl ⟨HN.out, rfl, grown_drewN (World.grownBy.refl _ _) _⟩
  have HS := Lib.hid (aSplit s A w HE.out (by omega))
  go_enter Tryz.func86, Tryz.ntmps86
  go_wp2_with fail
  refine HS.out.mono ?_
  rintro e w1 ⟨v, acc, ok, rfl, ho, hsum, hy, hn, hg⟩
  have G1 := Lib.hid hg
  cases ok
  · have HN := Lib.hid (archOf_none (hn rfl))
    have he := (HE.out.grown hg).e3
    clear ho hsum hy hn hg
    go_wp2
    go_quiet (fail)
    go_wp2
    go_ret2
    exact .inl ⟨HN.out, rfl, grown_drewN G1.out _⟩
  · have O1 := Lib.hid ho; have Y1 := Lib.hid (hy rfl)
    have E1 := Lib.hid (HE.out.grown hg)
    by_cases hk : makeE acc = 0
    · obtain ⟨x, hx, -⟩ := some_ba (makeL acc)
      have HM := Lib.hid (aMake_yes v acc A w1 O1.out.row E1.out hk hx)
      by_cases hxs : x = s
      · subst hxs
        have HA := Lib.hid (archOf_some (s := x) (l := acc) ⟨hk, hx⟩)
        clear ho hsum hy hn hg hk hx
        go_wp2_with fail
        refine HM.out.mono ?_
        rintro e w2 ⟨rfl, hg2⟩
        have O2 := Lib.hid (O1.out.kept hg2); have G2 := Lib.hid (G1.out.trans hg2)
        clear hg2
        go_wp2
        go_ret2
        exact .inr ⟨acc, v, HA.out, rfl, O2.out, G2.out⟩
      · have HN := Lib.hid (archOf_none (s := s) (fun l hl => by
          have := Y1.out l hl
          subst this
          exact hxs (ba_ext (hx.trans hl.2.symm))))
        obtain ⟨q1, q2⟩ := ne_ba hxs
        clear ho hsum hy hn hg hk hx hxs
        go_wp2_with fail
        refine HM.out.mono ?_
        rintro e w2 ⟨rfl, hg2⟩
        have G2 := Lib.hid (G1.out.trans hg2)
        have he := (E1.out.grown hg2).e3
        clear hg2
        go_wp2
        go_quiet (fail)
        go_wp2
        go_ret2
        exact .inl ⟨HN.out, rfl, grown_drewN G2.out _⟩
    · have HM := Lib.hid (aMake_no v acc A w1 O1.out.row E1.out (by omega) hk)
      have HN := Lib.hid (archOf_none (s := s) (fun l hl => by
        have := Y1.out l hl
        subst this
        exact hk hl.1))
      clear ho hsum hy hn hg hk
      go_wp2_with fail
      refine HM.out.mono ?_
      rintro e w2 ⟨rfl, hg2⟩
      have G2 := Lib.hid (G1.out.trans hg2)
      have he := (E1.out.grown hg2).e3
      clear hg2
      go_wp2
      go_quiet (fail)
      go_wp2
      go_ret2
      exact .inl ⟨HN.out, rfl, grown_drewN G2.out _⟩
theorem aParse_no {s : ByteArray} {A : Nat → Addr} {w : World} (hE : Env A w) (hs : s.size ≤ maxLen) (h : archOf s = none) :
    Calls Tryz.prog 86 #[.string s] w fun e w' => e = .returned (.tuple #[.slice none 0 0, .iface 236 (.pointer (some (A 3)))]) ∧ w.grownBy w' none :=
  (aParse s A w hE hs).mono fun e w' hp => by
    rcases hp with ⟨_, h1, h2⟩ | ⟨l, v, h1, _⟩
    · exact ⟨h1, h2⟩
    · rw [h] at h1; cases h1
theorem aParse_yes {s : ByteArray} {A : Nat → Addr} {w : World} (hE : Env A w) (hs : s.size ≤ maxLen) {l : List Mb} (h : archOf s = some l) :
    Calls Tryz.prog 86 #[.string s] w fun e w' => ∃ v, e = .returned (.tuple #[v, .nilIface]) ∧ OwnM w' w.heap.size 113 v l ∧ w.grownBy w' none :=
  (aParse s A w hE hs).mono fun e w' hp => by
    rcases hp with ⟨h1, _⟩ | ⟨l', v, h1, h2, h3, h4⟩
    · rw [h] at h1; cases h1
    · rw [h] at h1; obtain rfl := Option.some.inj h1; exact ⟨v, h2, h3, h4⟩
end Go.Proofs.YtbcemenfklgnkaaGreatDoor

namespace Go.Proofs.YtbcemenfklgnkaaGreatDoor
open Go.RowKit

/-- where a list has a member of a name -/
def findI (l : List Mb) (nm : ByteArray) : Option Nat := l.findIdx? fun m => m.n.toList == nm.toList
def idxI (l : List Mb) (nm : ByteArray) : Int := match findI l nm with | none => -1 | some i => i
theorem findI_hit {l : List Mb} {nm : ByteArray} {k : Nat} {m : Mb} (h : l[k]? = some m) (hm : (m.n.toList == nm.toList) = true) (hb : ∀ j, j < k → ∀ x, l[j]? = some x → (x.n.toList == nm.toList) = false) : findI l nm = some k := by
  unfold findI
  obtain ⟨hk, rfl⟩ := List.getElem?_eq_some_iff.1 h
  rw [List.findIdx?_eq_some_iff_getElem]
  refine ⟨hk, hm, fun j hj => ?_⟩
  have := hb j hj _ (List.getElem?_eq_getElem (by omega))
  simpa using this
theorem findI_not {l : List Mb} {nm : ByteArray} (hb : ∀ j, j < l.length → ∀ x, l[j]? = some x → (x.n.toList == nm.toList) = false) : findI l nm = none := by
  unfold findI
  rw [List.findIdx?_eq_none_iff]
  intro x hx
  obtain ⟨j, hj⟩ := List.getElem?_of_mem hx
  have := hb j (List.getElem?_eq_some_iff.1 hj).1 x hj
  exact this
theorem findI_get {l : List Mb} {nm : ByteArray} {k : Nat} (h : findI l nm = some k) : ∃ m, l[k]? = some m ∧ m.n = nm := by
  unfold findI at h
  rw [List.findIdx?_eq_some_iff_getElem] at h
  obtain ⟨hk, hm, -⟩ := h
  exact ⟨l[k], List.getElem?_eq_getElem hk, eq_of_toList.1 hm⟩
theorem findI_none {l : List Mb} {nm : ByteArray} (h : findI l nm = none) : ∀ m ∈ l, m.n ≠ nm := by
  unfold findI at h
  rw [List.findIdx?_eq_none_iff] at h
  exact fun m hm => ne_of_toList.1 (h m hm)
theorem findI_nil (nm : ByteArray) : findI [] nm = none := rfl

set_option maxHeartbeats 400000 in
theorem aEq (m : Mb) (nm : ByteArray) (p : Nat) (w : World) (hp : w.cell? ⟨p, 0, none⟩ = some (.string nm)) :
    Calls Tryz.prog 108 #[valM m, .pointer (some ⟨p, 0, none⟩)] w fun e w' => e = .returned (.bool (m.n.toList == nm.toList)) ∧ w.grownBy w' none := by
  have h0 := cell_al hp
  have hb := cell_block hp
  have HN := Lib.hid (Nat.ne_of_lt hb)
  unfold valM
  go_enter Tryz.func108, Tryz.ntmps108
  go_wp2
  go_ret
  exact ⟨rfl, World.grownBy_alloc _ _ _⟩

set_option maxRecDepth 100000 in
set_option maxHeartbeats 1000000 in
theorem aIndex (v : Value) (l : List Mb) (nm : ByteArray) (p : Nat) (w : World) (h : MRow w v l) (hp : w.cell? ⟨p, 0, none⟩ = some (.string nm)) :
    Calls Tryz.prog 107 #[v, .func (.func 108) #[] #[.pointer (some ⟨p, 0, none⟩)]] w fun e w' => e = .returned (.int .i64 (idxI l nm)) ∧ w.grownBy w' none := by
  have HR := Lib.hid h; have HP := Lib.hid hp
  obtain ⟨a, c, rfl, hn, -, -⟩ := h
  have eg : ∀ args w, (callFunc 108 args).run Tryz.prog w = .ok (.enter 108 args) w := enters_of Tryz.func108 (by kernel_rfl) rfl
  clear hp
  go_enter Tryz.func107, Tryz.ntmps107
  go_wp2
  go_loopw [5, 8] (fun _ i wr => ∃ k : Nat, k ≤ l.length ∧ i = .int .i64 k ∧ Hid (∀ j, j < k → ∀ x, l[j]? = some x → (x.n.toList == nm.toList) = false) ∧ Hid (w.grownBy wr none)) (fun _ i _ => l.length - (intOf i).toNat)
  case atStart => exact ⟨0, Nat.zero_le _, rfl, Lib.hid (fun j h => absurd h (Nat.not_lt_zero _)), Lib.hid (World.grownBy.refl _ _)⟩
  case round =>
    obtain ⟨k, hk, rfl, ha, hG⟩ := hrel
    by_cases hlt : k < l.length
    · obtain ⟨b, off, c', m, e, hm, sn, sc, hb, c0, c1, c2⟩ := (HR.out.grown hG.out).at k hlt
      cases e
      have Hm := Lib.hid hm
      have hcon := aEq m nm p wr (hG.out.cell HP.out (by simp))
      unfold valM at hcon
      clear hm sn sc
      cases hq : (m.n.toList == nm.toList)
      · rw [hq] at hcon
        have HC := Lib.hid hcon
        have HA := Lib.hid (show ∀ j, j < k + 1 → ∀ x, l[j]? = some x → (x.n.toList == nm.toList) = false by
          intro j hj x hx
          rcases Nat.lt_succ_iff_lt_or_eq.1 hj with h | rfl
          · exact ha.out j h x hx
          · rw [Hm.out] at hx; cases hx; exact hq)
        clear hcon hq ha
        go_wp2_with (go_at_call 108; refine (HC.out).mono ?_; rintro e w1 ⟨rfl, hg⟩; have G := Lib.hid (hG.out.trans hg); clear hg)
        go_roundw
        case rel => exact ⟨k + 1, by omega, by go_num, HA, G⟩
        case measure => simp [intOf]; omega
      · have HI := Lib.hid (show idxI l nm = k by unfold idxI; rw [findI_hit Hm.out hq ha.out])
        rw [hq] at hcon
        have HC := Lib.hid hcon
        clear hcon hq ha
        go_wp2_with (go_at_call 108; refine (HC.out).mono ?_; rintro e w1 ⟨rfl, hg⟩; have G := Lib.hid (hG.out.trans hg); clear hg)
        go_ret
        exact ⟨ret_int HI.out.symm, G.out⟩
    · obtain rfl : k = l.length := by omega
      have HI := Lib.hid (show idxI l nm = -1 by unfold idxI; rw [findI_not ha.out])
      go_wp2
      go_ret
      exact ⟨ret_int HI.out.symm, hG.out⟩

set_option maxHeartbeats 1000000 in
theorem aAt (v : Value) (l : List Mb) (nm : ByteArray) (w : World) (h : MRow w v l) :
    Calls Tryz.prog 87 #[v, .string nm] w fun e w' => e = .returned (.int .i64 (idxI l nm)) ∧ w.grownBy w' none := by
  have HI := Lib.hid (aIndex v l nm w.heap.size (w.alloc (.cells #[.string nm] 9)) (h.grown (World.grownBy_alloc _ _ _)) (by simp))
  have G := Lib.hid (World.grownBy_alloc w (.cells #[.string nm] 9) none)
  clear h
  go_enter Tryz.func87, Tryz.ntmps87
  go_wp2_with (go_at_call 107; refine (HI.out).mono ?_; rintro e w1 ⟨rfl, hg⟩; have G2 := Lib.hid (G.out.trans hg); clear hg)
  go_ret
  exact ⟨rfl, G2.out⟩
end Go.Proofs.YtbcemenfklgnkaaGreatDoor

namespace Go.Proofs.YtbcemenfklgnkaaGreatDoor
open Go.RowKit

/-- a text's member of a name -/
noncomputable def foundM (s nm : ByteArray) : Option Mb := (archOf s).bind fun l => (findI l nm).bind fun i => l[i]?
theorem found_none {s nm : ByteArray} (h : archOf s = none) : foundM s nm = none := by unfold foundM; rw [h]; rfl
theorem found_miss {s nm : ByteArray} {l : List Mb} (h : archOf s = some l) (h2 : findI l nm = none) : foundM s nm = none := by unfold foundM; rw [h]; simp [h2]
theorem found_hit {s nm : ByteArray} {l : List Mb} {i : Nat} {m : Mb} (h : archOf s = some l) (h2 : findI l nm = some i) (h3 : l[i]? = some m) : foundM s nm = some m := by unfold foundM; rw [h]; simp [h2, h3]
def FindPost (s nm : ByteArray) (w : World) (e : Ending) (w' : World) : Prop :=
  (foundM s nm = none ∧ e = .returned (.tuple #[valM nilM, .bool false]) ∧ w.grownBy w' none) ∨ (∃ m, foundM s nm = some m ∧ e = .returned (.tuple #[valM m, .bool true]) ∧ w.grownBy w' none)

set_option maxRecDepth 100000 in
set_option maxHeartbeats 4000000 in
theorem aFind (s nm : ByteArray) (A : Nat → Addr) (w : World) (hE : Env A w) (hs : s.size ≤ maxLen) :
    Calls Tryz.prog 71 #[.string s, .string nm] w (FindPost s nm w) := by
  have HE := Lib.hid hE
  have HB := Lib.hid (box_new w nilM)
  have G0 := Lib.hid (World.grownBy_alloc w (.cells #[.string nilM.n, .int .i64 nilM.t, .string nilM.c] 113) none)
  clear hE
  unfold nilM at HB G0
  simp only at HB G0
  cases h : archOf s with
  | none =>
    have HF := Lib.hid (found_none (nm := nm) h)
    have HP := Lib.hid (fun (W : World) (hW : Env A W) => aParse_no (w := W) hW hs h)
    clear h
    go_enter Tryz.func71, Tryz.ntmps71
    go_wp2_with fail
    generalize (w.alloc (.cells #[.string ⟨#[]⟩, .int .i64 0, .string ⟨#[]⟩] 113)) = w1 at *
    generalize hp : w.heap.size = p at *
    have PS := Lib.hid (show w.heap.size ≤ p by omega)
    clear hp
    refine (HP.out _ (HE.out.grown G0.out)).mono ?_
    rintro e w2 ⟨rfl, g2⟩
    have G2 := Lib.hid (G0.out.trans g2); have B2 := Lib.hid (HB.out.kept g2)
    clear g2 G0 HB HP
    go_wp2_with fail
    refine (aAt _ [] nm w2 (MRow.nil w2)).mono ?_
    rintro e w3 ⟨rfl, g3⟩
    have G3 := Lib.hid (G2.out.trans g3); have B3 := Lib.hid (B2.out.kept g3)
    clear g3 G2 B2
    rw [show idxI [] nm = -1 by rfl]
    obtain ⟨c0, c1, c2, f0, f1, f2⟩ := B3.out.cells
    go_wp2
    obtain ⟨bz, gz⟩ := B3.out.put nilM
    unfold putM nilM at bz gz
    simp only at bz gz
    generalize (((w3.setCell ⟨p, 0, none⟩ (.string ⟨#[]⟩)).setCell ⟨p, 1, none⟩ (.int .i64 0)).setCell ⟨p, 2, none⟩ (.string ⟨#[]⟩)) = wz at *
    have BZ := Lib.hid bz; have GZ := Lib.hid (grown_none G3.out gz PS.out)
    clear bz gz
    obtain ⟨d0, d1, d2, -, -, -⟩ := BZ.out.cells
    exact bodyPost_ret (v := .tuple #[valM nilM, .bool false]) (by simp [valM, nilM, results, Tryz.results71, go_sem, d0, d1, d2]) rfl (.inl ⟨HF.out, rfl, GZ.out⟩)
  | some l =>
    have HP := Lib.hid (fun (W : World) (hW : Env A W) => aParse_yes (w := W) hW hs h)
    cases hi : findI l nm with
    | none =>
      have HF := Lib.hid (found_miss h hi)
      have HI := Lib.hid (show idxI l nm = -1 by unfold idxI; rw [hi])
      clear h hi
      go_enter Tryz.func71, Tryz.ntmps71
      go_wp2_with fail
      generalize (w.alloc (.cells #[.string ⟨#[]⟩, .int .i64 0, .string ⟨#[]⟩] 113)) = w1 at *
      generalize hp : w.heap.size = p at *
      have PS := Lib.hid (show w.heap.size ≤ p by omega)
      clear hp
      refine (HP.out _ (HE.out.grown G0.out)).mono ?_
      rintro e w2 ⟨v, rfl, o2, g2⟩
      have G2 := Lib.hid (G0.out.trans g2); have B2 := Lib.hid (HB.out.kept g2); have R2 := Lib.hid o2.row
      clear g2 G0 HB HP o2
      go_wp2_with fail
      refine (aAt _ l nm w2 R2.out).mono ?_
      rintro e w3 ⟨rfl, g3⟩
      have G3 := Lib.hid (G2.out.trans g3); have B3 := Lib.hid (B2.out.kept g3)
      clear g3 G2 B2
      rw [HI.out]
      obtain ⟨c0, c1, c2, f0, f1, f2⟩ := B3.out.cells
      go_wp2
      obtain ⟨bz, gz⟩ := B3.out.put nilM
      unfold putM nilM at bz gz
      simp only at bz gz
      generalize (((w3.setCell ⟨p, 0, none⟩ (.string ⟨#[]⟩)).setCell ⟨p, 1, none⟩ (.int .i64 0)).setCell ⟨p, 2, none⟩ (.string ⟨#[]⟩)) = wz at *
      have BZ := Lib.hid bz; have GZ := Lib.hid (grown_none G3.out gz PS.out)
      clear bz gz
      obtain ⟨d0, d1, d2, -, -, -⟩ := BZ.out.cells
      exact bodyPost_ret (v := .tuple #[valM nilM, .bool false]) (by simp [valM, nilM, results, Tryz.results71, go_sem, d0, d1, d2]) rfl (.inl ⟨HF.out, rfl, GZ.out⟩)
    | some i =>
      obtain ⟨m, hm, -⟩ := findI_get hi
      have HF := Lib.hid (found_hit h hi hm)
      have HI := Lib.hid (show idxI l nm = i by unfold idxI; rw [hi])
      have Hm := Lib.hid hm
      have hil : i < l.length := (List.getElem?_eq_some_iff.1 hm).1
      clear h hi hm
      go_enter Tryz.func71, Tryz.ntmps71
      go_wp2_with fail
      generalize (w.alloc (.cells #[.string ⟨#[]⟩, .int .i64 0, .string ⟨#[]⟩] 113)) = w1 at *
      generalize hp : w.heap.size = p at *
      have PS := Lib.hid (show w.heap.size ≤ p by omega)
      clear hp
      refine (HP.out _ (HE.out.grown G0.out)).mono ?_
      rintro e w2 ⟨v, rfl, o2, g2⟩
      have G2 := Lib.hid (G0.out.trans g2); have B2 := Lib.hid (HB.out.kept g2); have R2 := Lib.hid o2.row
      clear g2 G0 HB HP o2
      go_wp2_with fail
      refine (aAt _ l nm w2 R2.out).mono ?_
      rintro e w3 ⟨rfl, g3⟩
      have G3 := Lib.hid (G2.out.trans g3); have B3 := Lib.hid (B2.out.kept g3)
      have R3 := R2.out.grown g3
      clear g3 G2 B2
      rw [HI.out]
      obtain ⟨b, off, c', m', rfl, hm', -, -, hb, y0, y1, y2⟩ := R3.at i hil
      have hmm : m' = m := by rw [Hm.out] at hm'; exact (Option.some.inj hm').symm
      subst hmm
      have hlen : (l.length : Int) ≤ 9223372036854775807 := by obtain ⟨_, _, _, hn, _⟩ := R3; omega
      clear hm' R3
      obtain ⟨c0, c1, c2, f0, f1, f2⟩ := B3.out.cells
      have hi0 : (0 : Int) ≤ (i : Int) := Int.natCast_nonneg _
      have hi1 : (i : Int) < (l.length : Int) := by omega
      go_wp2
      obtain ⟨bz, gz⟩ := B3.out.put m'
      unfold putM at bz gz
      generalize (((w3.setCell ⟨p, 0, none⟩ (.string m'.n)).setCell ⟨p, 1, none⟩ (.int .i64 m'.t)).setCell ⟨p, 2, none⟩ (.string m'.c)) = wz at *
      have BZ := Lib.hid bz; have GZ := Lib.hid (grown_none G3.out gz PS.out)
      clear bz gz
      obtain ⟨d0, d1, d2, -, -, -⟩ := BZ.out.cells
      exact bodyPost_ret (v := .tuple #[valM m', .bool true]) (by simp [valM, results, Tryz.results71, go_sem, d0, d1, d2]) rfl (.inr ⟨m', HF.out, rfl, GZ.out⟩)
theorem aFind_no {s nm : ByteArray} {A : Nat → Addr} {w : World} (hE : Env A w) (hs : s.size ≤ maxLen) (h : foundM s nm = none) :
    Calls Tryz.prog 71 #[.string s, .string nm] w fun e w' => e = .returned (.tuple #[valM nilM, .bool false]) ∧ w.grownBy w' none :=
  (aFind s nm A w hE hs).mono fun e w' hp => by
    rcases hp with ⟨_, h1, h2⟩ | ⟨m, h1, _⟩
    · exact ⟨h1, h2⟩
    · rw [h] at h1; cases h1
theorem aFind_yes {s nm : ByteArray} {A : Nat → Addr} {w : World} (hE : Env A w) (hs : s.size ≤ maxLen) {m : Mb} (h : foundM s nm = some m) :
    Calls Tryz.prog 71 #[.string s, .string nm] w fun e w' => e = .returned (.tuple #[valM m, .bool true]) ∧ w.grownBy w' none :=
  (aFind s nm A w hE hs).mono fun e w' hp => by
    rcases hp with ⟨h1, _⟩ | ⟨m', h1, h2, h3⟩
    · rw [h] at h1; cases h1
    · rw [h] at h1; obtain rfl := Option.some.inj h1; exact ⟨h2, h3⟩
end Go.Proofs.YtbcemenfklgnkaaGreatDoor

namespace Go.Proofs.YtbcemenfklgnkaaGreatDoor
open Go.RowKit

/-- members with one that is set -/
def setM (l : List Mb) (m : Mb) : List Mb := match findI l m.n with | none => l ++ [m] | some i => l.set i m
theorem setM_none {l : List Mb} {m : Mb} (h : findI l m.n = none) : setM l m = l ++ [m] := by unfold setM; rw [h]
theorem setM_some {l : List Mb} {m : Mb} {i : Nat} (h : findI l m.n = some i) : setM l m = l.set i m := by unfold setM; rw [h]
theorem sumM_cons (a : Mb) (l : List Mb) : sumM (a :: l) = sizeM a + sumM l := by simp [sumM]
theorem sumM_set : ∀ (l : List Mb) (i : Nat) (m : Mb), sumM (l.set i m) ≤ sumM l + sizeM m
  | [], i, m => by simp [sumM]
  | a :: r, 0, m => by rw [List.set_cons_zero, sumM_cons, sumM_cons]; omega
  | a :: r, i + 1, m => by
    have := sumM_set r i m
    rw [List.set_cons_succ, sumM_cons, sumM_cons]; omega
theorem sumM_setM (l : List Mb) (m : Mb) : sumM (setM l m) ≤ sumM l + sizeM m := by
  unfold setM
  split
  · rw [sumM_snoc]; exact Nat.le_refl _
  · exact sumM_set _ _ _

theorem OwnM.store {w : World} {base : Nat} {e : TypeId} {g cap : Nat} {l : List Mb} (h : OwnM w base e (.slice (some ⟨g, 0, none⟩) l.length cap) l) {i : Nat} (hi : i < l.length) {m : Mb} (h1 : m.n.size ≤ maxLen) (h2 : m.c.size ≤ maxLen) :
    OwnM (((w.setCell ⟨g, i * 3, none⟩ (.string m.n)).setCell ⟨g, i * 3 + 1, none⟩ (.int .i64 m.t)).setCell ⟨g, i * 3 + 2, none⟩ (.string m.c)) base e (.slice (some ⟨g, 0, none⟩) l.length cap) (l.set i m) ∧
      w.grownBy (((w.setCell ⟨g, i * 3, none⟩ (.string m.n)).setCell ⟨g, i * 3 + 1, none⟩ (.int .i64 m.t)).setCell ⟨g, i * 3 + 2, none⟩ (.string m.c)) (some g) := by
  obtain ⟨o, hs⟩ := h
  obtain ⟨o1, g1⟩ := o.stored (i * 3) (.string m.n)
  obtain ⟨o2, g2⟩ := o1.stored (i * 3 + 1) (.int .i64 m.t)
  obtain ⟨o3, g3⟩ := o2.stored (i * 3 + 2) (.string m.c)
  refine ⟨⟨?_, fun x hx => ?_⟩, (g1.trans g2).trans g3⟩
  · rw [← cellsM_set l i m hi] at o3
    rw [List.length_set]; exact o3
  · rcases List.mem_or_eq_of_mem_set hx with h | rfl
    · exact hs x h
    · exact ⟨h1, h2⟩

/-- what Set answers of a text that is the archive of l -/
def SetPost (l : List Mb) (m : Mb) (A : Nat → Addr) (w : World) (e : Ending) (w' : World) : Prop :=
  (makeE (setM l m) ≠ 0 ∧ e = .returned (.tuple #[.string ⟨#[]⟩, .iface 236 (.pointer (some (A (makeE (setM l m)))))]) ∧ w.grownBy w' none) ∨
  (∃ x : ByteArray, makeE (setM l m) = 0 ∧ x.data.toList = makeL (setM l m) ∧ e = .returned (.tuple #[.string x, .nilIface]) ∧ w.grownBy w' none)
/-- Make, whatever comes of it -/
theorem aMake (v : Value) (l : List Mb) (m : Mb) (A : Nat → Addr) (w : World) (q : List Mb) (hq : q = setM l m) (h : MRow w v q) (hE : Env A w) (hs : sumM q ≤ 10000000) :
    Calls Tryz.prog 88 #[v] w fun e w' => ∃ (x : ByteArray) (y : Value), e = .returned (.tuple #[.string x, y]) ∧ w.grownBy w' none ∧
      ((makeE (setM l m) ≠ 0 ∧ x = ⟨#[]⟩ ∧ y = .iface 236 (.pointer (some (A (makeE (setM l m)))))) ∨ (makeE (setM l m) = 0 ∧ x.data.toList = makeL (setM l m) ∧ y = .nilIface)) := by
  subst hq
  by_cases hk : makeE (setM l m) = 0
  · obtain ⟨x, hx, -⟩ := some_ba (makeL (setM l m))
    refine (aMake_yes v _ A w h hE hk hx).mono ?_
    rintro e w' ⟨rfl, hg⟩
    exact ⟨x, _, rfl, hg, .inr ⟨hk, hx, rfl⟩⟩
  · refine (aMake_no v _ A w h hE hs hk).mono ?_
    rintro e w' ⟨rfl, hg⟩
    exact ⟨_, _, rfl, hg, .inl ⟨hk, rfl, rfl⟩⟩

/-- the text of which Set speaks -/
def startOf (s : ByteArray) : ByteArray := if s.toList.isEmpty = true then ⟨#[33, 60, 97, 114, 99, 104, 62, 10]⟩ else s

set_option maxRecDepth 100000 in
set_option maxHeartbeats 4000000 in
/-- behind the text: what comes of Set -/
theorem aSet (s : ByteArray) (m : Mb) (A : Nat → Addr) (w : World) (hE : Env A w) (hs : s.size ≤ maxLen) (hn : m.n.size ≤ maxLen) (hc : m.c.size ≤ 100000) {l : List Mb} (h : archOf (startOf s) = some l) :
    Calls Tryz.prog 72 #[.string s, valM m] w (SetPost l m A w) := by
  have hss : (startOf s).size ≤ maxLen := by unfold startOf; split; decide; exact hs
  have HP := Lib.hid (fun (W : World) (hW : Env A W) => aParse_yes (w := W) hW hss h)
  have HE := Lib.hid hE
  have hl9 : sumM l ≤ 900 := by have := ((makeE_zero l).1 (archOf_get h).1).2.2.2; omega
  have SUM := Lib.hid (show sumM (setM l m) ≤ 10000000 by have := sumM_setM l m; unfold sizeM at this; omega)
  have MS := Lib.hid (show m.n.size ≤ maxLen ∧ m.c.size ≤ maxLen from ⟨hn, by unfold maxLen; omega⟩)
  have HB := Lib.hid (box_new w m)
  have G0 := Lib.hid (World.grownBy_alloc w (.cells #[.string m.n, .int .i64 m.t, .string m.c] 113) none)
  have hl100 : l.length ≤ 900 := by
    have h1 : ∀ l : List Mb, l.length ≤ sumM l := by
      intro l
      induction l with
      | nil => simp [sumM]
      | cons a r ih => rw [sumM_cons, List.length_cons]; unfold sizeM; omega
    have := h1 l; omega
  obtain ⟨i0, hi, hz0, hz1, hz2⟩ := info_parts infoMember
  have I := Lib.hid hi; have Z0 := Lib.hid hz0; have Z1 := Lib.hid hz1; have Z2 := Lib.hid hz2
  clear hi hz0 hz1 hz2 hE h hl9
  unfold startOf at HP
  unfold valM
  cases hq : s.toList.isEmpty
  all_goals
    rw [hq] at HP
    simp only [if_true, Bool.false_eq_true, if_false] at HP
    go_enter Tryz.func72, Tryz.ntmps72
    go_wp2_with fail
    generalize (w.alloc (.cells #[.string m.n, .int .i64 m.t, .string m.c] 113)) = w1 at *
    generalize w.heap.size = p at *
    refine (HP.out _ (HE.out.grown G0.out)).mono ?_
    rintro e w2 ⟨v, rfl, o2, g2⟩
    have G2 := Lib.hid (G0.out.trans g2); have B2 := Lib.hid (HB.out.kept g2); have O2 := Lib.hid o2
    have W1 := Lib.hid (show w.heap.size ≤ w1.heap.size from G0.out.size)
    have S2 := Lib.hid g2.size
    clear g2 HB HP o2
    obtain ⟨c0, c1, c2, -, -, -⟩ := B2.out.cells
    go_wp2_with fail
    refine (aAt _ l m.n w2 O2.out.row).mono ?_
    rintro e w3 ⟨rfl, g3⟩
    have G3 := Lib.hid (G2.out.trans g3); have B3 := Lib.hid (B2.out.kept g3); have O3 := Lib.hid (O2.out.kept g3)
    have BASE := Lib.hid (show w1.heap.size ≤ w3.heap.size from Nat.le_trans S2.out g3.size)
    clear g3 G2 B2 O2 c0 c1 c2
    obtain ⟨c0, c1, c2, -, -, -⟩ := B3.out.cells
    cases hfi : findI l m.n with
    | none =>
      have HQ := Lib.hid (setM_none hfi)
      have HI := Lib.hid (show idxI l m.n = -1 by unfold idxI; rw [hfi])
      rw [HI.out]
      have BL := BASE
      clear hfi
      go_wp2_with (first
        | (at_builtin; refine wpList_append_own _ rfl _ _ 141 rfl w1.heap.size 113 i0 _ 3 40 Tryz.underlying141 I.out Z0.out Z1.out Z2.out rfl (by decide) _ _ _ rfl (O3.out.1.alloc _) ⟨_, 0, none⟩ 1 1 [.string m.n, .int .i64 m.t, .string m.c] rfl rfl (newsAtM _ m _ _ rfl) (oneM m) (by unfold maxLen; omega) (by omega) (by have := BL.out; simp; omega) ?_; intro v' w4 hown' hgrow2 hnil2; have O4 := Lib.hid (OwnM.snoc O3.out.2 MS.out.1 MS.out.2 hown' rfl rfl); have G4 := Lib.hid ((G3.out.trans (World.grownBy_alloc w3 (.cells #[.string m.n, .int .i64 m.t, .string m.c] 113) none)).andThen hgrow2 (fun j e => .inl (Nat.le_trans W1.out (O3.out.1.lt j e).1))); clear hown' hgrow2 hnil2)
        | (go_at_call 88; refine (aMake _ l m A _ (l ++ [m]) HQ.out.symm O4.out.row (HE.out.grown G4.out) (by rw [← HQ.out]; exact SUM.out)).mono ?_; rintro e w5 ⟨x, y, rfl, hg, hxy⟩; have G5 := Lib.hid (G4.out.trans hg); have XY := Lib.hid hxy; clear hg hxy))
      go_ret2
      rcases XY.out with ⟨hk, rfl, rfl⟩ | ⟨hk, hx, rfl⟩
      · exact .inl ⟨hk, rfl, G5.out⟩
      · exact .inr ⟨_, hk, hx, rfl, G5.out⟩
    | some i =>
      obtain ⟨m0, hm0, -⟩ := findI_get hfi
      have hil : i < l.length := (List.getElem?_eq_some_iff.1 hm0).1
      have HQ := Lib.hid (setM_some hfi)
      have HI := Lib.hid (show idxI l m.n = i by unfold idxI; rw [hfi])
      rw [HI.out]
      obtain ⟨g, cap, rfl, gb, glt, -, -⟩ := O3.out.form (by intro e; rw [e] at hil; simp at hil)
      have GB := Lib.hid gb
      have x0 := (O3.out.1.cellAt (i * 3) (by omega)).trans (cellsM_get hm0).1
      have x1 := (O3.out.1.cellAt (i * 3 + 1) (by omega)).trans (cellsM_get hm0).2.1
      have x2 := (O3.out.1.cellAt (i * 3 + 2) (by omega)).trans (cellsM_get hm0).2.2
      have f0 := O3.out.1.frozenAt (i * 3)
      have f1 := O3.out.1.frozenAt (i * 3 + 1)
      have f2 := O3.out.1.frozenAt (i * 3 + 2)
      obtain ⟨o4, g4⟩ := O3.out.store hil MS.out.1 MS.out.2
      have O4 := Lib.hid o4
      have G4 := Lib.hid (grown_none G3.out g4 (Nat.le_trans W1.out GB.out))
      have hi0 : (0 : Int) ≤ (i : Int) := Int.natCast_nonneg _
      have hi1 : (i : Int) < (l.length : Int) := by omega
      clear hfi hm0 o4 g4 gb glt
      go_wp2_with fail
      refine (aMake _ l m A _ (l.set i m) HQ.out.symm O4.out.row (HE.out.grown G4.out) (by rw [← HQ.out]; exact SUM.out)).mono ?_
      rintro e w5 ⟨x, y, rfl, hg, hxy⟩
      have G5 := Lib.hid (G4.out.trans hg); have XY := Lib.hid hxy
      clear hg hxy x0 x1 x2 f0 f1 f2 O4 G4
      go_wp2
      go_ret2
      rcases XY.out with ⟨hk, rfl, rfl⟩ | ⟨hk, hx, rfl⟩
      · exact .inl ⟨hk, rfl, G5.out⟩
      · exact .inr ⟨_, hk, hx, rfl, G5.out⟩
theorem aSet_no {s : ByteArray} {l : List Mb} {m : Mb} {A : Nat → Addr} {w : World} (hE : Env A w) (hs : s.size ≤ maxLen) (hn : m.n.size ≤ maxLen) (hc : m.c.size ≤ 100000) (h : archOf (startOf s) = some l) (hk : makeE (setM l m) ≠ 0) :
    Calls Tryz.prog 72 #[.string s, valM m] w fun e w' => e = .returned (.tuple #[.string ⟨#[]⟩, .iface 236 (.pointer (some (A (makeE (setM l m)))))]) ∧ w.grownBy w' none :=
  (aSet s m A w hE hs hn hc h).mono fun e w' hp => by
    rcases hp with ⟨_, h1, h2⟩ | ⟨x, h1, _⟩
    · exact ⟨h1, h2⟩
    · exact absurd h1 hk
theorem aSet_yes {s : ByteArray} {l : List Mb} {m : Mb} {A : Nat → Addr} {w : World} (hE : Env A w) (hs : s.size ≤ maxLen) (hn : m.n.size ≤ maxLen) (hc : m.c.size ≤ 100000) (h : archOf (startOf s) = some l) (hk : makeE (setM l m) = 0) {y : ByteArray} (hy : y.data.toList = makeL (setM l m)) :
    Calls Tryz.prog 72 #[.string s, valM m] w fun e w' => e = .returned (.tuple #[.string y, .nilIface]) ∧ w.grownBy w' none :=
  (aSet s m A w hE hs hn hc h).mono fun e w' hp => by
    rcases hp with ⟨h1, _⟩ | ⟨x, _, h2, h3, h4⟩
    · exact absurd hk h1
    · obtain rfl : x = y := ba_ext (h2.trans hy.symm)
      exact ⟨h3, h4⟩

set_option maxRecDepth 100000 in
set_option maxHeartbeats 1000000 in
theorem aSet_form {s : ByteArray} {m : Mb} {A : Nat → Addr} {w : World} (hE : Env A w) (hs : s.size ≤ maxLen) (h : archOf s = none) (hq : s.toList.isEmpty = false) :
    Calls Tryz.prog 72 #[.string s, valM m] w fun e w' => e = .returned (.tuple #[.string ⟨#[]⟩, .iface 236 (.pointer (some (A 3)))]) ∧ w.grownBy w' none := by
  have G0 := Lib.hid (World.grownBy_alloc w (.cells #[.string m.n, .int .i64 m.t, .string m.c] 113) none)
  have HP := Lib.hid (aParse_no (hE.grown G0.out) hs h)
  clear hE h
  unfold valM
  go_enter Tryz.func72, Tryz.ntmps72
  go_wp2_with fail
  refine HP.out.mono ?_
  rintro e w2 ⟨rfl, g2⟩
  have G2 := Lib.hid (G0.out.trans g2)
  clear g2
  go_wp2
  go_ret2
  exact ⟨rfl, G2.out⟩
end Go.Proofs.YtbcemenfklgnkaaGreatDoor

namespace Go.Proofs.YtbcemenfklgnkaaGreatDoor
open Go.RowKit

theorem makeE_nil : makeE [] = 0 := by
  rw [makeE_zero]; exact ⟨by simp, by simp, by simp, by simp [sumM]⟩
theorem arch_start : archOf ⟨#[33, 60, 97, 114, 99, 104, 62, 10]⟩ = some [] := archOf_some ⟨makeE_nil, by simp [makeL, magL]⟩
theorem arch_no (s : ByteArray) (h : s.size < 8) : archOf s = none := archOf_none fun l hl => by
  have hf : ∀ m ∈ l, Fits m := fun m hm => (good_of hl.1 hm).fits
  have := make_len hf
  rw [← hl.2, bytes_len] at this
  omega
end Go.Proofs.YtbcemenfklgnkaaGreatDoor

namespace Go.Proofs.YtbcemenfklgnkaaGreatDoor
open Go.RowKit

theorem setM_nil (m : Mb) : setM [] m = [m] := setM_none (findI_nil m.n)
theorem setM_self (l : List Mb) (m : Mb) : m ∈ setM l m := by
  cases h : findI l m.n with
  | none => rw [setM_none h]; simp
  | some i =>
    obtain ⟨m0, h0, -⟩ := findI_get h
    rw [setM_some h]
    exact List.mem_of_getElem? (i := i) (by rw [List.getElem?_set_self (List.getElem?_eq_some_iff.1 h0).1])
theorem setM_other {l : List Mb} {m x : Mb} (hx : x ∈ l) (hn : x.n ≠ m.n) : x ∈ setM l m := by
  cases h : findI l m.n with
  | none => rw [setM_none h]; simp [hx]
  | some i =>
    obtain ⟨m0, h0, e0⟩ := findI_get h
    rw [setM_some h]
    obtain ⟨k, hk⟩ := List.mem_iff_getElem?.1 hx
    have hik : i ≠ k := by
      rintro rfl
      rw [h0] at hk
      obtain rfl := Option.some.inj hk
      exact hn e0
    exact List.mem_of_getElem? (i := k) (by rw [List.getElem?_set_ne hik]; exact hk)
theorem setM_mem {l : List Mb} {m x : Mb} (h : x ∈ setM l m) : x ∈ l ∨ x = m := by
  unfold setM at h
  split at h
  · simpa using h
  · exact List.mem_or_eq_of_mem_set h
theorem set_names {l : List Mb} {i : Nat} {m m0 : Mb} (h : l[i]? = some m0) (hn : m0.n = m.n) : (l.set i m).map Mb.n = l.map Mb.n := by
  apply List.ext_getElem?
  intro j
  rw [List.getElem?_map, List.getElem?_map]
  by_cases e : i = j
  · subst e
    rw [List.getElem?_set_self (List.getElem?_eq_some_iff.1 h).1, h]; simp [hn]
  · rw [List.getElem?_set_ne e]
theorem setM_nodup {l : List Mb} {m : Mb} (h : (l.map Mb.n).Nodup) : ((setM l m).map Mb.n).Nodup := by
  cases hf : findI l m.n with
  | none =>
    rw [setM_none hf, List.map_append, List.nodup_append]
    refine ⟨h, by simp, fun a ha b hb => ?_⟩
    obtain ⟨x, hx, rfl⟩ := List.mem_map.1 ha
    simp at hb; subst hb
    exact findI_none hf x hx
  | some i =>
    obtain ⟨m0, h0, e0⟩ := findI_get hf
    rw [setM_some hf, set_names h0 e0]; exact h
theorem set_ok {l : List Mb} {m : Mb} (h : makeE l = 0) (hn : nameB m.n = true) (ht : timeB m.t = true) (hs : 8 + sumM l + sizeM m ≤ 900) : makeE (setM l m) = 0 := by
  obtain ⟨h1, h2, h3, -⟩ := (makeE_zero l).1 h
  rw [makeE_zero]
  refine ⟨fun x hx => ?_, fun x hx => ?_, setM_nodup h3, by have := sumM_setM l m; omega⟩
  · rcases setM_mem hx with hx | rfl
    · exact h1 x hx
    · exact hn
  · rcases setM_mem hx with hx | rfl
    · exact h2 x hx
    · exact ht
/-- why nothing could be set -/
theorem set_why {l : List Mb} {m : Mb} {s : ByteArray} (ha : Arch s l) (hq : makeE (setM l m) ≠ 0) : nameB m.n = false ∨ m.t < 1 ∨ 549755813888 < m.t ∨ 900 < s.size + sizeM m := by
  have hf : ∀ m ∈ l, Fits m := fun m hm => (good_of ha.1 hm).fits
  have hsz : s.size = 8 + sumM l := by rw [← make_len hf, ← ha.2, bytes_len]
  cases hn : nameB m.n
  · exact .inl rfl
  by_cases t1 : m.t < 1
  · exact .inr (.inl t1)
  by_cases t2 : 549755813888 < m.t
  · exact .inr (.inr (.inl t2))
  refine .inr (.inr (.inr ?_))
  rcases Nat.lt_or_ge 900 (s.size + sizeM m) with h | h
  · exact h
  · exact absurd (set_ok ha.1 hn ((time_iff _).2 (by omega)) (by omega)) hq
theorem one_alone {l : List Mb} {m : Mb} (hm : m ∈ l) (h : makeE l = 0) : makeE [m] = 0 := by
  obtain ⟨h1, h2, -, h4⟩ := (makeE_zero l).1 h
  rw [makeE_zero]
  refine ⟨fun x hx => ?_, fun x hx => ?_, by simp, ?_⟩
  · simp at hx; subst hx; exact h1 x hm
  · simp at hx; subst hx; exact h2 x hm
  · have := sizeM_mem hm
    have e : sumM [m] = sizeM m := by simp [sumM]
    omega
theorem found_mem {s : ByteArray} {l : List Mb} {m : Mb} (h : archOf s = some l) (hm : m ∈ l) : foundM s m.n = some m := by
  have hnd := ((makeE_zero l).1 (archOf_get h).1).2.2.1
  obtain ⟨k, hk⟩ := List.mem_iff_getElem?.1 hm
  cases hi : findI l m.n with
  | none => exact absurd rfl (findI_none hi m hm)
  | some i =>
    obtain ⟨m', hm', hn'⟩ := findI_get hi
    have hik : i = k := by
      have h1 : (l.map Mb.n)[i]? = some m.n := by rw [List.getElem?_map, hm']; simp [hn']
      have h2 : (l.map Mb.n)[k]? = some m.n := by rw [List.getElem?_map, hk]; rfl
      exact (List.getElem?_inj (List.getElem?_eq_some_iff.1 h1).1 hnd).1 (h1.trans h2.symm)
    subst hik
    exact found_hit h hi hk
theorem mrow_one (w : World) (m : Mb) (h1 : m.n.size ≤ maxLen) (h2 : m.c.size ≤ maxLen) (t : TypeId) : MRow (w.alloc (.cells #[.string m.n, .int .i64 m.t, .string m.c] t)) (.slice (some ⟨w.heap.size, 0, none⟩) 1 1) [m] := by
  refine ⟨_, 1, rfl, by simp, fun x hx => ?_, fun _ => ⟨w.heap.size, 0, rfl, by simp, fun j x hj => ?_⟩⟩
  · simp at hx; subst hx; exact ⟨h1, h2⟩
  · rcases j with _ | j
    · obtain rfl : m = x := by simpa using hj
      refine ⟨?_, ?_, ?_⟩ <;> simp
    · simp at hj
/-- Find, whatever comes of it -/
theorem aFindV {s nm : ByteArray} {A : Nat → Addr} {w : World} (hE : Env A w) (hs : s.size ≤ maxLen) {o : Option Mb} (h : foundM s nm = o) :
    Calls Tryz.prog 71 #[.string s, .string nm] w fun e w' => e = .returned (.tuple #[valM (o.getD nilM), .bool o.isSome]) ∧ w.grownBy w' none := by
  cases o with
  | none => exact aFind_no hE hs h
  | some m => exact aFind_yes hE hs h
end Go.Proofs.YtbcemenfklgnkaaGreatDoor
