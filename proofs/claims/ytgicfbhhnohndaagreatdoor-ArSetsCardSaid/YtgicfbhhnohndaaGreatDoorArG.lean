/- Walks of package ar: how a text comes apart. -/
import Derived.Test.YtgicfbhhnohndaaGreatDoorArF
namespace Go.Proofs.YtgicfbhhnohndaaGreatDoor
open Go.RowKit

theorem infoMember : (Tryz.prog.info? 35).map (fun i => (i.zero, i.size, i.bytes)) = some (some (.agg #[.string ByteArray.empty, .int .i64 0, .string ByteArray.empty]), 3, 40) := by kernel_rfl
theorem newsAtM (w : World) (m : Mb) (t : TypeId) (p : Nat) (hp : p = w.heap.size) : ∀ j u, ([.string m.n, .int .i64 m.t, .string m.c] : List Value)[j]? = some u → (w.alloc (.cells #[.string m.n, .int .i64 m.t, .string m.c] t)).cell? ((⟨p, 0, none⟩ : Addr).add j) = some u := by
  subst hp; exact newsM w m t
theorem OwnM.snoc {w : World} {base : Nat} {e : TypeId} {v : Value} {l : List Mb} {m : Mb} {n : Nat} {xs : List Value} (h : ∀ x ∈ l, x.n.size ≤ maxLen ∧ x.c.size ≤ maxLen) (h1 : m.n.size ≤ maxLen) (h2 : m.c.size ≤ maxLen) (ho : w.ownsRow base e 3 v n xs) (hn : n = l.length + 1) (hx : xs = cellsM l ++ [.string m.n, .int .i64 m.t, .string m.c]) : OwnM w base e v (l ++ [m]) := by
  refine ⟨?_, fun x hx => ?_⟩
  · rw [List.length_append, List.length_singleton, cellsM_snoc, ← hn, ← hx]; exact ho
  · rcases List.mem_append.1 hx with hx | hx
    · exact h x hx
    · rw [List.mem_singleton] at hx; subst hx; exact ⟨h1, h2⟩
theorem OwnM.base {w : World} {base base' : Nat} {e : TypeId} {v : Value} {l : List Mb} (h : OwnM w base e v l) (hb : base' ≤ base) : OwnM w base' e v l := by
  obtain ⟨⟨h1, h2⟩, h3⟩ := h
  refine ⟨⟨h1, ?_⟩, h3⟩
  rcases h2 with h2 | ⟨g, cap, cur, e1, e2, r⟩
  · exact .inl h2
  · exact .inr ⟨g, cap, cur, e1, Nat.le_trans hb e2, r⟩

theorem aCut (s p : ByteArray) (w : World) :
    Calls Tryz.prog 38 #[.string s, .string p] w fun e w' => e = .returned (.tuple #[.string ⟨(Lib.trimPrefix s.data.toList p.data.toList).toArray⟩, .bool (Lib.hasPrefix s.data.toList p.data.toList)]) ∧ w = w' :=
  (Tryz.strings_CutPrefix s p w).mono fun _ _ ⟨h1, h2⟩ => ⟨h1, h2.symm⟩
theorem BoxM.keptBut {w w' : World} {p : Nat} {m : Mb} {row : Option Nat} (h : BoxM w p m) (hg : w.grownBy w' row) (hne : some p ≠ row) : BoxM w' p m := (hg.block p (Array.getElem?_eq_some_iff.1 h).1 hne).trans h
theorem ext_drop (s : ByteArray) (k : Nat) : (s.extract k s.size).data.toList = s.data.toList.drop k := by
  rw [ext_list, List.take_of_length_le (by rw [List.length_drop, bytes_len]; exact Nat.le_refl _)]
theorem not_own {w : World} {base : Nat} {e : TypeId} {size : Nat} {v : Value} {n : Nat} {xs : List Value} (h : w.ownsRow base e size v n xs) {b : Nat} (hb : b < base ∨ w.heap.size ≤ b) : some b ≠ v.ownBlock := fun e => by
  have := h.lt b e.symm
  omega
/-- what split answers -/
def SplitPost (s : ByteArray) (w : World) (e : Ending) (w' : World) : Prop :=
  ∃ (v : Value) (acc : List Mb) (ok : Bool), e = .returned (.tuple #[v, .bool ok]) ∧ OwnM w' w.heap.size 35 v acc ∧ sumM acc ≤ s.size ∧ (ok = true → ∀ l, Arch s l → l = acc) ∧ (ok = false → ∀ l, ¬ Arch s l) ∧ w.grownBy w' none

set_option maxRecDepth 100000 in
set_option maxHeartbeats 4000000 in
theorem aSplit (s : ByteArray) (A : Nat → Addr) (w : World) (hE : Env A w) (hs : s.size ≤ 100000) :
    Calls Tryz.prog 27 #[.string s] w (SplitPost s w) := by
  have hc := aCut s ⟨#[33, 60, 97, 114, 99, 104, 62, 10]⟩ w
  rw [show (⟨#[33, 60, 97, 114, 99, 104, 62, 10]⟩ : ByteArray).data.toList = magL by rfl] at hc
  cases hq : Lib.hasPrefix s.data.toList magL
  · rw [hq] at hc
    have HN := Lib.hid (show ∀ l, ¬ Arch s l from fun l hl => by rw [arch_mag hl] at hq; cases hq)
    have HC := Lib.hid hc
    clear hc hq
    go_enter Tryz.func27, Tryz.ntmps27
    go_wp2_with (go_at_call 38; refine (HC.out).mono ?_; rintro e w' ⟨rfl, rfl⟩)
    go_ret2
    exact ⟨_, [], false, rfl, OwnM.nil _ _ _, by simp [sumM], fun e => (by cases e), fun _ => HN.out, World.grownBy.refl _ _⟩
  rw [hq] at hc
  have hr := mag_rest hq
  obtain ⟨r0, hr0⟩ : ∃ r0 : ByteArray, r0 = ⟨(Lib.trimPrefix s.data.toList magL).toArray⟩ := ⟨_, rfl⟩
  rw [← hr0] at hc
  have hr1 : s.data.toList = magL ++ r0.data.toList := by rw [hr, hr0]
  have REM := Lib.hid (rem_start hr1)
  have hrs : r0.size ≤ s.size := by
    have := congrArg List.length hr1
    rw [List.length_append, bytes_len, bytes_len] at this; omega
  have HC := Lib.hid hc
  have HE := Lib.hid hE
  obtain ⟨i0, hi, hz0, hz1, hz2⟩ := info_parts infoMember
  have I := Lib.hid hi; have Z0 := Lib.hid hz0; have Z1 := Lib.hid hz1; have Z2 := Lib.hid hz2
  clear hi hz0 hz1 hz2 hc hq hr hr0 hr1 hE
  go_enter Tryz.func27, Tryz.ntmps27
  go_wp2_with (go_at_call 38; refine (HC.out).mono ?_; rintro e w' ⟨rfl, rfl⟩)
  go_loopg [4, 6, 7, 8] r0.size (fun g r v _ _ wr => ∃ (x : ByteArray) (acc : List Mb), r = .string x ∧ x.size ≤ r0.size ∧ g = x.size ∧ Hid (OwnM wr w.heap.size 35 v acc) ∧ Hid (sumM acc + x.size ≤ s.size) ∧ Hid (Rem s acc x.data.toList) ∧ Hid (w.grownBy wr none))
  case atStart => exact ⟨r0, [], rfl, Nat.le_refl _, rfl, Lib.hid (OwnM.nil _ _ _), Lib.hid (by simp [sumM]; exact hrs), REM, Lib.hid (World.grownBy.refl _ _)⟩
  case round =>
    obtain ⟨x, acc, rfl, hxs, rfl, hO, hS, hR, hG⟩ := hrel
    cases hq : x.toList.isEmpty
    · have hne : x.data.toList ≠ [] := by
        intro e; rw [Lib.toList_data, e] at hq; cases hq
      have NE := Lib.hid hne
      have HF := Lib.hid (aFirst x A wr (HE.out.grown hG.out) (by omega))
      clear hne
      go_wp2_with fail
      refine HF.out.mono ?_
      rintro e w1 ⟨m, ok, rfl, hf, hn, hc, hg⟩
      cases ok
      · have HN := Lib.hid (rem_not hR.out NE.out (fun m r h1 h2 => by have := (hf.2 m r h1 h2).1; cases this))
        have G2 := Lib.hid (hG.out.trans hg)
        clear hf hn hc hg
        unfold valM
        go_wp2
        go_ret2
        exact ⟨_, [], false, rfl, OwnM.nil _ _ _, by simp [sumM], fun e => (by cases e), fun _ => HN.out, G2.out.trans (World.grownBy_alloc _ _ _)⟩
      · have hsz := hf.1 rfl
        rw [bytes_len] at hsz
        have HNX := Lib.hid (rem_next hR.out NE.out (x := m) (fun m' r h1 h2 => (hf.2 m' r h1 h2).2))
        have G2 := Lib.hid (hG.out.trans hg)
        have O2 := Lib.hid (hO.out.kept hg)
        have BX := Lib.hid ((box_new w1 m).kept (World.grownBy_alloc _ (.cells #[.string m.n, .int .i64 m.t, .string m.c] 35) none))
        have NB := Lib.hid (not_own O2.out.1 (b := w1.heap.size) (.inr (Nat.le_refl _)))
        have LEN := Lib.hid (show acc.length ≤ 100000 by
          have h1 : ∀ l : List Mb, l.length ≤ sumM l := by
            intro l
            induction l with
            | nil => simp [sumM]
            | cons a r ih => have : sumM (a :: r) = sizeM a + sumM r := by simp [sumM]
                             rw [this, List.length_cons]; unfold sizeM; omega
          have := h1 acc; have := hS.out; omega)
        have HB := Lib.hid G2.out.size
        have MS := Lib.hid (show m.n.size ≤ maxLen ∧ m.c.size ≤ maxLen from ⟨hn, by unfold maxLen; omega⟩)
        have hcon := fun (W : World) => aSize m W (by omega)
        have SUM := Lib.hid (show sumM (acc ++ [m]) + (x.size - sizeM m) ≤ s.size by rw [sumM_snoc]; have := hS.out; omega)
        have hpos : 60 ≤ sizeM m := by unfold sizeM; omega
        unfold valM at hcon ⊢
        have HCS := Lib.hid hcon
        have HX := Lib.hid (ext_drop x (sizeM m))
        have hsi : ((sizeM m : Nat) : Int) ≤ (x.size : Int) := by omega
        have hl40 : acc.length ≤ 100000 := LEN.out
        clear hcon hf hc hg hn hR hO hG hS LEN
        generalize sizeM m = z at *
        go_wp2_with (first
          | (at_builtin; refine wpList_append_own _ rfl _ _ 22 rfl w.heap.size 35 i0 _ 3 40 Tryz.underlying22 I.out Z0.out Z1.out Z2.out rfl (by decide) _ _ _ rfl ((O2.out.1.alloc _).alloc _) ⟨_, 0, none⟩ 1 1 [.string m.n, .int .i64 m.t, .string m.c] rfl rfl (newsAtM _ m _ _ (by simp)) (oneM m) (by unfold maxLen; omega) (by omega) (by have := HB.out; simp; omega) ?_; intro v' w2 hown' hgrow2 hnil2; have O3 := Lib.hid (OwnM.snoc O2.out.2 MS.out.1 MS.out.2 hown' rfl rfl); have G3 := Lib.hid (((G2.out.trans (World.grownBy_alloc w1 (.cells #[.string m.n, .int .i64 m.t, .string m.c] 35) none)).trans (World.grownBy_alloc _ (.cells #[.string m.n, .int .i64 m.t, .string m.c] 35) none)).andThen hgrow2 (fun j e => .inl (O2.out.1.lt j e).1)); obtain ⟨k0, k1, k2, -, -, -⟩ := (BX.out.keptBut hgrow2 NB.out).cells; clear hown' hgrow2 hnil2)
          | (go_at_call 12; refine (HCS.out _).mono ?_; rintro e w3 ⟨rfl, hg3⟩; have O4 := Lib.hid (O3.out.kept hg3); have G4 := Lib.hid (G3.out.trans hg3); clear hg3))
        go_roundg (x.extract z x.size).size
        case measure => rw [ByteArray.size_extract]; omega
        case rel => exact ⟨_, acc ++ [m], rfl, by rw [ByteArray.size_extract]; omega, rfl, O4, Lib.hid (by rw [ByteArray.size_extract]; have := SUM.out; omega), Lib.hid (by rw [HX.out]; exact HNX.out), G4⟩
    · have he : x.data.toList = [] := by
        rw [Lib.toList_data] at hq
        simpa using hq
      have REND := Lib.hid (rem_end (s := s) (acc := acc) (by have := hR.out; rwa [he] at this))
      clear he
      go_wp2
      go_ret2
      exact ⟨_, acc, true, rfl, hO.out, by have := hS.out; omega, fun _ => REND.out, fun e => (by cases e), hG.out⟩
end Go.Proofs.YtgicfbhhnohndaaGreatDoor
