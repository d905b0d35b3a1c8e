/- The document's Unset of layer 14. -/
import Derived.Test.YtaihpgjimhifcaaDoorEvSet
import Derived.Deep.RegionLaw
import Derived.BigRegion
namespace Go.Proofs.YtaihpgjimhifcaaDoor
open Go.RowKit

section
variable {P : Program} (w : World)
/-- append of any number of elements, at a step of a region that draws -/
theorem step_appendV {ops : Array Oper} {o : Oper} {a : Act} {K : Act → World → Prop} {Q : Exit → Act → World → Prop} {E : Prop} (hgd : o.guard = none) (s x : Operand) (t : TypeId)
    (ho : o.op = .call { callee := .builtin .append, args := #[s, x], argTypes := #[t, t] })
    (base : Nat) (e : TypeId) (i : TypeInfo) (z : Value) (size bytes : Nat) (ht : P.underlying t = some (.slice e)) (hi : P.info? e = some i) (hz : i.zero = some z)
    (hsize : i.size = size) (hby : i.bytes = bytes) (hzs : z.cells.size = size) (hsz : 0 < size)
    (v : Value) (n : Nat) (xs : List Value) (hs : a.eval s = v) (hown : w.ownsRow base e size v n xs)
    (ad : Addr) (m c : Nat) (news : List Value) (hx : a.eval x = .slice (some ad) m c) (hl : news.length = m * size) (hnews : ∀ j u, news[j]? = some u → w.cell? (ad.add j) = some u) (h1 : ∀ u ∈ news, u.oneCell' = true)
    (h63 : n + m ≤ maxLen) (hbytes : (n + m) * bytes ≤ 140737488355328) (hbase : base ≤ w.heap.size)
    (h : ∀ v' w', w'.ownsRow base e size v' (n + m) (xs ++ news) → w.grownBy w' v.ownBlock → (v' = .slice none 0 0 ↔ v = .slice none 0 0 ∧ m = 0) → K (a.put o.dst v') w') :
    if Region.wanted o (yielded ops a.tmps) = true then Oper.wp P o a w K Q else E := by
  have hw : Region.wanted o (yielded ops a.tmps) = true := by simp [Region.wanted, hgd]
  rw [if_pos hw]
  exact wp_append_own w s x t ho base e i z size bytes ht hi hz hsize hby hzs hsz v n xs hs hown ad m c news hx hl hnews h1 h63 hbytes hbase h
end
theorem frozen_keptV {w w' : World} {row : Option Nat} (hg : w.grownBy w' row) {b o : Nat} (hb : b < w.heap.size) (hne : some b ≠ row) : w'.frozen? ⟨b, o, none⟩ = w.frozen? ⟨b, o, none⟩ :=
  World.frozen?_of_block (hg.block b hb hne)
theorem ne_ofV {w : World} {base : Nat} {e : TypeId} {size : Nat} {v : Value} {n : Nat} {xs : List Value} (h : w.ownsRow base e size v n xs) {b : Nat} (hb : b < base ∨ w.heap.size ≤ b) : some b ≠ v.ownBlock := fun e => by
  have := h.lt b e.symm
  omega
theorem vz_part {w : World} {b off : Nat} {l : List Vz} (hc : ∀ (j : Nat) (x : Vz), l[j]? = some x → w.cell? ⟨b, off + j * 4, none⟩ = some (.string x.n) ∧ w.cell? ⟨b, off + j * 4 + 1, none⟩ = some x.u ∧ w.cell? ⟨b, off + j * 4 + 2, none⟩ = some (.int .i64 x.lv) ∧ w.cell? ⟨b, off + j * 4 + 3, none⟩ = some (.bool x.hd))
    (i : Nat) (r : List Vz) (hr : ∀ j f, r[j]? = some f → l[i + j]? = some f) : ∀ j u, (vzV r)[j]? = some u → w.cell? ((⟨b, off + i * 4, none⟩ : Addr).add j) = some u := by
  intro j u hu
  have hjl : j < (vzV r).length := (List.getElem?_eq_some_iff.1 hu).1
  rw [vzV_len] at hjl
  have hq : j / 4 < r.length := by omega
  obtain ⟨f, hf⟩ : ∃ f, r[j / 4]? = some f := ⟨_, List.getElem?_eq_getElem hq⟩
  obtain ⟨h1, h2, h3, h4⟩ := hc _ _ (hr _ _ hf)
  obtain ⟨g1, g2, g3, g4⟩ := vzV_get hf
  rw [Addr.add_lit]
  have hm : j % 4 = 0 ∨ j % 4 = 1 ∨ j % 4 = 2 ∨ j % 4 = 3 := by omega
  rcases hm with hm | hm | hm | hm
  · have ej : j = j / 4 * 4 := by omega
    rw [ej, g1] at hu
    rw [show off + i * 4 + j = off + (i + j / 4) * 4 by omega, h1]; exact hu
  · have ej : j = j / 4 * 4 + 1 := by omega
    rw [ej, g2] at hu
    rw [show off + i * 4 + j = off + (i + j / 4) * 4 + 1 by omega, h2]; exact hu
  · have ej : j = j / 4 * 4 + 2 := by omega
    rw [ej, g3] at hu
    rw [show off + i * 4 + j = off + (i + j / 4) * 4 + 2 by omega, h3]; exact hu
  · have ej : j = j / 4 * 4 + 3 := by omega
    rw [ej, g4] at hu
    rw [show off + i * 4 + j = off + (i + j / 4) * 4 + 3 by omega, h4]; exact hu
theorem vzV_one {l : List Vz} (h : ∀ x ∈ l, ∃ a n c, x.u = .slice a n c) : ∀ u ∈ vzV l, u.oneCell' = true := by
  intro u hu
  unfold vzV at hu
  obtain ⟨x, hx, hu⟩ := List.mem_flatMap.1 hu
  obtain ⟨a, n, c, e⟩ := h x hx
  exact vz_one x e u hu
def PUnV (q : Nat) (l : List Vz) (s : ByteArray) (G : Nat → Prop) (w : World) (e : Ending) (w' : World) : Prop :=
  e = .returned (.bool (idxZ l s).isSome) ∧ w.grownBy w' (some q) ∧ ∃ uv, w'.heap[q]? = some (.cells #[uv] 30 (0, 0)) ∧ VRow w' (fun b => G b ∨ w.heap.size ≤ b) uv (unZ l s)
set_option maxRecDepth 100000 in
set_option maxHeartbeats 4000000 in
theorem dUnsetV (q : Nat) (uv : Value) (l : List Vz) (s : ByteArray) (G : Nat → Prop) (w : World) (hQ : w.heap[q]? = some (.cells #[uv] 30 (0, 0))) (hR : VRow w G uv l) (hGq : ¬G q) (hl : l.length ≤ 24) :
    Calls Tryd.prog 17 #[.pointer (some ⟨q, 0, none⟩), .string s] w (PUnV q l s G w) := by
  have hqc : w.cell? ⟨q, 0, none⟩ = some uv := by unfold World.cell?; rw [hQ]; rfl
  have CA := Lib.hid (dAtV q uv l s G w hqc hR)
  have HQ := Lib.hid hQ; have HR := Lib.hid hR
  cases hi : idxZ l s with
  | none =>
    have ha : atZ l s = -1 := by unfold atZ; rw [hi]
    rw [ha] at CA
    have HF := Lib.hid (show ∀ w', w.grownBy w' none → PUnV q l s G w (.returned (.bool false)) w' from fun w' g => by
      unfold PUnV unZ
      rw [hi]
      exact ⟨rfl, grown_anyV g q, uv, heap_grown g hQ, (hR.keep (KeepG.grown g)).more fun b hb _ => .inl hb⟩)
    clear hi ha hQ hR hqc
    go_enter Tryd.func17, Tryd.ntmps17
    go_wp2_with (go_at_call 19; (with_reducible refine CA.out.mono ?_); rintro e w1 ⟨rfl, g1⟩; have G1 := Lib.hid g1; clear g1)
    go_ret
    exact HF.out _ G1.out
  | some k =>
    have ha : atZ l s = (k : Int) := by unfold atZ; rw [hi]
    rw [ha] at CA
    obtain ⟨x, hx, -⟩ := idx_is hi
    have hk := (List.getElem?_eq_some_iff.1 hx).1
    have HUN := Lib.hid (show unZ l s = l.take k ++ l.drop (k + 1) by unfold unZ; rw [hi])
    have HIS := Lib.hid (show (idxZ l s).isSome = true by rw [hi]; rfl)
    obtain ⟨va, c, rfl, ⟨hm, hlc, hcm⟩, ht, hrow⟩ := hR
    obtain ⟨b, off, rfl, hGb, hb, hcc⟩ := hrow (by intro e; rw [e] at hk; simp at hk)
    have ONE := Lib.hid (show ∀ r : List Vz, (∀ y ∈ r, y ∈ l) → ∀ u ∈ vzV r, u.oneCell' = true from fun r hr => vzV_one fun y hy => by
      obtain ⟨a, n, e, -⟩ := (ht y (hr y hy)).shape
      exact ⟨a, _, n, e⟩)
    have HT := Lib.hid ht
    obtain ⟨iu, hiu, hu0, hu1, hu2⟩ := info_parts infoVz
    have IU := Lib.hid hiu; have ZU0 := Lib.hid hu0; have ZU1 := Lib.hid hu1; have ZU2 := Lib.hid hu2
    clear hi ha hQ hrow hx hiu hu0 hu1 hu2
    go_enter Tryd.func17, Tryd.ntmps17
    have HCC := Lib.hid hcc
    go_wp2_with (go_at_call 19; (with_reducible refine CA.out.mono ?_); rintro e w1 ⟨rfl, g1⟩; have G1 := Lib.hid g1; clear g1)
    have hi1 : (0 : Int) ≤ (k : Int) := Int.natCast_nonneg _
    have hi2 : (k : Int) ≤ (c : Int) := by omega
    have hi3 : (0 : Int) ≤ (k : Int) + 1 := by omega
    have hi4 : (k : Int) + 1 ≤ (l.length : Int) := by omega
    have hw1 : IntKind.i64.wrap ((k : Int) + 1) = (k : Int) + 1 := (IntKind.wrap_i64 _).trans (by omega)
    have hc := G1.out.cell hqc (by simp)
    have QR := Lib.hid (heap_grown G1.out HQ.out)
    have hfr := four_free QR.out 0
    have PL := Lib.hid (show q < w1.heap.size from cell_block hc)
    have hdec : decide ((k : Int) < 0) = false := decide_eq_false (by omega)
    have hcA := cell_al (o := .cells #[] 42) hc
    have O0 := Lib.hid ((ownV_zero w1 42 w1.heap.size (Nat.le_refl _)).drew)
    have B0 := Lib.hid (below_of_grown (grown_drew (World.grownBy_alloc w1 (.cells #[] 42) none)))
    have HC1 := Lib.hid (fun (W : World) (hB : Below w1.heap.size w1 W) => show ∀ (j : Nat) (x : Vz), l[j]? = some x → W.cell? ⟨b, off + j * 4, none⟩ = some (.string x.n) ∧ W.cell? ⟨b, off + j * 4 + 1, none⟩ = some x.u ∧ W.cell? ⟨b, off + j * 4 + 2, none⟩ = some (.int .i64 x.lv) ∧ W.cell? ⟨b, off + j * 4 + 3, none⟩ = some (.bool x.hd) from fun j x hj => by
      obtain ⟨q1, q2, q3, q4⟩ := HCC.out j x hj
      have hbl : b < w1.heap.size := Nat.lt_of_lt_of_le hb G1.out.size
      exact ⟨(hB.cell (p := ⟨b, _, none⟩) hbl).trans (G1.out.cell q1 (by simp)), (hB.cell (p := ⟨b, _, none⟩) hbl).trans (G1.out.cell q2 (by simp)), (hB.cell (p := ⟨b, _, none⟩) hbl).trans (G1.out.cell q3 (by simp)), (hB.cell (p := ⟨b, _, none⟩) hbl).trans (G1.out.cell q4 (by simp))⟩)
    have PA := Lib.hid (show ∀ j u, (vzV (l.take k))[j]? = some u → ((w1.alloc (.cells #[] 42)).drew).cell? ((⟨b, off, none⟩ : Addr).add j) = some u from fun j u hu => by
      have := vz_part (HC1.out _ B0.out) 0 (l.take k) (fun j f h => by simp only [Nat.zero_add]; rw [List.getElem?_take] at h; split at h; exact h; cases h) j u hu
      simpa using this)
    obtain ⟨o2, hif, ho2⟩ : ∃ o2, (if c = k + 1 then (some ⟨b, off, none⟩ : Option Addr) else some ⟨b, off + (k + 1) * 4, none⟩) = some ⟨b, o2, none⟩ ∧ (o2 = off + (k + 1) * 4 ∨ l.drop (k + 1) = []) := by
      by_cases hck : c = k + 1
      · exact ⟨off, if_pos hck, .inr (List.drop_eq_nil_of_le (by omega))⟩
      · exact ⟨_, if_neg hck, .inl rfl⟩
    have PB := fun (W : World) (hB : Below w1.heap.size w1 W) => show ∀ j u, (vzV (l.drop (k + 1)))[j]? = some u → W.cell? ((⟨b, o2, none⟩ : Addr).add j) = some u from fun j u hu => by
      rcases ho2 with rfl | e
      · exact vz_part (HC1.out W hB) (k + 1) (l.drop (k + 1)) (fun j f h => by rw [List.getElem?_drop] at h; exact h) j u hu
      · rw [e] at hu; simp [vzV] at hu
    obtain ⟨ln, hln⟩ : ∃ ln, ln = l.take k ++ l.drop (k + 1) := ⟨_, rfl⟩
    have HIF := Lib.hid hif
    have HAPP := Lib.hid (show vzV (l.take k) ++ vzV (l.drop (k + 1)) = vzV ln by rw [hln, vzV_app])
    rw [← hln] at HUN
    have HLN := Lib.hid hln
    have PBH := Lib.hid PB
    have HNEW := Lib.hid (show ln.length = k + (l.length - (k + 1)) by rw [hln, List.length_append, List.length_take, List.length_drop]; omega)
    clear hqc hcc hif ho2 PB hln ht CA
    go_wp2_with fail
    go_region_law (first
      | (refine step_appendV _ rfl (.tmp 12) (.tmp 18) 28 rfl w1.heap.size 42 iu _ 4 56 Tryd.underlying28 IU.out ZU0.out ZU1.out ZU2.out rfl (by decide) _ 0 [] rfl O0.out ⟨b, off, none⟩ k c (vzV (l.take k)) rfl (by rw [vzV_len, List.length_take]; omega) PA.out (ONE.out _ (List.take_sublist _ _).subset) (by unfold maxLen; omega) (by omega) (by simp) ?_; intro v2 w2 hown2 hgrow2 hnil2; clear hnil2; simp only [List.nil_append, Nat.zero_add] at hown2; have OWN2 := Lib.hid hown2; have GROW2 := Lib.hid hgrow2; clear hown2 hgrow2; have cp2 := GROW2.out.cell (show (w1.alloc (.cells #[] 42)).drew.cell? ⟨q, 0, none⟩ = _ from hcA) (ne_ofV O0.out (.inl PL.out)); have B2 := Lib.hid (B0.out.grown GROW2.out (by simp) (fun j e => (O0.out.lt j e).1)))
      | (refine step_appendV _ rfl (.tmp 19) (.tmp 26) 28 rfl w1.heap.size 42 iu _ 4 56 Tryd.underlying28 IU.out ZU0.out ZU1.out ZU2.out rfl (by decide) v2 k (vzV (l.take k)) rfl OWN2.out ⟨b, o2, none⟩ (l.length - (k + 1)) (c - (k + 1)) (vzV (l.drop (k + 1))) (congrArg (fun z => Value.slice z (l.length - (k + 1)) (c - (k + 1))) HIF.out) (by rw [vzV_len, List.length_drop]) (PBH.out _ B2.out) (ONE.out _ (List.drop_sublist _ _).subset) (by unfold maxLen; omega) (by omega) B2.out.size ?_; intro v3 w3 hown3 hgrow3 hnil3; clear hnil3; rw [HAPP.out, ← HNEW.out] at hown3; obtain ⟨a', c', rfl⟩ := tx_shape hown3; have OWN3 := Lib.hid hown3; have GROW3 := Lib.hid hgrow3; have cp3 := hgrow3.cell cp2 (ne_ofV OWN2.out (.inl PL.out)); have fp3 : w3.frozen? ⟨q, 0, none⟩ = false := (frozen_keptV (hgrow3) (by have := PL.out; have := B2.out.size; omega) (ne_ofV OWN2.out (.inl PL.out))).trans ((B2.out.frozen (p := ⟨q, 0, none⟩) PL.out).trans hfr); have B3 := Lib.hid (B2.out.grown hgrow3 B2.out.size (fun j e => (OWN2.out.lt j e).1)); clear hown3 hgrow3))
    all_goals go_wp2
    all_goals
      go_ret
      have QR3 := Lib.hid ((B3.out.block q PL.out).trans QR.out)
      have gw := G1.out.trans (grown_of_below B3.out)
      have hqw : q < w.heap.size := (Array.getElem?_eq_some_iff.1 HQ.out).1
      have n24 := HNEW.out
      have VR := show VRow w3 (fun b => G b ∨ w.heap.size ≤ b) (.slice a' ln.length c') ln from vz_row OWN3.out rfl (by omega) (fun b hb _ => .inr (Nat.le_trans G1.out.size hb)) (fun y hy => by
        rw [HLN.out] at hy
        have hyl : y ∈ l := by
          rcases List.mem_append.1 hy with h | h
          · exact (List.take_sublist _ _).subset h
          · exact (List.drop_sublist _ _).subset h
        exact ((HT.out y hyl).keep (KeepG.grown gw)).more fun b hb _ => .inl hb)
      have gq := grown_setCellV w3 q (.slice a' ln.length c')
      unfold PUnV
      rw [HIS.out, HUN.out]
      exact ⟨rfl, (grown_anyV gw q).trans gq, _, heap_setCell_same _ q 0 _ _ _ QR3.out, VR.keep (KeepG.but gq (by rintro (h | h); exact hGq h; omega))⟩
end Go.Proofs.YtaihpgjimhifcaaDoor
