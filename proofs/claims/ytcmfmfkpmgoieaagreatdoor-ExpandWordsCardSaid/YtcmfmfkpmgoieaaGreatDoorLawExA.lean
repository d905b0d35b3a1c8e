/- The law's variables: an Env of the program's and one of the document's, set side by side. What the laws of layer 17 share: the chapter's example, the errors, what stands in memory. -/
import Derived.Test.YtcmfmfkpmgoieaaGreatDoorEvGet
import Derived.Test.YtcmfmfkpmgoieaaGreatDoorEvSet
import Derived.Test.YtcmfmfkpmgoieaaGreatDoorExDoc
import Derived.Test.YtcmfmfkpmgoieaaGreatDoorLxWs
import Derived.Deep.DeepAppendWide
import Derived.Test.YtcmfmfkpmgoieaaGreatDoorExAll
import Derived.Test.YtcmfmfkpmgoieaaGreatDoorLaidErr
namespace Go.Proofs.YtcmfmfkpmgoieaaGreatDoor
open Go.RowKit

abbrev acW (x : Vz) : List Value := [.int .i64 0, .string x.n, x.u, .int .i64 x.lv, .bool x.hd]
def acV (L : List Vz) : List Value := L.flatMap acW
theorem acV_snoc (L : List Vz) (x : Vz) : acV (L ++ [x]) = acV L ++ [.int .i64 0, .string x.n, x.u, .int .i64 x.lv, .bool x.hd] := by unfold acV; rw [List.flatMap_append]; rfl
theorem acV_get : ∀ {L : List Vz} {j : Nat} {x : Vz}, L[j]? = some x → (acV L)[j * 5]? = some (.int .i64 0) ∧ (acV L)[j * 5 + 1]? = some (.string x.n) ∧ (acV L)[j * 5 + 2]? = some x.u ∧ (acV L)[j * 5 + 3]? = some (.int .i64 x.lv) ∧ (acV L)[j * 5 + 4]? = some (.bool x.hd)
  | [], j, x, h => by simp at h
  | y :: L, 0, x, h => by simp at h; subst h; exact ⟨rfl, rfl, rfl, rfl, rfl⟩
  | y :: L, j + 1, x, h => by
    rw [List.getElem?_cons_succ] at h
    obtain ⟨h1, h2, h3, h4, h5⟩ := acV_get h
    have e : ∀ i, (acV (y :: L))[i + 5]? = (acV L)[i]? := fun i => rfl
    rw [show (j + 1) * 5 = j * 5 + 5 by omega, e, show j * 5 + 5 + 1 = (j * 5 + 1) + 5 by omega, e, show j * 5 + 5 + 2 = (j * 5 + 2) + 5 by omega, e, show j * 5 + 5 + 3 = (j * 5 + 3) + 5 by omega, e, show j * 5 + 5 + 4 = (j * 5 + 4) + 5 by omega, e]
    exact ⟨h1, h2, h3, h4, h5⟩
theorem acV_len (L : List Vz) : (acV L).length = L.length * 5 := by
  induction L with
  | nil => rfl
  | cons x L ih => unfold acV at ih ⊢; rw [List.flatMap_cons, List.length_append, ih, List.length_cons]; simp; omega
theorem ac_new (w : World) (x : Vz) (T : TypeId) (m : Nat) (hm : m = w.heap.size) : ∀ j y, (acW x)[j]? = some y → (w.alloc (.cells #[.int .i64 0, .string x.n, x.u, .int .i64 x.lv, .bool x.hd] T)).cell? ((⟨m, 0, none⟩ : Addr).add j) = some y := by
  subst hm
  intro j y hy
  have hlt := (List.getElem?_eq_some_iff.1 hy).1
  simp at hlt
  rw [Addr.add_lit]
  match j, hlt with
  | 0, _ => simp at hy; subst hy; simp [go_sem]
  | 1, _ => simp at hy; subst hy; simp [go_sem]
  | 2, _ => simp at hy; subst hy; simp [go_sem]
  | 3, _ => simp at hy; subst hy; simp [go_sem]
  | 4, _ => simp at hy; subst hy; simp [go_sem]
theorem ac_one (x : Vz) {a : Option Addr} {n c : Nat} (hu : x.u = .slice a n c) : ∀ y ∈ acW x, y.oneCell' = true := by
  intro y hy
  simp at hy
  rcases hy with rfl | rfl | rfl | rfl | rfl
  · rfl
  · rfl
  · rw [hu]; rfl
  · rfl
  · rfl
/-- the acts that set these variables, as they lie -/
theorem ac_row {w : World} {base n : Nat} {T : TypeId} {v : Value} {L : List Vz} (h : w.ownsRow base T 5 v n (acV L)) (hn : n = L.length) (hm : n ≤ 9223372036854775807) (ht : ∀ x ∈ L, TxRow w x.u x.ws ∧ (x.ws ≠ [] → ∀ b, x.u.ownBlock = some b → b < w.heap.size)) : ARow w v (L.map fun x => ⟨0, x⟩) := by
  subst hn
  obtain ⟨a, c, rfl⟩ := tx_shape h
  refine ⟨a, c, by rw [List.length_map], by rw [List.length_map]; exact hm, fun x hx => ?_, fun hne => ?_⟩
  · obtain ⟨y, hy, rfl⟩ := List.mem_map.1 hx
    exact ht y hy
  · rcases h.2 with ⟨-, h2⟩ | ⟨g, cap, cur, h2, -, h4, -⟩
    · exact absurd (List.map_eq_nil_iff.2 (List.length_eq_zero_iff.1 h2)) hne
    · cases h2
      have hc := h.cells (g := g) rfl
      refine ⟨g, 0, rfl, (Array.getElem?_eq_some_iff.1 h4).1, fun j x hx => ?_⟩
      rw [List.getElem?_map, Option.map_eq_some_iff] at hx
      obtain ⟨y, hy, rfl⟩ := hx
      obtain ⟨k0, k1, k2, k3, k4⟩ := acV_get hy
      have a0 := hc _ _ k0
      have a1 := hc _ _ k1
      have a2 := hc _ _ k2
      have a3 := hc _ _ k3
      have a4 := hc _ _ k4
      rw [Addr.add_lit] at a0 a1 a2 a3 a4
      exact ⟨by simpa using a0, by simpa [Nat.add_assoc] using a1, by simpa [Nat.add_assoc] using a2, by simpa [Nat.add_assoc] using a3, by simpa [Nat.add_assoc] using a4⟩
theorem infoAc : (Tryz.prog.info? 75).map (fun i => (i.zero, i.size, i.bytes)) = some (some (.agg #[.int .i64 0, .string ⟨#[]⟩, .slice none 0 0, .int .i64 0, .bool false]), 5, 64) := by kernel_rfl
theorem put_in {l : List Vz} {x y : Vz} (h : y ∈ (putZ l x).2) : y ∈ l ∨ y = x := by
  unfold putZ at h
  split at h
  · exact .inl h
  · cases hf : l.find? (fun y => decide (y.n = x.n)) with
    | none =>
      rw [hf] at h
      simp only at h
      split at h
      · exact .inl h
      · exact set_mem h
    | some z =>
      rw [hf] at h
      simp only at h
      split at h
      · exact .inl h
      · exact set_mem h
/-- both Envs, of the same variables -/
structure TwoE (W : World) (base p q : Nat) (b : Nat) (F : Nat → Prop) (Z : List Vz) (uv : Value) (l : List Vz) (G : Nat → Prop) : Prop where
  e : EvZ W p b F Z
  f : ∀ k, F k → base ≤ k
  hq : W.heap[q]? = some (.cells #[uv] 72 (0, 0))
  r : VRow W G uv l
  g : ∀ k, G k → k < W.heap.size ∧ ¬ F k ∧ k ≠ q
  o : ∀ k, k < base → G k
  n : ¬ F q
  bq : base ≤ q
  s : vbL Z = vbL l
  k : OkZ l
  z : SzV (vbL l)
theorem TwoE.grown {W W' : World} {base p q b : Nat} {F : Nat → Prop} {Z : List Vz} {uv : Value} {l : List Vz} {G : Nat → Prop} (h : TwoE W base p q b F Z uv l G) (g : W.grownBy W' none) : TwoE W' base p q b F Z uv l G :=
  ⟨h.e.grown g, h.f, heap_grown g h.hq, h.r.keep (KeepG.grown g), fun k hk => ⟨Nat.lt_of_lt_of_le (h.g k hk).1 g.size, (h.g k hk).2⟩, h.o, h.n, h.bq, h.s, h.k, h.z⟩
theorem TwoE.row {W W' : World} {base p q b : Nat} {F : Nat → Prop} {Z : List Vz} {uv : Value} {l : List Vz} {G : Nat → Prop} {r : Option Nat} (h : TwoE W base p q b F Z uv l G) (g : W.grownBy W' r) (hr : ∀ k, r = some k → ¬ F k ∧ k ≠ q ∧ ¬ G k) : TwoE W' base p q b F Z uv l G :=
  ⟨h.e.keep ⟨g.size, fun k hk hl => g.block k hl (fun e => (hr k e.symm).1 hk)⟩, h.f, (g.block q (Array.getElem?_eq_some_iff.1 h.hq).1 (fun e => (hr q e.symm).2.1 rfl)).trans h.hq, h.r.keep ⟨g.size, fun k hk hl => g.block k hl (fun e => (hr k e.symm).2.2 hk)⟩,
    fun k hk => ⟨Nat.lt_of_lt_of_le (h.g k hk).1 g.size, (h.g k hk).2⟩, h.o, h.n, h.bq, h.s, h.k, h.z⟩
/-- no Envs, or two of the same variables -/
def PVars (w : World) (e : Ending) (w' : World) : Prop :=
  w.grownBy w' none ∧ (e = .returned (.tuple #[.pointer none, .pointer none, .bool false]) ∨
    ∃ p q b F Z uv l G, e = .returned (.tuple #[.pointer (some ⟨p, 0, none⟩), .pointer (some ⟨q, 0, none⟩), .bool true]) ∧ TwoE w' w.heap.size p q b F Z uv l G)
set_option maxRecDepth 100000 in
set_option maxHeartbeats 8000000 in
theorem lVars (A : Nat → Addr) (v : Value) (L : List Vz) (w : World) (hR : VRow w (fun b => b < w.heap.size) v L) (hE : Sents LV A w) (hl : L.length ≤ 2513169435000) :
    Calls Tryz.prog 8 #[v] w (PVars w) := by
  obtain ⟨iu, hiu, hu0, hu1, hu2⟩ := info_parts infoAc
  have IU := Lib.hid hiu; have ZU0 := Lib.hid hu0; have ZU1 := Lib.hid hu1; have ZU2 := Lib.hid hu2
  obtain ⟨va, vc, rfl, -⟩ := hR.shape
  have HR := Lib.hid hR; have HE := Lib.hid hE
  have CN := Lib.hid (pNew w)
  clear hiu hu0 hu1 hu2 hR hE
  go_enter Tryz.func8, Tryz.ntmps8
  go_wp2_with (go_at_call 27; fail)
  refine CN.out.mono ?_
  rintro e w1 ⟨g1, rfl, z1⟩
  have G1 := Lib.hid g1; have Z1 := Lib.hid z1
  clear g1 z1 CN
  obtain ⟨base, hbase⟩ : ∃ base, w.heap.size = base := ⟨_, rfl⟩
  rw [hbase] at Z1 ⊢
  obtain ⟨q, hq⟩ : ∃ q, w1.heap.size = q := ⟨_, rfl⟩
  have hbq : base + 1 < q := by have := Z1.out.lt (base + 1) (.inl rfl); omega
  go_upto_region 3 with fail
  have g2 := World.grownBy_alloc w1 (.cells #[.slice none 0 0] 72) none
  have Q2 := heap_alloc_new w1 (.cells #[.slice none 0 0] 72)
  rw [hq] at Q2
  have g3 := World.grownBy_alloc (w1.alloc (.cells #[.slice none 0 0] 72)) (.cells #[] 75) none
  have T3 := Lib.hid (show TwoE ((w1.alloc (.cells #[.slice none 0 0] 72)).alloc (.cells #[] 75)) base (base + 1) q base (fun c => c = base + 1 ∨ c = base) [] (.slice none 0 0) [] (fun k => k < base) from
    ⟨(Z1.out.grown g2).grown g3, fun k hk => by rcases hk with h | h <;> omega, heap_grown g3 Q2, ⟨none, 0, rfl, ⟨by simp, by simp, by simp⟩, fun x hx => by simp at hx, fun h => absurd rfl h⟩,
      fun k hk => ⟨by have := g3.size; have := g2.size; omega, fun h => by rcases h with h | h <;> omega, by omega⟩, fun k hk => hk, fun h => by rcases h with h | h <;> omega, by omega, rfl, ⟨List.Pairwise.nil, by simp⟩, fun v hv => by simp at hv⟩)
  have O3 := Lib.hid (show ((w1.alloc (.cells #[.slice none 0 0] 72)).alloc (.cells #[] 75)).ownsRow (q + 1) 75 5 (.slice (some ⟨q + 1, 0, none⟩) 0 0) 0 (acV []) by
    have h := own_zero (w1.alloc (.cells #[.slice none 0 0] 72)) 75 5 (q + 1) (by rw [World.size_alloc, hq]; exact Nat.le_refl _)
    rw [World.size_alloc, hq] at h
    exact h)
  have G3 := Lib.hid ((G1.out.trans g2).trans g3)
  have HB := Lib.hid hbase
  clear g2 g3 Q2 hbase
  generalize World.alloc (World.alloc _ _) _ = w3 at T3 O3 G3 ⊢
  have hRR := Lib.hid (fun (W : World) (g : w.grownBy W none) => HR.out.keep (KeepG.grown g))
  clear hq Z1 G1
  go_wp2
  go_loopw [7, 18] (fun o i wr => ∃ (j : Nat) (ua : Option Addr) (uc : Nat), j ≤ L.length ∧ i = .int .i64 j ∧ o = .slice ua j uc ∧ Hid (wr.ownsRow (q + 1) 75 5 (.slice ua j uc) j (acV (L.take j))) ∧ Hid (w.grownBy wr none) ∧ Hid (TwoE wr base (base + 1) q base (fun c => c = base + 1 ∨ c = base) [] (.slice none 0 0) [] (fun k => k < base))) (fun _ i _ => L.length - (intOf i).toNat)
  case atStart => exact ⟨0, _, _, Nat.zero_le _, rfl, rfl, O3, G3, T3⟩
  case round =>
    obtain ⟨j, ua, uc, hj, rfl, rfl, hO, hG, hT⟩ := hrel
    by_cases hlt : j < L.length
    · obtain ⟨b, off, c, x, ev, hx, hGb, ht, c0, c1, c2, c3⟩ := (hRR.out wr hG.out).at j hlt
      injection ev with ev1 ev2 ev3
      subst ev1 ev3
      obtain ⟨n, ws, lv, hd, u⟩ := x
      obtain ⟨a', c', hu, -⟩ := ht.shape
      simp only at hu c0 c1 c2 c3
      subst hu
      have HT := Lib.hid (show L.take (j + 1) = L.take j ++ [⟨n, ws, lv, hd, .slice a' ws.length c'⟩] by rw [List.take_add_one, hx]; rfl)
      have g4 := World.grownBy_alloc wr (.cells #[.string n, .slice a' ws.length c', .int .i64 lv, .bool hd] 67) none
      have B4 := Lib.hid (heap_alloc_new wr (.cells #[.string n, .slice a' ws.length c', .int .i64 lv, .bool hd] 67))
      have G4 := Lib.hid (hG.out.trans g4)
      have R4 := Lib.hid (own_kept hO.out g4)
      have T4 := Lib.hid (hT.out.grown g4)
      clear hx hGb ht g4 hO hG hT
      go_upto_region 6 with fail
      generalize wr.alloc _ = w4 at B4 G4 R4 T4 ⊢
      obtain ⟨d0, d1, d2, d3⟩ := four_vx B4.out
      clear c0 c1 c2 c3
      have hq4 : q < w4.heap.size := (Array.getElem?_eq_some_iff.1 T4.out.hq).1
      go_wp2_with (at_builtin; refine wpList_append_own_wide _ rfl _ _ 73 rfl (q + 1) 75 iu _ 5 64 Tryz.underlying73 IU.out ZU0.out ZU1.out ZU2.out rfl (by decide) _ _ _ rfl (R4.out.alloc _) ⟨_, 0, none⟩ 1 1 [.int .i64 0, .string n, .slice a' ws.length c', .int .i64 lv, .bool hd] rfl rfl (ac_new _ ⟨n, ws, lv, hd, .slice a' ws.length c'⟩ _ _ (by simp)) (ac_one ⟨n, ws, lv, hd, .slice a' ws.length c'⟩ rfl) (by unfold maxLen; omega) (by omega) (by have := G4.out.size; have := HB.out; simp; omega) ?_; intro v9 w9 hown9 hgrow9 _; have g0 := World.grownBy_alloc w4 (.cells #[.int .i64 0, .string n, .slice a' ws.length c', .int .i64 lv, .bool hd] 75) none; have G9 := Lib.hid ((G4.out.trans g0).andThen hgrow9 (fun k hk => .inl (by have := (R4.out.lt k hk).1; have := HB.out; omega))); have O9 := Lib.hid hown9; have T9 := Lib.hid ((T4.out.grown g0).row hgrow9 (fun k hk => by have := (R4.out.lt k hk).1; exact ⟨fun h => by rcases h with h | h <;> omega, by omega, by omega⟩)); clear hown9 hgrow9 g0)
      obtain ⟨va9, vc9, rfl⟩ := tx_shape O9.out
      have OA := Lib.hid (show w9.ownsRow (q + 1) 75 5 (.slice va9 (j + 1) vc9) (j + 1) (acV (L.take (j + 1))) by rw [HT.out, acV_snoc]; exact O9.out)
      go_wp2
      go_roundw
      case rel => exact ⟨j + 1, va9, vc9, hlt, by go_num, rfl, OA, G9, T9⟩
      case measure => simp [intOf]; omega
    · obtain rfl : j = L.length := by omega
      have AR := Lib.hid (show ARow wr (.slice ua L.length uc) (L.map fun x => ⟨0, x⟩) from ac_row (by have := hO.out; rwa [List.take_of_length_le (Nat.le_refl _)] at this) rfl (by omega) (fun x hx => by
        obtain ⟨a1, c1, e1, h1, h2, h3⟩ := hRR.out wr hG.out
        exact ⟨(h2 x hx).1, fun hne b hb => ((h2 x hx).2 hne b hb).2⟩))
      have CL := Lib.hid (lLongA _ _ 30 wr AR.out)
      go_wp2_with fail
      refine CL.out.mono ?_
      rintro e w5 ⟨⟨z, rfl, hz⟩, g5⟩
      have G5 := Lib.hid (hG.out.trans g5)
      have T5 := Lib.hid (hT.out.grown g5)
      clear hO hG hT AR CL g5
      cases z with
      | true =>
        go_wp2
        refine bodyPost_ret (res3 Tryz.results8 _ _ _) rfl ?_
        exact ⟨G5.out, .inl rfl⟩
      | false =>
        obtain ⟨hz1, hz2⟩ := hz rfl
        rw [List.length_map] at hz1
        have HSH := Lib.hid (show ∀ x ∈ L, x.n.size ≤ 60 ∧ x.ws.length ≤ 60 ∧ ∀ t ∈ x.ws, t.size ≤ 200 from fun x hx => hz2 ⟨0, x⟩ (List.mem_map_of_mem hx))
        clear hz hz2
        go_wp2
        go_loopw [36] (fun i wr => ∃ (j : Nat) (b : Nat) (F : Nat → Prop) (Z : List Vz) (uv : Value) (l : List Vz) (G : Nat → Prop), j ≤ L.length ∧ i = .int .i64 j ∧ Hid (w.grownBy wr none) ∧ Hid (TwoE wr base (base + 1) q b F Z uv l G)) (fun i _ => L.length - (intOf i).toNat)
        case atStart => exact ⟨0, _, _, _, _, _, _, Nat.zero_le _, rfl, G5, T5⟩
        case round =>
          obtain ⟨j, b, F, Z, uv, l, G, hj, rfl, hG, hT⟩ := hrel
          by_cases hlt : j < L.length
          · obtain ⟨b1, off, c, x, ev, hx, hGb, ht, c0, c1, c2, c3⟩ := (hRR.out wr hG.out).at j hlt
            injection ev with ev1 ev2 ev3
            subst ev1 ev3
            obtain ⟨n, ws, lv, hd, u⟩ := x
            obtain ⟨a', c', hu, -⟩ := ht.shape
            simp only at hu c0 c1 c2 c3
            subst hu
            obtain ⟨hn60, hw60, hw200⟩ := HSH.out _ (List.mem_of_getElem? hx)
            simp only at hn60 hw60 hw200
            have g4 := World.grownBy_alloc wr (.cells #[.string n, .slice a' ws.length c', .int .i64 lv, .bool hd] 67) none
            have B4 := Lib.hid (heap_alloc_new wr (.cells #[.string n, .slice a' ws.length c', .int .i64 lv, .bool hd] 67))
            have G4 := Lib.hid (hG.out.trans g4)
            have T4 := Lib.hid (hT.out.grown g4)
            have K4 := Lib.hid (show TxG (wr.alloc (.cells #[.string n, .slice a' ws.length c', .int .i64 lv, .bool hd] 67)) (fun k => k < w.heap.size) (.slice a' ws.length c') ws from ht.keep (KeepG.grown g4))
            obtain ⟨xb, hxb⟩ : ∃ xb, wr.heap.size = xb := ⟨_, rfl⟩
            have hFx : ¬ F xb := fun h => by have := hT.out.e.lt xb h; omega
            have hqx : q < xb := by have := (Array.getElem?_eq_some_iff.1 hT.out.hq).1; omega
            clear hx hGb ht g4 hG hT
            rw [hxb] at B4
            go_upto_region 13 with fail
            generalize wr.alloc _ = w4 at B4 G4 T4 K4 ⊢
            obtain ⟨d0, d1, d2, d3⟩ := four_vx B4.out
            clear c0 c1 c2 c3
            have hb0 := HB.out
            have CS := Lib.hid (pSet A (base + 1) b F Z n ws lv hd a' c' w4 (HE.out.grown G4.out) T4.out.e (K4.out.more fun k hk _ hf => by have := T4.out.f k hf; omega) (by omega) (by omega))
            go_wp2_with (go_at_call 28; fail)
            refine CS.out.mono ?_
            rintro e w6 ⟨rfl, o6, b6, F6, Z6, z6, s6, f6⟩
            have hsz6 := o6.size
            have hxlt := (Array.getElem?_eq_some_iff.1 B4.out).1
            have B6 := Lib.hid ((o6.block xb hxlt hFx).trans B4.out)
            have Q6 := Lib.hid ((o6.block q (by omega) T4.out.n).trans T4.out.hq)
            have R6 := Lib.hid (T4.out.r.keep (o6.keep fun k hk => (T4.out.g k hk).2.1))
            have K6 := Lib.hid (show TxG w6 G (.slice a' ws.length c') ws from (K4.out.keep (o6.keep fun k hk hf => by have := T4.out.f k hf; omega)).more fun k hk _ => T4.out.o k (by omega))
            have G6 := Lib.hid (show w.grownBy w6 none from o6.grown G4.out (fun k hk => by have := T4.out.f k hk; omega))
            have NF := Lib.hid (show (∀ k, G k → ¬ F6 k) ∧ ¬ F6 q ∧ ∀ k, F6 k → base ≤ k from ⟨fun k hk hf => by
                rcases f6 k hf with h | h
                · exact (T4.out.g k hk).2.1 h
                · have := (T4.out.g k hk).1; omega, fun hf => by
                rcases f6 q hf with h | h
                · exact T4.out.n h
                · omega, fun k hf => by
                rcases f6 k hf with h | h
                · exact T4.out.f k h
                · omega⟩)
            have E6 := Lib.hid z6
            have S6 := Lib.hid (show vbL Z6 = (pubV (vbL l) (⟨n, ws, lv, hd, .slice a' ws.length c'⟩ : Vz).b).2 by rw [s6, ← T4.out.s, vb_put])
            have CD := Lib.hid (dSetV q uv l ⟨n, ws, lv, hd, .slice a' ws.length c'⟩ G w6 Q6.out R6.out (fun h => (T4.out.g q h).2.2 rfl) K6.out (by show n.size ≤ 100; omega) T4.out.k.2)
            clear o6 z6 s6 f6 CS d0 d1 d2 d3
            obtain ⟨d0, d1, d2, d3⟩ := four_vx B6.out
            go_wp2_with (go_at_call 30; fail)
            refine CD.out.mono ?_
            rintro e w7 ⟨rfl, g7, uv7, q7, r7⟩
            have G7 := Lib.hid (show w.grownBy w7 none from G6.out.andThen g7 (fun k hk => .inl (by have := Option.some.inj hk; have := T4.out.bq; omega)))
            have T7 := Lib.hid (show TwoE w7 base (base + 1) q b6 F6 Z6 uv7 (putZ l ⟨n, ws, lv, hd, .slice a' ws.length c'⟩).2 (fun k => (G k ∨ w6.heap.size ≤ k) ∧ k < w7.heap.size) from
              ⟨E6.out.keep ⟨g7.size, fun k hk hlk => g7.block k hlk (fun e => NF.out.2.1 (by rw [← Option.some.inj e]; exact hk))⟩, NF.out.2.2, q7, r7.more fun k hk hlk => ⟨hk, hlk⟩,
                fun k hk => ⟨hk.2, fun hf => by
                  rcases hk.1 with h | h
                  · exact NF.out.1 k h hf
                  · have := E6.out.lt k hf; omega, fun e => by
                  rcases hk.1 with h | h
                  · exact (T4.out.g k h).2.2 e
                  · omega⟩,
                fun k hk => ⟨.inl (T4.out.o k hk), by have := G7.out.size; omega⟩, NF.out.2.1, T4.out.bq, by rw [S6.out, vb_put], put_ok T4.out.k, fun y hy => by
                  obtain ⟨z, hz, rfl⟩ := List.mem_map.1 hy
                  rcases put_in hz with h | rfl
                  · exact T4.out.z _ (List.mem_map_of_mem h)
                  · exact ⟨hw60, hw200⟩⟩)
            clear g7 q7 r7 CD
            go_wp2
            go_roundw
            case rel => exact ⟨j + 1, b6, F6, Z6, uv7, _, _, hlt, by go_num, G7, T7⟩
            case measure => simp [intOf]; omega
          · go_wp2
            refine bodyPost_ret (res3 Tryz.results8 _ _ _) rfl ?_
            exact ⟨hG.out, .inr ⟨base + 1, q, b, F, Z, uv, l, G, rfl, by rw [HB.out]; exact hT.out⟩⟩
end Go.Proofs.YtcmfmfkpmgoieaaGreatDoor

namespace Go.Proofs.YtcmfmfkpmgoieaaGreatDoor
open Go.RowKit

/-- the errors that package expand's calls answer with -/
def eightSn : List Sn := allSn.filter fun q => [1, 2, 3, 4, 5, 8, 10, 17].contains q.num
theorem eightSn_ok : ∀ q ∈ eightSn, q.ok := fun q hq => allSn_ok q (List.mem_filter.1 hq).1
/-- what a call of package expand stands on -/
def LwX (A : Nat → Addr) (w : World) : Prop := (∀ q ∈ eightSn, SentAt A w q) ∧ MaxI w
theorem LwX.grown {A : Nat → Addr} {w w' : World} (h : LwX A w) (hg : w.grownBy w' none) : LwX A w' := ⟨fun q hq => (h.1 q hq).later (below_of_grown hg), h.2.grown hg⟩
theorem eight_at {q : Sn} (k : Nat) (h : eightSn[k]? = some q) : q ∈ eightSn := List.mem_of_getElem? h
theorem LwX.l17 {A : Nat → Addr} {w : World} (h : LwX A w) : Sents L17 A w := by
  intro q hq
  simp only [L17, List.mem_cons, List.not_mem_nil, or_false] at hq
  rcases hq with rfl | rfl | rfl | rfl
  · exact (h.1 _ (eight_at 1 rfl)).1
  · exact (h.1 _ (eight_at 5 rfl)).1
  · exact (h.1 _ (eight_at 6 rfl)).1
  · exact (h.1 _ (eight_at 7 rfl)).1
theorem LwX.lv17 {A : Nat → Addr} {w : World} (h : LwX A w) : Sents LV A w := by
  intro q hq
  simp only [LV, List.mem_cons, List.not_mem_nil, or_false] at hq
  rcases hq with rfl | rfl | rfl | rfl
  · exact (h.1 _ (eight_at 0 rfl)).1
  · exact (h.1 _ (eight_at 1 rfl)).1
  · exact (h.1 _ (eight_at 3 rfl)).1
  · exact (h.1 _ (eight_at 6 rfl)).1
theorem LwX.thr {A : Nat → Addr} {w : World} (h : LwX A w) : ThrM A w := by
  refine ⟨fun q hq => ?_, h.2⟩
  simp only [thrL, List.mem_cons, List.not_mem_nil, or_false] at hq
  rcases hq with rfl | rfl | rfl
  · exact h.1 _ (eight_at 2 rfl)
  · exact h.1 _ (eight_at 3 rfl)
  · exact h.1 _ (eight_at 4 rfl)
theorem ErrEnv.grown17 {A : Nat → Addr} {w w' : World} (h : ErrEnv A w) (hg : w.grownBy w' none) : ErrEnv A w' := h.later (below_of_grown hg)
/-- what a law's walk stands on, that asks for numbers -/
def LwE (A : Nat → Addr) (w : World) : Prop := ErrEnv A w ∧ MaxI w
theorem LwE.grown {A : Nat → Addr} {w w' : World} (h : LwE A w) (hg : w.grownBy w' none) : LwE A w' := ⟨h.1.grown17 hg, h.2.grown hg⟩
theorem LwE.x {A : Nat → Addr} {w : World} (h : LwE A w) : LwX A w := ⟨fun q hq => h.1.1 q (List.mem_filter.1 hq).1, h.2⟩
theorem LwE.thr {A : Nat → Addr} {w : World} (h : LwE A w) : ThrM A w := h.x.thr
theorem SmO.all {O : List Ot} (h : SmO 10 O) : SmAll O := ⟨by have := h.1; omega, fun x hx => by have := (h.2 x hx).1; omega, fun x hx => by have := (h.2 x hx).2; omega⟩
theorem TwoE.ex {A : Nat → Addr} {W : World} {base p q b : Nat} {F : Nat → Prop} {Z : List Vz} {uv : Value} {l : List Vz} {G : Nat → Prop} {O : List Ot} {ov : Value} (h : TwoE W base p q b F Z uv l G) (hE : LwX A W) (ho : ORow W ov O) (ha : SmAll O) : ExS A W (wsV (vbL Z)) O (some ⟨p, 0, none⟩) ov :=
  ⟨ho, .inr ⟨p, b, F, Z, rfl, h.e, rfl⟩, ha, fun s => wsV_size (by rw [h.s]; exact h.z) s, hE.l17⟩
theorem TwoE.doc {W : World} {base p q b : Nat} {F : Nat → Prop} {Z : List Vz} {uv : Value} {l : List Vz} {G : Nat → Prop} {O : List Ot} {ov : Value} (h : TwoE W base p q b F Z uv l G) (ho : ORow W ov O) : DocW W q uv l G ov O := ⟨h.hq, h.r, ho⟩
theorem wordsE_num {V : ByteArray → List ByteArray} {O : List Ot} {L : List (List Pb)} {e : Nat} (h : wordsE V O L = .error e) : e = 2 ∨ e = 8 ∨ e = 10 ∨ e = 17 := by
  have key : ∀ (L : List (List Pb)) (s : List (List UInt8)) {k : Nat}, L.foldl (alE V O) (.ok s) = .error k → k = 2 ∨ k = 8 ∨ k = 10 ∨ k = 17 := by
    intro L
    induction L with
    | nil => intro s k h; cases h
    | cons w L ih =>
      intro s k h
      rw [List.foldl_cons] at h
      unfold alE at h
      cases hw : wordE V O w with
      | error j =>
        simp only [hw] at h
        have := al_err V O j L
        unfold alE at this
        rw [this] at h
        cases h
        exact wordE_num hw
      | ok l =>
        simp only [hw] at h
        exact ih _ h
  unfold wordsE at h
  cases hw : allE V O L with
  | error k => rw [hw] at h; cases h; exact key L [] hw
  | ok a =>
    rw [hw] at h
    simp only at h
    split at h
    · cases h; omega
    · cases h
theorem wordsE_le {V : ByteArray → List ByteArray} {O : List Ot} {L : List (List Pb)} : exN (wordsE V O L) ≤ 18 := by
  cases h : wordsE V O L with
  | ok l => exact Nat.zero_le _
  | error e => have := wordsE_num h; show e ≤ 18; omega
theorem wordE_le {V : ByteArray → List ByteArray} {O : List Ot} {w : List Pb} : exN (wordE V O w) ≤ 18 := by
  cases h : wordE V O w with
  | ok l => exact Nat.zero_le _
  | error e => have := wordE_num h; show e ≤ 18; omega
theorem textE_le {V : ByteArray → List ByteArray} {O : List Ot} {s : List UInt8} {x : Rs} (h : textE V O s x) : exN x ≤ 18 := by
  unfold textE at h
  cases hw : wdQ [] [] s with
  | error k =>
    rw [hw] at h
    have := wd_bad s.length s [] [] k (Nat.le_refl _) hw
    rw [h]; show k ≤ 18; omega
  | ok L =>
    rw [hw] at h
    obtain ⟨LB, -, rfl⟩ := h
    exact wordsE_le
theorem wd_alive17 : wdQ [] [] [112, 36, 123, 120, 125, 46, 99] = .ok [[⟨0, [112], [], []⟩, ⟨2, [120], [], []⟩, ⟨0, [46, 99], [], []⟩]] := by
  have h1 : onQ [112, 36, 123, 120, 125, 46, 99] = .ok (⟨0, [112], [], []⟩, [36, 123, 120, 125, 46, 99]) := by rfl
  have h2 : onQ [36, 123, 120, 125, 46, 99] = .ok (⟨2, [120], [], []⟩, [46, 99]) := by rfl
  have h3 : onQ [46, 99] = .ok (⟨0, [46, 99], [], []⟩, []) := by rfl
  have b1 : ¬ blkQ 112 = true := by decide
  have b2 : ¬ blkQ 36 = true := by decide
  have b3 : ¬ blkQ 46 = true := by decide
  rw [wdQ, if_neg b1, h1]
  simp only
  rw [if_pos (by decide), wdQ, if_neg b2, h2]
  simp only
  rw [if_pos (by decide), wdQ, if_neg b3, h3]
  simp only
  rw [if_pos (by decide), wdQ]
  rfl
theorem text_alive {V : ByteArray → List ByteArray} (hV : V ⟨#[120]⟩ = [⟨#[97]⟩, ⟨#[98]⟩]) : textE V [] [112, 36, 123, 120, 125, 46, 99] (.ok [[112, 97], [98, 46, 99]]) := by
  unfold textE
  rw [wd_alive17]
  refine ⟨[[⟨0, ⟨#[112]⟩, ⟨#[]⟩, ⟨#[]⟩⟩, ⟨2, ⟨#[120]⟩, ⟨#[]⟩, ⟨#[]⟩⟩, ⟨0, ⟨#[46, 99]⟩, ⟨#[]⟩, ⟨#[]⟩⟩]], rfl, ?_⟩
  have h1 : wdS V [] [⟨0, ⟨#[112]⟩, ⟨#[]⟩, ⟨#[]⟩⟩, ⟨2, ⟨#[120]⟩, ⟨#[]⟩, ⟨#[]⟩⟩, ⟨0, ⟨#[46, 99]⟩, ⟨#[]⟩, ⟨#[]⟩⟩] = .ok (([[112, 97]], [98, 46, 99]), false) := by
    unfold wdS
    rw [List.foldl_cons, List.foldl_cons, List.foldl_cons, List.foldl_nil]
    rw [show stE V [] (.ok (([], []), false)) ⟨0, ⟨#[112]⟩, ⟨#[]⟩, ⟨#[]⟩⟩ = .ok (([], [112]), false) by unfold stE; rw [pcE_text (.inl rfl)]; rfl]
    rw [show stE V [] (.ok (([], [112]), false)) ⟨2, ⟨#[120]⟩, ⟨#[]⟩, ⟨#[]⟩⟩ = .ok (([[112, 97]], [98]), false) by unfold stE; rw [pcE_var rfl]; simp only; rw [hV]; rfl]
    unfold stE; rw [pcE_text (.inl rfl)]; rfl
  unfold wordsE allE
  rw [List.foldl_cons, List.foldl_nil]
  unfold alE wordE
  simp only
  rw [h1]
  rfl
theorem vars_alive : (pubV [] ⟨⟨#[120]⟩, [⟨#[97]⟩, ⟨#[98]⟩], 0, false⟩) = (0, [⟨⟨#[120]⟩, [⟨#[97]⟩, ⟨#[98]⟩], 0, false⟩]) := by
  have h1 : chkV ⟨⟨#[120]⟩, [⟨#[97]⟩, ⟨#[98]⟩], 0, false⟩ = 0 := by decide +kernel
  unfold pubV
  rw [if_neg (by rw [h1]; simp)]
  rfl
set_option maxRecDepth 100000 in
set_option maxHeartbeats 8000000 in
theorem lAlive17 (A : Nat → Addr) (w : World) (hE : LwX A w) : Calls Tryz.prog 6 #[] w fun e w' => e = .returned (.bool true) ∧ w.grownBy w' none := by
  have CN := Lib.hid (pNew w)
  have HE := Lib.hid hE
  clear hE
  go_enter Tryz.func6, Tryz.ntmps6
  go_wp2_with (go_at_call 27; fail)
  refine CN.out.mono ?_
  rintro e w1 ⟨g1, rfl, z1⟩
  have G1 := Lib.hid g1
  obtain ⟨p, hp⟩ : ∃ p, w.heap.size + 1 = p := ⟨_, rfl⟩
  obtain ⟨b, hb⟩ : ∃ b, w.heap.size = b := ⟨_, rfl⟩
  rw [hp, hb] at z1
  rw [hp]
  have Z1 := Lib.hid z1
  have h1b : b < w1.heap.size ∧ p < w1.heap.size := ⟨z1.lt b (.inr rfl), z1.lt p (.inl rfl)⟩
  clear g1 z1 CN
  have CS := Lib.hid (fun (W : World) (a : Option Addr) (g : w1.grownBy W none) (ht : TxRow W (.slice a 2 2) [⟨#[97]⟩, ⟨#[98]⟩]) (ha : ∀ k, (Value.slice a 2 2).ownBlock = some k → w1.heap.size ≤ k ∧ k < W.heap.size) =>
    show Calls Tryz.prog 28 #[.pointer (some ⟨p, 0, none⟩), .agg #[.string ⟨#[120]⟩, .slice a 2 2, .int .i64 0, .bool false]] W (PSet A (fun c => c = p ∨ c = b) p [] ⟨⟨#[120]⟩, [⟨#[97]⟩, ⟨#[98]⟩], 0, false, .slice a 2 2⟩ W) from
      pSet A p b (fun c => c = p ∨ c = b) [] ⟨#[120]⟩ [⟨#[97]⟩, ⟨#[98]⟩] 0 false a 2 W ((HE.out.grown (G1.out.trans g)).lv17) (Z1.out.grown g) ⟨ht, fun _ k hk => ⟨fun h => by have := ha k hk; rcases h with h | h <;> omega, (ha k hk).2⟩⟩ (by decide) (by decide))
  have RW := Lib.hid (show TxRow (w1.alloc (.cells #[.string ⟨#[97]⟩, .string ⟨#[98]⟩] 9)) (.slice (some ⟨w1.heap.size, 0, none⟩) 2 2) [⟨#[97]⟩, ⟨#[98]⟩] from
    tx_row (O := [⟨#[97]⟩, ⟨#[98]⟩]) (World.ownsRow_lit (base := w1.heap.size) w1 #[.string ⟨#[97]⟩, .string ⟨#[98]⟩] 2 (Nat.le_refl _) (by unfold maxLen; omega) rfl) rfl (by decide))
  go_wp2_with (go_at_call 28; fail)
  refine (CS.out _ _ (World.grownBy_alloc _ _ _) RW.out (fun k hk => by simp [Value.ownBlock] at hk; rw [World.size_alloc]; omega)).mono ?_
  rintro e w3 ⟨rfl, o3, b3, F3, Z3, z3, s3, f3⟩
  have hput : (putZ [] (⟨⟨#[120]⟩, [⟨#[97]⟩, ⟨#[98]⟩], 0, false, .slice (some ⟨w1.heap.size, 0, none⟩) 2 2⟩ : Vz)).1 = 0 ∧ vbL Z3 = [⟨⟨#[120]⟩, [⟨#[97]⟩, ⟨#[98]⟩], 0, false⟩] := by
    have h1 := vb_put [] (⟨⟨#[120]⟩, [⟨#[97]⟩, ⟨#[98]⟩], 0, false, .slice (some ⟨w1.heap.size, 0, none⟩) 2 2⟩ : Vz)
    have h2 := vars_alive.symm.trans h1
    injection h2 with h3 h4
    exact ⟨h3.symm, by rw [s3, ← h4]⟩
  obtain ⟨hp1, hp2⟩ := hput
  rw [hp1, errV_zero]
  have G3 := Lib.hid (show w.grownBy w3 none from o3.grown (G1.out.trans (World.grownBy_alloc _ _ _)) (fun k hk => by rcases hk with h | h <;> omega))
  have E3 := Lib.hid (show ExS A w3 (wsV (vbL Z3)) [] (some ⟨p, 0, none⟩) (.slice none 0 0) from
    ⟨⟨none, 0, rfl, by decide, fun h => absurd rfl h⟩, .inr ⟨p, b3, F3, Z3, rfl, z3, rfl⟩, ⟨by decide, fun x hx => by simp at hx, fun x hx => by simp at hx⟩,
      fun s => wsV_size (L := vbL Z3) (by
        rw [hp2]
        intro v hv
        rw [List.mem_singleton] at hv
        subst hv
        exact ⟨by decide, fun t ht => by simp at ht; rcases ht with rfl | rfl <;> decide⟩) s, (HE.out.grown G3.out).l17⟩)
  have CT := Lib.hid (pText17 ⟨#[112, 36, 123, 120, 125, 46, 99]⟩ w3 E3.out (HE.out.grown G3.out).thr (by decide))
  have TA := Lib.hid (text_alive (V := wsV (vbL Z3)) (by rw [hp2]; rfl))
  clear o3 z3 s3 f3 hp1 hp2 CS RW
  go_wp2_with fail
  refine CT.out.mono ?_
  rintro e w4 ⟨x, hx, g4, v4, L4, rfl, t4, h4⟩
  obtain rfl := textE_one hx TA.out
  rw [show exN (.ok [[112, 97], [98, 46, 99]]) = 0 from rfl, errV_zero]
  have hL : L4 = [⟨#[112, 97]⟩, ⟨#[98, 46, 99]⟩] := txL_inj h4
  subst hL
  obtain ⟨a4, c4, rfl, -, hr4⟩ := t4
  obtain ⟨b4, off4, rfl, -, hc4⟩ := hr4 (by simp)
  have y0 := hc4 0 _ rfl
  have y1 := hc4 1 _ rfl
  rw [Nat.add_zero] at y0
  have G4 := Lib.hid (G3.out.trans g4)
  clear hr4 hc4 hx h4 g4 CT
  rw [show ([⟨#[112, 97]⟩, ⟨#[98, 46, 99]⟩] : List ByteArray).length = 2 from rfl]
  go_wp2
  go_ret
  exact ⟨rfl, G4.out⟩
end Go.Proofs.YtcmfmfkpmgoieaaGreatDoor
