/- Package env: Copy. -/
import Derived.Test.YtaihpgjimhifcaaDoorEvLst
import Derived.Test.YtaihpgjimhifcaaDoorEvPut
namespace Go.Proofs.YtaihpgjimhifcaaDoor
open Go.RowKit Go.Maps

theorem ris_vb {l l' : List Vz} (h : vbL l = vbL l') (hr : RisZ l') : RisZ l := by
  have k : ∀ l : List Vz, RisZ l ↔ (vbL l).Pairwise fun a b => a.n.data.toList < b.n.data.toList := fun l => by
    unfold RisZ vbL
    rw [List.pairwise_map]; rfl
  rw [k, h, ← k]; exact hr
theorem vb_mem {l l' : List Vz} (h : vbL l = vbL l') {x : Vz} (hx : x ∈ l) : ∃ y ∈ l', y.b = x.b := by
  have : x.b ∈ vbL l' := by rw [← h]; exact List.mem_map_of_mem hx
  obtain ⟨y, hy, e⟩ := List.mem_map.1 this
  exact ⟨y, hy, e⟩
theorem EvZ.wide {w : World} {p b : Nat} {F F' : Nat → Prop} {Z : List Vz} (h : EvZ w p b F Z) (hF : ∀ k, F k → F' k) (hl : ∀ k, F' k → k < w.heap.size) : EvZ w p b F' Z :=
  ⟨h.c, h.m, h.n, hF _ h.fp, hF _ h.fb, hl, fun x hx => (h.t x hx).more fun k hk _ => ⟨hF k hk.1, hk.2⟩, h.s⟩
/-- a copy's blocks -/
def NewF (p b B : Nat) (w : World) (k : Nat) : Prop := k = p ∨ k = b ∨ (B ≤ k ∧ k < w.heap.size)
def PCpy (l : List Vb) (w : World) (e : Ending) (w' : World) : Prop := w.grownBy w' none ∧ ∃ p F, e = .returned (.pointer (some ⟨p, 0, none⟩)) ∧ EvI w' p F l ∧ ∀ b, F b → w.heap.size ≤ b
set_option maxRecDepth 100000 in
set_option maxHeartbeats 4000000 in
theorem pCopy (p b : Nat) (F : Nat → Prop) (Z : List Vz) (w : World) (h : EvZ w p b F Z) : Calls Tryd.prog 8 #[.pointer (some ⟨p, 0, none⟩)] w (PCpy (vbL Z) w) := by
  have HH := Lib.hid h
  clear h
  go_enter Tryd.func8, Tryd.ntmps8
  go_upto_region 2 with (go_at_call 7; (with_reducible refine (pNew w).mono ?_); rintro e w1 ⟨g1, rfl, h1⟩; have G1 := Lib.hid g1; have H1 := Lib.hid h1; clear g1 h1)
  obtain ⟨bc, ebc⟩ : ∃ bc, w.heap.size = bc := ⟨_, rfl⟩
  obtain ⟨pc, epc⟩ : ∃ pc, w.heap.size + 1 = pc := ⟨_, rfl⟩
  have EB := Lib.hid ebc; have EP := Lib.hid epc
  rw [epc] at H1 ⊢
  rw [ebc] at H1
  clear ebc epc
  have CL := Lib.hid (pList p b F Z w1 (HH.out.grown G1.out))
  go_wp2_with (go_at_call 26; (with_reducible refine (CL.out).mono ?_); rintro e w2 ⟨g2, v, O, rfl, hr, ho⟩; have G2 := Lib.hid g2; have R2 := Lib.hid hr; have HO := Lib.hid ho; obtain ⟨va, vc, rfl, -⟩ := hr.shape; clear g2 ho hr)
  have RO := Lib.hid (ris_vb HO.out HH.out.m.ris)
  have HL := Lib.hid (vb_len HO.out.symm)
  have PC := Lib.hid (show pc < w1.heap.size ∧ bc < w1.heap.size from ⟨H1.out.lt _ H1.out.fp, H1.out.lt _ H1.out.fb⟩)
  have H24 : O.length ≤ 24 := by have := HL.out; have := HH.out.n; omega
  go_loopw [10] (fun i wr => ∃ j : Nat, j ≤ O.length ∧ i = .int .i64 j ∧ Hid (EvZ wr pc bc (NewF pc bc w1.heap.size wr) (O.take j)) ∧ Hid (VRow wr (fun k => w1.heap.size ≤ k) (.slice va O.length vc) O) ∧ Hid (w.grownBy wr none) ∧ Hid (w1.heap.size ≤ wr.heap.size)) (fun i _ => O.length - (intOf i).toNat)
  case atStart =>
    refine ⟨0, Nat.zero_le _, rfl, Lib.hid ?_, R2, Lib.hid (G1.out.trans G2.out), Lib.hid G2.out.size⟩
    have := PC.out
    have := G2.out.size
    refine (H1.out.grown G2.out).wide (fun k hk => ?_) (fun k hk => ?_)
    · rcases hk with rfl | rfl
      · exact .inl rfl
      · exact .inr (.inl rfl)
    · rcases hk with rfl | rfl | hk
      · omega
      · omega
      · exact hk.2
  case round =>
    obtain ⟨j, hj, rfl, hE, hV, hG, hS⟩ := hrel
    by_cases hlt : j < O.length
    · obtain ⟨b2, off2, c2, x, ev, hx, -, ht, c0, c1, c2, c3⟩ := hV.out.at j hlt
      injection ev with ev1 ev2 ev3
      subst ev1 ev3
      have HT := Lib.hid (show setZ (O.take j) x = O.take (j + 1) by
        have e : O.take (j + 1) = O.take j ++ [x] := by rw [List.take_add_one, hx]; rfl
        rw [e]
        exact set_snoc (e ▸ RO.out.sublist (List.take_sublist _ _)))
      have hsz : x.n.size ≤ 100 ∧ x.ws.length ≤ 100 := by
        obtain ⟨y, hy, e⟩ := vb_mem HO.out (List.mem_of_getElem? hx)
        have := HH.out.s y hy
        unfold Vz.b at e
        rw [Vb.mk.injEq] at e
        rw [← e.1, ← e.2.1]; exact this
      have HS := Lib.hid hsz
      obtain ⟨n, ws, lv, hd, u⟩ := x
      obtain ⟨xa, xc, eu, -⟩ := ht.shape
      simp only at eu ht c0 c1 c2 c3
      subst eu
      have g4 := World.grownBy_alloc wr (.cells #[.string n, .slice xa ws.length xc, .int .i64 lv, .bool hd] 33) none
      have b4 := heap_alloc_new wr (.cells #[.string n, .slice xa ws.length xc, .int .i64 lv, .bool hd] 33)
      go_upto_region 5 with fail
      generalize wr.alloc (.cells #[.string n, .slice xa ws.length xc, .int .i64 lv, .bool hd] 33) = w4 at g4 b4 ⊢
      have hxb : wr.heap.size ≠ bc := by have := PC.out; have := hS.out; omega
      generalize wr.heap.size = xb at b4 hxb ⊢
      have gd : w4.grownBy w4.drew none := grown_drew (World.grownBy.refl w4 none)
      have E4 := Lib.hid (hE.out.grown (g4.trans gd))
      have W4 := Lib.hid (g4.trans gd).size
      have V4 := Lib.hid (hV.out.keep (KeepG.grown (g4.trans gd)))
      have G4 := Lib.hid (hG.out.trans (g4.trans gd))
      have S4 := Lib.hid (Nat.le_trans hS.out (g4.trans gd).size)
      have T4 := Lib.hid (ht.keep (KeepG.grown (g4.trans gd)))
      obtain ⟨d0, d1, d2, d3⟩ := four_vx (heap_grown gd b4)
      have hcp : w4.drew.cell? ⟨pc, 0, none⟩ = some (.map (some bc)) := E4.out.c
      have hpb := E4.out.ne
      obtain ⟨w6, hrun, hm6, hg6⟩ := MapV.store E4.out.m ⟨n, ws, lv, hd, .slice xa ws.length xc⟩ (by have := HS.out.1; simp only at this; show n.size ≤ _; unfold maxLen; omega) (by have := E4.out.n; unfold maxLen; omega)
      have hbn : some xb ≠ some bc := fun e => hxb (Option.some.inj e)
      have hpn : some pc ≠ some bc := fun e => hpb (Option.some.inj e)
      have KE := Lib.hid (show w4.drew.cell? ⟨pc, 0, none⟩ = some (.map (some bc)) ∧ w4.drew.cell? ⟨xb, 0, none⟩ = some (.string n) ∧ w4.drew.cell? ⟨xb, 1, none⟩ = some (.slice xa ws.length xc) ∧ w4.drew.cell? ⟨xb, 2, none⟩ = some (.int .i64 lv) ∧ w4.drew.cell? ⟨xb, 3, none⟩ = some (.bool hd) from ⟨hcp, d0, d1, d2, d3⟩)
      have K6 := Lib.hid (show w6.cell? ⟨pc, 0, none⟩ = some (.map (some bc)) ∧ w6.cell? ⟨xb, 0, none⟩ = some (.string n) ∧ w6.cell? ⟨xb, 1, none⟩ = some (.slice xa ws.length xc) ∧ w6.cell? ⟨xb, 2, none⟩ = some (.int .i64 lv) ∧ w6.cell? ⟨xb, 3, none⟩ = some (.bool hd) from ⟨hg6.cell hcp hpn, hg6.cell d0 hbn, hg6.cell d1 hbn, hg6.cell d2 hbn, hg6.cell d3 hbn⟩)
      have M6 := Lib.hid hm6; have G6 := Lib.hid hg6
      clear hm6 hg6 hbn hpn hpb hcp d0 d1 d2 d3 c0 c1 c2 c3 ht hx hE hV hG hsz g4 b4 hxb gd
      go_region_held3 (fun W' => W'.cell? ⟨pc, 0, none⟩ = some (.map (some bc)) ∧ W'.cell? ⟨xb, 0, none⟩ = some (.string n) ∧ W'.cell? ⟨xb, 1, none⟩ = some (.slice xa ws.length xc) ∧ W'.cell? ⟨xb, 2, none⟩ = some (.int .i64 lv) ∧ W'.cell? ⟨xb, 3, none⟩ = some (.bool hd))
        (first | exact KE.out | exact K6.out)
        (fail)
      all_goals
        have E6 := Lib.hid (show EvZ w6 pc bc (NewF pc bc w1.heap.size w6) (O.take (j + 1)) by
          have hpc := PC.out
          have ht := E4.out.turn (B := w1.heap.size) G6.out M6.out (by rw [HT.out, List.length_take]; have := HL.out; have := HH.out.n; omega) hpc.1 hpc.2 (fun x hx => by
            rcases set_mem hx with hx | rfl
            · exact .inl hx
            · exact .inr ⟨T4.out.keep (KeepG.but G6.out (by show ¬ w1.heap.size ≤ bc; omega)), HS.out⟩)
          rw [HT.out] at ht
          have hs6 := G6.out.size
          have hs4 := S4.out
          refine ht.wide (fun k hk => ?_) (fun k hk => ?_)
          · rcases hk with (rfl | rfl | hk) | hk
            · exact .inl rfl
            · exact .inr (.inl rfl)
            · exact .inr (.inr ⟨hk.1, Nat.lt_of_lt_of_le hk.2 (Nat.le_trans W4.out hs6)⟩)
            · exact .inr (.inr hk)
          · rcases hk with rfl | rfl | hk
            · omega
            · omega
            · exact hk.2)
        have V6 := Lib.hid (V4.out.keep (KeepG.but G6.out (by have := PC.out; show ¬ w1.heap.size ≤ bc; omega)))
        have GG := Lib.hid (G4.out.andThen G6.out (fun k hk => .inl (by have := Option.some.inj hk; have := EB.out; omega)))
        have SS := Lib.hid (Nat.le_trans S4.out G6.out.size)
        go_wp2
        go_roundw
        case rel => exact ⟨j + 1, hlt, by go_num, E6, V6, GG, SS⟩
        case measure => simp [intOf]; omega
    · obtain rfl : j = O.length := by omega
      go_wp2
      go_ret
      have hE2 := hE.out
      rw [List.take_length] at hE2
      refine ⟨hG.out, pc, _, rfl, ⟨bc, O, hE2, HO.out⟩, fun k hk => ?_⟩
      have := EB.out
      have := EP.out
      have := G1.out.size
      rcases hk with rfl | rfl | hk
      · omega
      · omega
      · omega
end Go.Proofs.YtaihpgjimhifcaaDoor
