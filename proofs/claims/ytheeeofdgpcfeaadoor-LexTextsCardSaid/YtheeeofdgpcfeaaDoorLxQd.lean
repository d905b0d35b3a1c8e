/- Walks of package lex: a quoted part. -/
import Derived.Test.YtheeeofdgpcfeaaDoorLxPc

namespace Go.Proofs.YtheeeofdgpcfeaaDoor
open Go.RowKit

theorem un_text (l : List UInt8) : ∃ t : ByteArray, (⟨l.toArray⟩ : ByteArray) = t ∧ t.data.toList = l ∧ t.size = l.length := ⟨_, rfl, by simp, by simp [ByteArray.size]⟩
set_option maxRecDepth 100000 in
set_option maxHeartbeats 8000000 in
theorem xQuotedAt {M : World → Prop} (L : LbX M) (A : Nat → Addr) (s : ByteArray) (k : Nat) (w : World) (hM : M w) (hs : s.size ≤ 5000) (hk : s.data.toList[k]? = some 39)
    (hQ : w.cell? ⟨0, 0, none⟩ = some (.iface 86 (.pointer (some (A 5))))) :
    Calls Tryd.prog 27 #[.string s, .int .i64 k] w (PPc (onA s.data.toList k) s.data.toList A w) := by
  have HM := Lib.hid hM
  have CE := Lib.hid (fun w => pEnd0 s k w hs)
  have HV := Lib.hid (endAt_val hk)
  clear hM
  have hlen : s.data.toList.length = s.size := by simp
  have hks : k < s.size := by have := (List.getElem?_eq_some_iff.1 hk).1; omega
  have HLN := Lib.hid hlen; have HK := Lib.hid hk
  have B0 := Lib.hid (heap_alloc_new w (.cells #[.int .i64 0, .string ⟨#[]⟩, .string ⟨#[]⟩, .string ⟨#[]⟩] 27))
  have G0 := Lib.hid (World.grownBy_alloc w (.cells #[.int .i64 0, .string ⟨#[]⟩, .string ⟨#[]⟩, .string ⟨#[]⟩] 27) none)
  have hQ1 := Lib.hid hQ; have hrhQ : 0 < w.heap.size := cell_block hQ
  clear hlen hk hQ
  go_enter Tryd.func27, Tryd.ntmps27
  go_upto_region 1 with fail
  generalize w.alloc _ = w1 at B0 G0 ⊢
  obtain ⟨g, eg⟩ : ∃ g, w.heap.size = g := ⟨_, rfl⟩
  rw [eg] at B0 hrhQ ⊢
  have hgs : w.heap.size ≤ g := by omega
  obtain ⟨c0, c1, c2, c3⟩ := four_px B0.out
  have fr := free_pc B0.out
  have hQ2 : w1.cell? ⟨0, 0, none⟩ = some (.iface 86 (.pointer (some (A 5)))) := G0.out.cell hQ1.out (by simp)
  have hQ3 : ¬g = 0 := by omega
  have hQ4 : ¬0 = g := by omega
  clear eg
  rcases HV.out with ⟨he, hv⟩ | ⟨f, he, hv, hf1, hf2⟩
  · rw [hv] at CE
    have HN := Lib.hid (show onA s.data.toList k = .error 5 from on_qt_no HK.out he)
    clear he hv HV
    go_wp2_with (go_at_call 35; (with_reducible refine (CE.out _).mono ?_); rintro e w4 ⟨rfl, rfl⟩)
    go_region
    go_wp2
    refine bodyPost_ret (back_pc (a0 := .int .i64 0) (a1 := .string ⟨#[]⟩) (a2 := .string ⟨#[]⟩) (a3 := .string ⟨#[]⟩) Tryd.results27 rfl rfl rfl (set_pc B0.out _ _ _ _)) rfl ?_
    exact ⟨grown_drew (grown_pc G0.out _ _ _ _ hgs), .inr ⟨5, rfl, by decide, HN.out⟩⟩
  · rw [hv] at CE
    rw [HLN.out] at hf2
    obtain ⟨x, hx⟩ : ∃ x, s.extract (k + 1) f = x := ⟨_, rfl⟩
    have hxz : x.size ≤ 100000 := by rw [← hx]; simp; omega
    obtain ⟨t, ht, hl, -⟩ := un_text (unQ x.data.toList)
    have HN := Lib.hid (show onA s.data.toList k = .ok ((⟨1, t, ⟨#[]⟩, ⟨#[]⟩⟩ : Pb).q, s.data.toList.drop (f + 1)) by
      rw [on_qt HK.out he, Nat.add_sub_cancel, ← toList_cut, hx]; unfold Pb.q; rw [hl])
    have CR := Lib.hid (show Calls Tryd.prog 23 #[.string x, .string ⟨#[39, 39]⟩, .string ⟨#[39]⟩] w1 fun e w' => e = .returned (.string t) ∧ w1.grownBy w' none by
      have := L.undo x w1 (L.gr _ _ HM.out G0.out) hxz; rwa [ht] at this)
    have HX := Lib.hid hx
    have hne : ((f : Int) + 1 == -1) = false := by rw [beq_eq_false_iff_ne]; omega
    clear he hv HV hx hxz ht hl
    go_wp2_with (go_at_call 35; (with_reducible refine (CE.out _).mono ?_); rintro e w4 ⟨rfl, rfl⟩)
    go_wp2_with (go_at_call 23; fail)
    rw [HX.out]
    refine CR.out.mono ?_
    rintro e w8 ⟨rfl, g8⟩
    have B8 := Lib.hid (heap_grown g8 B0.out)
    have G8 := Lib.hid (G0.out.trans g8)
    clear c0 c1 c2 c3 fr CR g8
    obtain ⟨c0, c1, c2, c3⟩ := four_px B8.out
    have fr := free_pc B8.out
    go_wp2
    refine bodyPost_ret (back_pc (a0 := .int .i64 1) (a1 := .string t) (a2 := .string ⟨#[]⟩) (a3 := .string ⟨#[]⟩) Tryd.results27 rfl rfl rfl (set_pc B8.out _ _ _ _)) rfl ?_
    exact ⟨grown_pc G8.out _ _ _ _ hgs, .inl ⟨⟨1, t, ⟨#[]⟩, ⟨#[]⟩⟩, f + 1, rfl, by rw [HLN.out]; omega, HN.out⟩⟩
end Go.Proofs.YtheeeofdgpcfeaaDoor
