/- A struct of a number and a text: in a block, handed back. The document's own attributes: a letter's number, whether a flag is set, of a text, their letters. -/
import Derived.Test.YtdganemgldocoaaGreatDoorClsBase
import Derived.Test.YtdganemgldocoaaGreatDoorAtPlain
import Derived.IntWalk
import Derived.Lib.RepeatB
namespace Go.Proofs.YtdganemgldocoaaGreatDoor
open Go.RowKit

/-- attributes as a value -/
abbrev atV (f : Int) (p : ByteArray) : Value := .agg #[.int .i64 f, .string p]
theorem two_at {w : World} {b : Nat} {a0 a1 : Value} {t : TypeId} (h : w.heap[b]? = some (.cells #[a0, a1] t (0, 0))) : w.cell? ⟨b, 0, none⟩ = some a0 ∧ w.cell? ⟨b, 1, none⟩ = some a1 := by
  refine ⟨?_, ?_⟩ <;> (unfold World.cell?; rw [h]; rfl)
theorem free_at {w : World} {b : Nat} {c : Array Value} {t : TypeId} (h : w.heap[b]? = some (.cells c t (0, 0))) (i : Nat) : w.frozen? ⟨b, i, none⟩ = false := frozen_of_row w b i c t h
theorem set_at2 {w : World} {b : Nat} {a0 a1 : Value} {t : TypeId} (h : w.heap[b]? = some (.cells #[a0, a1] t (0, 0))) (v0 v1 : Value) :
    ((w.setCell ⟨b, 0, none⟩ v0).setCell ⟨b, 1, none⟩ v1).heap[b]? = some (.cells #[v0, v1] t (0, 0)) := heap_setCell_same _ b 1 _ _ v1 (heap_setCell_same _ b 0 _ _ v0 h)
theorem set_at0 {w : World} {b : Nat} {a0 a1 : Value} {t : TypeId} (h : w.heap[b]? = some (.cells #[a0, a1] t (0, 0))) (v0 : Value) :
    (w.setCell ⟨b, 0, none⟩ v0).heap[b]? = some (.cells #[v0, a1] t (0, 0)) := heap_setCell_same _ b 0 _ _ v0 h
theorem set_at1 {w : World} {b : Nat} {a0 a1 : Value} {t : TypeId} (h : w.heap[b]? = some (.cells #[a0, a1] t (0, 0))) (v1 : Value) :
    (w.setCell ⟨b, 1, none⟩ v1).heap[b]? = some (.cells #[a0, v1] t (0, 0)) := heap_setCell_same _ b 1 _ _ v1 h
theorem grown_at2 {w w1 : World} (h : w.grownBy w1 none) {b : Nat} (v0 v1 : Value) (hb : w.heap.size ≤ b) : w.grownBy ((w1.setCell ⟨b, 0, none⟩ v0).setCell ⟨b, 1, none⟩ v1) none :=
  grown_of_below (((below_of_grown h).setCell hb v0).setCell hb v1)
theorem grown_at1 {w w1 : World} (h : w.grownBy w1 none) {b : Nat} (o : Nat) (v : Value) (hb : w.heap.size ≤ b) : w.grownBy (w1.setCell ⟨b, o, none⟩ v) none :=
  grown_of_below ((below_of_grown h).setCell hb v)
theorem kept_at {w w' : World} (hg : w.grownBy w' none) {b : Nat} {o : Obj} (h : w.heap[b]? = some o) : w'.heap[b]? = some o :=
  (hg.block b (Array.getElem?_eq_some_iff.1 h).1 (by simp)).trans h
theorem back_at2 (T : TypeId) {fs : Array Field} (hT : Tryz.prog.underlying T = some (.struct fs)) (hi : (Tryz.prog.info? T).map (·.size) = some 2) {fn : Func} {p q : Tmp} {w : World} {g : Nat} {a0 a1 v : Value} {tmps : Array Value} (hf : fn.results = #[.cell p T, .tmp q])
    (hp : tmps.getD p undef = .pointer (some ⟨g, 0, none⟩)) (hq : tmps.getD q undef = v) (hg : w.heap[g]? = some (.cells #[a0, a1] T (0, 0))) :
    (results fn tmps).run Tryz.prog w = .ok (.tuple #[.agg #[a0, a1], v]) w := by
  have hp' : tmps[p]?.getD undef = .pointer (some ⟨g, 0, none⟩) := by simpa using hp
  have hq' : tmps[q]?.getD undef = v := by simpa using hq
  have hl := run_loadVar_row (P := Tryz.prog) w g T T _ (0, 0) _ hg hT rfl hi
  simp [results, hf, hp', hq', asAddr, hl]
/-- a block that a store to another one leaves -/
theorem far_at {w : World} {b q : Nat} {o : Obj} (h : w.heap[b]? = some o) (hne : b ≠ q) (i : Nat) (v : Value) : (w.setCell ⟨q, i, none⟩ v).heap[b]? = some o := by
  rw [Below.heap_setCell _ _ _ _ (show b ≠ (⟨q, i, none⟩ : Addr).block from hne)]; exact h
theorem sizeAt : (Tryz.prog.info? 50).map (·.size) = some 2 := by kernel_rfl

set_option maxRecDepth 100000 in
set_option maxHeartbeats 2000000 in
theorem dValue (b : UInt8) (w : World) : Calls Tryz.prog 75 #[.int .u8 b.toNat] w fun e w' => e = .returned (.int .i64 (vlA b)) ∧ w = w' := by
  by_cases h : b = 68 ∨ b = 69 ∨ b = 78 ∨ b = 110 ∨ b = 81 ∨ b = 82 ∨ b = 85 ∨ b = 86
  · rcases h with rfl | rfl | rfl | rfl | rfl | rfl | rfl | rfl
    all_goals
      go_enter Tryz.func75, Tryz.ntmps75
      go_wp2
      go_ret
      exact ⟨rfl, rfl⟩
  · simp only [not_or] at h
    obtain ⟨h1, h2, h3, h4, h5, h6, h7, h8⟩ := h
    have e0 : vlA b = 0 := by unfold vlA; simp [h1, h2, h3, h4, h5, h6, h7, h8]
    have key : ∀ c : UInt8, b ≠ c → ((b.toNat : Int) == (c.toNat : Int)) = false := fun c hc => by
      rw [beq_eq_false_iff_ne]
      intro h
      exact hc (UInt8.toNat_inj.1 (by omega))
    have q1 : ((b.toNat : Int) == 68) = false := key 68 h1
    have q2 : ((b.toNat : Int) == 69) = false := key 69 h2
    have q3 : ((b.toNat : Int) == 78) = false := key 78 h3
    have q4 : ((b.toNat : Int) == 110) = false := key 110 h4
    have q5 : ((b.toNat : Int) == 81) = false := key 81 h5
    have q6 : ((b.toNat : Int) == 82) = false := key 82 h6
    have q7 : ((b.toNat : Int) == 85) = false := key 85 h7
    have q8 : ((b.toNat : Int) == 86) = false := key 86 h8
    clear h1 h2 h3 h4 h5 h6 h7 h8 key
    rw [e0]
    clear e0
    go_enter Tryz.func75, Tryz.ntmps75
    go_wp2
    go_ret
    exact ⟨rfl, rfl⟩

set_option maxRecDepth 100000 in
/-- the document's way to ask for a flag: by dividing -/
theorem dHas (f v : Nat) (p : ByteArray) (w : World) (hf : f < 256) (hv : v ∈ [1, 2, 4, 8, 16, 32, 64, 128]) :
    Calls Tryz.prog 76 #[atV f p, .int .i64 v] w fun e w' => e = .returned (.bool (decide (f / v % 2 = 1))) ∧ w.grownBy w' none := by
  simp only [List.mem_cons, List.not_mem_nil, or_false] at hv
  rcases hv with rfl | rfl | rfl | rfl | rfl | rfl | rfl | rfl
  all_goals
    go_enter Tryz.func76, Tryz.ntmps76
    go_wp2
    go_ret
    refine ⟨ret_bool ?_, World.grownBy_alloc _ _ _⟩
    rw [Bool.eq_iff_iff, beq_iff_eq, decide_eq_true_eq]
    omega

def szV : Value → Nat
  | .string s => s.size
  | _ => 0
set_option maxRecDepth 100000 in
set_option maxHeartbeats 4000000 in
theorem dParse (s : ByteArray) (w : World) (hs : s.size ≤ 1000) : Calls Tryz.prog 44 #[.string s] w fun e w' =>
    e = .returned (.tuple #[atV (ansA (docA 0 s.data.toList)).1 (ansA (docA 0 s.data.toList)).2.1, .int .i64 (ansA (docA 0 s.data.toList)).2.2]) ∧ w.grownBy w' none := by
  obtain ⟨x, hx⟩ : ∃ x, docA 0 s.data.toList = x := ⟨_, rfl⟩
  rw [hx]
  have HX := Lib.hid hx
  clear hx
  obtain ⟨B1, B2, G2⟩ := heap2 w (.cells #[.int .i64 0, .string ⟨#[]⟩] 50) (.cells #[.int .i64 0, .string ⟨#[]⟩] 50)
  have HP := Lib.hid B1; have HQ := Lib.hid B2; have HG := Lib.hid G2
  clear B1 B2 G2
  have CV := Lib.hid (fun b w => dValue b w)
  go_enter Tryz.func44, Tryz.ntmps44
  go_wp2
  generalize (w.alloc _).alloc _ = w2 at HP HQ HG ⊢
  obtain ⟨q, eq⟩ : ∃ q, w.heap.size + 1 = q := ⟨_, rfl⟩
  obtain ⟨p, ep⟩ : ∃ p, w.heap.size = p := ⟨_, rfl⟩
  rw [eq] at HQ ⊢
  rw [ep] at HP ⊢
  have HPQ := Lib.hid (show w.heap.size ≤ p ∧ w.heap.size ≤ q ∧ p ≠ q by omega)
  clear eq ep
  go_loopw [0, 5] (fun s_ _ wr => ∃ (r : ByteArray) (f : Nat), s_ = .string r ∧ Hid (f < 256) ∧ r.size ≤ 1000 ∧ Hid (docA f r.data.toList = x) ∧ Hid (wr.heap[p]? = some (.cells #[.int .i64 0, .string ⟨#[]⟩] 50 (0, 0))) ∧ Hid (wr.heap[q]? = some (.cells #[.int .i64 f, .string ⟨#[]⟩] 50 (0, 0))) ∧ Hid (w.grownBy wr none)) (fun s_ _ _ => szV s_)
  case atStart => exact ⟨s, 0, rfl, Lib.hid (by omega), hs, HX, HP, HQ, HG⟩
  case round =>
    obtain ⟨r, f, rfl, hf, hr, hX, hP, hQ, hG⟩ := hrel
    clear HP HQ HG HX
    obtain ⟨a0, a1⟩ := two_at hQ.out
    have fa := free_at hQ.out
    obtain ⟨b0, b1⟩ := two_at hP.out
    have fr := free_at hP.out
    by_cases h0 : 0 < r.size
    · obtain ⟨c, hc⟩ : ∃ c, r[0] = c := ⟨_, rfl⟩
      obtain ⟨t, ht⟩ : ∃ t, r.extract 1 r.size = t := ⟨_, rfl⟩
      have hz : t.size = r.size - 1 := by rw [← ht]; simp
      have hX2 := hX.out
      rw [cons_a h0, hc, ht, docA] at hX2
      by_cases h80 : c = 80
      · have e80 : ((c.toNat : Int) == 80) = true := by rw [h80]; rfl
        rw [if_pos h80] at hX2
        by_cases h1 : r.size = 1
        · have e1 : ((r.size : Int) == 1) = true := by rw [h1]; rfl
          have HE := Lib.hid (ans_err (x := x) (k := 7) (by rw [← hX2, if_pos (none_a (by omega))]))
          clear hX2 h80 ht hz
          go_wp2
          refine bodyPost_ret (back_at2 50 Tryz.underlying50 sizeAt Tryz.results44 rfl rfl (set_at2 hP.out _ _)) rfl ?_
          exact ⟨by rw [HE.out]; rfl, grown_at2 hG.out _ _ HPQ.out.1⟩
        · have e1 : ((r.size : Int) == 1) = false := by rw [beq_eq_false_iff_ne]; omega
          have hne : t.data.toList ≠ [] := by
            intro h
            have : t.data.toList.length = 0 := by rw [h]; rfl
            have h2 : t.size = 0 := by simpa using this
            omega
          rw [if_neg hne] at hX2
          have hlen : t.data.toList.length = t.size := by simp
          by_cases h2 : 121 < r.size
          · have e2 : decide ((r.size : Int) > 121) = true := by simp; omega
            have HE := Lib.hid (ans_err (x := x) (k := 2) (by rw [← hX2, if_pos (by omega)]))
            clear hX2 h80 ht hz hne hlen
            go_wp2
            refine bodyPost_ret (back_at2 50 Tryz.underlying50 sizeAt Tryz.results44 rfl rfl (set_at2 hP.out _ _)) rfl ?_
            exact ⟨by rw [HE.out]; rfl, grown_at2 hG.out _ _ HPQ.out.1⟩
          · have e2 : decide ((r.size : Int) > 121) = false := by simp; omega
            have HE := Lib.hid (ans_ok (x := x) (f := f) (p := t) (by rw [← hX2, if_neg (by omega)]))
            clear hX2 h80 hz hne hlen
            go_upto_region 9 with fail
            have BQ := Lib.hid (set_at1 hQ.out (.string t))
            have BP := Lib.hid (far_at hP.out HPQ.out.2.2 1 (.string t))
            have G3 := Lib.hid (grown_at1 hG.out 1 (.string t) HPQ.out.2.1)
            generalize wr.setCell _ _ = w3 at BQ BP G3 ⊢
            clear a0 a1 b0 b1 fa fr hP hQ hG
            obtain ⟨a0, a1⟩ := two_at BQ.out
            obtain ⟨b0, b1⟩ := two_at BP.out
            have fr := free_at BP.out
            go_wp2
            refine bodyPost_ret (back_at2 50 Tryz.underlying50 sizeAt Tryz.results44 rfl rfl (set_at2 BP.out _ _)) rfl ?_
            exact ⟨by rw [HE.out]; rfl, grown_at2 G3.out _ _ HPQ.out.1⟩
      · have e80 : ((c.toNat : Int) == 80) = false := by
          rw [beq_eq_false_iff_ne]
          intro h
          exact h80 (UInt8.toNat_inj.1 (by show c.toNat = 80; omega))
        rw [if_neg h80] at hX2
        have C1 := Lib.hid (fun w => CV.out c w)
        by_cases hv : vlA c = 0
        · rw [if_pos hv] at hX2
          have HE := Lib.hid (ans_err (x := x) (k := 7) hX2.symm)
          rw [hv] at C1
          clear hX2 h80 ht hz hv
          go_wp2_with (go_at_call 75; (with_reducible refine (C1.out _).mono ?_); rintro e w3 ⟨rfl, rfl⟩)
          refine bodyPost_ret (back_at2 50 Tryz.underlying50 sizeAt Tryz.results44 rfl rfl (set_at2 hP.out _ _)) rfl ?_
          exact ⟨by rw [HE.out]; rfl, grown_at2 hG.out _ _ HPQ.out.1⟩
        · rw [if_neg hv] at hX2
          have CH := Lib.hid (fun w => dHas f (vlA c) ⟨#[]⟩ w hf.out (vl_mem hv))
          have HF := Lib.hid (show adA f (vlA c) < 256 by rw [ad_or hf.out hv]; exact or_lt hf.out (vl_lt c))
          have ev : ((vlA c : Int) == 0) = false := by rw [beq_eq_false_iff_ne]; omega
          unfold adA at hX2 HF
          generalize vlA c = v at C1 CH hX2 HF ev
          by_cases hb : f / v % 2 = 1
          · rw [if_pos hb] at hX2 HF
            rw [decide_eq_true hb] at CH
            have HX2 := Lib.hid hX2
            clear hX2 h80 hv hb
            go_wp2_with (first
              | (go_at_call 75; (with_reducible refine (C1.out _).mono ?_); rintro e w3 ⟨rfl, rfl⟩)
              | (go_at_call 76; (with_reducible refine (CH.out _).mono ?_); rintro e w4 ⟨rfl, g4⟩; have G4 := Lib.hid (hG.out.trans g4); have BP := Lib.hid (kept_at g4 hP.out); have BQ := Lib.hid (kept_at g4 hQ.out); clear g4))
            go_roundw
            case rel => exact ⟨t, f, rfl, hf, by omega, HX2, BP, BQ, G4⟩
            case measure => simp [szV]; omega
          · rw [if_neg hb] at hX2 HF
            rw [decide_eq_false hb] at CH
            have HX2 := Lib.hid hX2
            have hv2 : v < 256 ∧ f < 256 ∧ f + v < 256 := ⟨by have := HF.out; omega, hf.out, HF.out⟩
            have ew : wrap64 ((f : Int) + (v : Int)) = ((f + v : Nat) : Int) := by unfold wrap64; omega
            clear hX2 h80 hv hb
            go_wp2_with (first
              | (go_at_call 75; (with_reducible refine (C1.out _).mono ?_); rintro e w3 ⟨rfl, rfl⟩)
              | (go_at_call 76; (with_reducible refine (CH.out _).mono ?_); rintro e w4 ⟨rfl, g4⟩; have G4 := Lib.hid (hG.out.trans g4); have BP := Lib.hid (kept_at g4 hP.out); have BQ := Lib.hid (kept_at g4 hQ.out); clear g4; clear a0 a1 fa; obtain ⟨a0, a1⟩ := two_at BQ.out; have fa := free_at BQ.out))
            go_roundw
            case rel => exact ⟨t, f + v, rfl, HF, by omega, HX2, Lib.hid (far_at BP.out HPQ.out.2.2 0 _), Lib.hid (by simpa using set_at0 BQ.out _), Lib.hid (grown_at1 G4.out 0 _ HPQ.out.2.1)⟩
            case measure => simp [szV]; omega
    · have hX2 := hX.out
      rw [none_a h0, docA] at hX2
      have HE := Lib.hid (ans_ok (x := x) (f := f) (p := ⟨#[]⟩) hX2.symm)
      clear hX2
      go_wp2
      refine bodyPost_ret (back_at2 50 Tryz.underlying50 sizeAt Tryz.results44 rfl rfl (set_at2 hP.out _ _)) rfl ?_
      exact ⟨by rw [HE.out]; rfl, grown_at2 hG.out _ _ HPQ.out.1⟩
end Go.Proofs.YtdganemgldocoaaGreatDoor
