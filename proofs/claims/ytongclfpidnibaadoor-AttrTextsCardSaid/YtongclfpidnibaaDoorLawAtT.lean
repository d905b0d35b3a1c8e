/- The law AttrTexts, walked: which attributes are right, their letters, and that these are parsed as they were. -/
import Derived.Test.YtongclfpidnibaaDoorLawAtA
namespace Go.Proofs.YtongclfpidnibaaDoor
open Go.RowKit

theorem tx_len {f : Nat} {p : List UInt8} (hf : f < 256) : (txA f p).length ≤ 9 + p.length := by
  have h : (ltA f).length ≤ 8 := lt_len ⟨f, hf⟩
  unfold txA
  rw [List.length_append]
  split
  · simp; omega
  · rw [List.length_cons]; omega
theorem str_same {s t : ByteArray} (h : s.data.toList = t.data.toList) : s = t := (ba_of h).trans (ba_of rfl).symm
/-- whether attributes are right, as the law asks -/
theorem rg_cases (f : Int) (p : ByteArray) : (rgA f p = false ∧ ((decide (0 ≤ f) = false) ∨ (decide (0 ≤ f) = true ∧ decide (f < 256) = false) ∨ (decide (0 ≤ f) = true ∧ decide (f < 256) = true ∧ decide ((p.size : Int) ≤ 120) = false))) ∨
    (rgA f p = true ∧ decide (0 ≤ f) = true ∧ decide (f < 256) = true ∧ decide ((p.size : Int) ≤ 120) = true) := by
  unfold rgA
  by_cases h1 : 0 ≤ f
  · by_cases h2 : f < 256
    · by_cases h3 : p.size ≤ 120
      · right; simp [h1, h2, h3]; omega
      · left; simp [h1, h2, h3]; omega
    · left; simp [h1, h2]
  · left; simp [h1]
set_option maxRecDepth 100000 in
set_option maxHeartbeats 4000000 in
theorem lAttrTexts (A : Nat → Addr) (f v : Int) (p : ByteArray) (w : World) (hE : AtE A w) :
    Calls Tryd.prog 4 #[atV f p, .int .i64 v] w fun e w' => e = .returned (.bool true) ∧ w.grownBy w' none := by
  have CA := Lib.hid (fun w' (g : w.grownBy w' none) => lAlive18 A w' (hE.grown g))
  have HE := Lib.hid hE
  have A0 := Lib.hid (heap_alloc_new w (.cells #[.int .i64 f, .string p] 24))
  have HG := Lib.hid (World.grownBy_alloc w (.cells #[.int .i64 f, .string p] 24) none)
  clear hE
  go_enter Tryd.func4, Tryd.ntmps4
  go_upto_region 1 with fail
  generalize w.alloc _ = w1 at A0 HG ⊢
  obtain ⟨a, ea⟩ : ∃ a, w.heap.size = a := ⟨_, rfl⟩
  rw [ea] at A0 ⊢
  clear ea
  go_upto_region 3 with (go_at_call 6; (with_reducible refine (CA.out _ HG.out).mono ?_); rintro e w2 ⟨rfl, g2⟩; have G2 := Lib.hid (HG.out.trans g2); have A2 := Lib.hid (kept_at g2 A0.out); clear g2)
  obtain ⟨a0, a1⟩ := two_at A2.out
  clear CA
  by_cases hp : 200 < p.size
  · have e1 : decide ((p.size : Int) > 200) = true := by simp; omega
    clear hp
    go_wp2
    go_ret
    exact ⟨rfl, G2.out⟩
  have e1 : decide ((p.size : Int) > 200) = false := by simp; omega
  have CR := Lib.hid (fun w => pRight f p w)
  have CH := Lib.hid (fun w => pHas f v p w)
  obtain ⟨z, hz⟩ : ∃ z, (bits .and .i64 f v == v) = z := ⟨_, rfl⟩
  rw [hz] at CH
  rcases rg_cases f p with ⟨hr, hc⟩ | ⟨hr, c1, c2, c3⟩
  · rw [hr] at CR
    have CT := Lib.hid (fun w => pTextNo f p w hr)
    clear hr hp
    rcases hc with c1 | ⟨c1, c2⟩ | ⟨c1, c2, c3⟩
    all_goals
      cases z
    all_goals
      go_upto_region 6 with fail
      have k0 : ∀ u : Gr w2, u.W.cell? ⟨a, 0, none⟩ = some (.int .i64 f) := fun u => u.g.cell a0 (by simp)
      have k1 : ∀ u : Gr w2, u.W.cell? ⟨a, 1, none⟩ = some (.string p) := fun u => u.g.cell a1 (by simp)
      have inst : Nonempty (Gr w2) := ⟨⟨w2, World.grownBy.refl _ _⟩⟩
      refine wp_region_grows (by kernel_rfl) (by kernel_rfl) ?_
      repeat (go_big_quiet_step (first
        | (go_at_call 10; with_reducible refine (CR.out _).mono ?_; rintro e w9 ⟨he, g9⟩; exact ⟨he, ⟨_, (Gr.g _).trans g9⟩, rfl⟩)
        | (go_at_call 11; with_reducible refine (CH.out _).mono ?_; rintro e w9 ⟨he, g9⟩; exact ⟨he, ⟨_, (Gr.g _).trans g9⟩, rfl⟩)))
      refine wpQuiet_nil ?_
      rintro w3 ⟨⟨_, g9⟩, rfl⟩
      have G3 := Lib.hid (G2.out.trans g9)
      have A3 := Lib.hid (kept_at g9 A2.out)
      clear k0 k1 inst g9 a0 a1 A2 CR CH
      obtain ⟨a0, a1⟩ := two_at A3.out
      go_wp2_with (go_at_call 12; (with_reducible refine (CT.out _).mono ?_); rintro e w4 ⟨rfl, g4⟩; have G4 := Lib.hid (G3.out.trans g4); clear g4)
      go_ret
      exact ⟨rfl, G4.out⟩
  · rw [hr] at CR
    obtain ⟨n, rfl, hn, hp2⟩ := rg_nat hr
    have CT := Lib.hid (fun w' (g : w.grownBy w' none) => pTextYes n p w' hn hp2 (HE.out.l.grown g))
    have CP := Lib.hid (show ∀ (T : ByteArray) w', w.grownBy w' none → T.data.toList = txA n p.data.toList → Calls Tryd.prog 7 #[.string T] w' fun e w'' => e = .returned (.tuple #[atV n p, .nilIface]) ∧ w'.grownBy w'' none from fun T w' g hT => by
      have hz1 : T.data.toList.length = T.size := by simp
      have hz2 : p.data.toList.length = p.size := by simp
      have h1 := tx_len (p := p.data.toList) hn
      have h := pParse A T w' (HE.out.grown g) (by rw [hT] at hz1; omega)
      rw [hT, tx_back hn (by omega), ans_ok rfl] at h
      exact h)
    have CD := Lib.hid (show ∀ (T : ByteArray) w', T.data.toList = txA n p.data.toList → Calls Tryd.prog 13 #[atV n p] w' fun e w'' => e = .returned (.string T) ∧ w'.grownBy w'' none from fun T w' hT =>
      (dText n p w' hn (by omega)).mono fun e w'' ⟨t, he, ht, g⟩ => ⟨by rw [he, str_same (ht.trans hT.symm)], g⟩)
    have QA := eqlA (n : Int) p
    clear hr hp hn hp2
    cases z
    all_goals
      go_upto_region 6 with fail
      have k0 : ∀ u : Gr w2, u.W.cell? ⟨a, 0, none⟩ = some (.int .i64 (n : Int)) := fun u => u.g.cell a0 (by simp)
      have k1 : ∀ u : Gr w2, u.W.cell? ⟨a, 1, none⟩ = some (.string p) := fun u => u.g.cell a1 (by simp)
      have inst : Nonempty (Gr w2) := ⟨⟨w2, World.grownBy.refl _ _⟩⟩
      refine wp_region_grows (by kernel_rfl) (by kernel_rfl) ?_
      repeat (go_big_quiet_step (first
        | (go_at_call 10; with_reducible refine (CR.out _).mono ?_; rintro e w9 ⟨he, g9⟩; exact ⟨he, ⟨_, (Gr.g _).trans g9⟩, rfl⟩)
        | (go_at_call 11; with_reducible refine (CH.out _).mono ?_; rintro e w9 ⟨he, g9⟩; exact ⟨he, ⟨_, (Gr.g _).trans g9⟩, rfl⟩)))
      refine wpQuiet_nil ?_
      rintro w3 ⟨⟨_, g9⟩, rfl⟩
      have G3 := Lib.hid (G2.out.trans g9)
      have A3 := Lib.hid (kept_at g9 A2.out)
      clear k0 k1 inst g9 a0 a1 A2 CR CH
      obtain ⟨a0, a1⟩ := two_at A3.out
      go_upto_region 11 with (go_at_call 12; (with_reducible refine (CT.out _ G3.out).mono ?_); rintro e w4 ⟨T, rfl, hT, g4⟩; have HT := Lib.hid hT; have G4 := Lib.hid (G3.out.trans g4); have A4 := Lib.hid (kept_at g4 A3.out); clear g4 hT)
      go_upto_region 12 with (go_at_call 7; (with_reducible refine (CP.out _ _ G4.out HT.out).mono ?_); rintro e w5 ⟨rfl, g5⟩; have G5 := Lib.hid (G4.out.trans g5); have A5 := Lib.hid (kept_at g5 A4.out); clear g5)
      have ga := World.grownBy_alloc w5 (.cells #[.int .i64 n, .string p] 24) none
      have Q6 := Lib.hid (heap_alloc_new w5 (.cells #[.int .i64 n, .string p] 24))
      have A6 := Lib.hid (kept_at ga A5.out)
      have G6 := Lib.hid (G5.out.trans ga)
      generalize w5.alloc _ = w6 at Q6 A6 G6 ⊢
      obtain ⟨q, eq⟩ : ∃ q, w5.heap.size = q := ⟨_, rfl⟩
      rw [eq] at Q6 ⊢
      clear ga eq a0 a1
      obtain ⟨a0, a1⟩ := two_at A6.out
      go_wp2_with (go_at_call 13; (with_reducible refine (CD.out _ _ HT.out).mono ?_); rintro e w7 ⟨rfl, g7⟩; have G7 := Lib.hid (G6.out.trans g7); obtain ⟨d0, d1⟩ := two_at (kept_at g7 Q6.out); obtain ⟨e0, e1⟩ := two_at (kept_at g7 A6.out); clear g7)
      go_ret
      exact ⟨by simp, G7.out⟩
end Go.Proofs.YtongclfpidnibaaDoor
