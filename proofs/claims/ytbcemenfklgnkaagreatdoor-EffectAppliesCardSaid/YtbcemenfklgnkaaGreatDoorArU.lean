/- Walks of the document's layer 3: figures. -/
import Derived.Test.YtbcemenfklgnkaaGreatDoorArT
namespace Go.Proofs.YtbcemenfklgnkaaGreatDoor
open Go.RowKit

def digB (c : UInt8) : Bool := decide (48 ≤ c.toNat) && decide (c.toNat ≤ 57)
theorem dig_iff (c : UInt8) : digB c = true ↔ 48 ≤ c.toNat ∧ c.toNat ≤ 57 := by unfold digB; simp
/-- how far the figures have been read -/
def DigSt (l : List UInt8) (k n : Nat) : Prop :=
  (∀ c ∈ l.take k, digB c = true) ∧ n < 10 ^ k ∧ (k = 0 → n = 0) ∧ (1 ≤ k → (k = 1 ∨ l[0]? ≠ some 48) → l.take k = Lib.decDigits n)
theorem dig_start (l : List UInt8) : DigSt l 0 0 := ⟨by simp, by decide, fun _ => rfl, fun h => absurd h (by omega)⟩
theorem dig_of_byte (c : UInt8) (h : digB c = true) : UInt8.ofNat (48 + (c.toNat - 48)) = c := by
  rw [dig_iff] at h
  rw [show 48 + (c.toNat - 48) = c.toNat by omega]
  exact UInt8.ofNat_toNat
theorem dig_step {l : List UInt8} {k n : Nat} {c : UInt8} (h : DigSt l k n) (hc : l[k]? = some c) (hd : digB c = true) : DigSt l (k + 1) (n * 10 + (c.toNat - 48)) := by
  obtain ⟨h1, h2, h3, h4⟩ := h
  have hd' := (dig_iff c).1 hd
  have ht : l.take (k + 1) = l.take k ++ [c] := by rw [List.take_add_one, hc]; rfl
  refine ⟨fun x hx => ?_, ?_, fun e => by omega, fun _ hcond => ?_⟩
  · rw [ht] at hx
    rcases List.mem_append.1 hx with hx | hx
    · exact h1 x hx
    · rw [List.mem_singleton] at hx; subst hx; exact hd
  · rw [Nat.pow_succ]; omega
  · rw [ht]
    by_cases hk : k = 0
    · subst hk
      rw [h3 rfl, Nat.zero_mul, Nat.zero_add, Lib.decDigits_one (by omega), List.take_zero, List.nil_append, dig_of_byte c hd]
    · have h0 : l[0]? ≠ some 48 := by
        rcases hcond with h | h
        · omega
        · exact h
      have e := h4 (by omega) (.inr h0)
      have hn : 0 < n := by
        rcases Nat.eq_zero_or_pos n with hz | hz
        · exfalso
          rw [hz, Lib.decDigits_one (by omega)] at e
          have : (l.take k)[0]? = some 48 := by rw [e]; rfl
          rw [List.getElem?_take_of_lt (by omega)] at this
          exact h0 this
        · exact hz
      rw [digits_snoc hn (by omega), e, dig_of_byte c hd]
/-- a text of figures and blanks: where the figures end -/
theorem fig_shape {l : List UInt8} {m k r : Nat} (hl : l = Lib.decDigits m ++ List.replicate r 32) (h1 : ∀ c ∈ l.take k, digB c = true) (hk : k ≤ l.length) (h2 : ∀ c, l[k]? = some c → digB c = false) : (Lib.decDigits m).length = k ∧ l.take k = Lib.decDigits m ∧ ∀ j c, k ≤ j → l[j]? = some c → c = 32 := by
  have hlen : (Lib.decDigits m).length = k := by
    rcases Nat.lt_trichotomy (Lib.decDigits m).length k with h | h | h
    · exfalso
      have e : l[(Lib.decDigits m).length]? = some 32 := by
        rw [hl, List.getElem?_append_right (Nat.le_refl _), Nat.sub_self]
        rw [hl, List.length_append, List.length_replicate] at hk
        rw [List.getElem?_replicate_of_lt (by omega)]
      have hm : (32 : UInt8) ∈ l.take k := by
        refine List.mem_of_getElem? (i := (Lib.decDigits m).length) ?_
        rw [List.getElem?_take_of_lt h]; exact e
      exact absurd (h1 _ hm) (by decide)
    · exact h
    · exfalso
      have e : l[k]? = some ((Lib.decDigits m)[k]) := by
        rw [hl, List.getElem?_append_left h, List.getElem?_eq_getElem h]
      have := digits_all m _ (List.getElem_mem h)
      rw [← dig_iff] at this
      rw [h2 _ e] at this; cases this
  refine ⟨hlen, ?_, fun j c hj hc => ?_⟩
  · rw [hl, List.take_append_of_le_length (by omega), List.take_of_length_le (by omega)]
  · rw [hl, List.getElem?_append_right (by omega)] at hc
    have := List.mem_of_getElem? hc
    exact (List.mem_replicate.1 this).2
theorem digits_inj {a b : Nat} (h : Lib.decDigits a = Lib.decDigits b) : a = b := by
  have h1 := decFrom_digits a
  rw [h, decFrom_digits b] at h1
  exact (Option.some.inj h1).symm

/-- what figures answers of a text -/
def FigOf (s : ByteArray) (n : Nat) (ok : Bool) : Prop :=
  (ok = true → s.data.toList = padL (Lib.itoa (n : Int)) s.size) ∧ ∀ m : Nat, s.data.toList = padL (Lib.itoa (m : Int)) s.size → ok = true ∧ n = m
theorem fig_empty {s : ByteArray} (h : ∀ c, s.data.toList[0]? = some c → digB c = false) : FigOf s 0 false := by
  refine ⟨fun e => (by cases e), fun m hm => ?_⟩
  exfalso
  unfold padL at hm
  rw [itoa_nat] at hm
  have := (fig_shape (k := 0) hm (by simp) (Nat.zero_le _) h).1
  exact digits_ne m (List.eq_nil_of_length_eq_zero this)
theorem fig_zero {s : ByteArray} {k n : Nat} (h : DigSt s.data.toList k n) (hk : k ≤ s.size) (hk1 : 1 < k) (h0 : s.data.toList[0]? = some 48) (he : ∀ c, s.data.toList[k]? = some c → digB c = false) : FigOf s 0 false := by
  refine ⟨fun e => (by cases e), fun m hm => ?_⟩
  exfalso
  unfold padL at hm
  rw [itoa_nat] at hm
  obtain ⟨hl, ht, -⟩ := fig_shape (k := k) hm h.1 (by rw [bytes_len]; exact hk) he
  have hd : (Lib.decDigits m)[0]? = some 48 := by
    rw [← ht, List.getElem?_take_of_lt (by omega)]; exact h0
  have := digits_head hd
  subst this
  rw [Lib.decDigits_one (by omega)] at hl
  simp at hl; omega
theorem fig_end {s : ByteArray} {k n e : Nat} (h : DigSt s.data.toList k n) (hk : k ≤ s.size) (hk1 : 1 ≤ k) (h0 : k = 1 ∨ s.data.toList[0]? ≠ some 48) (he : ∀ c, s.data.toList[k]? = some c → digB c = false)
    (hke : k ≤ e) (hes : e ≤ s.size) (hb : ∀ j c, k ≤ j → j < e → s.data.toList[j]? = some c → c = 32) (hx : ∀ c, s.data.toList[e]? = some c → c ≠ 32) : FigOf s n (((e : Int)) == (s.size : Int)) := by
  have ht := h.2.2.2 hk1 h0
  refine ⟨fun q => ?_, fun m hm => ?_⟩
  · have hes : e = s.size := by rw [beq_iff_eq] at q; omega
    unfold padL
    rw [itoa_nat, ← ht, List.length_take, bytes_len, Nat.min_eq_left hk]
    have hd : s.data.toList.drop k = List.replicate (s.size - k) 32 := by
      rw [List.eq_replicate_iff]
      refine ⟨by rw [List.length_drop, bytes_len], fun c hc => ?_⟩
      obtain ⟨j, hj⟩ := List.getElem?_of_mem hc
      rw [List.getElem?_drop] at hj
      have hlt := (List.getElem?_eq_some_iff.1 hj).1
      rw [bytes_len] at hlt
      exact hb (k + j) c (by omega) (by omega) hj
    rw [← hd, List.take_append_drop]
  · unfold padL at hm
    rw [itoa_nat] at hm
    obtain ⟨hl, ht2, hr⟩ := fig_shape (k := k) hm h.1 (by rw [bytes_len]; exact hk) he
    have hes' : e = s.size := by
      rcases Nat.lt_or_ge e s.size with hlt | hge
      · exfalso
        have hg := get_some s e hlt
        exact hx _ hg (hr e _ hke hg)
      · omega
    exact ⟨by rw [beq_iff_eq]; omega, digits_inj (ht.symm.trans ht2)⟩
theorem pow_small {n k : Nat} (h : n < 10 ^ k) (hk : k ≤ 12) : n < 1000000000000 := by
  have : 10 ^ k ≤ 10 ^ 12 := Nat.pow_le_pow_right (by decide) hk
  have e : 10 ^ 12 = 1000000000000 := by decide
  omega

/-- a figure, the end, or another byte -/
theorem fig_cases (s : ByteArray) (k : Nat) : (∃ h : k < s.size, (48 : Int) ≤ (s[k].toNat : Int) ∧ (s[k].toNat : Int) ≤ 57) ∨
    (s.size ≤ k ∧ Hid (∀ c, s.data.toList[k]? = some c → digB c = false)) ∨ (∃ h : k < s.size, (s[k].toNat : Int) < 48 ∧ Hid (∀ c, s.data.toList[k]? = some c → digB c = false)) ∨
    (∃ h : k < s.size, (48 : Int) ≤ (s[k].toNat : Int) ∧ (57 : Int) < (s[k].toNat : Int) ∧ Hid (∀ c, s.data.toList[k]? = some c → digB c = false)) := by
  by_cases hlt : k < s.size
  · have hg := get_some s k hlt
    by_cases h1 : (48 : Int) ≤ (s[k].toNat : Int)
    · by_cases h2 : (s[k].toNat : Int) ≤ 57
      · exact .inl ⟨hlt, h1, h2⟩
      · refine .inr (.inr (.inr ⟨hlt, h1, by omega, Lib.hid fun c hc => ?_⟩))
        rw [hg] at hc; cases hc
        rw [← Bool.not_eq_true, dig_iff]; omega
    · refine .inr (.inr (.inl ⟨hlt, by omega, Lib.hid fun c hc => ?_⟩))
      rw [hg] at hc; cases hc
      rw [← Bool.not_eq_true, dig_iff]; omega
  · exact .inr (.inl ⟨by omega, Lib.hid fun c hc => by rw [List.getElem?_eq_none (by rw [bytes_len]; omega)] at hc; cases hc⟩)
/-- how the figures begin -/
theorem fig_heads (s : ByteArray) (k : Nat) (hk : k ≤ s.size) : k = 0 ∨ (∃ h : 0 < s.size, 1 < k ∧ ((s[0].toNat : Int) == 48) = true ∧ Hid (s.data.toList[0]? = some 48)) ∨
    (∃ h : 0 < s.size, 1 < k ∧ ((s[0].toNat : Int) == 48) = false ∧ Hid (1 ≤ k ∧ (k = 1 ∨ s.data.toList[0]? ≠ some 48))) ∨ (k = 1 ∧ Hid (1 ≤ k ∧ (k = 1 ∨ s.data.toList[0]? ≠ some 48))) := by
  rcases Nat.eq_zero_or_pos k with h | h
  · exact .inl h
  · rcases Nat.lt_or_ge 1 k with h1 | h1
    · have h0 : 0 < s.size := by omega
      have hg := get_some s 0 h0
      have e48 : ((48 : UInt8).toNat : Int) = 48 := rfl
      cases e : ((s[0].toNat : Int) == 48)
      · refine .inr (.inr (.inl ⟨h0, h1, e, Lib.hid ⟨by omega, .inr fun hc => ?_⟩⟩))
        rw [hg] at hc
        have := Option.some.inj hc
        rw [this] at e; cases e
      · refine .inr (.inl ⟨h0, h1, e, Lib.hid ?_⟩)
        rw [hg]
        rw [← e48] at e
        rw [(u8_eq _ _).1 e]
    · exact .inr (.inr (.inr ⟨by omega, Lib.hid ⟨by omega, .inl (by omega)⟩⟩))
theorem blank_cases (s : ByteArray) (k : Nat) : (∃ h : k < s.size, ((s[k].toNat : Int) == 32) = true ∧ Hid (s.data.toList[k]? = some 32)) ∨
    (s.size ≤ k ∧ Hid (∀ c, s.data.toList[k]? = some c → c ≠ 32)) ∨ (∃ h : k < s.size, ((s[k].toNat : Int) == 32) = false ∧ Hid (∀ c, s.data.toList[k]? = some c → c ≠ 32)) := by
  by_cases hlt : k < s.size
  · have hg := get_some s k hlt
    have e32 : ((32 : UInt8).toNat : Int) = 32 := rfl
    cases e : ((s[k].toNat : Int) == 32)
    · refine .inr (.inr ⟨hlt, e, Lib.hid fun c hc => ?_⟩)
      rw [hg] at hc; cases hc
      intro h; rw [h] at e; cases e
    · refine .inl ⟨hlt, e, Lib.hid ?_⟩
      rw [← e32] at e
      rw [hg, (u8_eq _ _).1 e]
  · exact .inr (.inl ⟨by omega, Lib.hid fun c hc => by rw [List.getElem?_eq_none (by rw [bytes_len]; omega)] at hc; cases hc⟩)

def FigPost (s : ByteArray) (w : World) (e : Ending) (w' : World) : Prop := ∃ (n : Nat) (ok : Bool), e = .returned (.tuple #[.int .i64 n, .bool ok]) ∧ FigOf s n ok ∧ w = w'
set_option maxRecDepth 100000 in
set_option maxHeartbeats 4000000 in
theorem rFiguresOf (s : ByteArray) (w : World) (hs : s.size ≤ 12) : Calls Tryz.prog 89 #[.string s] w (FigPost s w) := by
  go_enter Tryz.func89, Tryz.ntmps89
  go_wp2
  go_loop [4, 5] (fun z i => ∃ k n : Nat, k ≤ s.size ∧ i = .int .i64 k ∧ z = .int .i64 n ∧ Hid (DigSt s.data.toList k n)) (fun _ i => s.size - (intOf i).toNat)
  case atStart => exact ⟨0, 0, Nat.zero_le _, rfl, rfl, Lib.hid (dig_start _)⟩
  case round =>
    obtain ⟨k, n, hk, rfl, rfl, hd⟩ := hrel
    have hn := pow_small hd.out.2.1 (by omega)
    rcases fig_cases s k with ⟨hlt, hc1, hc2⟩ | ⟨hge, hX⟩ | ⟨hlt, hc1, hX⟩ | ⟨hlt, hc1, hc2, hX⟩
    · have GE := Lib.hid (get_some s k hlt)
      have HD := Lib.hid (dig_step hd.out GE.out ((dig_iff _).2 ⟨by omega, by omega⟩))
      have HV := Lib.hid (show (n : Int) * 10 + ((s[k].toNat : Int) - 48) = ((n * 10 + (s[k].toNat - 48) : Nat) : Int) by omega)
      go_wp2
      go_round
      case rel => exact ⟨k + 1, n * 10 + (s[k].toNat - 48), by omega, by go_num, by rw [HV.out], HD⟩
      case measure => simp [intOf]; omega
    all_goals
      have hi0 : (0 : Int) ≤ (k : Int) := by omega
      rcases fig_heads s k hk with rfl | ⟨h0, h1, e0, hz⟩ | ⟨h0, h1, e0, hz⟩ | ⟨rfl, -⟩
      · have HF := Lib.hid (fig_empty hX.out)
        go_wp2
        go_ret2
        exact ⟨0, false, rfl, HF.out, rfl⟩
      · have HF := Lib.hid (fig_zero hd.out hk h1 hz.out hX.out)
        have hq0 : ((k : Int) == 0) = false := by rw [beq_eq_false_iff_ne]; omega
        have hq1 : (1 : Int) < (k : Int) := by omega
        go_wp2
        go_ret2
        exact ⟨0, false, rfl, HF.out, rfl⟩
      · have hq0 : ((k : Int) == 0) = false := by rw [beq_eq_false_iff_ne]; omega
        have hq1 : (1 : Int) < (k : Int) := by omega
        go_wp2
        go_loop [5] (fun i => ∃ e : Nat, k ≤ e ∧ e ≤ s.size ∧ i = .int .i64 e ∧ Hid (∀ j c, k ≤ j → j < e → s.data.toList[j]? = some c → c = 32)) (fun i => s.size - (intOf i).toNat)
        case atStart => exact ⟨k, Nat.le_refl _, hk, rfl, Lib.hid (fun j c h1 h2 => by omega)⟩
        case round =>
          obtain ⟨e, hke, hes, rfl, hb⟩ := hrel
          rcases blank_cases s e with ⟨hle, q0, hg⟩ | ⟨hle, hg⟩ | ⟨hle, q0, hg⟩
          · have HB := Lib.hid (show ∀ j c, k ≤ j → j < e + 1 → s.data.toList[j]? = some c → c = 32 from fun j c a1 a2 a3 => by
              rcases Nat.lt_succ_iff_lt_or_eq.1 a2 with h | rfl
              · exact hb.out j c a1 h a3
              · rw [hg.out] at a3; exact (Option.some.inj a3).symm)
            go_wp2
            go_round
            case rel => exact ⟨e + 1, by omega, by omega, by go_num, HB⟩
            case measure => simp [intOf]; omega
          all_goals
            have HF := Lib.hid (fig_end hd.out hk hz.out.1 hz.out.2 hX.out hke hes hb.out hg.out)
            go_wp2
            go_ret2
            exact ⟨n, _, rfl, HF.out, rfl⟩
      · have hq0 : (((1 : Nat) : Int) == 0) = false := by rfl
        go_wp2
        go_loop [5] (fun i => ∃ e : Nat, 1 ≤ e ∧ e ≤ s.size ∧ i = .int .i64 e ∧ Hid (∀ j c, 1 ≤ j → j < e → s.data.toList[j]? = some c → c = 32)) (fun i => s.size - (intOf i).toNat)
        case atStart => exact ⟨1, Nat.le_refl _, hk, rfl, Lib.hid (fun j c h1 h2 => by omega)⟩
        case round =>
          obtain ⟨e, hke, hes, rfl, hb⟩ := hrel
          rcases blank_cases s e with ⟨hle, q0, hg⟩ | ⟨hle, hg⟩ | ⟨hle, q0, hg⟩
          · have HB := Lib.hid (show ∀ j c, 1 ≤ j → j < e + 1 → s.data.toList[j]? = some c → c = 32 from fun j c a1 a2 a3 => by
              rcases Nat.lt_succ_iff_lt_or_eq.1 a2 with h | rfl
              · exact hb.out j c a1 h a3
              · rw [hg.out] at a3; exact (Option.some.inj a3).symm)
            go_wp2
            go_round
            case rel => exact ⟨e + 1, by omega, by omega, by go_num, HB⟩
            case measure => simp [intOf]; omega
          all_goals
            have HF := Lib.hid (fig_end hd.out hk (Nat.le_refl _) (.inl rfl) hX.out hke hes hb.out hg.out)
            go_wp2
            go_ret2
            exact ⟨n, _, rfl, HF.out, rfl⟩
end Go.Proofs.YtbcemenfklgnkaaGreatDoor
