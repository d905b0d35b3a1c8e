/- strings.IndexAny and strings.ContainsAny of whatever bytes, with ASCII signs: the library's own contract asks ASCII of the text, too; here is the short road (a text of at most 8 bytes, ranged over by letters) at high bytes. Over any program and numbering. What the library answers to package stem: where the first of two signs stands, is one of two there, a text without its beginning or its end. -/
import Derived.Shelf.Strings.IndexAnyAll
import Derived.Shelf.Small.Utf8
import Derived.Laws.RangeAny
import Derived.Laws.Runes
import Derived.Lib.OthersKept
import Derived.Lib.IndexLaws
import Derived.Below
import Derived.Deep.Cut
import Derived.Shelf.RegionOpenPlain
import Derived.WalkMore
import Derived.WalkSmall
import Derived.Test.YtcmfmfkpmgoieaaGreatDoorStPlain
import Derived.Test.YtcmfmfkpmgoieaaGreatDoorBldS
import Derived.Test.YtcmfmfkpmgoieaaGreatDoorGrown
import Derived.Test.YtcmfmfkpmgoieaaGreatDoorShelf
namespace Go.Proofs.YtcmfmfkpmgoieaaGreatDoor
open Go.Shelf Go.RowKit Go.Lib
variable {P : Program} {ρ : Ren}

/-- a decoder's step stays in the text, and goes over high bytes alone if it begins at one -/
theorem decode_step (s : ByteArray) (pos : Nat) (h : pos < s.size) (ha : 128 ≤ (s[pos]'h).toNat) :
    pos + (Utf8.decode s pos).2 ≤ s.size ∧ ∀ j (hj : j < s.size), pos ≤ j → j < pos + (Utf8.decode s pos).2 → 128 ≤ (s[j]'hj).toNat := by
  have hn : ¬ (s[pos]'h).toNat < 128 := by omega
  have hc : ∀ k, (decide (pos + k < s.size) && (s.get! (pos + k)).toNat / 64 == 2) = true → pos + k < s.size ∧ ∀ hj : pos + k < s.size, 128 ≤ (s[pos + k]'hj).toNat := by
    intro k hk
    simp only [Bool.and_eq_true, decide_eq_true_eq, beq_iff_eq] at hk
    refine ⟨hk.1, fun hj => ?_⟩
    have e : s.get! (pos + k) = s[pos + k]'hj := get_at s (pos + k) hj
    rw [e] at hk
    omega
  have one : pos + 1 ≤ s.size ∧ ∀ j (hj : j < s.size), pos ≤ j → j < pos + 1 → 128 ≤ (s[j]'hj).toNat :=
    ⟨h, fun j hj h1 h2 => by obtain rfl : j = pos := by omega
                             exact ha⟩
  simp only [Utf8.decode, get_at s pos h, hn, if_false]
  split
  · rename_i h1
    rw [Bool.and_eq_true] at h1
    have c1 := hc 1 h1.2
    split
    · refine ⟨by show pos + 2 ≤ _; omega, fun j hj g1 g2 => ?_⟩
      have g2 : j < pos + 2 := g2
      rcases (show j = pos ∨ j = pos + 1 by omega) with rfl | rfl
      · exact ha
      · exact c1.2 hj
    · exact one
  · split
    · rename_i _ h1
      rw [Bool.and_eq_true, Bool.and_eq_true] at h1
      have c1 := hc 1 h1.1.2
      have c2 := hc 2 h1.2
      split
      · refine ⟨by show pos + 3 ≤ _; omega, fun j hj g1 g2 => ?_⟩
        have g2 : j < pos + 3 := g2
        rcases (show j = pos ∨ j = pos + 1 ∨ j = pos + 2 by omega) with rfl | rfl | rfl
        · exact ha
        · exact c1.2 hj
        · exact c2.2 hj
      · exact one
    · split
      · rename_i _ _ h1
        rw [Bool.and_eq_true, Bool.and_eq_true, Bool.and_eq_true] at h1
        have c1 := hc 1 h1.1.1.2
        have c2 := hc 2 h1.1.2
        have c3 := hc 3 h1.2
        split
        · refine ⟨by show pos + 4 ≤ _; omega, fun j hj g1 g2 => ?_⟩
          have g2 : j < pos + 4 := g2
          rcases (show j = pos ∨ j = pos + 1 ∨ j = pos + 2 ∨ j = pos + 3 by omega) with rfl | rfl | rfl | rfl
          · exact ha
          · exact c1.2 hj
          · exact c2.2 hj
          · exact c3.2 hj
        · exact one
      · exact one
set_option maxHeartbeats 8000000 in
set_option maxRecDepth 1000000 in
/-- strings.IndexRune: a high letter is not in an ASCII text -/
theorem rune_high (L : Lays.n152 P ρ) (s : ByteArray) (r : Int) (w : World) (hr : 128 ≤ r) (hascii : ∀ (j : Nat) b, s.data.toList[j]? = some b → b.toNat < 128) :
    Calls P (ρ.f 152) #[.string s, .int .i32 r] w fun e w' => e = .returned (.int .i64 (-1)) ∧ Below w.heap.size w w' := by
  have HA : Aside (∀ (j : Nat) b, s.data.toList[j]? = some b → b.toNat < 128) := hascii
  clear hascii
  have t3 := L.t3; have a3 := L.a3; have z3 := L.z3; have v3 := L.v3
  have t4 := L.t4; have a4 := L.a4; have z4 := L.z4; have v4 := L.v4
  have t5 := L.t5; have a5 := L.a5; have z5 := L.z5; have v5 := L.v5
  have t9 := L.t9; have a9 := L.a9; have z9 := L.z9; have v9 := L.v9
  have t21 := L.t21; have a21 := L.a21; have z21 := L.z21; have v21 := L.v21
  have e137 : ∀ args w, (callFunc (ρ.f 137) args).run P w = .ok (.enter (ρ.f 137) args) w := enters_of L.f137 (by kernel_rfl) rfl
  have e119 : ∀ args w, (callFunc (ρ.f 119) args).run P w = .ok (.enter (ρ.f 119) args) w := enters_of L.f119 (by kernel_rfl) rfl
  have mixed := L.mixed
  have hr1 : ¬ r < 128 := by omega
  by_cases he : r = 65533
  · subst he
    go_enter L.f152, Body.n152_ntmps ρ
    go_wp2
    go_loopg [5, 6] s.size (fun g _ _ wx => ∃ i : Nat, i + g = s.size ∧ wx = w.iter s i)
    case atStart => exact ⟨0, by omega, rfl⟩
    case round =>
      obtain ⟨i, hig, rfl⟩ := hrel
      cases gk with
      | zero =>
        obtain rfl : i = s.size := by omega
        have hnx := run_next_end (P := P) w s s.size
        go_wp2
        go_ret
        exact ⟨rfl, Below.alloc (Below.refl _ _) (Nat.le_refl _) _⟩
      | succ g =>
        have hi : i < s.size := by omega
        have hxl : s.data.toList[i]? = some (s[i]'hi) := Lib.data_getElem? s i hi
        have hx128 : (s[i]'hi).toNat < 128 := HA.out i _ hxl
        have hnx := fun ty => run_next_ascii (P := P) w s i ty hi hx128
        have hne : (((s[i]'hi).toNat : Int) == 65533) = false := beq_eq_false_iff_ne.2 (by omega)
        clear hxl
        go_wp2
        go_roundg g
        case measure => omega
        case rel => exact ⟨i + 1, by omega, rfl⟩
  · have hne : (r == 65533) = false := beq_eq_false_iff_ne.2 he
    cases hv : Lib.validRune r
    · go_enter L.f152, Body.n152_ntmps ρ
      go_wp2_with (go_at_fn (ρ.f 119); refine (Any.utf8_ValidRune { L with } _ _).mono ?_; rintro e w' ⟨rfl, hw⟩; rw [hw, hv])
      go_ret
      exact ⟨rfl, Below.refl _ _⟩
    · have hvv : Utf8.valid r = true := by
        rw [validRune_eq]; unfold Lib.validRune at hv; unfold Go.validRune; exact hv
      obtain ⟨f1, f2, f3⟩ := encode_facts r hvv hr
      obtain ⟨n, hn⟩ : ∃ n, (Utf8.encode r).size = n + 1 := ⟨(Utf8.encode r).size - 1, by omega⟩
      have hnl : n < (Utf8.encode r).size := by omega
      have hhi : 128 ≤ ((Utf8.encode r)[n]'hnl).toNat := by
        have := f3 (by omega)
        simpa only [hn, Nat.add_sub_cancel] using this
      clear f3
      go_enter L.f152, Body.n152_ntmps ρ
      go_upto_region 2 with (go_at_fn (ρ.f 119); refine (Any.utf8_ValidRune { L with } _ _).mono ?_; rintro e w' ⟨rfl, hw⟩; rw [hw, hv])
      by_cases hlt : n < s.size
      · have hxl : s.data.toList[n]? = some (s[n]'hlt) := Lib.data_getElem? s n hlt
        have hx128 : (s[n]'hlt).toNat < 128 := HA.out n _ hxl
        have hne2 : (((s[n]'hlt).toNat : Int) != (((Utf8.encode r)[n]'hnl).toNat : Int)) = true := by rw [bne_iff_ne]; omega
        clear hxl
        have hix : Lib.indexByte (s.extract (n + 1) s.size).data.toList (UInt8.ofNat ((Utf8.encode r)[n]'hnl).toNat) = -1 := by
          have hge := Lib.indexByte_ge (s.extract (n + 1) s.size).data.toList (UInt8.ofNat ((Utf8.encode r)[n]'hnl).toNat)
          by_cases hq : Lib.indexByte (s.extract (n + 1) s.size).data.toList (UInt8.ofNat ((Utf8.encode r)[n]'hnl).toNat) = -1
          · exact hq
          · obtain ⟨o, ho⟩ : ∃ o : Nat, Lib.indexByte (s.extract (n + 1) s.size).data.toList (UInt8.ofNat ((Utf8.encode r)[n]'hnl).toNat) = o := ⟨_, (Int.toNat_of_nonneg (by omega)).symm⟩
            have hm := List.mem_of_getElem? (Lib.indexByte_some ho).1
            obtain ⟨j, hj⟩ := List.mem_iff_getElem?.1 (mem_extract hm)
            have := HA.out j _ hj
            rw [UInt8.ofNat_toNat] at this
            omega
        have CI : ∀ w : World, Calls P (ρ.f 137) #[.string (s.extract (n + 1) s.size), .int .u8 ((Utf8.encode r)[n]'hnl).toNat] w fun e w' => e = .returned (.int .i64 (-1)) ∧ w' = w := by
          intro w
          have := Any.strings_IndexByte (ρ := ρ) (P := P) { L with } (s.extract (n + 1) s.size) ((Utf8.encode r)[n]'hnl).toNat w
          rwa [show ((((Utf8.encode r)[n]'hnl).toNat : Int)).toNat.toUInt8 = UInt8.ofNat ((Utf8.encode r)[n]'hnl).toNat from rfl, hix] at this
        clear hix
        go_wp2
        apply wp_scope_straight
        go_wp2
        go_loopg [9, 10] 0 (fun _ s9 s10 wx => s9 = .int .i64 n ∧ s10 = .int .i64 0 ∧ wx = w)
        case atStart => exact ⟨rfl, rfl, rfl⟩
        case round =>
          obtain ⟨rfl, rfl, rfl⟩ := hrel
          go_wp2
          apply wp_scope_straight
          go_wp2
          have hn4 : n ≤ 3 := by omega
          have hb0 : (0 : Int) ≤ (n : Int) + 1 := by omega
          have hb1 : (n : Int) + 1 ≤ s.size := by omega
          have hwr : IntKind.i64.wrap ((n : Int) + 1) = (n : Int) + 1 := wrap_small _ (by omega) (by omega)
          clear f1 f2 hvv
          generalize Utf8.encode r = rs at hn hnl hhi hne2 CI ⊢
          clear hn
          go_quiet_o (fail)
          go_wp2
          go_quiet_o ((exact (CI _).mono fun e w' ⟨he, hw⟩ => ⟨he, _, hw⟩))
          go_wp2
          simp only [Exit.noGoto_ret, Exit.inBlock, Exit.then]
          go_ret
          exact ⟨rfl, ⟨rfl, rfl, rfl, Nat.le_refl _, fun _ _ => rfl⟩⟩
      · go_wp2
        apply wp_scope_straight
        go_wp2
        go_loopg [9, 10] 0 (fun _ s9 s10 wx => s9 = .int .i64 n ∧ s10 = .int .i64 0 ∧ wx = w)
        case atStart => exact ⟨rfl, rfl, rfl⟩
        case round =>
          obtain ⟨rfl, rfl, rfl⟩ := hrel
          go_wp2
          simp only [Exit.noGoto_ret, Exit.inBlock]
          go_ret
          exact ⟨rfl, Below.refl _ _⟩

theorem noAny_skip {s chars : List UInt8} {i k : Nat} (h : Lib.NoAny s chars i) (hc : ∀ (j : Nat) b, chars[j]? = some b → b.toNat < 128) (hk : ∀ (j : Nat) b, i ≤ j → j < i + k → s[j]? = some b → 128 ≤ b.toNat) : Lib.NoAny s chars (i + k) := by
  intro j b hj hb
  by_cases hi : j < i
  · exact h j b hi hb
  · have h1 := hk j b (by omega) hj hb
    rw [← Bool.not_eq_true]
    intro hm
    obtain ⟨q, hq⟩ := List.mem_iff_getElem?.1 (List.contains_iff_mem.1 hm)
    have := hc q b hq
    omega
set_option maxHeartbeats 8000000 in
set_option maxRecDepth 1000000 in
/-- the short road, of whatever bytes -/
theorem short_any (L : Lays.n153 P ρ) (s chars : ByteArray) (w : World) (h2 : 2 ≤ chars.size) (h8 : s.size ≤ 8) (hascii : ∀ (j : Nat) b, chars.data.toList[j]? = some b → b.toNat < 128) :
    Calls P (ρ.f 153) #[.string s, .string chars] w fun e w' => e = .returned (.int .i64 (Lib.indexAny s.data.toList chars.data.toList)) ∧ Below w.heap.size w w' := by
  have HA : Aside (∀ (j : Nat) b, chars.data.toList[j]? = some b → b.toNat < 128) := hascii
  clear hascii
  have hemp : chars.toList.isEmpty = false := by
    rw [Lib.toList_data]
    cases h : chars.data.toList with
    | nil => have := Lib.size_eq chars; rw [h, List.length_nil] at this; omega
    | cons _ _ => rfl
  have hn1 : ((chars.size : Int) == 1) = false := beq_eq_false_iff_ne.2 (by omega)
  have h8z : decide ((8 : Int) < (s.size : Int)) = false := decide_eq_false (by omega)
  have t3 := L.t3; have a3 := L.a3; have z3 := L.z3; have v3 := L.v3
  have t4 := L.t4; have a4 := L.a4; have z4 := L.z4; have v4 := L.v4
  have t5 := L.t5; have a5 := L.a5; have z5 := L.z5; have v5 := L.v5
  have t9 := L.t9; have a9 := L.a9; have z9 := L.z9; have v9 := L.v9
  have t21 := L.t21; have a21 := L.a21; have z21 := L.z21; have v21 := L.v21
  have e152 : ∀ args w, (callFunc (ρ.f 152) args).run P w = .ok (.enter (ρ.f 152) args) w := enters_of L.f152 (by kernel_rfl) rfl
  have e226 : ∀ args w, (callFunc (ρ.f 226) args).run P w = .ok (.enter (ρ.f 226) args) w := enters_of L.f226 (by kernel_rfl) rfl
  have CH : Aside (∀ (r : Int) (w : World), 128 ≤ r → Calls P (ρ.f 152) #[.string chars, .int .i32 r] w fun e w' => e = .returned (.int .i64 (-1)) ∧ Below w.heap.size w w') :=
    fun r w hr => rune_high { L with } chars r w hr HA.out
  go_enter L.f153, Body.n153_ntmps ρ
  go_wp2_with (go_at_fn (ρ.f 226); refine (Any.strings_shouldUseASCIISet { L with } _ _).mono ?_; rintro e w' ⟨rfl, hw⟩; rw [hw, h8z])
  obtain ⟨N, hN⟩ : ∃ N, N = w.heap.size := ⟨_, rfl⟩
  rw [← hN]
  have B0 : Aside (Below N w (w.iter s 0)) := Below.alloc (hN ▸ Below.refl _ _) (by omega) _
  have I0 : Aside ((w.iter s 0).heap[N]? = some (.stringIter s 0)) := hN ▸ World.iter_heap w s 0
  generalize w.iter s 0 = w0 at B0 I0 ⊢
  have HW : Aside (N = w.heap.size) := hN
  clear hN
  go_loopg [9, 10] s.size (fun g _ _ wx => ∃ i : Nat, i + g = s.size ∧ Aside (Below N w wx) ∧ Aside (wx.heap[N]? = some (.stringIter s i)) ∧ Lib.NoAny s.data.toList chars.data.toList i)
  case atStart => exact ⟨0, by omega, B0, I0, Lib.NoAny.zero _ _⟩
  case round =>
    obtain ⟨i, hig, HB, HI, hno⟩ := hrel
    have HN : Aside (Lib.NoAny s.data.toList chars.data.toList i) := hno
    clear hno
    by_cases hi : i < s.size
    · have hnx := fun ty => run_next_any_at (P := P) wr N s i ty HI.out hi
      obtain ⟨x, hx⟩ : ∃ x : UInt8, s[i]'hi = x := ⟨_, rfl⟩
      have hxl : s.data.toList[i]? = some x := by rw [← hx]; exact Lib.data_getElem? s i hi
      have Hx : Aside (s.data.toList[i]? = some x) := hxl
      clear hxl
      have HB2 := fun p => below_iterAt HB.out (Nat.le_refl N) s p
      have HI2 := fun p => iterAt_heap wr N s i p HI.out
      by_cases hlo : x.toNat < 128
      · rw [decode_ascii s i hi (by rw [hx]; exact hlo), hx] at hnx
        simp only at hnx
        have HBn : Aside (Below N w (wr.iterAt N s (i + 1))) := HB2 _
        have HIn : Aside ((wr.iterAt N s (i + 1)).heap[N]? = some (.stringIter s (i + 1))) := HI2 _
        clear HB2 HI2 hx
        generalize wr.iterAt N s (i + 1) = wn at hnx HBn HIn
        have hcon := Lib.contains_iff_indexByte chars.data.toList x
        have hback : ((x.toNat : Int)).toNat.toUInt8 = x := by simp
        cases hin : chars.data.toList.contains x
        · rw [hin] at hcon
          have hlt : ¬ ((0 : Int) ≤ Lib.indexByte chars.data.toList x) := of_decide_eq_false hcon.symm
          clear hcon
          go_wp2_with (go_at_fn (ρ.f 152); refine (Any.strings_IndexRune_ascii { L with } _ _ _ (by omega) (by omega)).mono ?_; rintro e w' ⟨rfl, hw⟩; rw [hw, hback])
          go_roundg (s.size - (i + 1))
          case measure => omega
          case rel => exact ⟨i + 1, by omega, HBn, HIn, HN.out.succ Hx.out hin⟩
        · rw [hin] at hcon
          have hge : (0 : Int) ≤ Lib.indexByte chars.data.toList x := of_decide_eq_true hcon.symm
          clear hcon
          go_wp2_with (go_at_fn (ρ.f 152); refine (Any.strings_IndexRune_ascii { L with } _ _ _ (by omega) (by omega)).mono ?_; rintro e w' ⟨rfl, hw⟩; rw [hw, hback])
          go_ret
          exact ⟨by rw [Lib.indexAny_hit HN.out Hx.out hin]; rfl, HW.out ▸ HBn.out⟩
      · have hd := decode_high s i hi (by rw [hx]; omega)
        obtain ⟨hd1, hd2⟩ := decode_step s i hi (by rw [hx]; omega)
        generalize Utf8.decode s i = d at hnx hd hd1 hd2
        obtain ⟨c, k⟩ := d
        simp only at hnx hd hd1 hd2
        have HNn : Aside (Lib.NoAny s.data.toList chars.data.toList (i + k)) := noAny_skip HN.out HA.out (fun j b h1 h2 hb => by
          have hj : j < s.size := by rw [Lib.size_eq]; exact (List.getElem?_eq_some_iff.1 hb).1
          have e := Lib.data_getElem? s j hj
          rw [hb] at e
          have := hd2 j hj h1 h2
          rw [← Option.some.inj e] at this; exact this)
        have HBn : Aside (Below N w (wr.iterAt N s (i + k))) := HB2 _
        have HIn : Aside ((wr.iterAt N s (i + k)).heap[N]? = some (.stringIter s (i + k))) := HI2 _
        have HD : Aside (i + k ≤ s.size) := hd1
        have HK : Aside (1 ≤ k) := hd.2
        have hc : 128 ≤ (c : Int) := by omega
        clear HB2 HI2 hx hd2 hd1 hd
        generalize wr.iterAt N s (i + k) = wn at hnx HBn HIn
        go_wp2_with (go_at_fn (ρ.f 152); refine (CH.out _ _ hc).mono ?_; rintro e w' ⟨rfl, hw⟩)
        have HB3 : Aside (Below N w w') := HBn.out.trans ⟨hw.os, hw.tape, hw.output, hw.size, fun q hq => hw.block q (Nat.lt_trans hq (Array.getElem?_eq_some_iff.1 HIn.out).1)⟩
        have HI3 : Aside (w'.heap[N]? = some (.stringIter s (i + k))) := (hw.block N (Array.getElem?_eq_some_iff.1 HIn.out).1).trans HIn.out
        clear hw
        go_wp2
        go_roundg (s.size - (i + k))
        case measure => have := HD.out; have := HK.out; omega
        case rel => exact ⟨i + k, (by have := HD.out; omega), HB3, HI3, HNn⟩
    · obtain rfl : i = s.size := by omega
      have hnx := fun ty => run_next_end_at (P := P) wr N s s.size ty HI.out hi
      go_wp2
      go_ret
      exact ⟨by rw [Lib.indexAny_none (by rw [← Lib.size_eq]; exact HN.out)]; rfl, HW.out ▸ HB.out⟩

theorem ixany_any (L : Lays.n153 P ρ) (h116 : (P.info? (ρ.t 116)).map (fun i => (i.zero, i.size)) = some (some (.agg (Array.replicate 256 (.bool false))), 256)) (s chars : ByteArray) (w : World) (h2 : 2 ≤ chars.size) (hs : s.size < 4294967281) (hcs : chars.size < 4294967281)
    (hac : ∀ (j : Nat) b, chars.data.toList[j]? = some b → b.toNat < 128) :
    Calls P (ρ.f 153) #[.string s, .string chars] w fun e w' => e = .returned (.int .i64 (Lib.indexAny s.data.toList chars.data.toList)) ∧ Below w.heap.size w w' := by
  by_cases h8 : s.size ≤ 8
  · exact short_any L s chars w h2 h8 hac
  · refine (Any.strings_IndexAny_long L (zero_of_info h116).1 (zero_of_info h116).2 s chars w h2 (by omega) hs hcs hac).mono ?_
    rintro e w' ⟨he, rfl⟩
    exact ⟨he, ((Below.refl _ _).alloc (Nat.le_refl _) _).alloc (by simp) _⟩
set_option maxHeartbeats 1000000 in
theorem cany_any (L : Lays.n150 P ρ) (h116 : (P.info? (ρ.t 116)).map (fun i => (i.zero, i.size)) = some (some (.agg (Array.replicate 256 (.bool false))), 256)) (s chars : ByteArray) (w : World) (h2 : 2 ≤ chars.size) (hs : s.size < 4294967281) (hcs : chars.size < 4294967281)
    (hac : ∀ (j : Nat) b, chars.data.toList[j]? = some b → b.toNat < 128) :
    Calls P (ρ.f 150) #[.string s, .string chars] w fun e w' => e = .returned (.bool (decide (0 ≤ Lib.indexAny s.data.toList chars.data.toList))) ∧ Below w.heap.size w w' := by
  have c := ixany_any { L with } h116 s chars w h2 hs hcs hac
  have t3 := L.t3; have a3 := L.a3; have z3 := L.z3; have v3 := L.v3
  have t4 := L.t4; have a4 := L.a4; have z4 := L.z4; have v4 := L.v4
  have t9 := L.t9; have a9 := L.a9; have z9 := L.z9; have v9 := L.v9
  have e153 : ∀ args w, (callFunc (ρ.f 153) args).run P w = .ok (.enter (ρ.f 153) args) w := enters_of L.f153 (by kernel_rfl) rfl
  go_enter L.f150, Body.n150_ntmps ρ
  go_wp2_with (go_at_fn (ρ.f 153); refine c.mono ?_; rintro e w' ⟨rfl, hw⟩)
  go_ret
  exact ⟨rfl, hw⟩
end Go.Proofs.YtcmfmfkpmgoieaaGreatDoor

namespace Go.Proofs.YtcmfmfkpmgoieaaGreatDoor
open Go.RowKit

theorem bIndexW (s : ByteArray) (w : World) (hs : s.size ≤ 100000) : Calls Tryz.prog 116 #[.string s, .string ⟨#[37, 38]⟩] w fun e w' => e = .returned (.int .i64 (wldN s.data.toList)) ∧ w.grownBy w' none := by
  have h := ixany_any Tryz.lays153 (by kernel_rfl) s ⟨#[37, 38]⟩ w (by decide) (by omega) (by decide) (by
    intro j b hb
    match j, hb with
    | 0, hb => cases hb; decide
    | 1, hb => cases hb; decide
    | j + 2, hb => cases hb)
  rw [show (⟨#[37, 38]⟩ : ByteArray).data.toList = [37, 38] from rfl, ixany_wld] at h
  exact h.mono fun e w' ⟨he, hb⟩ => ⟨he, grown_of_below hb⟩
theorem bHasN (s : ByteArray) (w : World) (hs : s.size ≤ 100000) : Calls Tryz.prog 119 #[.string s, .string ⟨#[46, 47]⟩] w fun e w' => e = .returned (.bool (!nrwS s.data.toList)) ∧ w.grownBy w' none := by
  have h := cany_any Tryz.lays150 (by kernel_rfl) s ⟨#[46, 47]⟩ w (by decide) (by omega) (by decide) (by
    intro j b hb
    match j, hb with
    | 0, hb => cases hb; decide
    | 1, hb => cases hb; decide
    | j + 2, hb => cases hb)
  rw [show (⟨#[46, 47]⟩ : ByteArray).data.toList = [46, 47] from rfl, cany_nrw] at h
  exact h.mono fun e w' ⟨he, hb⟩ => ⟨he, grown_of_below hb⟩
theorem bCutP (s p : ByteArray) (w : World) : Calls Tryz.prog 89 #[.string s, .string p] w fun e w' => e = .returned (.tuple #[.string ⟨(Lib.trimPrefix s.data.toList p.data.toList).toArray⟩, .bool (Lib.hasPrefix s.data.toList p.data.toList)]) ∧ w = w' :=
  (Tryz.strings_CutPrefix s p w).mono fun _ _ ⟨a, b⟩ => ⟨a, b.symm⟩
theorem bCutS (s p : ByteArray) (w : World) (hs : s.size ≤ 100000) : Calls Tryz.prog 118 #[.string s, .string p] w fun e w' => e = .returned (.tuple #[.string ⟨(Lib.trimSuffix s.data.toList p.data.toList).toArray⟩, .bool (Lib.hasSuffix s.data.toList p.data.toList)]) ∧ w = w' :=
  (Tryz.strings_CutSuffix s p w (by omega)).mono fun _ _ ⟨a, b⟩ => ⟨a, b.symm⟩
end Go.Proofs.YtcmfmfkpmgoieaaGreatDoor
