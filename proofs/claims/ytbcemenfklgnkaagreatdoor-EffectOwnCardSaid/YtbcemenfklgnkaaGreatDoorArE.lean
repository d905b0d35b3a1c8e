/- Walks of package ar: a member's bytes, as they are written. Walks of package ar: the first of Make's errors. Walks of package ar: Make. Walks of package ar: the member with which a text begins. -/
import Derived.Test.YtbcemenfklgnkaaGreatDoorArA
import Derived.Test.YtbcemenfklgnkaaGreatDoorPlain
import Derived.StringKeys
import Derived.Lib.Builder
import Derived.Lib.SmallJoins
import Derived.StillTailTactics
import Derived.Deep.RegionHeld3
import Derived.Deep.RegionWith
namespace Go.Proofs.YtbcemenfklgnkaaGreatDoor
open Go.RowKit

theorem aColumn' {s x : ByteArray} {n : Nat} (w : World) (hs : s.size ≤ n) (hn : n ≤ 100) (hx : x.data.toList = padL s.data.toList n) :
    Calls Tryz.prog 129 #[.string s, .int .i64 n] w fun e w' => e = .returned (.string x) ∧ w.grownBy w' none :=
  (aColumn s n w hs hn).mono fun e w' ⟨y, he, hy, _, hg⟩ => by
    obtain rfl : y = x := ba_ext (hy.trans hx.symm)
    exact ⟨he, hg⟩
theorem aItoa {n : Int} {x : ByteArray} (w : World) (h0 : 0 ≤ n) (h1 : n ≤ 9223372036854775807) (hx : x.data.toList = Lib.itoa n) (ht : Lib.TabIs Tryz.prog w "internal/strconv.uint64pow10" .u64 Lib.pow10Tab) :
    Calls Tryz.prog 130 #[.int .i64 n] w fun e w' => e = .returned (.string x) ∧ w.grownBy w' none :=
  (Tryz.strconv_Itoa n (by omega) h1 w ht).mono fun e w' ⟨he, k, os, hw⟩ => by
    obtain rfl : (⟨(Lib.itoa n).toArray⟩ : ByteArray) = x := ba_ext (by rw [hx])
    subst hw
    exact ⟨he, grown_of_below (Lib.below_grow _ _ (Nat.le_refl _) _ _)⟩
theorem some_ba (l : List UInt8) : ∃ x : ByteArray, x.data.toList = l ∧ x.size = l.length := ⟨⟨l.toArray⟩, by simp, Lib.size_mk l⟩
theorem one_ba {m : Mb} {c1 c2 c3 f b : ByteArray} (h1 : c1.data.toList = padL m.n.data.toList 16) (h2 : c2.data.toList = padL (Lib.itoa m.t) 12) (h3 : c3.data.toList = padL (Lib.itoa m.c.size) 10) (hf : f.data.toList = fixL) (hb : b.data.toList = [96, 10]) :
    (c1 ++ c2 ++ f ++ c3 ++ b ++ m.c).data.toList ++ oddL m.c = oneL m := by
  unfold oneL
  simp only [ba_app, h1, h2, h3, hf, hb, List.append_assoc]

set_option maxRecDepth 100000 in
set_option maxHeartbeats 1000000 in
theorem aWritten (m : Mb) (A : Nat → Addr) (w : World) (hE : Env A w) (hf : Fits m) (ht : 0 ≤ m.t) (htm : m.t ≤ 9223372036854775807) (hc : m.c.size ≤ 100000) :
    Calls Tryz.prog 111 #[valM m] w fun e w' => ∃ x : ByteArray, e = .returned (.string x) ∧ x.data.toList = oneL m ∧ w.grownBy w' none := by
  obtain ⟨f1, f2, f3⟩ := hf
  obtain ⟨it, hit, zit⟩ := some_ba (Lib.itoa m.t)
  obtain ⟨iz, hiz, ziz⟩ := some_ba (Lib.itoa m.c.size)
  obtain ⟨c1, hc1, zc1⟩ := some_ba (padL m.n.data.toList 16)
  obtain ⟨c2, hc2, zc2⟩ := some_ba (padL (Lib.itoa m.t) 12)
  obtain ⟨c3, hc3, zc3⟩ := some_ba (padL (Lib.itoa m.c.size) 10)
  have y1 : c1.size ≤ 16 := by rw [zc1, pad_len (by rw [bytes_len]; exact f1)]; exact Nat.le_refl _
  have y2 : c2.size ≤ 12 := by rw [zc2, pad_len f2]; exact Nat.le_refl _
  have y3 : c3.size ≤ 10 := by rw [zc3, pad_len f3]; exact Nat.le_refl _
  have y4 : it.size ≤ 12 := by rw [zit]; exact f2
  have y5 : iz.size ≤ 10 := by rw [ziz]; exact f3
  have E := Lib.hid hE
  have K1 : ∀ u : Gr (w.alloc (.cells #[.string m.n, .int .i64 m.t, .string m.c] 113)), Calls Tryz.prog 129 #[.string m.n, .int .i64 16] u.W fun e w' => e = .returned (.string c1) ∧ u.W.grownBy w' none := fun u => aColumn' (n := 16) _ f1 (by omega) hc1
  have K2 : ∀ u : Gr (w.alloc (.cells #[.string m.n, .int .i64 m.t, .string m.c] 113)), Calls Tryz.prog 129 #[.string it, .int .i64 12] u.W fun e w' => e = .returned (.string c2) ∧ u.W.grownBy w' none := fun u => aColumn' (n := 12) _ y4 (by omega) (by rw [hit]; exact hc2)
  have K3 : ∀ u : Gr (w.alloc (.cells #[.string m.n, .int .i64 m.t, .string m.c] 113)), Calls Tryz.prog 129 #[.string iz, .int .i64 10] u.W fun e w' => e = .returned (.string c3) ∧ u.W.grownBy w' none := fun u => aColumn' (n := 10) _ y5 (by omega) (by rw [hiz]; exact hc3)
  have K4 : ∀ u : Gr (w.alloc (.cells #[.string m.n, .int .i64 m.t, .string m.c] 113)), Calls Tryz.prog 130 #[.int .i64 m.t] u.W fun e w' => e = .returned (.string it) ∧ u.W.grownBy w' none := fun u => aItoa _ ht htm hit ((E.out.grown (World.grownBy_alloc _ _ _)).grown u.g).tab
  have K5 : ∀ u : Gr (w.alloc (.cells #[.string m.n, .int .i64 m.t, .string m.c] 113)), Calls Tryz.prog 130 #[.int .i64 m.c.size] u.W fun e w' => e = .returned (.string iz) ∧ u.W.grownBy w' none := fun u => aItoa _ (by omega) (by omega) hiz ((E.out.grown (World.grownBy_alloc _ _ _)).grown u.g).tab
  have ONE := Lib.hid (one_ba (m := m) (f := ⟨#[48, 32, 32, 32, 32, 32, 48, 32, 32, 32, 32, 32, 54, 52, 52, 32, 32, 32, 32, 32]⟩) (b := ⟨#[96, 10]⟩) hc1 hc2 hc3 rfl rfl)
  have k0 : ∀ u : Gr (w.alloc (.cells #[.string m.n, .int .i64 m.t, .string m.c] 113)), u.W.cell? ⟨w.heap.size, 0, none⟩ = some (.string m.n) := fun u => u.g.cell (by simp) (by simp)
  have k1 : ∀ u : Gr (w.alloc (.cells #[.string m.n, .int .i64 m.t, .string m.c] 113)), u.W.cell? ⟨w.heap.size, 1, none⟩ = some (.int .i64 m.t) := fun u => u.g.cell (by simp) (by simp)
  have k2 : ∀ u : Gr (w.alloc (.cells #[.string m.n, .int .i64 m.t, .string m.c] 113)), u.W.cell? ⟨w.heap.size, 2, none⟩ = some (.string m.c) := fun u => u.g.cell (by simp) (by simp)
  have C1 := Lib.hid K1; have C2 := Lib.hid K2; have C3 := Lib.hid K3; have C4 := Lib.hid K4; have C5 := Lib.hid K5
  have FL := Lib.hid (one_len (m := m) ⟨f1, f2, f3⟩)
  have G0 := Lib.hid (World.grownBy_alloc w (.cells #[.string m.n, .int .i64 m.t, .string m.c] 113) none)
  have X0 := Lib.hid k2
  clear K1 K2 K3 K4 K5 hit zit hiz ziz hc1 zc1 hc2 zc2 hc3 zc3 hE
  have inst : Nonempty (Gr (w.alloc (.cells #[.string m.n, .int .i64 m.t, .string m.c] 113))) := ⟨⟨_, World.grownBy.refl _ _⟩⟩
  unfold valM
  go_enter Tryz.func111, Tryz.ntmps111
  go_wp2
  generalize (w.alloc (.cells #[.string m.n, .int .i64 m.t, .string m.c] 113)) = w1 at *
  generalize w.heap.size = p at *
  refine wp_region_grows (by kernel_rfl) (by kernel_rfl) ?_
  repeat (go_big_quiet_step (first
    | (go_at_call 129; (with_reducible refine (C1.out _).mono ?_); rintro e w9 ⟨he, g9⟩; exact ⟨he, ⟨_, (Gr.g _).trans g9⟩, rfl⟩)
    | (go_at_call 129; (with_reducible refine (C2.out _).mono ?_); rintro e w9 ⟨he, g9⟩; exact ⟨he, ⟨_, (Gr.g _).trans g9⟩, rfl⟩)
    | (go_at_call 129; (with_reducible refine (C3.out _).mono ?_); rintro e w9 ⟨he, g9⟩; exact ⟨he, ⟨_, (Gr.g _).trans g9⟩, rfl⟩)
    | (go_at_call 130; (with_reducible refine (C4.out _).mono ?_); rintro e w9 ⟨he, g9⟩; exact ⟨he, ⟨_, (Gr.g _).trans g9⟩, rfl⟩)
    | (go_at_call 130; (with_reducible refine (C5.out _).mono ?_); rintro e w9 ⟨he, g9⟩; exact ⟨he, ⟨_, (Gr.g _).trans g9⟩, rfl⟩)))
  refine wpQuiet_nil ?_
  rintro w9 ⟨⟨_, g9⟩, rfl⟩
  have kc := X0.out ⟨w9, g9⟩
  have G9 := Lib.hid (G0.out.trans g9)
  simp only at kc
  have hl := congrArg List.length ONE.out
  rw [List.length_append, bytes_len, FL.out] at hl
  generalize (c1 ++ c2 ++ (⟨#[48, 32, 32, 32, 32, 32, 48, 32, 32, 32, 32, 32, 54, 52, 52, 32, 32, 32, 32, 32]⟩ : ByteArray) ++ c3 ++ (⟨#[96, 10]⟩ : ByteArray) ++ m.c) = y at ONE hl ⊢
  have ys : y.size ≤ 200000 := by unfold sizeM at hl; omega
  clear k0 k1 k2 hl g9 C1 C2 C3 C4 C5 X0 G0 inst
  rcases Nat.mod_two_eq_zero_or_one m.c.size with h | h
  · have ho : oddL m.c = [] := by unfold oddL; rw [if_neg (by omega)]
    have H := Lib.hid (show y.data.toList = oneL m by rw [← ONE.out, ho, List.append_nil])
    have h1 : (((m.c.size : Int) % 2) == 1) = false := by rw [beq_eq_false_iff_ne]; omega
    clear h ho ONE
    go_wp2_with (go_at_call 131; refine (aOdd _ _ (by unfold maxLen; omega)).mono ?_; rintro e w' ⟨rfl, rfl⟩)
    go_ret
    exact ⟨_, rfl, H.out, G9.out⟩
  · have ho : oddL m.c = [10] := by unfold oddL; rw [if_pos h]
    have H := Lib.hid (show (y ++ (⟨#[10]⟩ : ByteArray)).data.toList = oneL m by rw [← ONE.out, ho, ba_app])
    have h1 : (((m.c.size : Int) % 2) == 1) = true := by rw [beq_iff_eq]; omega
    clear h ho ONE
    go_wp2_with (go_at_call 131; refine (aOdd _ _ (by unfold maxLen; omega)).mono ?_; rintro e w' ⟨rfl, rfl⟩)
    go_ret
    exact ⟨_, rfl, H.out, G9.out⟩
end Go.Proofs.YtbcemenfklgnkaaGreatDoor

namespace Go.Proofs.YtbcemenfklgnkaaGreatDoor
open Go.RowKit Go.Maps

theorem Env.e1 {A : Nat → Addr} {w : World} (h : Env A w) : w.cell? ⟨5, 0, none⟩ = some (.iface 236 (.pointer (some (A 1)))) := h.err (1, 5) (by simp [LA])
theorem Env.e2 {A : Nat → Addr} {w : World} (h : Env A w) : w.cell? ⟨4, 0, none⟩ = some (.iface 236 (.pointer (some (A 2)))) := h.err (2, 4) (by simp [LA])
theorem Env.e3 {A : Nat → Addr} {w : World} (h : Env A w) : w.cell? ⟨2, 0, none⟩ = some (.iface 236 (.pointer (some (A 3)))) := h.err (3, 2) (by simp [LA])
theorem Env.e4 {A : Nat → Addr} {w : World} (h : Env A w) : w.cell? ⟨3, 0, none⟩ = some (.iface 236 (.pointer (some (A 4)))) := h.err (4, 3) (by simp [LA])
theorem Env.e9 {A : Nat → Addr} {w : World} (h : Env A w) : w.cell? ⟨0, 0, none⟩ = some (.iface 236 (.pointer (some (A 9)))) := h.err (9, 0) (by simp [LA])

theorem lawMb : Keyed Tryz.prog 9 := string_keyed Tryz.underlying9
theorem keyMb {s : ByteArray} (h : s.size ≤ maxLen) : keyOf Tryz.prog 9 (.string s) = some (.string s.data.toList) := Go.WideMaps.keyOf_string_mk Tryz.underlying9 h
theorem zeroMb (w : World) : (zeroValue 4).run Tryz.prog w = .ok (.bool false) w := by kernel_rfl

/-- the names that have been seen -/
def namesM (l : List Mb) : List ByteArray := l.map Mb.n
theorem uniq_hit {l : List Mb} {k : Nat} {m : Mb} (h : l[k]? = some m) (hs : hasB (namesM (l.take k)) m.n = true) : uniqB l = false := by
  unfold uniqB
  refine decide_eq_false fun hn => ?_
  have hm := (has_iff _ _).1 hs
  have e : l.map Mb.n = namesM (l.take k) ++ m.n :: (l.drop (k + 1)).map Mb.n := by
    unfold namesM
    rw [← List.map_cons, ← List.map_append]
    congr 1
    obtain ⟨hk, rfl⟩ := List.getElem?_eq_some_iff.1 h
    rw [← List.drop_eq_getElem_cons hk, List.take_append_drop]
  rw [e, List.nodup_append] at hn
  exact hn.2.2 _ hm _ (List.mem_cons_self ..) rfl
theorem uniq_snoc {l : List Mb} {k : Nat} {m : Mb} (h : l[k]? = some m) (hu : uniqB (l.take k) = true) (hs : hasB (namesM (l.take k)) m.n = false) : uniqB (l.take (k + 1)) = true := by
  unfold uniqB at *
  have hu := of_decide_eq_true hu
  refine decide_eq_true ?_
  rw [take_snocM h, List.map_append, List.map_singleton, List.nodup_append]
  refine ⟨hu, by simp, fun a ha b hb e => ?_⟩
  rw [List.mem_singleton] at hb
  subst hb; subst e
  exact (has_false _ _).1 hs ha
theorem uniq_end {l : List Mb} {k : Nat} (hk : l.length ≤ k) (h : uniqB (l.take k) = true) : uniqB l = true := by rwa [List.take_of_length_le hk] at h
theorem names_snoc {l : List Mb} {k : Nat} {m : Mb} (h : l[k]? = some m) : strSet (namesM (l.take (k + 1))) = (strSet (namesM (l.take k))).put (Lit.string m.n.data.toList) (.lit (.bool true)) := by
  rw [take_snocM h]; unfold namesM; rw [List.map_append, List.map_singleton, strSet_snoc]
theorem names_len {l : List Mb} {k : Nat} (hk : k ≤ l.length) : (namesM (l.take k)).length = k := by unfold namesM; simp; omega
theorem sum_takeM {l : List Mb} {k : Nat} {m : Mb} (h : l[k]? = some m) : sumM (l.take (k + 1)) = sumM (l.take k) + sizeM m := by rw [take_snocM h, sumM_snoc]
theorem size_atM {l : List Mb} {k : Nat} {m : Mb} (h : l[k]? = some m) : sizeM m ≤ sumM l := sizeM_mem (List.mem_of_getElem? h)

set_option maxRecDepth 100000 in
set_option maxHeartbeats 4000000 in
theorem aFault (v : Value) (l : List Mb) (A : Nat → Addr) (w : World) (h : MRow w v l) (hE : Env A w) (hs : sumM l ≤ 10000000) :
    Calls Tryz.prog 109 #[v] w fun e w' => e = .returned (errV A (makeE l)) ∧ w.grownBy w' none := by
  have HR := Lib.hid h; have HE := Lib.hid hE
  obtain ⟨a, c, rfl, hn, -, -⟩ := h
  clear hE
  go_enter Tryz.func109, Tryz.ntmps109
  go_wp2
  go_loopw [4, 15] (fun _ i wr => ∃ k : Nat, k ≤ l.length ∧ i = .int .i64 k ∧ Hid ((l.take k).all (fun m => nameB m.n) = true) ∧ Hid (w.grownBy wr none)) (fun _ i _ => l.length - (intOf i).toNat)
  case atStart => exact ⟨0, Nat.zero_le _, rfl, Lib.hid rfl, Lib.hid (World.grownBy.refl _ _)⟩
  case round =>
    obtain ⟨k, hk, rfl, ha, hG⟩ := hrel
    by_cases hlt : k < l.length
    · obtain ⟨b, off, c', m, e, hm, sn, sc, hb, c0, c1, c2⟩ := (HR.out.grown hG.out).at k hlt
      cases e
      have Hm := Lib.hid hm
      have HS := Lib.hid sn
      clear hm sn sc
      cases hq : nameB m.n
      · have HQ := Lib.hid (makeE_name (all_badM (p := fun m => nameB m.n) Hm.out hq))
        go_wp2_with (go_at_call 127; refine (aRight _ _ HS.out).mono ?_; rintro e w' ⟨rfl, hg⟩; have G2 := Lib.hid ((hG.out.trans (World.grownBy_alloc _ _ _)).trans hg); have he := (HE.out.grown G2.out).e4; clear hg)
        go_ret
        exact ⟨by rw [HQ.out]; rfl, G2.out⟩
      · have HQ := Lib.hid (all_snocM (p := fun m => nameB m.n) Hm.out ha.out hq)
        go_wp2_with (go_at_call 127; refine (aRight _ _ HS.out).mono ?_; rintro e w' ⟨rfl, hg⟩; have G2 := Lib.hid ((hG.out.trans (World.grownBy_alloc _ _ _)).trans hg); clear hg)
        go_roundw
        case rel => exact ⟨k + 1, by omega, by go_num, HQ, G2⟩
        case measure => simp [intOf]; omega
    · have N1 := Lib.hid (all_endM (k := k) (by omega) (fun m => nameB m.n) ha.out)
      have GS := hG
      clear ha hG
      obtain rfl : k = l.length := by omega
      go_wp2
      obtain ⟨wo, rfl⟩ : ∃ wo : World, wo = wr := ⟨_, rfl⟩
      go_loopw [6, 27] (fun _ i wr => ∃ k : Nat, k ≤ l.length ∧ i = .int .i64 k ∧ Hid ((l.take k).all (fun m => timeB m.t) = true) ∧ Hid (w.grownBy wr none)) (fun _ i _ => l.length - (intOf i).toNat)
      case atStart => exact ⟨0, Nat.zero_le _, rfl, Lib.hid rfl, GS⟩
      case round =>
        obtain ⟨k, hk, rfl, ha, hG⟩ := hrel
        by_cases hlt : k < l.length
        · obtain ⟨b, off, c', m, e, hm, sn, sc, hb, c0, c1, c2⟩ := (HR.out.grown hG.out).at k hlt
          cases e
          have Hm := Lib.hid hm
          clear hm sn sc
          by_cases h1 : m.t < 1
          · have HQ := Lib.hid (makeE_time N1.out (all_badM (p := fun m => timeB m.t) Hm.out ((time_not m.t).2 (.inl h1))))
            have he := cell_al (HE.out.grown hG.out).e1
            go_wp2
            go_ret
            exact ⟨by rw [HQ.out]; rfl, hG.out.trans (World.grownBy_alloc _ _ _)⟩
          · by_cases h2 : 549755813888 < m.t
            · have HQ := Lib.hid (makeE_time N1.out (all_badM (p := fun m => timeB m.t) Hm.out ((time_not m.t).2 (.inr h2))))
              have he := cell_al (HE.out.grown hG.out).e1
              go_wp2
              go_ret
              exact ⟨by rw [HQ.out]; rfl, hG.out.trans (World.grownBy_alloc _ _ _)⟩
            · have HQ := Lib.hid (all_snocM (p := fun m => timeB m.t) Hm.out ha.out ((time_iff m.t).2 (by omega)))
              go_wp2
              go_roundw
              case rel => exact ⟨k + 1, by omega, by go_num, HQ, Lib.hid (hG.out.trans (World.grownBy_alloc _ _ _))⟩
              case measure => simp [intOf]; omega
        · have N2 := Lib.hid (all_endM (k := k) (by omega) (fun m => timeB m.t) ha.out)
          have GS3 := hG
          clear ha hG GS
          obtain rfl : k = l.length := by omega
          have hmm := @run_makeMap Tryz.prog
          go_wp2
          obtain ⟨wq, rfl⟩ : ∃ wq : World, wq = wr := ⟨_, rfl⟩
          have OWN := Lib.hid (World.ownsMap_made wq Tryz.prog 9 (plainElem (H := Unit) Tryz.prog 4))
          have GS4 := Lib.hid (GS3.out.trans (World.grownBy_alloc wq (.map #[] 0) none))
          have BB := Lib.hid GS3.out.size
          have BL := Lib.hid (show wq.heap.size < (wq.alloc (.map #[] 0)).heap.size by simp)
          generalize wq.alloc (.map #[] 0) = wm at OWN GS4 BL ⊢
          generalize wq.heap.size = mb at OWN BB BL ⊢
          clear hmm GS3
          go_loopw [9, 44] (fun _ i wr => ∃ k : Nat, k ≤ l.length ∧ i = .int .i64 k ∧ Hid (uniqB (l.take k) = true) ∧ Hid (wr.ownsMap Tryz.prog 9 (plainElem Tryz.prog 4) mb k (strSet (namesM (l.take k)))) ∧ Hid (w.grownBy wr none)) (fun _ i _ => l.length - (intOf i).toNat)
          case atStart => exact ⟨0, Nat.zero_le _, rfl, Lib.hid rfl, OWN, GS4⟩
          case round =>
            obtain ⟨k, hk, rfl, ha, hO, hG⟩ := hrel
            by_cases hlt : k < l.length
            · obtain ⟨b, off, c', m, e, hm, sn, sc, hb, c0, c1, c2⟩ := (HR.out.grown hG.out).at k hlt
              cases e
              have Hm := Lib.hid hm
              have HK := Lib.hid (keyMb sn)
              clear hm sn sc
              unfold maxLen at *
              cases hq : hasB (namesM (l.take k)) m.n
              · have HQ := Lib.hid (uniq_snoc Hm.out ha.out hq)
                have HN := Lib.hid (names_snoc Hm.out)
                go_wp2_with (first
                  | (at_lookup; refine look_set _ rfl _ _ 136 rfl 9 4 lawMb Tryz.underlying136 Tryz.underlying4 (zeroMb _) mb k (namesM (l.take k)) rfl (hO.out.alloc _) m.n rfl HK.out ?_; rw [hq])
                  | (at_mapUpdate; refine wpList_mapUpdate_own _ rfl _ _ _ 136 rfl 9 4 lawMb Tryz.underlying136 (plainElem Tryz.prog 4) mb k _ rfl (hO.out.alloc _) (by unfold maxLen; omega) _ _ _ rfl rfl HK.out _ [] (plainElem_bool Tryz.underlying4 true) ?_; intro w1 hown1 hgrow1))
                go_roundw
                case rel => exact ⟨k + 1, by omega, by go_num, HQ, Lib.hid (by rw [HN.out]; exact hown1), Lib.hid (grown_none (hG.out.trans (World.grownBy_alloc _ _ _)) hgrow1 BB.out)⟩
                case measure => simp [intOf]; omega
              · have HQ := Lib.hid (makeE_dup N1.out N2.out (uniq_hit Hm.out hq))
                have he := cell_al (HE.out.grown hG.out).e9
                go_wp2_with (at_lookup; refine look_set _ rfl _ _ 136 rfl 9 4 lawMb Tryz.underlying136 Tryz.underlying4 (zeroMb _) mb k (namesM (l.take k)) rfl (hO.out.alloc _) m.n rfl HK.out ?_; rw [hq])
                go_ret
                exact ⟨by rw [HQ.out]; rfl, hG.out.trans (World.grownBy_alloc _ _ _)⟩
            · have N3 := Lib.hid (uniq_end (k := k) (by omega) ha.out)
              have GS5 := hG
              clear ha hG hO GS4 OWN
              obtain rfl : k = l.length := by omega
              go_wp2
              obtain ⟨wz, rfl⟩ : ∃ wz : World, wz = wr := ⟨_, rfl⟩
              go_loopw [10, 12, 59] (fun z _ i wr => ∃ k : Nat, k ≤ l.length ∧ i = .int .i64 k ∧ z = .int .i64 (8 + sumM (l.take k) : Nat) ∧ Hid (w.grownBy wr none)) (fun _ _ i _ => l.length - (intOf i).toNat)
              case atStart => exact ⟨0, Nat.zero_le _, rfl, rfl, GS5⟩
              case round =>
                obtain ⟨k, hk, rfl, rfl, hG⟩ := hrel
                have hle := sumM_take_le l k
                by_cases hlt : k < l.length
                · obtain ⟨b, off, c', m, e, hm, sn, sc, hb, c0, c1, c2⟩ := (HR.out.grown hG.out).at k hlt
                  cases e
                  have hsz := size_atM hm
                  have hst := sum_takeM hm
                  have hle2 := sumM_take_le l (k + 1)
                  have HST := Lib.hid hst
                  have hb1 : sumM (l.take k) + sizeM m ≤ 10000000 := by omega
                  clear hm sn sc hst hle2 hsz
                  have hcon := fun (W : World) => aSize m W (by unfold sizeM at hb1; omega)
                  unfold valM at hcon
                  have HC := Lib.hid hcon
                  clear hcon
                  generalize sumM (l.take k) = q at *
                  generalize sizeM m = z at *
                  go_wp2_with (go_at_call 126; refine (HC.out _).mono ?_; rintro e w' ⟨rfl, hg⟩; have G2 := Lib.hid ((hG.out.trans (World.grownBy_alloc _ _ _)).trans hg); clear hg)
                  go_roundw
                  case rel => exact ⟨k + 1, by omega, by go_num, by rw [HST.out]; congr 1; omega, G2⟩
                  case measure => simp [intOf]; omega
                · obtain rfl : k = l.length := by omega
                  have HQ := Lib.hid (makeE_end N1.out N2.out N3.out)
                  have he := (HE.out.grown hG.out).e2
                  rw [List.take_of_length_le (Nat.le_refl _)]
                  clear hle
                  by_cases hz : 900 < 8 + sumM l
                  · rw [if_pos hz] at HQ
                    generalize sumM l = q at *
                    go_wp2
                    go_ret
                    exact ⟨by rw [HQ.out]; rfl, hG.out⟩
                  · rw [if_neg hz] at HQ
                    generalize sumM l = q at *
                    go_wp2
                    go_ret
                    exact ⟨by rw [HQ.out]; rfl, hG.out⟩
end Go.Proofs.YtbcemenfklgnkaaGreatDoor

namespace Go.Proofs.YtbcemenfklgnkaaGreatDoor
open Go.RowKit

theorem makeL_zero : makeL [] = magL := by unfold makeL; simp
theorem makeL_take {l : List Mb} {k : Nat} {m : Mb} (h : l[k]? = some m) : makeL (l.take (k + 1)) = makeL (l.take k) ++ oneL m := by
  rw [take_snocM h]; unfold makeL; rw [List.flatMap_append, List.append_assoc]; simp
theorem makeL_len {l : List Mb} (h : makeE l = 0) (k : Nat) : (makeL (l.take k)).length ≤ 900 := by
  have hf : ∀ m ∈ l, Fits m := fun m hm => (good_of h hm).fits
  rw [make_len (fun m hm => hf m (List.mem_of_mem_take hm))]
  have := sumM_take_le l k
  have := ((makeE_zero l).1 h).2.2.2
  omega

/-- strings.Builder's WriteString, by the laying of strings.Repeat, which calls it: its own laying falls at this translation -/
theorem bWrite (B b : Nat) (bs : List Value) (s : ByteArray) (w : World) (h : Lib.IsBuilder 169 5 B b bs w) (hlen : bs.length + s.size ≤ 140737488355328) (hBw : B ≤ w.heap.size) :
    Calls Tryz.prog 110 #[.pointer (some ⟨b, 0, none⟩), .string s] w fun e w' => e = .returned (.tuple #[.int .i64 s.size, .nilIface]) ∧ (Lib.BuilderAt 169 5 B b (.pointer (some ⟨b, 0, none⟩)) (bs ++ Lib.strCells s) w' ∧ Below B w w') :=
  Any.Builder_WriteString { Tryz.lays105 with } Tryz.Builder_Extra_105 B b bs s w h hlen hBw
theorem bsize {b : Nat} {w w' : World} (hb : w.heap.size = b) (h : Below b w w') : b ≤ w'.heap.size := hb ▸ h.size
theorem builder_kept {T e : TypeId} {B b : Nat} {bs : List Value} {w w' : World} (h : Lib.IsBuilder T e B b bs w) (hg : w.grownBy w' none) : Lib.IsBuilder T e B b bs w' := by
  have one : ∀ p, Lib.BuilderAt T e B b p bs w → Lib.BuilderAt T e B b p bs w' := by
    rintro p ⟨hB, v, hb, ho, hn⟩
    exact ⟨hB, v, (hg.block b (Array.getElem?_eq_some_iff.1 hb).1 (by simp)).trans hb, ho.kept hg (by cases hq : v.ownBlock; exact .inl rfl; exact .inr (by simp)), hn⟩
  rcases h with h | h
  · exact .inl (one _ h)
  · exact .inr (one _ h)

set_option maxRecDepth 100000 in
set_option maxHeartbeats 1000000 in
theorem aMake_no (v : Value) (l : List Mb) (A : Nat → Addr) (w : World) (h : MRow w v l) (hE : Env A w) (hs : sumM l ≤ 10000000) (hk : makeE l ≠ 0) :
    Calls Tryz.prog 88 #[v] w fun e w' => e = .returned (.tuple #[.string ⟨#[]⟩, .iface 236 (.pointer (some (A (makeE l))))]) ∧ w.grownBy w' none := by
  have hcon := aFault v l A w h hE hs
  rw [errV_ne hk] at hcon
  generalize makeE l = k at hcon ⊢
  have HC := Lib.hid hcon
  clear hcon hE h
  go_enter Tryz.func88, Tryz.ntmps88
  go_wp2_with (go_at_call 109; refine (HC.out).mono ?_; rintro e w' ⟨rfl, hg⟩; have G := Lib.hid hg; clear hg)
  go_ret2
  exact ⟨rfl, G.out⟩

set_option maxRecDepth 100000 in
set_option maxHeartbeats 1000000 in
theorem aMake_yes (v : Value) (l : List Mb) (A : Nat → Addr) (w : World) (h : MRow w v l) (hE : Env A w) (hk : makeE l = 0) {x : ByteArray} (hx : x.data.toList = makeL l) :
    Calls Tryz.prog 88 #[v] w fun e w' => e = .returned (.tuple #[.string x, .nilIface]) ∧ w.grownBy w' none := by
  have hs : sumM l ≤ 10000000 := by have := ((makeE_zero l).1 hk).2.2.2; omega
  have hcon := aFault v l A w h hE hs
  rw [hk, errV_zero] at hcon
  have HC := Lib.hid hcon
  have HR := Lib.hid h; have HE := Lib.hid hE; have HK := Lib.hid hk; have HX := Lib.hid hx
  obtain ⟨a, c, rfl, hn, -, -⟩ := h
  clear hcon hE hk hs hx
  go_enter Tryz.func88, Tryz.ntmps88
  go_wp2_with (go_at_call 109; refine (HC.out).mono ?_; rintro e w1 ⟨rfl, hg⟩; have G := Lib.hid hg; clear hg)
  have sz := G.out.size
  have BD := Lib.hid (Lib.fresh_isBuilder 169 5 w1)
  have BL := Lib.hid ((Below.refl w1.heap.size w1).alloc (Nat.le_refl _) (.cells #[.pointer none, .slice none 0 0] 169))
  generalize hwb : w1.alloc (.cells #[.pointer none, .slice none 0 0] 169) = wb at *
  clear hwb
  refine (bWrite w1.heap.size w1.heap.size [] ⟨#[33, 60, 97, 114, 99, 104, 62, 10]⟩ wb BD.out (by decide) BL.out.size).mono ?_
  rintro e w2 ⟨rfl, hb2, hbl2⟩
  have BD2 := Lib.hid (show Lib.IsBuilder 169 5 w1.heap.size w1.heap.size (Lib.byteCells (makeL (l.take 0))) w2 from by
    rw [List.take_zero, makeL_zero]; exact .inr hb2)
  have BL2 := Lib.hid (BL.out.trans hbl2)
  clear hb2 hbl2 BD BL
  generalize hbb : w1.heap.size = b at *
  have HB := Lib.hid hbb
  clear hbb
  go_wp2
  go_loopw [7, 16] (fun _ i wr => ∃ k : Nat, k ≤ l.length ∧ i = .int .i64 k ∧ Hid (Lib.IsBuilder 169 5 b b (Lib.byteCells (makeL (l.take k))) wr) ∧ Hid (Below b w1 wr)) (fun _ i _ => l.length - (intOf i).toNat)
  case atStart => exact ⟨0, Nat.zero_le _, rfl, BD2, BL2⟩
  case round =>
    obtain ⟨k, hk, rfl, hBD, hBL⟩ := hrel
    have GW := Lib.hid (G.out.trans (grown_of_below (by rw [HB.out]; exact hBL.out)))
    by_cases hlt : k < l.length
    · obtain ⟨mb, off, c', m, e, hm, sn, sc, hb, c0, c1, c2⟩ := (HR.out.grown GW.out).at k hlt
      cases e
      have Hm := Lib.hid (makeL_take hm)
      have HG := Lib.hid (good_of HK.out (List.mem_of_getElem? hm))
      have HL := Lib.hid (makeL_len HK.out (k + 1))
      clear hm sn sc
      have G3 := Lib.hid (GW.out.trans (World.grownBy_alloc wr (.cells #[.string m.n, .int .i64 m.t, .string m.c] 113) none))
      have BD3 := Lib.hid (builder_kept hBD.out (World.grownBy_alloc wr (.cells #[.string m.n, .int .i64 m.t, .string m.c] 113) none))
      have BL3 := Lib.hid (hBL.out.alloc (bsize HB.out hBL.out) (.cells #[.string m.n, .int .i64 m.t, .string m.c] 113))
      have ht := (time_iff _).1 HG.out.2.1
      have hcon := fun (W : World) (hW : w.grownBy W none) => aWritten m A W (HE.out.grown hW) HG.out.fits (by omega) (by omega) (by have := HG.out.2.2; omega)
      unfold valM at hcon
      have HCW := Lib.hid hcon
      clear hcon ht
      go_wp2_with fail
      generalize (wr.alloc (.cells #[.string m.n, .int .i64 m.t, .string m.c] 113)) = wx at *
      refine (HCW.out wx G3.out).mono ?_
      rintro e w4 ⟨y, rfl, hy, hg4⟩
      have BD4 := Lib.hid (builder_kept BD3.out hg4)
      have BL4 := Lib.hid (BL3.out.trans ((below_of_grown hg4).mono (bsize HB.out BL3.out)))
      have HY := Lib.hid hy
      clear hy hg4 BD3 BL3 G3 hBD hBL
      go_wp2_with fail
      refine (bWrite b b _ y w4 BD4.out (by rw [Lib.byteCells_length, ← bytes_len y, HY.out]; have := HL.out; rw [Hm.out, List.length_append] at this; omega) (bsize HB.out BL4.out)).mono ?_
      rintro e w5 ⟨rfl, hb5, hbl5⟩
      have BD5 := Lib.hid (show Lib.IsBuilder 169 5 b b (Lib.byteCells (makeL (l.take (k + 1)))) w5 from by
        rw [Hm.out, Lib.byteCells_append, ← HY.out]; exact .inr hb5)
      have BL5 := Lib.hid (BL4.out.trans hbl5)
      clear hb5 hbl5 BD4 BL4
      go_wp2
      go_roundw
      case rel => exact ⟨k + 1, by omega, by go_num, BD5, BL5⟩
      case measure => simp [intOf]; omega
    · obtain rfl : k = l.length := by omega
      have HX2 := Lib.hid (show x = ⟨(makeL l).toArray⟩ from ba_ext (by rw [HX.out]))
      have BDE := hBD
      rw [List.take_of_length_le (Nat.le_refl _)] at BDE
      clear hBD
      go_wp2_with fail
      refine (Tryz.Builder_String_any b b _ wr BDE.out (bsize HB.out hBL.out)).mono ?_
      rintro e w5 ⟨rfl, hbl5⟩
      have BL5 := Lib.hid (hBL.out.trans hbl5)
      clear hbl5
      go_wp2
      go_ret2
      exact ⟨by rw [HX2.out]; rfl, G.out.trans (grown_of_below (by rw [HB.out]; exact BL5.out))⟩
end Go.Proofs.YtbcemenfklgnkaaGreatDoor

namespace Go.Proofs.YtbcemenfklgnkaaGreatDoor
open Go.RowKit

/-- what is read as a time, as a length -/
def fT (s : List UInt8) : Option Int := Lib.atoi (Lib.trimRightB ((s.drop 16).take 12) 32)
def fZ (s : List UInt8) : Option Int := Lib.atoi (Lib.trimRightB ((s.drop 48).take 10) 32)
theorem first_good {m : Mb} (h : Good m) {s r : List UInt8} (hs : s = oneL m ++ r) :
    60 ≤ s.length ∧ fT s = some m.t ∧ fZ s = some (m.c.size : Int) ∧ m.c.size + 60 ≤ s.length ∧ Lib.trimRightB (s.take 16) 32 = m.n.data.toList ∧ (s.drop 60).take m.c.size = m.c.data.toList ∧ sizeM m ≤ s.length := by
  subst hs
  obtain ⟨h1, h2, -, h4, -, h6, -, -, h9⟩ := one_read h r
  have ht := (time_iff _).1 h.2.1
  have hz : 60 + m.c.size ≤ sizeM m := by unfold sizeM; omega
  refine ⟨by omega, ?_, ?_, by omega, h1, h6, h9⟩
  · unfold fT; rw [h2]; unfold padL; rw [trim_pad (itoa_last (by omega)), atoi_itoa (by omega)]
  · unfold fZ; rw [h4]; unfold padL; rw [trim_pad (itoa_last (by omega)), atoi_itoa (by omega)]
theorem first_no {s : List UInt8} (x : Mb) (h : s.length < 60 ∨ fT s = none ∨ fZ s = none ∨ (∃ z, fZ s = some z ∧ (z < 0 ∨ (s.length : Int) - 60 < z))) : FirstOf s x false := by
  refine ⟨fun e => (by cases e), fun m r hg hs => ?_⟩
  obtain ⟨h1, h2, h3, h4, -, -, -⟩ := first_good hg hs
  exfalso
  rcases h with h | h | h | ⟨z, h, hz⟩
  · omega
  · rw [h] at h2; cases h2
  · rw [h] at h3; cases h3
  · rw [h] at h3
    have := Option.some.inj h3
    omega
theorem first_yes {s : List UInt8} {x : Mb} (hn : x.n.data.toList = Lib.trimRightB (s.take 16) 32) (ht : fT s = some x.t) (hz : fZ s = some (x.c.size : Int)) (hc : x.c.data.toList = (s.drop 60).take x.c.size) : FirstOf s x (decide ((sizeM x : Int) ≤ (s.length : Int))) := by
  refine ⟨fun e => by have := of_decide_eq_true e; omega, fun m r hg hs => ?_⟩
  obtain ⟨h1, h2, h3, h4, h5, h6, h7⟩ := first_good hg hs
  have e1 : x.n = m.n := ba_ext (hn.trans h5)
  have e2 : x.t = m.t := by rw [ht] at h2; exact Option.some.inj h2
  have e3 : x.c.size = m.c.size := by rw [hz] at h3; exact_mod_cast Option.some.inj h3
  have e4 : x.c = m.c := by rw [e3] at hc; exact ba_ext (hc.trans h6)
  obtain rfl := mb_ext e1 e2 e4
  exact ⟨decide_eq_true (by omega), rfl⟩

theorem aUn {s x : ByteArray} (w : World) (hs : s.size ≤ maxLen) (hx : x.data.toList = Lib.trimRightB s.data.toList 32) :
    Calls Tryz.prog 136 #[.string s] w fun e w' => e = .returned (.string x) ∧ w = w' := by
  have hc := Tryz.strings_TrimRight_one s 32 (by decide) w (by unfold maxLen at hs; omega)
  obtain rfl : (⟨(Lib.trimRightB s.data.toList 32).toArray⟩ : ByteArray) = x := ba_ext (by rw [hx])
  generalize (⟨(Lib.trimRightB s.data.toList 32).toArray⟩ : ByteArray) = x at hc
  have HC := Lib.hid hc
  clear hc hx
  go_enter Tryz.func136, Tryz.ntmps136
  go_wp2_with (go_at_call 144; refine (HC.out).mono ?_; rintro e w' ⟨rfl, rfl⟩)
  go_ret
  exact ⟨rfl, rfl⟩

/-- an error or none -/
def IsErr (v : Value) : Prop := ∃ t a, v = .iface t (.pointer (some a))
theorem aAtoi {s : ByteArray} {A : Nat → Addr} (w : World) (hE : Env A w) (hs : s.size ≤ 18) :
    Calls Tryz.prog 135 #[.string s] w fun e w' => ∃ n v, e = .returned (.tuple #[.int .i64 n, v]) ∧ ((Lib.atoi s.data.toList = some n ∧ v = .nilIface) ∨ (Lib.atoi s.data.toList = none ∧ IsErr v)) ∧ w.grownBy w' none := by
  cases h : Lib.atoi s.data.toList with
  | none =>
    obtain ⟨te, pe, hsyn⟩ := hE.syn
    refine (Tryz.strconv_Atoi_err s hs h _ w hsyn (.inr ⟨te, pe, rfl⟩)).mono ?_
    rintro e w' ⟨N, rfl, -, -, hb⟩
    exact ⟨_, _, rfl, .inr ⟨rfl, _, _, rfl⟩, grown_of_below hb⟩
  | some n =>
    refine (Tryz.strconv_Atoi s n hs h w).mono ?_
    rintro e w' ⟨rfl, t, rfl⟩
    exact ⟨_, _, rfl, .inl ⟨rfl, rfl⟩, grown_of_below (Go.Joins.below_bytesWorld _ _ _ _ (Nat.le_refl _))⟩
end Go.Proofs.YtbcemenfklgnkaaGreatDoor
