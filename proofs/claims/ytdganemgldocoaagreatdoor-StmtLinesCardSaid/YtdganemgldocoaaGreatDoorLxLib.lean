/- Walks of package lex: the piece that begins at a place, a word, all words. Walks of package lex: a word, and all words of a text. Package lex stands on: which bytes may be in a pattern; what the library's functions answer. -/
import Derived.Test.YtdganemgldocoaaGreatDoorLxPc
import Derived.Test.YtdganemgldocoaaGreatDoorLxOf
import Derived.Test.YtdganemgldocoaaGreatDoorLaidLx
import Derived.Test.YtdganemgldocoaaGreatDoorLaidQt
import Derived.Test.YtdganemgldocoaaGreatDoorShelf
import Derived.Lib.IndexAny
namespace Go.Proofs.YtdganemgldocoaaGreatDoor
open Go.RowKit

theorem plc_ne {b : UInt8} (h : blkQ b = false) (h1 : b ≠ 39) (h2 : b ≠ 36) (h3 : b ≠ 96) : plcQ b = true := plc_of h h1 h2 h3
set_option maxRecDepth 100000 in
set_option maxHeartbeats 8000000 in
theorem xPieceAt {M : World → Prop} (L : LbX M) (A : Nat → Addr) (s : ByteArray) (k : Nat) (w : World) (hM : M w) (hE : ThrE A w) (hs : s.size ≤ 5000) (hk : k < s.size) (hb : blkQ s[k] = false) :
    Calls Tryz.prog 92 #[.string s, .int .i64 k] w (PPc (onA s.data.toList k) s.data.toList A w) := by
  have hlen : s.data.toList.length = s.size := by simp
  have HLN := Lib.hid hlen
  have HK := Lib.hid (list_at hk)
  have B0 := Lib.hid (heap_alloc_new w (.cells #[.int .i64 0, .string ⟨#[]⟩, .string ⟨#[]⟩, .string ⟨#[]⟩] 105))
  have G0 := Lib.hid (World.grownBy_alloc w (.cells #[.int .i64 0, .string ⟨#[]⟩, .string ⟨#[]⟩, .string ⟨#[]⟩] 105) none)
  have HM := Lib.hid (L.gr _ _ hM G0.out)
  have HE := Lib.hid (hE.grown G0.out)
  have HB := Lib.hid hb
  have CPL := Lib.hid (fun b w => xPlainByte b w)
  have CQ : s[k] = 39 → Hid (∀ w, M w → ThrE A w → Calls Tryz.prog 109 #[.string s, .int .i64 k] w (PPc (onA s.data.toList k) s.data.toList A w)) := fun h => Lib.hid (fun w hm he => xQuotedAt L A s k w hm hs (by rw [HK.out, h]) he.quote)
  have CV : s[k] = 36 → Hid (∀ w, M w → ThrE A w → Calls Tryz.prog 110 #[.string s, .int .i64 k] w (PPc (onA s.data.toList k) s.data.toList A w)) := fun h => Lib.hid (fun w hm he => xVarAt L A s k w hs (by rw [HK.out, h]) he.name he.form)
  have CK : s[k] = 96 → Hid (∀ w, M w → ThrE A w → Calls Tryz.prog 111 #[.string s, .int .i64 k] w (PPc (onA s.data.toList k) s.data.toList A w)) := fun h => Lib.hid (fun w hm he => xBackAt L A s k w hm hs (by rw [HK.out, h]) he.form)
  clear hM hE hb hlen
  go_enter Tryz.func92, Tryz.ntmps92
  go_upto_region 1 with fail
  generalize w.alloc _ = w1 at B0 G0 HM HE ⊢
  obtain ⟨g, eg⟩ : ∃ g, w.heap.size = g := ⟨_, rfl⟩
  rw [eg] at B0 ⊢
  have hgs : w.heap.size ≤ g := by omega
  obtain ⟨c0, c1, c2, c3⟩ := four_px B0.out
  have fr := free_pc B0.out
  clear eg
  by_cases h39 : s[k] = 39
  · have C := CQ h39
    have e1 : (((s[k]).toNat : Int) == 39) = true := by rw [h39]; rfl
    clear CQ CV CK h39
    go_wp2_with fail
    refine (C.out _ HM.out HE.out).mono ?_
    rintro e w8 ⟨g8, hout⟩
    have B8 := Lib.hid (heap_grown g8 B0.out)
    have G8 := Lib.hid (G0.out.trans g8)
    clear c0 c1 c2 c3 fr C g8
    obtain ⟨c0, c1, c2, c3⟩ := four_px B8.out
    have fr := free_pc B8.out
    rcases hout with ⟨y, q, rfl, hq, hR⟩ | ⟨bad, rfl, hb, hR⟩
    · have HN := Lib.hid hR
      clear hR
      go_wp2
      refine bodyPost_ret (back_pc (a0 := .int .i64 y.k) (a1 := .string y.t) (a2 := .string y.f) (a3 := .string y.o) Tryz.results92 rfl rfl rfl (set_pc B8.out _ _ _ _)) rfl ?_
      exact ⟨grown_pc G8.out _ _ _ _ hgs, .inl ⟨y, q, rfl, hq, HN.out⟩⟩
    · have HN := Lib.hid hR
      clear hR
      go_wp2
      refine bodyPost_ret (back_pc (a0 := .int .i64 0) (a1 := .string ⟨#[]⟩) (a2 := .string ⟨#[]⟩) (a3 := .string ⟨#[]⟩) Tryz.results92 rfl rfl rfl (set_pc B8.out _ _ _ _)) rfl ?_
      exact ⟨grown_pc G8.out _ _ _ _ hgs, .inr ⟨bad, rfl, hb, HN.out⟩⟩
  have e1 : (((s[k]).toNat : Int) == 39) = false := byte_ne (n := 39) (by omega) h39
  by_cases h36 : s[k] = 36
  · have C := CV h36
    have e2 : (((s[k]).toNat : Int) == 36) = true := by rw [h36]; rfl
    clear CQ CV CK h39 h36
    go_wp2_with fail
    refine (C.out _ HM.out HE.out).mono ?_
    rintro e w8 ⟨g8, hout⟩
    have B8 := Lib.hid (heap_grown g8 B0.out)
    have G8 := Lib.hid (G0.out.trans g8)
    clear c0 c1 c2 c3 fr C g8
    obtain ⟨c0, c1, c2, c3⟩ := four_px B8.out
    have fr := free_pc B8.out
    rcases hout with ⟨y, q, rfl, hq, hR⟩ | ⟨bad, rfl, hb, hR⟩
    · have HN := Lib.hid hR
      clear hR
      go_wp2
      refine bodyPost_ret (back_pc (a0 := .int .i64 y.k) (a1 := .string y.t) (a2 := .string y.f) (a3 := .string y.o) Tryz.results92 rfl rfl rfl (set_pc B8.out _ _ _ _)) rfl ?_
      exact ⟨grown_pc G8.out _ _ _ _ hgs, .inl ⟨y, q, rfl, hq, HN.out⟩⟩
    · have HN := Lib.hid hR
      clear hR
      go_wp2
      refine bodyPost_ret (back_pc (a0 := .int .i64 0) (a1 := .string ⟨#[]⟩) (a2 := .string ⟨#[]⟩) (a3 := .string ⟨#[]⟩) Tryz.results92 rfl rfl rfl (set_pc B8.out _ _ _ _)) rfl ?_
      exact ⟨grown_pc G8.out _ _ _ _ hgs, .inr ⟨bad, rfl, hb, HN.out⟩⟩
  have e2 : (((s[k]).toNat : Int) == 36) = false := byte_ne (n := 36) (by omega) h36
  by_cases h96 : s[k] = 96
  · have C := CK h96
    have e3 : (((s[k]).toNat : Int) == 96) = true := by rw [h96]; rfl
    clear CQ CV CK h39 h36 h96
    go_wp2_with fail
    refine (C.out _ HM.out HE.out).mono ?_
    rintro e w8 ⟨g8, hout⟩
    have B8 := Lib.hid (heap_grown g8 B0.out)
    have G8 := Lib.hid (G0.out.trans g8)
    clear c0 c1 c2 c3 fr C g8
    obtain ⟨c0, c1, c2, c3⟩ := four_px B8.out
    have fr := free_pc B8.out
    rcases hout with ⟨y, q, rfl, hq, hR⟩ | ⟨bad, rfl, hb, hR⟩
    · have HN := Lib.hid hR
      clear hR
      go_wp2
      refine bodyPost_ret (back_pc (a0 := .int .i64 y.k) (a1 := .string y.t) (a2 := .string y.f) (a3 := .string y.o) Tryz.results92 rfl rfl rfl (set_pc B8.out _ _ _ _)) rfl ?_
      exact ⟨grown_pc G8.out _ _ _ _ hgs, .inl ⟨y, q, rfl, hq, HN.out⟩⟩
    · have HN := Lib.hid hR
      clear hR
      go_wp2
      refine bodyPost_ret (back_pc (a0 := .int .i64 0) (a1 := .string ⟨#[]⟩) (a2 := .string ⟨#[]⟩) (a3 := .string ⟨#[]⟩) Tryz.results92 rfl rfl rfl (set_pc B8.out _ _ _ _)) rfl ?_
      exact ⟨grown_pc G8.out _ _ _ _ hgs, .inr ⟨bad, rfl, hb, HN.out⟩⟩
  have e3 : (((s[k]).toNat : Int) == 96) = false := byte_ne (n := 96) (by omega) h96
  have HP := Lib.hid (on_pl HK.out (plc_of HB.out h39 h36 h96))
  clear CQ CV CK h39 h36 h96
  obtain ⟨z, hz⟩ : ∃ z, spnQ plcQ s.data.toList k = z := ⟨_, rfl⟩
  have hzl := spn_le (p := plcQ) (l := s.data.toList) (k := k) (by rw [HLN.out]; omega)
  rw [hz, HLN.out] at hzl
  rw [hz] at HP
  have HZ := Lib.hid hz
  clear hz
  obtain ⟨hz1, hz2⟩ := hzl
  go_wp2
  clear e1 e2 e3
  go_loop [5] (fun i => ∃ j : Nat, j ≤ s.size ∧ i = .int .i64 j ∧ Hid (spnQ plcQ s.data.toList j = z)) (fun i => s.size - (intOf i).toNat)
  case atStart => exact ⟨k, by omega, rfl, HZ⟩
  case round =>
    obtain ⟨j, hj, rfl, hE⟩ := hrel
    by_cases hlt : j < s.size
    · have HJ := Lib.hid (list_at hlt)
      have CB := Lib.hid (fun w => CPL.out s[j] w)
      cases hp : plcQ s[j]
      · rw [hp] at CB
        have hjz : j = z := by rw [← spn_off HJ.out hp]; exact hE.out
        clear hE hp
        subst hjz
        go_wp2_with (go_at_call 91; (with_reducible refine (CB.out _).mono ?_); rintro e w3 ⟨rfl, rfl⟩)
        refine bodyPost_ret (back_pc (a0 := .int .i64 0) (a1 := .string (s.extract k j)) (a2 := .string ⟨#[]⟩) (a3 := .string ⟨#[]⟩) Tryz.results92 rfl rfl rfl (set_pc B0.out _ _ _ _)) rfl ?_
        exact ⟨grown_pc G0.out _ _ _ _ hgs, .inl ⟨⟨0, s.extract k j, ⟨#[]⟩, ⟨#[]⟩⟩, j, rfl, by rw [HLN.out]; omega, by rw [HP.out, ← toList_cut]; rfl⟩⟩
      · rw [hp] at CB
        have HN := Lib.hid (show spnQ plcQ s.data.toList (j + 1) = z by rw [← spn_on HJ.out hp]; exact hE.out)
        clear hE hp
        go_wp2_with (go_at_call 91; (with_reducible refine (CB.out _).mono ?_); rintro e w3 ⟨rfl, rfl⟩)
        go_round
        case rel => exact ⟨j + 1, by omega, by go_num, HN⟩
        case measure => simp [intOf]; omega
    · have hjz : j = z := by rw [← spn_end (p := plcQ) (l := s.data.toList) (k := j) (by rw [HLN.out]; omega)]; exact hE.out
      clear hE
      subst hjz
      go_wp2
      refine bodyPost_ret (back_pc (a0 := .int .i64 0) (a1 := .string (s.extract k j)) (a2 := .string ⟨#[]⟩) (a3 := .string ⟨#[]⟩) Tryz.results92 rfl rfl rfl (set_pc B0.out _ _ _ _)) rfl ?_
      exact ⟨grown_pc G0.out _ _ _ _ hgs, .inl ⟨⟨0, s.extract k j, ⟨#[]⟩, ⟨#[]⟩⟩, j, rfl, by rw [HLN.out]; omega, by rw [HP.out, ← toList_cut]; rfl⟩⟩
end Go.Proofs.YtdganemgldocoaaGreatDoor

namespace Go.Proofs.YtdganemgldocoaaGreatDoor
open Go.RowKit

theorem infoPp : (Tryz.prog.info? 105).map (fun i => (i.zero, i.size, i.bytes)) = some (some (.agg #[.int .i64 0, .string ⟨#[]⟩, .string ⟨#[]⟩, .string ⟨#[]⟩]), 4, 56) := by kernel_rfl
theorem infoPps : (Tryz.prog.info? 102).map (fun i => (i.zero, i.size, i.bytes)) = some (some (.slice none 0 0), 1, 24) := by kernel_rfl
theorem res3 {fn : Func} {t u v : Tmp} (h : fn.results = #[.tmp t, .tmp u, .tmp v]) (tmps : Array Value) (P : Program) (w : World) : (results fn tmps).run P w = .ok (.tuple #[tmps.getD t undef, tmps.getD u undef, tmps.getD v undef]) w := by
  simp [results, h]
theorem pc_nil (w : World) (base : Nat) (T : TypeId) (s : Nat) : w.ownsRow base T s (.slice none 0 0) 0 [] := ⟨by simp, .inl ⟨rfl, rfl⟩⟩
/-- the word that begins at place k, or an error -/
def PWd13 (A : Nat → Addr) (l : List UInt8) (k : Nat) (w : World) (e : Ending) (w' : World) : Prop :=
  w.grownBy w' none ∧
  ((∃ (v : Value) (O : List Pb) (q : Nat), e = .returned (.tuple #[v, .int .i64 q, .nilIface]) ∧ k < q ∧ q ≤ l.length ∧ O.length ≤ l.length ∧ w'.ownsRow w.heap.size 105 4 v O.length (pcV O) ∧ ∀ Os, wdA l [] Os k = wdA l [] (Os ++ [pcL O]) q) ∨
   (∃ bad : Nat, e = .returned (.tuple #[.slice none 0 0, .int .i64 0, .iface 202 (.pointer (some (A bad)))]) ∧ bad ≠ 0 ∧ ∀ Os, wdA l [] Os k = .error bad))
theorem wd_close {l : List UInt8} {j : Nat} {O : List Pq} (hO : O ≠ []) (h : l.length ≤ j ∨ ∃ b, l[j]? = some b ∧ blkQ b = true) (Os : List (List Pq)) : wdA l O Os j = wdA l [] (Os ++ [O]) j := by
  have f1 : flW O Os = Os ++ [O] := by unfold flW; cases O with | nil => exact absurd rfl hO | cons a r => rfl
  have f2 : flW [] (Os ++ [O]) = Os ++ [O] := rfl
  rcases h with h | ⟨b, h, hb⟩
  · rw [wdA_end h, wdA_end h, f1, f2]
  · rw [wdA_blank h hb, wdA_blank h hb, f1, f2]
set_option maxRecDepth 100000 in
set_option maxHeartbeats 8000000 in
theorem xWordAt {M : World → Prop} (L : LbX M) (A : Nat → Addr) (s : ByteArray) (k : Nat) (w : World) (hM : M w) (hE : ThrE A w) (hs : s.size ≤ 5000) (hk : k < s.size) (hb : blkQ s[k] = false) :
    Calls Tryz.prog 112 #[.string s, .int .i64 k] w (PWd13 A s.data.toList k w) := by
  obtain ⟨iu, hiu, hu0, hu1, hu2⟩ := info_parts infoPp
  have IU := Lib.hid hiu; have ZU0 := Lib.hid hu0; have ZU1 := Lib.hid hu1; have ZU2 := Lib.hid hu2
  have hlen : s.data.toList.length = s.size := by simp
  have HLN := Lib.hid hlen
  have HM := Lib.hid hM; have HE := Lib.hid hE
  have HKB := Lib.hid (show ∀ (j : Nat) (h : j < s.size), j = k → blkQ s[j] = false from fun j h e => by subst e; exact hb)
  clear hiu hu0 hu1 hu2 hM hE hb hlen
  obtain ⟨base, hbase⟩ : ∃ base, base = w.heap.size := ⟨_, rfl⟩
  have HBL := Lib.hid (show w.heap.size = base from hbase.symm)
  clear hbase
  go_enter Tryz.func112, Tryz.ntmps112
  go_wp2
  go_loopw [1, 4] (fun i o wr => ∃ (j : Nat) (O : List Pb) (va : Option Addr) (vc : Nat), k ≤ j ∧ j ≤ s.size ∧ i = .int .i64 j ∧ o = .slice va O.length vc ∧ Hid (O.length ≤ j) ∧ Hid (O = [] → j = k) ∧ Hid (∀ Os, wdA s.data.toList [] Os k = wdA s.data.toList (pcL O) Os j) ∧ Hid (wr.ownsRow base 105 4 (.slice va O.length vc) O.length (pcV O)) ∧ Hid (w.grownBy wr none)) (fun i _ _ => s.size - (intOf i).toNat)
  case atStart => exact ⟨k, [], none, 0, Nat.le_refl _, by omega, rfl, rfl, Lib.hid (Nat.zero_le _), Lib.hid (fun _ => rfl), Lib.hid (fun _ => rfl), Lib.hid (pc_nil _ _ _ _), Lib.hid (World.grownBy.refl _ _)⟩
  case round =>
    obtain ⟨j, O, va, vc, hkj, hj, rfl, rfl, hOl, hON, hF, hR, hG⟩ := hrel
    by_cases hlt : j < s.size
    · have HJ := Lib.hid (list_at hlt)
      have CB := Lib.hid (fun w => pBlank0 s[j] w)
      cases hb : blkQ s[j]
      · rw [hb] at CB
        have CP := Lib.hid (xPieceAt L A s j wr (L.gr _ _ HM.out hG.out) (HE.out.grown hG.out) hs hlt hb)
        have HB := Lib.hid hb
        clear hb
        go_wp2_with (go_at_call 90; (with_reducible refine (CB.out _).mono ?_); rintro e w3 ⟨rfl, rfl⟩)
        refine CP.out.mono ?_
        rintro e w3 ⟨g3, hout⟩
        have G3 := Lib.hid (hG.out.trans g3)
        have R3 := Lib.hid (own_kept hR.out g3)
        clear CP g3
        rcases hout with ⟨x, q, rfl, hq, hP⟩ | ⟨bad, rfl, hbd, hP⟩
        · have hjq : j < q := on_place HJ.out HB.out hP hq
          have hqs : q ≤ s.size := by rw [← HLN.out]; exact hq
          have HF := Lib.hid (show ∀ Os, wdA s.data.toList [] Os k = wdA s.data.toList (pcL (O ++ [x])) Os q from fun Os => by
            rw [hF.out, wdA_piece HJ.out HB.out hP]; simp [pcL])
          clear hP hq hF
          go_upto_region 5 with fail
          have g4 := World.grownBy_alloc w3 (.cells #[.int .i64 x.k, .string x.t, .string x.f, .string x.o] 105) none
          have B4 := Lib.hid (heap_alloc_new w3 (.cells #[.int .i64 x.k, .string x.t, .string x.f, .string x.o] 105))
          have G4 := Lib.hid (G3.out.trans g4)
          have R4 := Lib.hid (own_kept R3.out g4)
          clear hG hR R3 g4
          generalize w3.alloc _ = w4 at B4 G4 R4 ⊢
          obtain ⟨d0, d1, d2, d3⟩ := four_px B4.out
          go_wp2_with (at_builtin; refine wpList_append_own _ rfl _ _ 102 rfl base 105 iu _ 4 56 Tryz.underlying102 IU.out ZU0.out ZU1.out ZU2.out rfl (by decide) _ _ _ rfl (R4.out.alloc _) ⟨_, 0, none⟩ 1 1 [.int .i64 x.k, .string x.t, .string x.f, .string x.o] rfl rfl (pc_new _ x _ _ (by simp)) (pc_one x) (by have := hOl.out; unfold maxLen; omega) (by have := hOl.out; omega) (by have := G4.out.size; have := HBL.out; simp; omega) ?_; intro v9 w9 hown9 hgrow9 _; have G9 := Lib.hid ((G4.out.trans (World.grownBy_alloc _ _ _)).andThen hgrow9 (fun k hk => .inl (by have := (R4.out.lt k hk).1; have := HBL.out; omega))); have O9 := Lib.hid hown9; clear hown9 hgrow9)
          obtain ⟨va9, vc9, rfl⟩ := tx_shape O9.out
          have HL2 := Lib.hid (show (O ++ [x]).length = O.length + 1 by simp)
          have OA := Lib.hid (show w9.ownsRow base 105 4 (.slice va9 (O ++ [x]).length vc9) (O ++ [x]).length (pcV (O ++ [x])) by rw [HL2.out, pcV_snoc]; exact O9.out)
          go_wp2
          go_roundw
          case rel => exact ⟨q, O ++ [x], va9, vc9, by omega, hqs, by go_num, by rw [HL2.out], Lib.hid (by rw [HL2.out]; have := hOl.out; omega), Lib.hid (fun h => by simp at h), HF, OA, G9⟩
          case measure => simp [intOf]; omega
        · have HN := Lib.hid (show ∀ Os, wdA s.data.toList [] Os k = .error bad from fun Os => by rw [hF.out, wdA_err HJ.out HB.out hP])
          clear hP hF
          go_wp2
          refine bodyPost_ret (res3 Tryz.results112 _ _ _) rfl ?_
          exact ⟨G3.out.trans (World.grownBy_alloc _ _ _), .inr ⟨bad, rfl, hbd, HN.out⟩⟩
      · rw [hb] at CB
        have hne : O ≠ [] := fun e => by
          have := hON.out e
          rw [HKB.out j hlt this] at hb; cases hb
        have hkj2 : k < j := by
          rcases Nat.lt_or_ge k j with h | h
          · exact h
          · have := HKB.out j hlt (by omega); rw [this] at hb; cases hb
        have HN := Lib.hid (show ∀ Os, wdA s.data.toList [] Os k = wdA s.data.toList [] (Os ++ [pcL O]) j from fun Os => by
          rw [hF.out]; exact wd_close (by simpa [pcL] using hne) (.inr ⟨_, HJ.out, hb⟩) Os)
        clear hb hne
        go_wp2_with (go_at_call 90; (with_reducible refine (CB.out _).mono ?_); rintro e w3 ⟨rfl, rfl⟩)
        refine bodyPost_ret (res3 Tryz.results112 _ _ _) rfl ?_
        exact ⟨hG.out, .inl ⟨_, O, j, rfl, hkj2, by rw [HLN.out]; omega, by have := hOl.out; rw [HLN.out]; omega, by rw [HBL.out]; exact hR.out, HN.out⟩⟩
    · have hjs : j = s.size := by omega
      have hne : O ≠ [] := fun e => by
        have := hON.out e; omega
      have HN := Lib.hid (show ∀ Os, wdA s.data.toList [] Os k = wdA s.data.toList [] (Os ++ [pcL O]) j from fun Os => by
        rw [hF.out]; exact wd_close (by simpa [pcL] using hne) (.inl (by rw [HLN.out]; omega)) Os)
      clear hne
      go_wp2
      refine bodyPost_ret (res3 Tryz.results112 _ _ _) rfl ?_
      exact ⟨hG.out, .inl ⟨_, O, j, rfl, by omega, by rw [HLN.out]; omega, by have := hOl.out; rw [HLN.out]; omega, by rw [HBL.out]; exact hR.out, HN.out⟩⟩

set_option maxRecDepth 100000 in
set_option maxHeartbeats 8000000 in
theorem xWordsO {M : World → Prop} (L : LbX M) (A : Nat → Addr) (s : ByteArray) (w : World) (hM : M w) (hE : ThrE A w) (hs : s.size ≤ 5000) :
    Calls Tryz.prog 94 #[.string s] w (PWdo s.data.toList A w) := by
  obtain ⟨iu, hiu, hu0, hu1, hu2⟩ := info_parts infoPps
  have IU := Lib.hid hiu; have ZU0 := Lib.hid hu0; have ZU1 := Lib.hid hu1; have ZU2 := Lib.hid hu2
  have hlen : s.data.toList.length = s.size := by simp
  have HLN := Lib.hid hlen
  have HM := Lib.hid hM; have HE := Lib.hid hE
  clear hiu hu0 hu1 hu2 hM hE hlen
  obtain ⟨base, hbase⟩ : ∃ base, base = w.heap.size := ⟨_, rfl⟩
  have HBL := Lib.hid (show w.heap.size = base from hbase.symm)
  clear hbase
  go_enter Tryz.func94, Tryz.ntmps94
  go_wp2
  go_loopw [4, 5] (fun o i wr => ∃ (j : Nat) (O : List (List Pb)) (ua : Option Addr) (uc : Nat) (vs : List Value), j ≤ s.size ∧ i = .int .i64 j ∧ o = .slice ua O.length uc ∧ Hid (O.length ≤ j) ∧ Hid (wdQ [] [] s.data.toList = wdA s.data.toList [] (pcLL O) j) ∧ Hid (vs.length = O.length) ∧ Hid (wr.ownsRow base 102 1 (.slice ua O.length uc) O.length vs) ∧ Hid (∀ (m : Nat) (u : Value) (l : List Pb), vs[m]? = some u → O[m]? = some l → l.length ≤ 5000 ∧ wr.ownsRow base 105 4 u l.length (pcV l)) ∧ Hid (w.grownBy wr none)) (fun _ i _ => s.size - (intOf i).toNat)
  case atStart => exact ⟨0, [], none, 0, [], Nat.zero_le _, rfl, rfl, Lib.hid (Nat.le_refl _), Lib.hid rfl, Lib.hid rfl, Lib.hid (pc_nil _ _ _ _), Lib.hid (fun m u l hu _ => by simp at hu), Lib.hid (World.grownBy.refl _ _)⟩
  case round =>
    obtain ⟨j, O, ua, uc, vs, hj, rfl, rfl, hOl, hF, hV, hO, hI, hG⟩ := hrel
    by_cases hlt : j < s.size
    · have HJ := Lib.hid (list_at hlt)
      have CB := Lib.hid (fun w => pBlank0 s[j] w)
      cases hb : blkQ s[j]
      · rw [hb] at CB
        have CW := Lib.hid (xWordAt L A s j wr (L.gr _ _ HM.out hG.out) (HE.out.grown hG.out) hs hlt hb)
        clear hb
        go_wp2_with (go_at_call 90; (with_reducible refine (CB.out _).mono ?_); rintro e w3 ⟨rfl, rfl⟩)
        refine CW.out.mono ?_
        rintro e w3 ⟨g3, hout⟩
        have G3 := Lib.hid (hG.out.trans g3)
        rcases hout with ⟨u3, l, q, rfl, hjq, hq, hll, o3, hP⟩ | ⟨bad, rfl, hbd, hP⟩
        · obtain ⟨ra, rc, rfl⟩ := tx_shape o3
          have O3 := Lib.hid (own_up o3 (show base ≤ wr.heap.size by have := hG.out.size; have := HBL.out; omega))
          have R3 := Lib.hid (own_kept hO.out g3)
          have I3 := Lib.hid (fun (m : Nat) (u : Value) (l : List Pb) (h1 : vs[m]? = some u) (h2 : O[m]? = some l) => own_kept (hI.out m u l h1 h2).2 g3)
          have I0 := Lib.hid (fun (m : Nat) (u : Value) (l : List Pb) (h1 : vs[m]? = some u) (h2 : O[m]? = some l) => (hI.out m u l h1 h2).1)
          have hqs : q ≤ s.size := by rw [← HLN.out]; exact hq
          have HLL := Lib.hid (show l.length ≤ 5000 by rw [HLN.out] at hll; omega)
          have HF := Lib.hid (show wdQ [] [] s.data.toList = wdA s.data.toList [] (pcLL (O ++ [l])) q by rw [hF.out, hP]; simp [pcLL])
          clear o3 g3 CW hP hF hq hll hI hO
          go_wp2_with (at_builtin; refine wpList_append_own _ rfl _ _ 42 rfl base 102 iu (.slice none 0 0) 1 24 Tryz.underlying42 IU.out ZU0.out ZU1.out ZU2.out rfl (by decide) (.slice ua O.length uc) O.length vs rfl (R3.out.alloc _) ⟨w3.heap.size, 0, none⟩ 1 1 [.slice ra l.length rc] rfl rfl (sl_new _ _ _ _ (by simp)) (by intro u hu; simp at hu; subst hu; rfl) (by have := hOl.out; unfold maxLen; omega) (by have := hOl.out; omega) (by have := G3.out.size; have := HBL.out; simp; omega) ?_; intro v9 w9 hown9 hgrow9 _; have G9 := Lib.hid ((G3.out.trans (World.grownBy_alloc _ _ _)).andThen hgrow9 (fun k hk => .inl (by have := (R3.out.lt k hk).1; have := HBL.out; omega))); have O9 := Lib.hid hown9; have P9 := Lib.hid ((O3.out.alloc _).kept hgrow9 (tx_apart O3.out R3.out (by decide))); have I9 := Lib.hid (fun (m : Nat) (u : Value) (l : List Pb) (h1 : vs[m]? = some u) (h2 : O[m]? = some l) => ((I3.out m u l h1 h2).alloc _).kept hgrow9 (tx_apart (I3.out m u l h1 h2) R3.out (by decide))); clear hown9 hgrow9)
          obtain ⟨va9, vc9, rfl⟩ := tx_shape O9.out
          have HL2 := Lib.hid (show (O ++ [l]).length = O.length + 1 by simp)
          have HV := Lib.hid (show (vs ++ [Value.slice ra l.length rc]).length = (O ++ [l]).length by rw [List.length_append, hV.out, HL2.out]; rfl)
          have OA := Lib.hid (show w9.ownsRow base 102 1 (.slice va9 (O ++ [l]).length vc9) (O ++ [l]).length (vs ++ [Value.slice ra l.length rc]) by rw [HL2.out]; exact O9.out)
          have HI := Lib.hid (show ∀ (m : Nat) (u : Value) (l' : List Pb), (vs ++ [Value.slice ra l.length rc])[m]? = some u → (O ++ [l])[m]? = some l' → l'.length ≤ 5000 ∧ w9.ownsRow base 105 4 u l'.length (pcV l') by
            intro m u l' h1 h2
            rcases Nat.lt_or_ge m vs.length with hm | hm
            · rw [List.getElem?_append_left hm] at h1
              rw [List.getElem?_append_left (by rw [← hV.out]; exact hm)] at h2
              exact ⟨I0.out m u l' h1 h2, I9.out m u l' h1 h2⟩
            · rw [List.getElem?_append_right hm] at h1
              have hm0 : m - vs.length = 0 := by have := (List.getElem?_eq_some_iff.1 h1).1; simp at this; omega
              rw [List.getElem?_append_right (by rw [← hV.out]; exact hm), ← hV.out, hm0] at h2
              rw [hm0] at h1
              cases h1; cases h2
              exact ⟨HLL.out, P9.out⟩)
          go_wp2
          go_roundw
          case rel => exact ⟨q, O ++ [l], va9, vc9, _, hqs, by go_num, by rw [HL2.out], Lib.hid (by rw [HL2.out]; have := hOl.out; omega), HF, HV, OA, HI, G9⟩
          case measure => simp [intOf]; omega
        · have HN := Lib.hid (show wdQ [] [] s.data.toList = .error bad by rw [hF.out, hP])
          clear hP hF
          go_wp2
          go_ret2
          refine ⟨G3.out, ?_⟩
          rw [HN.out]
          exact ⟨none, 0, by rw [errV_ne hbd]; rfl⟩
      · rw [hb] at CB
        have HF := Lib.hid (show wdQ [] [] s.data.toList = wdA s.data.toList [] (pcLL O) (j + 1) by rw [hF.out, wdA_blank HJ.out hb]; rfl)
        clear hb hF
        go_wp2_with (go_at_call 90; (with_reducible refine (CB.out _).mono ?_); rintro e w3 ⟨rfl, rfl⟩)
        go_roundw
        case rel => exact ⟨j + 1, O, ua, uc, vs, by omega, by go_num, rfl, Lib.hid (by have := hOl.out; omega), HF, hV, hO, hI, hG⟩
        case measure => simp [intOf]; omega
    · have HN := Lib.hid (show wdQ [] [] s.data.toList = .ok (pcLL O) by rw [hF.out, wdA_end (by rw [HLN.out]; omega)]; rfl)
      have HF := Lib.hid (show OwnRR wr base 105 102 (.slice ua O.length uc) O from ⟨vs, hV.out, hO.out, fun m u l h1 h2 => ⟨by have := (hI.out m u l h1 h2).1; omega, (hI.out m u l h1 h2).2⟩⟩)
      go_wp2
      go_ret2
      refine ⟨hG.out, ?_⟩
      rw [HN.out]
      exact ⟨_, O, rfl, by rw [HBL.out]; exact HF.out, by have := hOl.out; omega, rfl⟩
theorem xWords {M : World → Prop} (L : LbX M) (A : Nat → Addr) (s : ByteArray) (w : World) (hM : M w) (hE : ThrE A w) (hs : s.size ≤ 5000) :
    Calls Tryz.prog 94 #[.string s] w (PWds s.data.toList A w) := (xWordsO L A s w hM hE hs).mono fun _ _ h => h.row
end Go.Proofs.YtdganemgldocoaaGreatDoor

namespace Go.Proofs.YtdganemgldocoaaGreatDoor
open Go.RowKit

theorem apart_at : ∀ b : UInt8, decide (Lib.indexByte [39, 36, 96, 61, 123, 125] b < 0) = !(b == 39 || b == 36 || b == 96 || b == 61 || b == 123 || b == 125) := by
  intro b
  by_cases h1 : b = 39
  · subst h1; decide
  by_cases h2 : b = 36
  · subst h2; decide
  by_cases h3 : b = 96
  · subst h3; decide
  by_cases h4 : b = 61
  · subst h4; decide
  by_cases h5 : b = 123
  · subst h5; decide
  by_cases h6 : b = 125
  · subst h6; decide
  have q1 : ((39 : UInt8) == b) = false := by simpa using Ne.symm h1
  have q2 : ((36 : UInt8) == b) = false := by simpa using Ne.symm h2
  have q3 : ((96 : UInt8) == b) = false := by simpa using Ne.symm h3
  have q4 : ((61 : UInt8) == b) = false := by simpa using Ne.symm h4
  have q5 : ((123 : UInt8) == b) = false := by simpa using Ne.symm h5
  have q6 : ((125 : UInt8) == b) = false := by simpa using Ne.symm h6
  simp [Lib.indexByte, q1, q2, q3, q4, q5, q6, h1, h2, h3, h4, h5, h6]
set_option maxRecDepth 100000 in
theorem xPatByte (b : UInt8) (w : World) : Calls Tryz.prog 131 #[.int .u8 b.toNat] w fun e w' => e = .returned (.bool (patQ b)) ∧ w = w' := by
  have CB := Lib.hid (fun w => pBlank0 b w)
  obtain ⟨z, hz⟩ : ∃ z, Lib.indexByte [39, 36, 96, 61, 123, 125] b = z := ⟨_, rfl⟩
  have CI := Lib.hid (show ∀ w, Calls Tryz.prog 79 #[.string ⟨#[39, 36, 96, 61, 123, 125]⟩, .int .u8 b.toNat] w fun e w' => e = .returned (.int .i64 z) ∧ w = w' from fun w =>
    (Tryz.strings_IndexByte ⟨#[39, 36, 96, 61, 123, 125]⟩ (b.toNat : Int) w).mono fun e w' ⟨h1, h2⟩ => ⟨by rw [h1, ← hz]; simp, by first | exact h2.symm | exact h2⟩)
  have HP := Lib.hid (show patQ b = (!blkQ b && decide (z < 0)) by
    rw [← hz, apart_at]; unfold patQ
    cases blkQ b <;> simp)
  rw [HP.out]
  clear hz
  by_cases hz : z < 0
  all_goals
    have d1 : decide (z < 0) = decide (z < 0) := rfl
    simp only [hz, decide_true, decide_false] at d1 ⊢
    cases hb : blkQ b
    all_goals
      rw [hb] at CB
      clear HP
      go_enter Tryz.func131, Tryz.ntmps131
      go_wp2_with (first
        | (go_at_call 90; (with_reducible refine (CB.out _).mono ?_); rintro e w3 ⟨rfl, rfl⟩)
        | (go_at_call 79; (with_reducible refine (CI.out _).mono ?_); rintro e w4 ⟨rfl, rfl⟩))
      go_ret
      first | exact ⟨rfl, rfl⟩ | exact ⟨ret_bool (by simp [hz]), rfl⟩
def ThrM (A : Nat → Addr) (w : World) : Prop := ThrE A w ∧ MaxI w
theorem lbX : LbX MaxI where
  gr := fun _ _ h hg => h.grown hg
  pat := fun b w => xPatByte b w
  pre := fun s p w => (Tryz.strings_HasPrefix s p w).mono fun _ _ ⟨h1, h2⟩ => ⟨h1, h2.symm⟩
  cutp := fun s p w => (Tryz.strings_CutPrefix s p w).mono fun _ _ ⟨h1, h2⟩ => ⟨h1, h2.symm⟩
  cut := fun s p w ⟨m, hm⟩ hs => Tryz.strings_Cut s p m w (by omega) hm
  has := fun s c w => (Tryz.strings_Contains_one s c w).mono fun _ _ ⟨h1, h2⟩ => ⟨h1, h2.symm⟩
  undo := fun s w ⟨m, hm⟩ hs => by
    have h1 := Lib.countB_mul_le ⟨#[39, 39]⟩ (by decide) s.size s (Nat.le_refl _)
    have e1 : (⟨#[39]⟩ : ByteArray).size = 1 := rfl
    have e2 : (⟨#[39, 39]⟩ : ByteArray).size = 2 := rfl
    refine (Tryz.strings_ReplaceAll s ⟨#[39, 39]⟩ ⟨#[39]⟩ m w (by omega) hm (by decide) (by rw [e2] at h1; rw [e1]; omega)).mono fun e w' ⟨he, hb⟩ => ⟨?_, grown_of_below hb⟩
    rw [he]; rfl
  twice := fun s w ⟨m, hm⟩ hs => by
    have h1 := Lib.countB_mul_le ⟨#[39]⟩ (by decide) s.size s (Nat.le_refl _)
    have e1 : (⟨#[39]⟩ : ByteArray).size = 1 := rfl
    have e2 : (⟨#[39, 39]⟩ : ByteArray).size = 2 := rfl
    refine (Tryz.strings_ReplaceAll s ⟨#[39]⟩ ⟨#[39, 39]⟩ m w (by omega) hm (by decide) (by rw [e1] at h1; rw [e2]; omega)).mono fun e w' ⟨he, hb⟩ => ⟨?_, grown_of_below hb⟩
    rw [he]
    exact congrArg (fun x => Ending.returned (.string ⟨List.toArray x⟩)) (rep_two s.data.toList)
end Go.Proofs.YtdganemgldocoaaGreatDoor
