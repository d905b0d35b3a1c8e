/- Walks of package expand: the row whose last word is open: full, put, add, end. Walks of package expand: what a row gives in the end. -/
import Derived.Test.YtcmfmfkpmgoieaaGreatDoorExDoc
import Derived.Test.YtcmfmfkpmgoieaaGreatDoorExDocs
namespace Go.Proofs.YtcmfmfkpmgoieaaGreatDoor
open Go.RowKit

/-- the row at block rb: its words, whether one would be too long, whether a piece was Quoted -/
structure RowW (W : World) (rb base : Nat) (pa : Option Addr) (pc : Nat) (P : List ByteArray) (lg q : Bool) : Prop where
  r : W.heap[rb]? = some (.cells #[.slice pa P.length pc, .bool lg, .bool q] 114 (0, 0))
  o : W.ownsRow base 9 1 (.slice pa P.length pc) P.length (txV P)
theorem three_rw {w : World} {b : Nat} {v0 v1 v2 : Value} {t : TypeId} (h : w.heap[b]? = some (.cells #[v0, v1, v2] t (0, 0))) : w.cell? ⟨b, 0, none⟩ = some v0 ∧ w.cell? ⟨b, 1, none⟩ = some v1 ∧ w.cell? ⟨b, 2, none⟩ = some v2 := by
  refine ⟨?_, ?_, ?_⟩ <;> (unfold World.cell?; rw [h]; rfl)
theorem RowW.grown {W W' : World} {rb base : Nat} {pa : Option Addr} {pc : Nat} {P : List ByteArray} {lg q : Bool} (h : RowW W rb base pa pc P lg q) (g : W.grownBy W' none) : RowW W' rb base pa pc P lg q :=
  ⟨heap_grown g h.r, own_kept h.o g⟩
/-- the row's words lie in another block -/
theorem RowW.ne {W : World} {rb base : Nat} {pa : Option Addr} {pc : Nat} {P : List ByteArray} {lg q : Bool} (h : RowW W rb base pa pc P lg q) : (Value.slice pa P.length pc).ownBlock ≠ some rb := by
  intro e
  rcases h.o.2 with ⟨h1, -⟩ | ⟨g, cap, cur, h1, -, h2, -⟩
  · rw [h1] at e; cases e
  · rw [h1] at e
    simp [Value.ownBlock] at e
    subst e
    rw [h.r] at h2
    simp at h2
theorem fFull (a : Option Addr) (n c : Nat) (w : World) : Calls Tryz.prog 37 #[.slice a n c] w fun e w' => e = .returned (.bool (decide (40 < n))) ∧ w = w' := by
  go_enter Tryz.func37, Tryz.ntmps37
  go_wp2
  go_ret
  exact ⟨ret_bool (by apply decide_eq_decide.2; omega), rfl⟩
/-- what a call leaves that changes the row: all but the row's struct and its words' block -/
def RwF (rb : Nat) (v : Value) : Nat → Prop := fun k => k = rb ∨ v.ownBlock = some k
theorem last_get {P : List ByteArray} (h : P ≠ []) : ∃ x, P[P.length - 1]? = some x ∧ P = P.dropLast ++ [x] := by
  refine ⟨P.getLast h, ?_, (List.dropLast_concat_getLast h).symm⟩
  rw [List.getLast_eq_getElem]
  exact List.getElem?_eq_getElem _
theorem putP_last {P : List ByteArray} {x : ByteArray} {lg : Bool} (h : P = P.dropLast ++ [x]) (s : ByteArray) :
    putP (txL P, lg) s.data.toList = if 120 < x.size + s.size then (txL P, true) else (txL (P.dropLast ++ [x ++ s]), lg) := by
  have e : txL P = txL P.dropLast ++ [x.data.toList] := by
    conv => lhs; rw [h]
    simp
  rw [e, put_at]
  have e2 : x.data.toList.length + s.data.toList.length = x.size + s.size := by simp
  rw [e2]
  split
  · rfl
  · simp
theorem set_last {P : List ByteArray} {x y : ByteArray} (h : P = P.dropLast ++ [x]) : (txV P).set (P.length - 1) (.string y) = txV (P.dropLast ++ [y]) := by
  have e : txV P = txV P.dropLast ++ [.string x] := by
    conv => lhs; rw [h]
    simp
  rw [e, List.set_append_right _ _ (by simp)]
  simp
/-- the row after put -/
def PPut (rb base : Nat) (pa : Option Addr) (pc : Nat) (P : List ByteArray) (lg q : Bool) (s : ByteArray) (w : World) (e : Ending) (w' : World) : Prop :=
  (∃ v, e = .returned v) ∧ ∃ P' lg', P'.length = P.length ∧ RowW w' rb base pa pc P' lg' q ∧ (txL P', lg') = putP (txL P, lg) s.data.toList ∧ OutF (RwF rb (.slice pa P.length pc)) w w'
set_option maxRecDepth 100000 in
set_option maxHeartbeats 4000000 in
theorem pPut17 (rb base : Nat) (pa : Option Addr) (pc : Nat) (P : List ByteArray) (lg q : Bool) (s : ByteArray) (w : World) (h : RowW w rb base pa pc P lg q) (hP : P ≠ []) (hx : ∀ x ∈ P, x.size ≤ 120) (hl : P.length ≤ 41) (hs : s.size ≤ 5000) :
    Calls Tryz.prog 65 #[.pointer (some ⟨rb, 0, none⟩), .string s] w (PPut rb base pa pc P lg q s w) := by
  obtain ⟨x, hx1, hx2⟩ := last_get hP
  have hp : 0 < P.length := List.length_pos_iff.2 hP
  have hx3 := hx x (List.mem_of_getElem? hx1)
  have hput := putP_last (lg := lg) hx2 s
  obtain ⟨c0, c1, c2⟩ := three_rw h.r
  have HH := Lib.hid h
  have HNE := Lib.hid h.ne
  rcases h.o.2 with ⟨h1, h2⟩ | ⟨g, cap, cur, h1, -, h3, -⟩
  · omega
  cases h1
  have hc : w.cell? ⟨g, P.length - 1, none⟩ = some (.string x) := by
    rw [HH.out.o.cellAt (P.length - 1) (by omega), List.getElem?_map, hx1]; rfl
  have hfr := HH.out.o.frozenAt (P.length - 1)
  have hst := HH.out.o.stored (P.length - 1) (.string (x ++ s))
  rw [set_last hx2] at hst
  have HX2 := Lib.hid hx2
  have HP1 := Lib.hid hput
  have HST := Lib.hid hst
  have hcr : rb ≠ g := fun e => HNE.out (by simp [Value.ownBlock, e])
  obtain ⟨n, hn⟩ : ∃ n, P.length - 1 = n := ⟨_, rfl⟩
  have hn2 : P.length = n + 1 := by omega
  have HN2 := Lib.hid hn2
  rw [hn] at hc hfr HST
  have fr := frozen_of_row w rb 1 _ _ h.r
  have HR := Lib.hid h.r
  clear hput hst hx hx1 hx2 h h3 hP
  by_cases h120 : 120 < x.size + s.size
  · rw [if_pos h120] at HP1
    go_enter Tryz.func65, Tryz.ntmps65
    go_wp2
    refine bodyPost_ret (results_none rfl _ _ _) rfl ?_
    have g1 : w.grownBy (w.setCell ⟨rb, 1, none⟩ (.bool true)) (some rb) := ⟨rfl, rfl, rfl, by rw [World.size_setCell]; exact Nat.le_refl _, fun k hk hne => heap_setCell_other w ⟨rb, 1, none⟩ k _ (fun e => hne (by rw [e]))⟩
    exact ⟨⟨_, rfl⟩, P, true, rfl, ⟨heap_setCell_same _ rb 1 _ _ _ HR.out, HH.out.o.kept g1 (.inr HNE.out)⟩, HP1.out.symm, ⟨g1.os, g1.tape, g1.output, g1.size, fun k hk hF => g1.block k hk (fun e => hF (.inl (Option.some.inj e)))⟩⟩
  · rw [if_neg h120] at HP1
    go_enter Tryz.func65, Tryz.ntmps65
    go_wp2
    refine bodyPost_ret (results_none rfl _ _ _) rfl ?_
    obtain ⟨s1, s2⟩ := HST.out
    have hlen : (P.dropLast ++ [x ++ s]).length = P.length := by simp; omega
    refine ⟨⟨_, rfl⟩, P.dropLast ++ [x ++ s], lg, hlen, ⟨?_, ?_⟩, HP1.out.symm, ⟨s2.os, s2.tape, s2.output, s2.size, fun k hk hF => s2.block k hk (fun e => hF (.inr (by simpa [Value.ownBlock] using e.symm)))⟩⟩
    · rw [hlen, heap_setCell_other w ⟨g, n, none⟩ rb _ hcr]
      exact HR.out
    · rw [hlen]; exact s1
theorem OutF.step {F G : Nat → Prop} {w w1 w2 : World} (h : OutF F w w1) (h2 : OutF G w1 w2) (hG : ∀ k, G k → F k ∨ w.heap.size ≤ k) : OutF F w w2 :=
  ⟨h2.os.trans h.os, h2.tape.trans h.tape, h2.output.trans h.output, Nat.le_trans h.size h2.size, fun k hk hF => (h2.block k (Nat.lt_of_lt_of_le hk h.size) (fun hg => (hG k hg).elim hF (fun h3 => by omega))).trans (h.block k hk hF)⟩
theorem OutF.refl (F : Nat → Prop) (w : World) : OutF F w w := OutF.of (World.grownBy.refl w none)
theorem OutF.row {F : Nat → Prop} {w w' : World} {r : Option Nat} (g : w.grownBy w' r) (hr : ∀ k, r = some k → F k) : OutF F w w' :=
  ⟨g.os, g.tape, g.output, g.size, fun k hk hF => g.block k hk (fun e => hF (hr k e.symm))⟩
theorem ok_of {P : List ByteArray} {lg : Bool} (h : OkP (txL P, lg)) : P ≠ [] ∧ P.length ≤ 41 ∧ ∀ x ∈ P, x.size ≤ 120 := by
  obtain ⟨h1, h2, h3⟩ := h
  refine ⟨fun e => h1 (by rw [e]; rfl), by simpa using h2, fun x hx => ?_⟩
  have := h3 _ (List.mem_map_of_mem hx)
  simpa using this
/-- the row after add -/
def PAdd (rb base : Nat) (pa : Option Addr) (pc : Nat) (P : List ByteArray) (lg q : Bool) (L : List ByteArray) (w : World) (e : Ending) (w' : World) : Prop :=
  (∃ v, e = .returned v) ∧ ∃ pa' pc' P' lg', RowW w' rb base pa' pc' P' lg' q ∧ (txL P', lg') = addP (txL P, lg) (txL L) ∧ OutF (RwF rb (.slice pa P.length pc)) w w' ∧
    ∀ k, (Value.slice pa' P'.length pc').ownBlock = some k → (Value.slice pa P.length pc).ownBlock = some k ∨ w.heap.size ≤ k
set_option maxRecDepth 100000 in
set_option maxHeartbeats 8000000 in
theorem pAdd17 (rb base : Nat) (pa : Option Addr) (pc : Nat) (P : List ByteArray) (lg q : Bool) (v : Value) (L : List ByteArray) (H : Nat → Prop) (w : World) (h : RowW w rb base pa pc P lg q) (hok : OkP (txL P, lg)) (hT : TxG w H v L)
    (hH : ∀ k, H k → k ≠ rb ∧ (Value.slice pa P.length pc).ownBlock ≠ some k) (hL : L.length ≤ 5001 ∧ ∀ x ∈ L, x.size ≤ 5000) (hb : base ≤ w.heap.size) :
    Calls Tryz.prog 50 #[.pointer (some ⟨rb, 0, none⟩), v] w (PAdd rb base pa pc P lg q L w) := by
  obtain ⟨iu, hiu, hu0, hu1, hu2⟩ := info_parts infoTx
  have IU := Lib.hid hiu; have ZU0 := Lib.hid hu0; have ZU1 := Lib.hid hu1; have ZU2 := Lib.hid hu2
  have HT := Lib.hid hT; have HOK := Lib.hid hok; have HL := Lib.hid hL
  have HF := Lib.hid (show ∀ k, H k → ¬ RwF rb (.slice pa P.length pc) k from fun k hk hf => hf.elim (hH k hk).1 (hH k hk).2)
  obtain ⟨va, vc, rfl, -⟩ := hT.shape
  have HR := Lib.hid h
  have hl1 := hL.1
  clear hiu hu0 hu1 hu2 hT hok h hH hL
  go_enter Tryz.func50, Tryz.ntmps50
  go_wp2
  go_loopw [4, 5, 8] (fun _ _ i wr => ∃ (j : Nat) (pa' : Option Addr) (pc' : Nat) (P' : List ByteArray) (lg' : Bool), j ≤ L.length ∧ i = .int .i64 j ∧ Hid (RowW wr rb base pa' pc' P' lg' q) ∧ Hid ((txL P', lg') = addP (txL P, lg) (txL (L.take j))) ∧ Hid (OutF (RwF rb (.slice pa P.length pc)) w wr) ∧ Hid (∀ k, (Value.slice pa' P'.length pc').ownBlock = some k → (Value.slice pa P.length pc).ownBlock = some k ∨ w.heap.size ≤ k)) (fun _ _ i _ => L.length - (intOf i).toNat)
  case atStart => exact ⟨0, pa, pc, P, lg, Nat.zero_le _, rfl, HR, Lib.hid rfl, Lib.hid (OutF.refl _ _), Lib.hid (fun k hk => .inl hk)⟩
  case round =>
    obtain ⟨j, pa', pc', P', lg', hj, rfl, hR, hS, hO, hF⟩ := hrel
    obtain ⟨o1, o2, o3⟩ := ok_of (show OkP (txL P', lg') by rw [hS.out]; exact ok_add HOK.out _)
    by_cases hlt : j < L.length
    · obtain ⟨b1, off1, c1, y, ev, hy, hcell⟩ := (HT.out.keep (hO.out.keep HF.out)).at j hlt
      injection ev with ev1 ev2 ev3
      subst ev1 ev3
      have hy5 : y.size ≤ 5000 := HL.out.2 y (List.mem_of_getElem? hy)
      obtain ⟨d0, d1, d2⟩ := three_rw hR.out.r
      have CF := Lib.hid (fun W => fFull pa' P'.length pc' W)
      by_cases h40 : 40 < P'.length
      · have HA := Lib.hid (show (txL P', lg') = addP (txL P, lg) (txL L) by
          have := add_full (s := (txL P, lg)) (l := txL L) (j := j) (by rw [txL_take, ← hS.out]; simpa using h40)
          rw [this, txL_take, hS.out])
        rw [decide_eq_true h40] at CF
        clear hS hy
        go_wp2_with (go_at_call 37; (with_reducible refine (CF.out _).mono ?_); rintro e w3 ⟨rfl, rfl⟩)
        refine bodyPost_ret (results_none rfl _ _ _) rfl ?_
        exact ⟨⟨_, rfl⟩, pa', pc', P', lg', hR.out, HA.out, hO.out, hF.out⟩
      · rw [decide_eq_false h40] at CF
        have HA := Lib.hid (show addP (txL P, lg) (txL (L.take (j + 1))) = stpP (decide (0 < j)) (txL P', lg') y.data.toList by
          rw [← txL_take, add_take (txL_get hy), txL_take, hS.out])
        have h41 : ¬ 40 < ((txL P', lg') : Rp).1.length := by simpa using h40
        clear hS hy
        by_cases hj0 : 0 < j
        · have HA2 := Lib.hid (show addP (txL P, lg) (txL (L.take (j + 1))) = putP (txL (P' ++ [(⟨#[]⟩ : ByteArray)]), lg') y.data.toList by
            rw [HA.out, decide_eq_true hj0]; unfold stpP; rw [if_neg h41, if_pos rfl]; simp)
          have HNE := Lib.hid hR.out.ne
          have hbs : base ≤ wr.heap.size := Nat.le_trans hb hO.out.size
          have HRB := Lib.hid hR.out.r
          clear HA h41
          go_upto_region 6 with (first
            | (go_at_call 37; (with_reducible refine (CF.out _).mono ?_); rintro e w3 ⟨rfl, rfl⟩)
            | (at_builtin; refine wpList_append_far rfl _ _ 30 rfl base 9 iu _ 1 16 Tryz.underlying30 IU.out ZU0.out ZU1.out ZU2.out rfl (by decide) _ _ _ rfl (hR.out.o.alloc _) ⟨_, 0, none⟩ 1 1 [.string ⟨#[]⟩] rfl rfl (tx_new _ _ _ _ (by simp)) (tx_one _) (by unfold maxLen; omega) (by omega) (by simp; omega) ?_; intro v9 w9 hown9 hgrow9 hfar9; obtain ⟨va9, vc9, rfl⟩ := tx_shape hown9; have O9 := Lib.hid hown9; have g0 := World.grownBy_alloc wr (.cells #[.string ⟨#[]⟩] 9) none; have Q9 := Lib.hid ((hgrow9.block rb (by have := (Array.getElem?_eq_some_iff.1 HRB.out).1; have := g0.size; omega) (fun e => HNE.out e.symm)).trans (heap_grown g0 HRB.out)); have X9 := Lib.hid (show OutF (fun k => (Value.slice pa' P'.length pc').ownBlock = some k) wr w9 from (OutF.of g0).step (OutF.row hgrow9 (F := fun k => (Value.slice pa' P'.length pc').ownBlock = some k) (fun k e => e)) (fun k hk => .inl hk)); have F9 := Lib.hid (show ∀ k, (Value.slice va9 (P'.length + 1) vc9).ownBlock = some k → (Value.slice pa' P'.length pc').ownBlock = some k ∨ wr.heap.size ≤ k from fun k hk => (hfar9 k hk).imp id (fun h => Nat.le_trans g0.size h)); have d9 := (three_rw Q9.out).1; have f9 := frozen_of_row w9 rb 0 _ _ Q9.out; clear hown9 hgrow9 hfar9 g0))
          have HL2 := Lib.hid (show (P' ++ [(⟨#[]⟩ : ByteArray)]).length = P'.length + 1 by simp)
          have hne9 : (Value.slice va9 (P'.length + 1) vc9).ownBlock ≠ some rb := fun e => by
            rcases F9.out rb e with h1 | h1
            · exact HNE.out h1
            · have := (Array.getElem?_eq_some_iff.1 HRB.out).1; omega
          have g9 : w9.grownBy (w9.setCell ⟨rb, 0, none⟩ (.slice va9 (P'.length + 1) vc9)) (some rb) := ⟨rfl, rfl, rfl, by rw [World.size_setCell]; exact Nat.le_refl _, fun k hk hne => heap_setCell_other w9 ⟨rb, 0, none⟩ k _ (fun e => hne (by rw [e]))⟩
          have R9 := Lib.hid (show RowW (w9.setCell ⟨rb, 0, none⟩ (.slice va9 (P'.length + 1) vc9)) rb base va9 vc9 (P' ++ [(⟨#[]⟩ : ByteArray)]) lg' q from
            ⟨by rw [HL2.out]; exact heap_setCell_same _ rb 0 _ _ _ Q9.out, by rw [HL2.out, txV_app]; exact O9.out.kept g9 (.inr hne9)⟩)
          have HO9 := Lib.hid (show OutF (RwF rb (.slice pa P.length pc)) w (w9.setCell ⟨rb, 0, none⟩ (.slice va9 (P'.length + 1) vc9)) from
            (hO.out.step X9.out (fun k hk => (hF.out k hk).imp .inr id)).step (OutF.row g9 (F := fun k => k = rb) (fun k e => (Option.some.inj e).symm)) (fun k hk => .inl (.inl hk)))
          have HF9 := Lib.hid (show ∀ k, (Value.slice va9 (P'.length + 1) vc9).ownBlock = some k → (Value.slice pa P.length pc).ownBlock = some k ∨ w.heap.size ≤ k from fun k hk => by
            rcases F9.out k hk with h1 | h1
            · exact hF.out k h1
            · right; exact Nat.le_trans hO.out.size h1)
          generalize w9.setCell _ _ = wx at R9 HO9 ⊢
          have CP := Lib.hid (pPut17 rb base va9 vc9 (P' ++ [(⟨#[]⟩ : ByteArray)]) lg' q y wx R9.out (by simp) (fun z hz => by
            rw [List.mem_append, List.mem_singleton] at hz
            rcases hz with hz | rfl
            · exact o3 z hz
            · decide) (by rw [HL2.out]; omega) hy5)
          clear X9 F9 O9 Q9 d9 f9 hne9 g9 d0 d1 d2
          go_wp2_with fail
          refine CP.out.mono ?_
          rintro e w10 ⟨⟨v10, rfl⟩, P2, lg2, hl2, r2, e2, x2⟩
          have E2 := Lib.hid (show (txL P2, lg2) = addP (txL P, lg) (txL (L.take (j + 1))) from e2.trans HA2.out.symm)
          have R2 := Lib.hid r2
          have X2 := Lib.hid (show OutF (RwF rb (.slice pa P.length pc)) w w10 from HO9.out.step x2 (fun k hk => by
            rcases hk with h1 | h1
            · exact .inl (.inl h1)
            · rw [HL2.out] at h1
              exact (HF9.out k h1).imp .inr id))
          have F2 := Lib.hid (show ∀ k, (Value.slice va9 P2.length vc9).ownBlock = some k → (Value.slice pa P.length pc).ownBlock = some k ∨ w.heap.size ≤ k from fun k hk => HF9.out k (by rw [hl2, HL2.out] at hk; exact hk))
          clear e2 r2 x2 CP
          go_wp2
          go_roundw
          case rel => exact ⟨j + 1, va9, vc9, P2, lg2, hlt, by go_num, R2, E2, X2, F2⟩
          case measure => simp [intOf]; omega
        · have HA2 := Lib.hid (show addP (txL P, lg) (txL (L.take (j + 1))) = putP (txL P', lg') y.data.toList by
            rw [HA.out, decide_eq_false hj0]; unfold stpP; rw [if_neg h41]; simp)
          have hj00 : j = 0 := by omega
          have hcell0 : wr.cell? ⟨b1, off1, none⟩ = some (.string y) := by have := hcell; rwa [hj00, Nat.add_zero] at this
          have CP := Lib.hid (pPut17 rb base pa' pc' P' lg' q y wr hR.out o1 o3 o2 hy5)
          clear HA h41
          go_wp2_with (go_at_call 37; (with_reducible refine (CF.out _).mono ?_); rintro e w3 ⟨rfl, rfl⟩)
          refine CP.out.mono ?_
          rintro e w10 ⟨⟨v10, rfl⟩, P2, lg2, hl2, r2, e2, x2⟩
          have E2 := Lib.hid (show (txL P2, lg2) = addP (txL P, lg) (txL (L.take (j + 1))) from e2.trans HA2.out.symm)
          have R2 := Lib.hid r2
          have X2 := Lib.hid (show OutF (RwF rb (.slice pa P.length pc)) w w10 from hO.out.step x2 (fun k hk => by
            rcases hk with h1 | h1
            · exact .inl (.inl h1)
            · exact (hF.out k h1).imp .inr id))
          have F2 := Lib.hid (show ∀ k, (Value.slice pa' P2.length pc').ownBlock = some k → (Value.slice pa P.length pc).ownBlock = some k ∨ w.heap.size ≤ k from fun k hk => hF.out k (by rw [hl2] at hk; exact hk))
          clear e2 r2 x2 CP hcell hcell0 d0 d1 d2
          go_wp2
          go_roundw
          case rel => exact ⟨j + 1, pa', pc', P2, lg2, hlt, by go_num, R2, E2, X2, F2⟩
          case measure => simp [intOf]; omega
    · have HA := Lib.hid (show (txL P', lg') = addP (txL P, lg) (txL L) by have := hS.out; rwa [List.take_of_length_le (by omega)] at this)
      go_wp2
      refine bodyPost_ret (results_none rfl _ _ _) rfl ?_
      exact ⟨⟨_, rfl⟩, pa', pc', P', lg', hR.out, HA.out, hO.out, hF.out⟩
end Go.Proofs.YtcmfmfkpmgoieaaGreatDoor

namespace Go.Proofs.YtcmfmfkpmgoieaaGreatDoor
open Go.RowKit

/-- the errors that package expand reads -/
def L17 : List (Nat × Nat) := [(2, 2), (8, 8), (10, 0), (17, 16)]
theorem e17_long {A : Nat → Addr} {w : World} (h : Sents L17 A w) : w.cell? ⟨2, 0, none⟩ = some (.iface 194 (.pointer (some (A 2)))) := h (2, 2) (by simp [L17])
theorem e17_none {A : Nat → Addr} {w : World} (h : Sents L17 A w) : w.cell? ⟨8, 0, none⟩ = some (.iface 194 (.pointer (some (A 8)))) := h (8, 8) (by simp [L17])
theorem e17_full {A : Nat → Addr} {w : World} (h : Sents L17 A w) : w.cell? ⟨0, 0, none⟩ = some (.iface 194 (.pointer (some (A 10)))) := h (10, 0) (by simp [L17])
theorem e17_kind {A : Nat → Addr} {w : World} (h : Sents L17 A w) : w.cell? ⟨16, 0, none⟩ = some (.iface 194 (.pointer (some (A 17)))) := h (17, 16) (by simp [L17])
/-- words and an error -/
def PEnd17 (A : Nat → Addr) (x : Rs) (ob : Option Nat) (w : World) (e : Ending) (w' : World) : Prop :=
  w.grownBy w' none ∧ ∃ v L, e = .returned (.tuple #[v, errV A (exN x)]) ∧ TxRow w' v L ∧ txL L = exL x ∧ ∀ k, v.ownBlock = some k → ob = some k
theorem tx_nilP (w : World) : TxRow w (.slice none 0 0) [] := ⟨none, 0, rfl, ⟨by decide, fun _ => rfl⟩, fun h => absurd rfl h⟩
theorem endP_full {P : List ByteArray} {lg q : Bool} (h : 40 < P.length) : endP (txL P, lg) q = .error 10 := by unfold endP; rw [if_pos (by simpa using h)]
theorem endP_long {P : List ByteArray} {q : Bool} (h : ¬ 40 < P.length) : endP (txL P, true) q = .error 2 := by unfold endP; rw [if_neg (by simpa using h), if_pos rfl]
theorem endP_none {x : ByteArray} (hx : x.data.toList = []) : endP (txL [x], false) false = .ok [] := by unfold endP; simp [hx]
theorem endP_ok {P : List ByteArray} {q : Bool} (h : ¬ 40 < P.length) (h2 : ¬ (txL P = [[]] ∧ q = false)) : endP (txL P, false) q = .ok (txL P) := by
  unfold endP
  rw [if_neg (by simpa using h), if_neg (by simp), if_neg]
  intro h3
  rw [Bool.and_eq_true] at h3
  exact h2 ⟨by simpa using h3.1, by simpa using h3.2⟩
set_option maxRecDepth 100000 in
set_option maxHeartbeats 4000000 in
theorem pEnd17 (A : Nat → Addr) (rb base : Nat) (pa : Option Addr) (pc : Nat) (P : List ByteArray) (lg q : Bool) (w : World) (h : RowW w rb base pa pc P lg q) (hok : OkP (txL P, lg)) (hE : Sents L17 A w) :
    Calls Tryz.prog 51 #[.pointer (some ⟨rb, 0, none⟩)] w (PEnd17 A (endP (txL P, lg) q) (Value.slice pa P.length pc).ownBlock w) := by
  obtain ⟨o1, o2, o3⟩ := ok_of hok
  obtain ⟨c0, c1, c2⟩ := three_rw h.r
  have CF := Lib.hid (fun W => fFull pa P.length pc W)
  have e1 := e17_full hE
  have e2 := e17_long hE
  have HT := Lib.hid (tx_row h.o rfl (by omega))
  have HO := Lib.hid h.o
  clear hE h hok
  by_cases h40 : 40 < P.length
  · rw [endP_full h40]
    rw [decide_eq_true h40] at CF
    go_enter Tryz.func51, Tryz.ntmps51
    go_wp2_with (go_at_call 37; (with_reducible refine (CF.out _).mono ?_); rintro e w3 ⟨rfl, rfl⟩)
    go_quiet (fail)
    go_wp2
    go_ret2
    exact ⟨grown_drewN (World.grownBy.refl _ _) _, _, [], rfl, tx_nilP _, rfl, fun k hk => by simp [Value.ownBlock] at hk⟩
  rw [decide_eq_false h40] at CF
  cases lg with
  | true =>
    rw [endP_long h40]
    go_enter Tryz.func51, Tryz.ntmps51
    go_wp2_with (go_at_call 37; (with_reducible refine (CF.out _).mono ?_); rintro e w3 ⟨rfl, rfl⟩)
    go_quiet (fail)
    go_wp2
    go_ret2
    exact ⟨grown_drewN (World.grownBy.refl _ _) _, _, [], rfl, tx_nilP _, rfl, fun k hk => by simp [Value.ownBlock] at hk⟩
  | false =>
    by_cases h1 : P.length = 1
    · obtain ⟨x, rfl⟩ := List.length_eq_one_iff.1 h1
      obtain ⟨a', c', ev, -, hr⟩ := HT.out
      obtain ⟨b1, off1, rfl, -, hc⟩ := hr (by simp)
      injection ev with ev1 ev2 ev3
      subst ev1 ev3
      have hcell := hc 0 x rfl
      rw [Nat.add_zero] at hcell
      clear hr hc
      rw [show ([x] : List ByteArray).length = 1 from rfl] at c0 CF
      cases hx : x.toList.isEmpty with
      | true =>
        have hxn : x.data.toList = [] := by have := List.isEmpty_iff.1 hx; rwa [Lib.toList_data] at this
        cases q with
        | false =>
          rw [endP_none hxn]
          go_enter Tryz.func51, Tryz.ntmps51
          go_wp2_with (go_at_call 37; (with_reducible refine (CF.out _).mono ?_); rintro e w3 ⟨rfl, rfl⟩)
          go_ret2
          exact ⟨World.grownBy.refl _ _, _, [], rfl, tx_nilP _, rfl, fun k hk => by simp [Value.ownBlock] at hk⟩
        | true =>
          rw [endP_ok h40 (by simp)]
          go_enter Tryz.func51, Tryz.ntmps51
          go_wp2_with (go_at_call 37; (with_reducible refine (CF.out _).mono ?_); rintro e w3 ⟨rfl, rfl⟩)
          go_ret2
          exact ⟨World.grownBy.refl _ _, _, [x], rfl, HT.out, rfl, fun k hk => hk⟩
      | false =>
        have hxn : x.data.toList ≠ [] := fun e => by rw [← Lib.toList_data] at e; rw [e] at hx; simp at hx
        rw [endP_ok h40 (fun ⟨h, _⟩ => hxn (List.cons.inj h).1)]
        go_enter Tryz.func51, Tryz.ntmps51
        go_wp2_with (go_at_call 37; (with_reducible refine (CF.out _).mono ?_); rintro e w3 ⟨rfl, rfl⟩)
        go_ret2
        exact ⟨World.grownBy.refl _ _, _, [x], rfl, HT.out, rfl, fun k hk => hk⟩
    · rw [endP_ok h40 (fun ⟨h, _⟩ => h1 (by have := congrArg List.length h; simpa using this))]
      go_enter Tryz.func51, Tryz.ntmps51
      go_wp2_with (go_at_call 37; (with_reducible refine (CF.out _).mono ?_); rintro e w3 ⟨rfl, rfl⟩)
      go_ret2
      exact ⟨World.grownBy.refl _ _, _, P, rfl, HT.out, rfl, fun k hk => hk⟩
end Go.Proofs.YtcmfmfkpmgoieaaGreatDoor
