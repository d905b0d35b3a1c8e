/- General: an append to a row that the call has made, and where the new row lies: in the old block or in a new one. What a piece gives, the document's way: the outputs, the variables, the pieces of layer 17. The document's words of pieces: a word, all words. -/
import Derived.Laws.AppendOwn
import Derived.Laws.OwnMore
import Derived.Test.YtcmfmfkpmgoieaaGreatDoorExBy
import Derived.Test.YtcmfmfkpmgoieaaGreatDoorEvGet
import Derived.Test.YtcmfmfkpmgoieaaGreatDoorLxPc
import Derived.Test.YtcmfmfkpmgoieaaGreatDoorSbDoc
import Derived.Test.YtcmfmfkpmgoieaaGreatDoorQtSplit
import Derived.Deep.RegionHeld3
import Derived.StillTactics
namespace Go
section
variable {P : Program}
theorem run_append_far (w : World) (base : Nat) (t ty e : TypeId) (i : TypeInfo) (z : Value) (size bytes : Nat) (ht : P.underlying t = some (.slice e)) (hi : P.info? e = some i) (hz : i.zero = some z)
    (hsize : i.size = size) (hby : i.bytes = bytes) (hzs : z.cells.size = size) (hsz : 0 < size)
    (v : Value) (n : Nat) (xs : List Value) (hown : w.ownsRow base e size v n xs)
    (a : Addr) (m c : Nat) (news : List Value) (hl : news.length = m * size) (hnews : ∀ j u, news[j]? = some u → w.cell? (a.add j) = some u) (h1 : ∀ u ∈ news, u.oneCell' = true)
    (h63 : n + m ≤ maxLen) (hbytes : (n + m) * bytes ≤ 140737488355328) (hbase : base ≤ w.heap.size) :
    ∃ v' w', (Builtin.append_ #[t, t] ty #[v, .slice (some a) m c]).run P w = .ok v' w' ∧ w'.ownsRow base e size v' (n + m) (xs ++ news) ∧ w.grownBy w' v.ownBlock ∧
      ∀ k, v'.ownBlock = some k → v.ownBlock = some k ∨ w.heap.size ≤ k := by
  obtain ⟨v1, w1, hr, h2, h3, h4⟩ := run_append_own (P := P) w base t ty e i z size bytes ht hi hz hsize hby hzs hsz v n xs hown a m c news hl hnews h1 h63 hbytes hbase
  refine ⟨v1, w1, hr, h2, h3, ?_⟩
  subst hsize hby
  have hsmall : n + m ≤ 9223372036854775807 := by simp only [maxLen] at h63; omega
  rcases hown.2 with ⟨rfl, rfl⟩ | ⟨g, cap, cur, rfl, hbg, hg, hnc, hcm, hcs, htake⟩
  · by_cases hm : m = 0
    · obtain rfl := h4.2 ⟨rfl, hm⟩
      intro k hk; simp [Value.ownBlock] at hk
    · have hr2 := run_append_nil (P := P) w t ty e i z ht hi hz a m c news hl hnews (by omega) (by omega) (by have hb := hbytes; simp only [Nat.zero_add] at hb; omega)
      rw [hr] at hr2
      injection hr2 with e1 e2
      subst e1
      intro k hk
      simp [Value.ownBlock] at hk
      right; omega
  · by_cases hroom : n + m ≤ cap
    · have hfit : n * i.size + news.length ≤ cur.size := by rw [hl, hcs, ← Nat.add_mul]; exact Nat.mul_le_mul_right _ hroom
      have hr2 := run_append_room (P := P) w t ty e i ht hi g n cap cur hg a m c news hl hnews h1 hroom hfit
      rw [hr] at hr2
      injection hr2 with e1 e2
      subst e1
      intro k hk
      left; exact hk
    · have hr2 := run_append_grow (P := P) w t ty e i z ht hi hz ⟨g, 0, none⟩ n cap xs hown.1 (hown.cells (g := g) rfl) a m c news hl hnews (by omega) (by omega) (growslice_fits (by omega) hbytes)
      rw [hr] at hr2
      injection hr2 with e1 e2
      subst e1
      intro k hk
      simp [Value.ownBlock] at hk
      right; omega
theorem wpList_append_far {w : World} {ops : Array Oper} {rest : List Oper} {o : Oper} {a : Act} {Q : Exit → Act → World → Prop} (hgd : o.guard = none) (s x : Operand) (t : TypeId)
    (ho : o.op = .call { callee := .builtin .append, args := #[s, x], argTypes := #[t, t] })
    (base : Nat) (e : TypeId) (i : TypeInfo) (z : Value) (size bytes : Nat) (ht : P.underlying t = some (.slice e)) (hi : P.info? e = some i) (hz : i.zero = some z)
    (hsize : i.size = size) (hby : i.bytes = bytes) (hzs : z.cells.size = size) (hsz : 0 < size)
    (v : Value) (n : Nat) (xs : List Value) (hs : a.eval s = v) (hown : w.ownsRow base e size v n xs)
    (ad : Addr) (m c : Nat) (news : List Value) (hx : a.eval x = .slice (some ad) m c) (hl : news.length = m * size) (hnews : ∀ j u, news[j]? = some u → w.cell? (ad.add j) = some u) (h1 : ∀ u ∈ news, u.oneCell' = true)
    (h63 : n + m ≤ maxLen) (hbytes : (n + m) * bytes ≤ 140737488355328) (hbase : base ≤ w.heap.size)
    (h : ∀ v' w', w'.ownsRow base e size v' (n + m) (xs ++ news) → w.grownBy w' v.ownBlock → (∀ k, v'.ownBlock = some k → v.ownBlock = some k ∨ w.heap.size ≤ k) → wpList P ops Q rest (a.put o.dst v') w') : wpList P ops Q (o :: rest) a w :=
  wpList_plain hgd fun K hK => by
    obtain ⟨v', w', hr, h2, h3, h4⟩ := run_append_far (P := P) w base t o.type e i z size bytes ht hi hz hsize hby hzs hsz v n xs hown ad m c news hl hnews h1 h63 hbytes hbase
    have hgo := hK _ _ (h v' w' h2 h3 h4)
    unfold Oper.wp execOp
    simp only [ho, resolve, invoke, builtin, Sem.run_bind, Sem.run_pure, Result.andThen_ok, List.map_toArray, List.map_cons, List.map_nil, hs, hx, hr]
    exact hgo
end
end Go

namespace Go.Proofs.YtcmfmfkpmgoieaaGreatDoor
open Go.RowKit

/-- the words of a name among variables -/
def wsV (L : List Vb) (s : ByteArray) : List ByteArray := ((L.find? (isB s)).map Vb.ws).getD []
/-- no variable has too many words, none too long -/
def SzV (L : List Vb) : Prop := ∀ v ∈ L, v.ws.length ≤ 60 ∧ ∀ t ∈ v.ws, t.size ≤ 200
theorem wsV_size {L : List Vb} (h : SzV L) (s : ByteArray) : (wsV L s).length ≤ 60 ∧ ∀ t ∈ wsV L s, t.size ≤ 200 := by
  unfold wsV
  cases hf : L.find? (isB s) with
  | none => exact ⟨Nat.zero_le _, fun t ht => by simp at ht⟩
  | some v => exact h v (List.mem_of_find?_eq_some hf)
theorem wsV_got (Z : List Vz) (s : ByteArray) : (gotZ Z s).ws = wsV (vbL Z) s := by
  unfold wsV gotZ
  rw [vb_find]
  cases Z.find? fun x => decide (x.n = s) <;> rfl
/-- no output is too long to be split -/
def SmT (O : List Ot) : Prop := ∀ x ∈ O, x.t.size ≤ 5000
theorem SmT.find {O : List Ot} (h : SmT O) {s t : ByteArray} (hf : fndO O s = some t) : t.size ≤ 5000 := by
  unfold fndO at hf
  rw [Option.map_eq_some_iff] at hf
  obtain ⟨x, hx, rfl⟩ := hf
  exact h x (List.mem_of_find?_eq_some hx)
theorem getU_row {w : World} {G : Nat → Prop} {v : Value} {l : List Vz} (h : VRow w G v l) (s : ByteArray) : TxG w G (getU l s) (wsV (vbL l) s) := by
  unfold wsV getU
  rw [vb_find]
  rcases idx_find (l := l) (s := s) with ⟨h1, h2⟩ | ⟨k, x, h1, h2, h3, h4⟩
  · rw [h1, h2]
    exact tx_nilV _ _
  · rw [h1, h4]
    simp only [h2, Option.map_some, Option.getD_some]
    obtain ⟨a, c, e, hn, ht, hc⟩ := h
    exact ht x (List.mem_of_getElem? h2)
/-- what the document's calls stand on: the variables at q, the outputs -/
structure DocW (W : World) (q : Nat) (uv : Value) (l : List Vz) (G : Nat → Prop) (ov : Value) (O : List Ot) : Prop where
  q : W.heap[q]? = some (.cells #[uv] 72 (0, 0))
  r : VRow W G uv l
  o : ORow W ov O
theorem DocW.grown {W W' : World} {q : Nat} {uv : Value} {l : List Vz} {G : Nat → Prop} {ov : Value} {O : List Ot} (h : DocW W q uv l G ov O) (g : W.grownBy W' none) : DocW W' q uv l G ov O :=
  ⟨heap_grown g h.q, h.r.keep (KeepG.grown g), h.o.grown g⟩
theorem env_cell {W : World} {q : Nat} {uv : Value} {t : TypeId} (h : W.heap[q]? = some (.cells #[uv] t (0, 0))) : W.cell? ⟨q, 0, none⟩ = some uv := by unfold World.cell?; rw [h]; rfl
/-- words and an error's number; G: where the words lie that the call hasn't made -/
def PRs (G : Nat → Prop) (x : Rs) (w : World) (e : Ending) (w' : World) : Prop :=
  w.grownBy w' none ∧ ∃ v L, e = .returned (.tuple #[v, .int .i64 (exN x)]) ∧ TxG w' (fun k => G k ∨ w.heap.size ≤ k) v L ∧ txL L = exL x
/-- a row in blocks that the call has made -/
theorem txg_of {w w' : World} {G : Nat → Prop} {v : Value} {L : List ByteArray} (h : TxRow w' v L) (hb : ∀ k, v.ownBlock = some k → w.heap.size ≤ k) : TxG w' (fun k => G k ∨ w.heap.size ≤ k) v L :=
  ⟨h, fun hne b hk => ⟨.inr (hb b hk), tx_lt h hne b hk⟩⟩
theorem txg_own {w w' : World} {G : Nat → Prop} {v : Value} {L : List ByteArray} (h : w'.ownsRow w.heap.size 9 1 v L.length (txV L)) (hm : L.length ≤ 9223372036854775807) : TxG w' (fun k => G k ∨ w.heap.size ≤ k) v L :=
  txg_of (tx_row h rfl hm) fun k hk => (h.lt k hk).1
/-- one text in a new row -/
theorem one_row (w : World) (x : ByteArray) : TxRow (w.alloc (.cells #[.string x] 9)) (.slice (some ⟨w.heap.size, 0, none⟩) 1 1) [x] := by
  refine ⟨some ⟨w.heap.size, 0, none⟩, 1, rfl, ⟨by simp, by simp⟩, fun _ => ⟨w.heap.size, 0, rfl, by simp, fun j y hy => ?_⟩⟩
  have hj : j = 0 := by have := (List.getElem?_eq_some_iff.1 hy).1; simp at this; omega
  subst hj
  simp at hy; subst hy
  simp [go_sem]
/-- the piece's box, in a world that has grown -/
def BxW (w : World) (k : Nat) (T : TypeId) (x : Pb) (W : World) : Prop := w.grownBy W none ∧ W.heap[k]? = some (.cells #[.int .i64 x.k, .string x.t, .string x.f, .string x.o] T (0, 0))
theorem BxW.cells {w W : World} {k : Nat} {T : TypeId} {x : Pb} (h : BxW w k T x W) : W.cell? ⟨k, 0, none⟩ = some (.int .i64 x.k) ∧ W.cell? ⟨k, 1, none⟩ = some (.string x.t) ∧ W.cell? ⟨k, 2, none⟩ = some (.string x.f) ∧ W.cell? ⟨k, 3, none⟩ = some (.string x.o) := four_px h.2
theorem BxW.grown {w W W' : World} {k : Nat} {T : TypeId} {x : Pb} (h : BxW w k T x W) (g : W.grownBy W' none) : BxW w k T x W' := ⟨h.1.trans g, heap_grown g h.2⟩
theorem BxW.drew {w W : World} {k : Nat} {T : TypeId} {x : Pb} (h : BxW w k T x W) : BxW w k T x W.drew := h.grown (grown_drew (World.grownBy.refl _ _))
set_option maxRecDepth 100000 in
set_option maxHeartbeats 8000000 in
theorem dPiece (q : Nat) (uv : Value) (l : List Vz) (G : Nat → Prop) (ov : Value) (O : List Ot) (p : Pb) (w : World) (hD : DocW w q uv l G ov O) (hz : SzV (vbL l)) (hf : p.f.size ≤ 200 ∧ p.o.size ≤ 200) (ho : SmT O) :
    Calls Tryz.prog 38 #[pcA p, .pointer (some ⟨q, 0, none⟩), ov] w (PRs G (pcE (wsV (vbL l)) O p) w) := by
  have HD := Lib.hid hD
  have HO := Lib.hid ho
  have HZ := Lib.hid (wsV_size hz p.t)
  obtain ⟨va, vc, rfl, -⟩ := hD.o.shape
  have B1 := Lib.hid (show BxW w w.heap.size 91 p (w.alloc (.cells #[.int .i64 p.k, .string p.t, .string p.f, .string p.o] 91)) from ⟨World.grownBy_alloc _ _ _, heap_alloc_new w _⟩)
  have CG := Lib.hid (fun (W : World) (h : BxW w w.heap.size 91 p W) => dGetV q uv l p.t G W (env_cell (HD.out.grown h.1).q) (HD.out.grown h.1).r)
  have CL := Lib.hid (fun (W : World) (h : BxW w w.heap.size 91 p W) => dListF (getU l p.t) (wsV (vbL l) p.t) p.f p.o W (getU_row (HD.out.grown h.1).r p.t).1 (by have := HZ.out.1; omega) HZ.out.2 hf.1 hf.2)
  have TG := Lib.hid (fun (W : World) (g : w.grownBy W none) => show TxG W (fun k => G k ∨ w.heap.size ≤ k) (getU l p.t) (wsV (vbL l) p.t) from (getU_row (HD.out.grown g).r p.t).more fun k h _ => .inl h)
  have HM := Lib.hid (show w.heap.size ≤ w.heap.size from Nat.le_refl _)
  obtain ⟨k, hk⟩ : ∃ k, w.heap.size = k := ⟨_, rfl⟩
  obtain ⟨pk, pt, pf, po⟩ := p
  simp only at hf HZ CG CL TG B1
  clear hD hz ho
  go_enter Tryz.func38, Tryz.ntmps38
  go_upto_region 1 with fail
  generalize w.alloc _ = w1 at B1 ⊢
  rw [hk] at B1 CG CL
  obtain ⟨c0, c1, c2, c3⟩ := B1.out.cells
  have G1 := Lib.hid (show w.grownBy w1 none from B1.out.1)
  have TF := Lib.hid (fun (W W' : World) (L : List ByteArray) (v : Value) (g : w.grownBy W none) (h : TxRow W' v L) (hb : ∀ b, v.ownBlock = some b → W.heap.size ≤ b) => show TxG W' (fun k => G k ∨ w.heap.size ≤ k) v L from txg_of h fun b hk => Nat.le_trans g.size (hb b hk))
  simp only at c0 c1 c2 c3
  by_cases h01 : pk = 0 ∨ pk = 1
  · have HP := Lib.hid (pcE_text (V := wsV (vbL l)) (O := O) (p := ⟨pk, pt, pf, po⟩) h01)
    rcases h01 with rfl | rfl <;>
    · go_wp2
      go_ret2
      rw [HP.out]
      exact ⟨B1.out.1.trans (World.grownBy_alloc _ _ _), _, [pt], rfl, txg_of (one_row w1 pt) (fun b hb => by simp [Value.ownBlock] at hb; have := B1.out.1.size; omega), rfl⟩
  · have e0 : (pk == 0) = false := by simpa using fun e => h01 (.inl e)
    have e1 : (pk == 1) = false := by simpa using fun e => h01 (.inr e)
    by_cases h2 : pk = 2
    · subst h2
      have HP := Lib.hid (pcE_var (V := wsV (vbL l)) (O := O) (p := ⟨2, pt, pf, po⟩) rfl)
      clear e0 e1
      go_wp2_with (go_at_call 52; (with_reducible refine (CG.out _ B1.out).mono ?_); rintro e w3 ⟨rfl, g3⟩)
      go_ret2
      rw [HP.out]
      exact ⟨B1.out.1.trans g3, _, _, rfl, TG.out _ (B1.out.1.trans g3), rfl⟩
    have e2 : (pk == 2) = false := by simpa using h2
    by_cases h3 : pk = 3
    · subst h3
      clear e0 e1 e2
      cases hov : (wsV (vbL l) pt).any (ovrB pf.data.toList po.data.toList)
      · have HP := Lib.hid (pcE_sub (V := wsV (vbL l)) (O := O) (p := ⟨3, pt, pf, po⟩) rfl hov)
        have CK := Lib.hid (fun (W : World) (h : BxW w k 91 ⟨3, pt, pf, po⟩ W) => (CL.out W h).mono (show ∀ e w', LstDocF pf.data.toList po.data.toList (wsV (vbL l) pt) W e w' → W.grownBy w' none ∧ ∃ v, e = .returned (.tuple #[v, .int .i64 0]) ∧ TxRow w' v (putT pf.data.toList po.data.toList (wsV (vbL l) pt)) ∧ ∀ b, v.ownBlock = some b → W.heap.size ≤ b from fun e w' ⟨g, o⟩ => ⟨g, o.resolve_left (by rw [hov]; simp) |>.2⟩))
        clear hov CL
        go_upto_region 6 with fail
        have B2 := B1.out.drew
        go_region_held3 (fun W => W.cell? ⟨k, 0, none⟩ = some (.int .i64 3) ∧ W.cell? ⟨k, 1, none⟩ = some (.string pt) ∧ W.cell? ⟨k, 2, none⟩ = some (.string pf) ∧ W.cell? ⟨k, 3, none⟩ = some (.string po))
        (first | exact BxW.cells (x := ⟨3, pt, pf, po⟩) (by assumption))
        (first
          | (go_at_call 52; refine (CG.out _ (by assumption)).mono ?_; rintro e w3 ⟨rfl, g3⟩; have B3 := BxW.grown (x := ⟨3, pt, pf, po⟩) (by assumption) g3)
          | (go_at_call 53; refine (CK.out _ (by assumption)).mono ?_; rintro e w4 ⟨g4, v4, rfl, r4, b4⟩; have B4 := BxW.grown (x := ⟨3, pt, pf, po⟩) (by assumption) g4))
        all_goals
          go_wp2
          go_ret2
          rw [HP.out]
          exact ⟨B4.1, v4, _, rfl, TF.out _ _ _ _ B3.1 r4 b4, rfl⟩
      · have HP := Lib.hid (pcE_over (V := wsV (vbL l)) (O := O) (p := ⟨3, pt, pf, po⟩) rfl hov)
        have CK := Lib.hid (fun (W : World) (h : BxW w k 91 ⟨3, pt, pf, po⟩ W) => (CL.out W h).mono (show ∀ e w', LstDocF pf.data.toList po.data.toList (wsV (vbL l) pt) W e w' → W.grownBy w' none ∧ e = .returned (.tuple #[.slice none 0 0, .int .i64 2]) from fun e w' ⟨g, o⟩ => ⟨g, (o.resolve_right (by rw [hov]; simp)).2⟩))
        clear hov CL
        go_upto_region 6 with fail
        have B2 := B1.out.drew
        go_region_held3 (fun W => W.cell? ⟨k, 0, none⟩ = some (.int .i64 3) ∧ W.cell? ⟨k, 1, none⟩ = some (.string pt) ∧ W.cell? ⟨k, 2, none⟩ = some (.string pf) ∧ W.cell? ⟨k, 3, none⟩ = some (.string po))
        (first | exact BxW.cells (x := ⟨3, pt, pf, po⟩) (by assumption))
        (first
          | (go_at_call 52; refine (CG.out _ (by assumption)).mono ?_; rintro e w3 ⟨rfl, g3⟩; have B3 := BxW.grown (x := ⟨3, pt, pf, po⟩) (by assumption) g3)
          | (go_at_call 53; refine (CK.out _ (by assumption)).mono ?_; rintro e w4 ⟨g4, rfl⟩; have B4 := BxW.grown (x := ⟨3, pt, pf, po⟩) (by assumption) g4))
        all_goals
          go_wp2
          go_ret2
          rw [HP.out]
          exact ⟨B4.1, _, [], rfl, tx_nilV _ _, rfl⟩
    have e3 : (pk == 3) = false := by simpa using h3
    by_cases h4 : pk = 4
    · subst h4
      clear e0 e1 e2 e3
      have CF := Lib.hid (fun (W : World) (g : w.grownBy W none) => dFindO pt _ O W (HD.out.grown g).o)
      cases hf : fndO O pt with
      | none =>
        have HP := Lib.hid (pcE_none (V := wsV (vbL l)) (O := O) (p := ⟨4, pt, pf, po⟩) rfl hf)
        rw [hf] at CF
        clear hf
        go_wp2_with (go_at_call 13; (with_reducible refine (CF.out _ G1.out).mono ?_); rintro e w3 ⟨rfl, g3⟩; have G3 := Lib.hid (G1.out.trans g3); clear g3)
        go_ret2
        rw [HP.out]
        exact ⟨G3.out, _, [], rfl, tx_nilV _ _, rfl⟩
      | some t =>
        have HP := Lib.hid (pcE_back (V := wsV (vbL l)) (O := O) (p := ⟨4, pt, pf, po⟩) rfl hf)
        have ht := HO.out.find hf
        rw [hf] at CF
        clear hf
        have CT := Lib.hid (fun W => dFields t W ht)
        go_wp2_with (first
          | (go_at_call 13; (with_reducible refine (CF.out _ G1.out).mono ?_); rintro e w3 ⟨rfl, g3⟩; have G3 := Lib.hid (G1.out.trans g3); clear g3)
          | (go_at_call 25; (with_reducible refine (CT.out _).mono ?_); rintro e w4 ⟨⟨v4, O4, rfl, o4, t4⟩, g4⟩; have G4 := Lib.hid (G3.out.trans g4); have Q4 := Lib.hid o4; have T4 := Lib.hid t4; clear g4 o4 t4))
        have T5 : O4.length ≤ t.size + 1 := by
          have h1 := congrArg List.length T4.out
          have h2 := fld_len t.data.toList
          rw [List.length_map] at h1
          rw [← h1] at h2
          simpa using h2
        go_ret2
        rw [HP.out]
        exact ⟨G4.out, _, _, rfl, TF.out _ _ _ _ G3.out (tx_row Q4.out rfl (by omega)) (fun b hb => (Q4.out.lt b hb).1), T4.out⟩
    · have e4 : (pk != 4) = true := by simpa using h4
      have HP := Lib.hid (pcE_kind (V := wsV (vbL l)) (O := O) (p := ⟨pk, pt, pf, po⟩) ⟨fun e => h01 (.inl e), fun e => h01 (.inr e), h2, h3, h4⟩)
      go_wp2
      go_ret2
      rw [HP.out]
      exact ⟨B1.out.1, _, [], rfl, tx_nilV _ _, rfl⟩
end Go.Proofs.YtcmfmfkpmgoieaaGreatDoor

namespace Go.Proofs.YtcmfmfkpmgoieaaGreatDoor
open Go.RowKit

theorem infoPd17 : (Tryz.prog.info? 91).map (fun i => (i.zero, i.size, i.bytes)) = some (some (.agg #[.int .i64 0, .string ⟨#[]⟩, .string ⟨#[]⟩, .string ⟨#[]⟩]), 4, 56) := by kernel_rfl
/-- a piece is not too long -/
def SmP (p : Pb) : Prop := p.t.size ≤ 5000 ∧ p.f.size ≤ 200 ∧ p.o.size ≤ 200
theorem str_empty (x : ByteArray) : ((x.size : Int) == 0) = x.data.toList.isEmpty := by
  have h : x.data.toList.length = x.size := by simp
  cases hx : x.data.toList with
  | nil => rw [hx] at h; simp at h; simp [← h]
  | cons a r =>
    rw [hx, List.length_cons] at h
    rw [List.isEmpty_cons, beq_eq_false_iff_ne]
    omega
theorem txL_take (L : List ByteArray) (m : Nat) : (txL L).take m = txL (L.take m) := List.map_take.symm
theorem txL_get {L : List ByteArray} {m : Nat} {x : ByteArray} (h : L[m]? = some x) : (txL L)[m]? = some x.data.toList := by rw [List.getElem?_map, h]; rfl
/-- a row of texts that is read: its cells -/
theorem TxG.at {w : World} {G : Nat → Prop} {v : Value} {L : List ByteArray} (h : TxG w G v L) (m : Nat) (hm : m < L.length) :
    ∃ b off c x, v = .slice (some ⟨b, off, none⟩) L.length c ∧ L[m]? = some x ∧ w.cell? ⟨b, off + m, none⟩ = some (.string x) := by
  obtain ⟨⟨a, c, e, hn, hr⟩, -⟩ := h
  obtain ⟨b, off, rfl, hb, hc⟩ := hr (by rintro rfl; simp at hm)
  have hf : L[m]? = some L[m] := List.getElem?_eq_getElem hm
  exact ⟨b, off, c, L[m], e, hf, hc m _ hf⟩
theorem end_head {D : List ByteArray} {X : ByteArray} {q : Bool} (hA : ¬(D.length = 0 ∧ X.size = 0 ∧ q = false)) : ((txL D).isEmpty && X.data.toList.isEmpty && !q) = false := by
  rw [← str_empty]
  cases D with
  | cons a D => rfl
  | nil =>
    cases hx : ((X.size : Int) == 0) with
    | false => rfl
    | true =>
      cases q with
      | true => rfl
      | false => exact (hA ⟨rfl, by simpa using hx, rfl⟩).elim
theorem end_nothing {D : List ByteArray} {X : ByteArray} (h1 : D.length = 0) (h2 : X.size = 0) : endE ((txL D, X.data.toList), false) = .ok [] := by
  have h3 : D = [] := List.length_eq_zero_iff.1 h1
  have h4 : X.data.toList.isEmpty = true := by rw [← str_empty, h2]; rfl
  subst h3
  unfold endE
  simp [List.isEmpty_iff.1 h4]
theorem end_full {D : List ByteArray} {X : ByteArray} {q : Bool} (hA : ¬(D.length = 0 ∧ X.size = 0 ∧ q = false)) (h : 40 < D.length + 1) : endE ((txL D, X.data.toList), q) = .error 10 := by
  unfold endE
  rw [end_head hA, if_neg (by simp), if_pos (by simpa using h)]
theorem end_long {D : List ByteArray} {X : ByteArray} {q : Bool} (hA : ¬(D.length = 0 ∧ X.size = 0 ∧ q = false)) (h : ¬ 40 < D.length + 1) {n : Nat} {y : ByteArray} (hy : (D ++ [X])[n]? = some y) (hb : 120 < y.size) : endE ((txL D, X.data.toList), q) = .error 2 := by
  unfold endE
  rw [end_head hA, if_neg (by simp), if_neg (by simpa using h)]
  have he : ((txL D, X.data.toList).1 ++ [(txL D, X.data.toList).2]) = txL (D ++ [X]) := by simp [txL]
  rw [if_pos]
  show (txL D ++ [X.data.toList]).any bigE = true
  rw [show txL D ++ [X.data.toList] = txL (D ++ [X]) from he]
  exact List.any_eq_true.2 ⟨_, List.mem_of_getElem? (txL_get hy), by unfold bigE; simpa using hb⟩
theorem end_good {D : List ByteArray} {X : ByteArray} {q : Bool} (hA : ¬(D.length = 0 ∧ X.size = 0 ∧ q = false)) (h : ¬ 40 < D.length + 1) (hy : ∀ y ∈ D ++ [X], y.size ≤ 120) : endE ((txL D, X.data.toList), q) = .ok (txL (D ++ [X])) := by
  unfold endE
  rw [end_head hA, if_neg (by simp), if_neg (by simpa using h)]
  have he : txL D ++ [X.data.toList] = txL (D ++ [X]) := by simp [txL]
  rw [if_neg]
  · exact congrArg _ he
  · show ¬ (txL D ++ [X.data.toList]).any bigE = true
    rw [he, Bool.not_eq_true, List.any_eq_false]
    intro z hz
    obtain ⟨y, hm, rfl⟩ := List.mem_map.1 hz
    have := hy y hm
    unfold bigE; simp; omega
set_option maxRecDepth 100000 in
set_option maxHeartbeats 8000000 in
theorem dWord17 (q : Nat) (uv : Value) (l : List Vz) (G : Nat → Prop) (ov : Value) (O : List Ot) (v : Value) (ps : List Pb) (w : World) (hD : DocW w q uv l G ov O) (hGb : ∀ k, G k → k < w.heap.size) (hz : SzV (vbL l)) (ho : SmT O)
    (hR : PRow w v ps) (hs : ∀ p ∈ ps, SmP p) (hl : ps.length ≤ 5000) :
    Calls Tryz.prog 21 #[v, .pointer (some ⟨q, 0, none⟩), ov] w (PRs G (wordE (wsV (vbL l)) O ps) w) := by
  obtain ⟨iu, hiu, hu0, hu1, hu2⟩ := info_parts infoTx
  have IU := Lib.hid hiu; have ZU0 := Lib.hid hu0; have ZU1 := Lib.hid hu1; have ZU2 := Lib.hid hu2
  have HD := Lib.hid hD; have HGb := Lib.hid hGb; have HR := Lib.hid hR; have HS := Lib.hid hs
  have CPC := Lib.hid (fun (p : Pb) (W : World) (h : SmP p) (hd : DocW W q uv l G ov O) => dPiece q uv l G ov O p W hd hz h.2 ho)
  have HPL := Lib.hid (fun (p : Pb) (L : List (List UInt8)) (h : SmP p) (e : pcE (wsV (vbL l)) O p = .ok L) => pc_le (wsV_size hz p.t) ho h.1 e)
  obtain ⟨va, vc, rfl, -⟩ := hR.shape
  obtain ⟨oa, oc, rfl, -⟩ := hD.o.shape
  obtain ⟨V, hV⟩ : ∃ V, wsV (vbL l) = V := ⟨_, rfl⟩
  rw [hV] at CPC HPL ⊢
  have O1 := Lib.hid (own_zero w 9 1 w.heap.size (Nat.le_refl _))
  have G1 := Lib.hid (World.grownBy_alloc w (.cells #[] 9) none)
  clear hiu hu0 hu1 hu2 hR hs hD hGb hV
  go_enter Tryz.func21, Tryz.ntmps21
  go_upto_region 2 with fail
  generalize w.alloc _ = w1 at O1 G1 ⊢
  obtain ⟨base, hbase⟩ : ∃ base, base = w.heap.size := ⟨_, rfl⟩
  rw [← hbase] at O1 ⊢
  have HBL := Lib.hid (show w.heap.size = base from hbase.symm)
  clear hbase
  go_wp2
  go_loopw [8, 9, 10, 13, 14, 15, 16, 22] (fun d o qd _ _ _ _ i wr => ∃ (j : Nat) (D : List ByteArray) (X : ByteArray) (qb : Bool) (da : Option Addr) (dc : Nat), j ≤ ps.length ∧ i = .int .i64 j ∧ d = .slice da D.length dc ∧ o = .string X ∧ qd = .bool qb ∧ Hid (wdS V O (ps.take j) = .ok ((txL D, X.data.toList), qb)) ∧ Hid (wr.ownsRow base 9 1 (.slice da D.length dc) D.length (txV D)) ∧ Hid (D.length ≤ 5001 * j ∧ X.size ≤ 5000 * j) ∧ Hid (w.grownBy wr none)) (fun _ _ _ _ _ _ _ i _ => ps.length - (intOf i).toNat)
  case atStart => exact ⟨0, [], ⟨#[]⟩, false, _, _, Nat.zero_le _, rfl, rfl, rfl, rfl, Lib.hid rfl, O1, Lib.hid ⟨Nat.zero_le _, Nat.zero_le _⟩, G1⟩
  case round =>
    obtain ⟨j, D, X, qb, da, dc, hj, rfl, rfl, rfl, rfl, hS, hO, hB, hG⟩ := hrel
    by_cases hlt : j < ps.length
    · obtain ⟨b, off, c, p, ev, hx, hb, c0, c1, c2, c3⟩ := (HR.out.grown hG.out).at j hlt
      injection ev with ev1 ev2 ev3
      subst ev1 ev3
      have hsp := HS.out p (List.mem_of_getElem? hx)
      have g4 := World.grownBy_alloc wr (.cells #[.int .i64 p.k, .string p.t, .string p.f, .string p.o] 91) none
      have B4 := Lib.hid (heap_alloc_new wr (.cells #[.int .i64 p.k, .string p.t, .string p.f, .string p.o] 91))
      have G4 := Lib.hid (hG.out.trans g4)
      have R4 := Lib.hid (own_kept hO.out g4)
      have HX := Lib.hid hx
      have HOL := Lib.hid (hO.out.lt)
      clear hb hG hO g4 hx
      go_upto_region 7 with fail
      generalize wr.alloc _ = w4 at B4 G4 R4 ⊢
      obtain ⟨d0, d1, d2, d3⟩ := four_px B4.out
      clear c0 c1 c2 c3
      have CP := Lib.hid (CPC.out p w4 hsp (HD.out.grown G4.out))
      obtain ⟨x, hpx⟩ : ∃ x, pcE V O p = x := ⟨_, rfl⟩
      rw [hpx] at CP
      cases x with
      | error k =>
        have hk0 := pc_num hpx
        have hkne : ((k : Int) != 0) = true := by simp; omega
        have HN := Lib.hid (show wordE V O ps = .error k from wdS_bad HX.out hS.out hpx)
        clear hpx
        go_wp2_with fail
        refine CP.out.mono ?_
        rintro e w5 ⟨g5, v5, L5, he, t5, -⟩
        rw [show exN (.error k) = k from rfl] at he
        subst he
        obtain ⟨a5, c5, rfl, -⟩ := t5.shape
        have G5 := Lib.hid (G4.out.trans g5)
        clear g5 t5 CP d0 d1 d2 d3
        go_wp2
        go_ret2
        rw [HN.out]
        exact ⟨G5.out, _, [], rfl, tx_nilV _ _, rfl⟩
      | ok L =>
        have HN := Lib.hid (wdS_go HX.out hS.out hpx)
        have HL := Lib.hid (HPL.out p L hsp hpx)
        have HK1 := Lib.hid (show p.k = p.k from rfl)
        clear hpx
        go_wp2_with fail
        refine CP.out.mono ?_
        rintro e w5 ⟨g5, v5, L5, he, t5, hL5⟩
        rw [show ((exN (.ok L) : Nat) : Int) = 0 from rfl] at he
        subst he
        have e5 : txL L5 = L := hL5
        clear hL5
        subst e5
        obtain ⟨a5, c5, rfl, -⟩ := t5.shape
        have G5 := Lib.hid (G4.out.trans g5)
        have R5 := Lib.hid (own_kept R4.out g5)
        have B5 := Lib.hid (heap_grown g5 B4.out)
        have hw4 := (Array.getElem?_eq_some_iff.1 B4.out).1
        obtain ⟨H, h1, h2, h3, h4⟩ : ∃ H : Nat → Prop, (∀ k, H k → k < w5.heap.size) ∧ (∀ k, (Value.slice da D.length dc).ownBlock = some k → ¬ H k) ∧ H wr.heap.size ∧ TxG w5 H (.slice a5 L5.length c5) L5 :=
          ⟨fun k => ((G k ∨ w4.heap.size ≤ k) ∧ k < w5.heap.size) ∨ k = wr.heap.size, fun k h => by
              rcases h with h | rfl
              · exact h.2
              · have := g5.size; omega,
            fun k hk h => by
              have h1 := HOL.out k hk
              rcases h with ⟨h2 | h2, -⟩ | h2
              · have := HGb.out k h2; have := HBL.out; omega
              · omega
              · omega,
            .inr rfl, ⟨t5.1, fun hne b hb => ⟨.inl ⟨(t5.2 hne b hb).1, (t5.2 hne b hb).2⟩, (t5.2 hne b hb).2⟩⟩⟩
        have H1 := Lib.hid h1; have H2 := Lib.hid h2; have H3 := Lib.hid h3; have H4 := Lib.hid h4
        obtain ⟨pb, hpb⟩ : ∃ pb, wr.heap.size = pb := ⟨_, rfl⟩
        rw [hpb] at B5 H3 ⊢
        clear g5 t5 CP d0 d1 d2 d3 R4 h1 h2 h3 h4 HOL hpb B4 hw4
        go_wp2
        go_loopw [8, 9, 15, 16, 38] (fun d o _ _ m wi => ∃ (n : Nat) (D' : List ByteArray) (X' : ByteArray) (da' : Option Addr) (dc' : Nat), n ≤ L5.length ∧ m = .int .i64 n ∧ d = .slice da' D'.length dc' ∧ o = .string X' ∧ Hid ((txL D', X'.data.toList) = goD (txL D, X.data.toList) (txL (L5.take n))) ∧ Hid (wi.ownsRow base 9 1 (.slice da' D'.length dc') D'.length (txV D') ∧ ∀ k, (Value.slice da' D'.length dc').ownBlock = some k → ¬ H k) ∧ Hid (D'.length ≤ 5001 * j + n ∧ (X'.size ≤ 5000 * j ∨ X'.size ≤ 5000 * (j + 1)) ∧ (n = 0 → X'.size ≤ 5000 * j)) ∧ Hid (KeepG H w5 wi) ∧ Hid (w.grownBy wi none)) (fun _ _ _ _ m _ => L5.length - (intOf m).toNat)
        case atStart => exact ⟨0, D, X, da, dc, Nat.zero_le _, rfl, rfl, rfl, Lib.hid rfl, Lib.hid ⟨R5.out, H2.out⟩, Lib.hid ⟨hB.out.1, .inl hB.out.2, fun _ => hB.out.2⟩, Lib.hid (KeepG.refl _ _), G5⟩
        case round =>
          obtain ⟨n, D', X', da', dc', hn, rfl, rfl, rfl, hS', hO', hB', hK', hG'⟩ := hrel
          by_cases hlt' : n < L5.length
          · obtain ⟨b1, off1, c1, y, ev, hy, hcell⟩ := (H4.out.keep hK'.out).at n hlt'
            injection ev with ev1 ev2 ev3
            subst ev1 ev3
            have hy5 : y.size ≤ 5000 := by have := HL.out.2 _ (List.mem_of_getElem? (txL_get hy)); simpa using this
            have hL5 : L5.length ≤ 5001 := by have := HL.out.1; simpa using this
            have HGO := Lib.hid (show goD (txL D, X.data.toList) (txL (L5.take (n + 1))) = stpS (decide (0 < n)) (txL D', X'.data.toList) y.data.toList by
              rw [← txL_take, go_take (txL_get hy), txL_take, hS'.out])
            have hbD := hB'.out.1
            have hbX : X'.size ≤ 5000 * (j + 1) := by have := hB'.out.2.1; omega
            have hj5 : j ≤ 5000 := by omega
            clear hy hS'
            by_cases hn0 : 0 < n
            · have HN2 := Lib.hid (show (txL (D' ++ [X']), y.data.toList) = goD (txL D, X.data.toList) (txL (L5.take (n + 1))) by rw [HGO.out, decide_eq_true hn0]; unfold stpS; simp)
              have e0 : (ByteArray.mk #[] ++ y) = y := bytes_inj (by simp)
              have z0 : (ByteArray.mk #[] ++ y).size ≤ 5000 := by rw [e0]; exact hy5
              clear HGO
              go_wp2_with (at_builtin; refine wpList_append_far rfl _ _ 30 rfl base 9 iu _ 1 16 Tryz.underlying30 IU.out ZU0.out ZU1.out ZU2.out rfl (by decide) _ _ _ rfl (hO'.out.1.alloc _) ⟨_, 0, none⟩ 1 1 [.string X'] rfl rfl (tx_new _ _ _ _ (by simp)) (tx_one _) (by unfold maxLen; omega) (by omega) (by have := hG'.out.size; have := HBL.out; simp; omega) ?_; intro v9 w9 hown9 hgrow9 hfar9; have G9 := Lib.hid ((hG'.out.trans (World.grownBy_alloc _ _ _)).andThen hgrow9 (fun k hk => .inl (by have := (hO'.out.1.lt k hk).1; have := HBL.out; omega))); have O9 := Lib.hid hown9; have K9 := Lib.hid ((hK'.out.trans (KeepG.grown (World.grownBy_alloc _ _ none))).trans ⟨hgrow9.size, fun b hb hlb => hgrow9.block b hlb (fun e => hO'.out.2 b e.symm hb)⟩); have F9 := Lib.hid (show ∀ k, v9.ownBlock = some k → ¬ H k from fun k hk h => by
                rcases hfar9 k hk with h1 | h1
                · exact hO'.out.2 k h1 h
                · have := H1.out k h; have := hK'.out.1; have := (World.grownBy_alloc wr (.cells #[.string X'] 9) none).size; omega); clear hown9 hgrow9 hfar9)
              obtain ⟨va9, vc9, rfl⟩ := tx_shape O9.out
              have HL2 := Lib.hid (show (D' ++ [X']).length = D'.length + 1 by simp)
              have OA := Lib.hid (show w9.ownsRow base 9 1 (.slice va9 (D' ++ [X']).length vc9) (D' ++ [X']).length (txV (D' ++ [X'])) ∧ ∀ k, (Value.slice va9 (D' ++ [X']).length vc9).ownBlock = some k → ¬ H k from ⟨by rw [HL2.out, txV, List.map_append]; exact O9.out, by rw [HL2.out]; exact F9.out⟩)
              go_wp2
              go_roundw
              case rel => exact ⟨n + 1, D' ++ [X'], y, va9, vc9, hlt', by go_num, by rw [HL2.out], rfl, HN2, OA, Lib.hid ⟨by rw [HL2.out]; omega, .inr (by omega), fun h => by omega⟩, K9, G9⟩
              case measure => simp [intOf]; omega
            · have hn00 : n = 0 := by omega
              have hX0 := hB'.out.2.2 hn00
              have hcell0 : wr.cell? ⟨b1, off1, none⟩ = some (.string y) := by have := hcell; rwa [hn00, Nat.add_zero] at this
              have HN2 := Lib.hid (show (txL D', (X' ++ y).data.toList) = goD (txL D, X.data.toList) (txL (L5.take (n + 1))) by rw [HGO.out, decide_eq_false hn0]; unfold stpS; simp)
              have hz : (X' ++ y).size ≤ 5000 * (j + 1) := by simp only [ByteArray.size_append]; omega
              clear HGO
              go_wp2
              go_roundw
              case rel => exact ⟨n + 1, D', X' ++ y, da', dc', hlt', by go_num, rfl, rfl, HN2, hO', Lib.hid ⟨by omega, .inr hz, fun h => by omega⟩, hK', hG'⟩
              case measure => simp [intOf]; omega
          · obtain rfl : n = L5.length := by omega
            have hL5 : L5.length ≤ 5001 := by have := HL.out.1; simpa using this
            have hbD := hB'.out.1
            have hbX : X'.size ≤ 5000 * (j + 1) := by have := hB'.out.2.1; omega
            have HB2 := Lib.hid (show D'.length ≤ 5001 * (j + 1) ∧ X'.size ≤ 5000 * (j + 1) from ⟨by omega, hbX⟩)
            have HS2 := Lib.hid (show (txL D', X'.data.toList) = goD (txL D, X.data.toList) (txL L5) by have := hS'.out; rwa [List.take_of_length_le (Nat.le_refl _)] at this)
            have B6 := Lib.hid (show wr.heap[pb]? = some (.cells #[.int .i64 p.k, .string p.t, .string p.f, .string p.o] 91 (0, 0)) from (hK'.out.2 pb H3.out (H1.out pb H3.out)).trans B5.out)
            obtain ⟨d0, d1, d2, d3⟩ := four_px B6.out
            have HO2 := Lib.hid hO'.out.1
            clear hS' hO' hB' hK' hbD hbX hL5
            cases qb with
            | true =>
              have HW := Lib.hid (show wdS V O (ps.take (j + 1)) = .ok ((txL D', X'.data.toList), true) by rw [HN.out, HS2.out]; rfl)
              go_wp2
              go_roundw
              case rel => exact ⟨j + 1, D', X', true, da', dc', hlt, by go_num, rfl, rfl, rfl, HW, HO2, HB2, hG'⟩
              case measure => simp [intOf]; omega
            | false =>
              by_cases hk1 : p.k = 1
              · have e1 : (p.k == 1) = true := by rw [hk1]; rfl
                have HW := Lib.hid (show wdS V O (ps.take (j + 1)) = .ok ((txL D', X'.data.toList), true) by rw [HN.out, HS2.out, decide_eq_true hk1]; rfl)
                go_wp2
                go_roundw
                case rel => exact ⟨j + 1, D', X', true, da', dc', hlt, by go_num, rfl, rfl, rfl, HW, HO2, HB2, hG'⟩
                case measure => simp [intOf]; omega
              · have e1 : (p.k == 1) = false := by simpa using hk1
                have HW := Lib.hid (show wdS V O (ps.take (j + 1)) = .ok ((txL D', X'.data.toList), false) by rw [HN.out, HS2.out, decide_eq_false hk1]; rfl)
                go_wp2
                go_roundw
                case rel => exact ⟨j + 1, D', X', false, da', dc', hlt, by go_num, rfl, rfl, rfl, HW, HO2, HB2, hG'⟩
                case measure => simp [intOf]; omega
    · have HN := Lib.hid (show wordE V O ps = endE ((txL D, X.data.toList), qb) by
        have := hS.out
        rw [List.take_of_length_le (by omega)] at this
        unfold wordE; rw [this])
      have hbD := hB.out.1
      have hbX := hB.out.2
      have hj5 : j ≤ 5000 := by omega
      clear hS hB
      by_cases hA : D.length = 0 ∧ X.size = 0 ∧ qb = false
      · obtain ⟨hA1, hA2, rfl⟩ := hA
        have hE := end_nothing (D := D) (X := X) hA1 hA2
        rw [hE] at HN
        clear hE
        go_wp2
        go_ret2
        rw [HN.out]
        exact ⟨hG.out, _, [], rfl, tx_nilV _ _, rfl⟩
      have HA := Lib.hid hA
      have hcase : D.length ≠ 0 ∨ (D.length = 0 ∧ X.size ≠ 0) ∨ (D.length = 0 ∧ X.size = 0 ∧ qb = true) := by
        by_cases h1 : D.length = 0
        · by_cases h2 : X.size = 0
          · right; right
            refine ⟨h1, h2, ?_⟩
            cases qb with
            | true => rfl
            | false => exact (hA ⟨h1, h2, rfl⟩).elim
          · exact .inr (.inl ⟨h1, h2⟩)
        · exact .inl h1
      clear hA
      have HO9 := Lib.hid hO.out
      have eD : ((D.length : Int) == 0) = decide (D.length = 0) := by rw [Bool.eq_iff_iff]; simp
      have eX : ((X.size : Int) == 0) = decide (X.size = 0) := by rw [Bool.eq_iff_iff]; simp
      rcases hcase with h1 | ⟨h1, h2⟩ | ⟨h1, h2, rfl⟩
      · rw [decide_eq_false h1] at eD
        clear eX
        go_upto_region 23 with (at_builtin; refine wpList_append_own _ rfl _ _ 30 rfl base 9 iu _ 1 16 Tryz.underlying30 IU.out ZU0.out ZU1.out ZU2.out rfl (by decide) _ _ _ rfl (hO.out.alloc _) ⟨_, 0, none⟩ 1 1 [.string X] rfl rfl (tx_new _ _ _ _ (by simp)) (tx_one _) (by unfold maxLen; omega) (by omega) (by have := hG.out.size; have := HBL.out; simp; omega) ?_; intro v9 w9 hown9 hgrow9 _; have G9 := Lib.hid ((hG.out.trans (World.grownBy_alloc _ _ _)).andThen hgrow9 (fun k hk => .inl (by have := (hO.out.lt k hk).1; have := HBL.out; omega))); have O9 := Lib.hid hown9; clear hown9 hgrow9)
        have HL2 := Lib.hid (show (D ++ [X]).length = D.length + 1 by simp)
        have OB := Lib.hid (show w9.ownsRow base 9 1 v9 (D ++ [X]).length (txV (D ++ [X])) by rw [HL2.out, txV, List.map_append]; exact O9.out)
        have HA1 := Lib.hid (fun h => end_full (D := D) (X := X) HA.out h)
        have HA2 := Lib.hid (fun (h : ¬ 40 < D.length + 1) (n : Nat) (y : ByteArray) (hy : (D ++ [X])[n]? = some y) (hb : 120 < y.size) => end_long (D := D) (X := X) HA.out h hy hb)
        have HA3 := Lib.hid (fun (h : ¬ 40 < D.length + 1) (hy : ∀ y ∈ D ++ [X], y.size ≤ 120) => end_good (D := D) (X := X) HA.out h hy)
        rw [← HL2.out] at HA1 HA2 HA3
        have hE5 : (D ++ [X]).length ≤ 5001 * 5000 + 1 := by rw [HL2.out]; omega
        clear O9 HL2 HA
        generalize D ++ [X] = E at OB HA1 HA2 HA3 hE5
        obtain ⟨va9, vc9, rfl⟩ := tx_shape OB.out
        by_cases h40 : 40 < E.length
        · have hE := HA1.out h40
          rw [hE] at HN
          clear hE
          go_wp2
          go_ret2
          rw [HN.out]
          exact ⟨G9.out, _, [], rfl, tx_nilV _ _, rfl⟩
        · have TR := Lib.hid (show TxG w9 (fun k => G k ∨ w.heap.size ≤ k) (.slice va9 E.length vc9) E from txg_of (tx_row OB.out rfl (by omega)) (fun k hk => by have := (OB.out.lt k hk).1; have := HBL.out; omega))
          go_wp2
          go_loopw [18, 81] (fun _ m wi => ∃ n : Nat, n ≤ E.length ∧ m = .int .i64 n ∧ Hid (∀ i y, i < n → E[i]? = some y → y.size ≤ 120) ∧ w9 = wi) (fun _ m _ => E.length - (intOf m).toNat)
          case atStart => exact ⟨0, Nat.zero_le _, rfl, Lib.hid (fun i y h => by omega), rfl⟩
          case round =>
            obtain ⟨n, hn, rfl, hI, rfl⟩ := hrel
            by_cases hlt' : n < E.length
            · obtain ⟨b1, off1, c1, y, ev, hy, hcell⟩ := TR.out.at n hlt'
              injection ev with ev1 ev2 ev3
              subst ev1 ev3
              have HY := Lib.hid hy
              clear hy
              by_cases hy1 : 120 < y.size
              · have hE := HA2.out h40 n y HY.out hy1
                rw [hE] at HN
                clear hE
                go_wp2
                go_ret2
                rw [HN.out]
                exact ⟨G9.out, _, [], rfl, tx_nilV _ _, rfl⟩
              · have HI2 := Lib.hid (show ∀ i y, i < n + 1 → E[i]? = some y → y.size ≤ 120 from fun i z hi hz => by
                  rcases Nat.lt_succ_iff_lt_or_eq.1 hi with h1 | rfl
                  · exact hI.out i z h1 hz
                  · rw [HY.out] at hz; cases hz; omega)
                go_wp2
                go_roundw
                case rel => exact ⟨n + 1, hlt', by go_num, HI2, trivial⟩
                case measure => simp [intOf]; omega
            · have hE := HA3.out h40 (fun y hy => by
                obtain ⟨i, hi⟩ := List.getElem?_of_mem hy
                exact hI.out i y (by have := (List.getElem?_eq_some_iff.1 hi).1; omega) hi)
              rw [hE] at HN
              clear hE
              go_wp2
              go_ret2
              rw [HN.out]
              exact ⟨G9.out, _, E, rfl, by have := TR.out; exact this, rfl⟩
      · rw [decide_eq_true h1] at eD
        rw [decide_eq_false h2] at eX
        go_upto_region 23 with (at_builtin; refine wpList_append_own _ rfl _ _ 30 rfl base 9 iu _ 1 16 Tryz.underlying30 IU.out ZU0.out ZU1.out ZU2.out rfl (by decide) _ _ _ rfl (hO.out.alloc _) ⟨_, 0, none⟩ 1 1 [.string X] rfl rfl (tx_new _ _ _ _ (by simp)) (tx_one _) (by unfold maxLen; omega) (by omega) (by have := hG.out.size; have := HBL.out; simp; omega) ?_; intro v9 w9 hown9 hgrow9 _; have G9 := Lib.hid ((hG.out.trans (World.grownBy_alloc _ _ _)).andThen hgrow9 (fun k hk => .inl (by have := (hO.out.lt k hk).1; have := HBL.out; omega))); have O9 := Lib.hid hown9; clear hown9 hgrow9)
        have HL2 := Lib.hid (show (D ++ [X]).length = D.length + 1 by simp)
        have OB := Lib.hid (show w9.ownsRow base 9 1 v9 (D ++ [X]).length (txV (D ++ [X])) by rw [HL2.out, txV, List.map_append]; exact O9.out)
        have HA1 := Lib.hid (fun h => end_full (D := D) (X := X) HA.out h)
        have HA2 := Lib.hid (fun (h : ¬ 40 < D.length + 1) (n : Nat) (y : ByteArray) (hy : (D ++ [X])[n]? = some y) (hb : 120 < y.size) => end_long (D := D) (X := X) HA.out h hy hb)
        have HA3 := Lib.hid (fun (h : ¬ 40 < D.length + 1) (hy : ∀ y ∈ D ++ [X], y.size ≤ 120) => end_good (D := D) (X := X) HA.out h hy)
        rw [← HL2.out] at HA1 HA2 HA3
        have hE5 : (D ++ [X]).length ≤ 5001 * 5000 + 1 := by rw [HL2.out]; omega
        clear O9 HL2 HA
        generalize D ++ [X] = E at OB HA1 HA2 HA3 hE5
        obtain ⟨va9, vc9, rfl⟩ := tx_shape OB.out
        by_cases h40 : 40 < E.length
        · have hE := HA1.out h40
          rw [hE] at HN
          clear hE
          go_wp2
          go_ret2
          rw [HN.out]
          exact ⟨G9.out, _, [], rfl, tx_nilV _ _, rfl⟩
        · have TR := Lib.hid (show TxG w9 (fun k => G k ∨ w.heap.size ≤ k) (.slice va9 E.length vc9) E from txg_of (tx_row OB.out rfl (by omega)) (fun k hk => by have := (OB.out.lt k hk).1; have := HBL.out; omega))
          go_wp2
          go_loopw [18, 81] (fun _ m wi => ∃ n : Nat, n ≤ E.length ∧ m = .int .i64 n ∧ Hid (∀ i y, i < n → E[i]? = some y → y.size ≤ 120) ∧ w9 = wi) (fun _ m _ => E.length - (intOf m).toNat)
          case atStart => exact ⟨0, Nat.zero_le _, rfl, Lib.hid (fun i y h => by omega), rfl⟩
          case round =>
            obtain ⟨n, hn, rfl, hI, rfl⟩ := hrel
            by_cases hlt' : n < E.length
            · obtain ⟨b1, off1, c1, y, ev, hy, hcell⟩ := TR.out.at n hlt'
              injection ev with ev1 ev2 ev3
              subst ev1 ev3
              have HY := Lib.hid hy
              clear hy
              by_cases hy1 : 120 < y.size
              · have hE := HA2.out h40 n y HY.out hy1
                rw [hE] at HN
                clear hE
                go_wp2
                go_ret2
                rw [HN.out]
                exact ⟨G9.out, _, [], rfl, tx_nilV _ _, rfl⟩
              · have HI2 := Lib.hid (show ∀ i y, i < n + 1 → E[i]? = some y → y.size ≤ 120 from fun i z hi hz => by
                  rcases Nat.lt_succ_iff_lt_or_eq.1 hi with h1 | rfl
                  · exact hI.out i z h1 hz
                  · rw [HY.out] at hz; cases hz; omega)
                go_wp2
                go_roundw
                case rel => exact ⟨n + 1, hlt', by go_num, HI2, trivial⟩
                case measure => simp [intOf]; omega
            · have hE := HA3.out h40 (fun y hy => by
                obtain ⟨i, hi⟩ := List.getElem?_of_mem hy
                exact hI.out i y (by have := (List.getElem?_eq_some_iff.1 hi).1; omega) hi)
              rw [hE] at HN
              clear hE
              go_wp2
              go_ret2
              rw [HN.out]
              exact ⟨G9.out, _, E, rfl, by have := TR.out; exact this, rfl⟩
      · rw [decide_eq_true h1] at eD
        rw [decide_eq_true h2] at eX
        go_upto_region 23 with (at_builtin; refine wpList_append_own _ rfl _ _ 30 rfl base 9 iu _ 1 16 Tryz.underlying30 IU.out ZU0.out ZU1.out ZU2.out rfl (by decide) _ _ _ rfl (hO.out.alloc _) ⟨_, 0, none⟩ 1 1 [.string X] rfl rfl (tx_new _ _ _ _ (by simp)) (tx_one _) (by unfold maxLen; omega) (by omega) (by have := hG.out.size; have := HBL.out; simp; omega) ?_; intro v9 w9 hown9 hgrow9 _; have G9 := Lib.hid ((hG.out.trans (World.grownBy_alloc _ _ _)).andThen hgrow9 (fun k hk => .inl (by have := (hO.out.lt k hk).1; have := HBL.out; omega))); have O9 := Lib.hid hown9; clear hown9 hgrow9)
        have HL2 := Lib.hid (show (D ++ [X]).length = D.length + 1 by simp)
        have OB := Lib.hid (show w9.ownsRow base 9 1 v9 (D ++ [X]).length (txV (D ++ [X])) by rw [HL2.out, txV, List.map_append]; exact O9.out)
        have HA1 := Lib.hid (fun h => end_full (D := D) (X := X) HA.out h)
        have HA2 := Lib.hid (fun (h : ¬ 40 < D.length + 1) (n : Nat) (y : ByteArray) (hy : (D ++ [X])[n]? = some y) (hb : 120 < y.size) => end_long (D := D) (X := X) HA.out h hy hb)
        have HA3 := Lib.hid (fun (h : ¬ 40 < D.length + 1) (hy : ∀ y ∈ D ++ [X], y.size ≤ 120) => end_good (D := D) (X := X) HA.out h hy)
        rw [← HL2.out] at HA1 HA2 HA3
        have hE5 : (D ++ [X]).length ≤ 5001 * 5000 + 1 := by rw [HL2.out]; omega
        clear O9 HL2 HA
        generalize D ++ [X] = E at OB HA1 HA2 HA3 hE5
        obtain ⟨va9, vc9, rfl⟩ := tx_shape OB.out
        by_cases h40 : 40 < E.length
        · have hE := HA1.out h40
          rw [hE] at HN
          clear hE
          go_wp2
          go_ret2
          rw [HN.out]
          exact ⟨G9.out, _, [], rfl, tx_nilV _ _, rfl⟩
        · have TR := Lib.hid (show TxG w9 (fun k => G k ∨ w.heap.size ≤ k) (.slice va9 E.length vc9) E from txg_of (tx_row OB.out rfl (by omega)) (fun k hk => by have := (OB.out.lt k hk).1; have := HBL.out; omega))
          go_wp2
          go_loopw [18, 81] (fun _ m wi => ∃ n : Nat, n ≤ E.length ∧ m = .int .i64 n ∧ Hid (∀ i y, i < n → E[i]? = some y → y.size ≤ 120) ∧ w9 = wi) (fun _ m _ => E.length - (intOf m).toNat)
          case atStart => exact ⟨0, Nat.zero_le _, rfl, Lib.hid (fun i y h => by omega), rfl⟩
          case round =>
            obtain ⟨n, hn, rfl, hI, rfl⟩ := hrel
            by_cases hlt' : n < E.length
            · obtain ⟨b1, off1, c1, y, ev, hy, hcell⟩ := TR.out.at n hlt'
              injection ev with ev1 ev2 ev3
              subst ev1 ev3
              have HY := Lib.hid hy
              clear hy
              by_cases hy1 : 120 < y.size
              · have hE := HA2.out h40 n y HY.out hy1
                rw [hE] at HN
                clear hE
                go_wp2
                go_ret2
                rw [HN.out]
                exact ⟨G9.out, _, [], rfl, tx_nilV _ _, rfl⟩
              · have HI2 := Lib.hid (show ∀ i y, i < n + 1 → E[i]? = some y → y.size ≤ 120 from fun i z hi hz => by
                  rcases Nat.lt_succ_iff_lt_or_eq.1 hi with h1 | rfl
                  · exact hI.out i z h1 hz
                  · rw [HY.out] at hz; cases hz; omega)
                go_wp2
                go_roundw
                case rel => exact ⟨n + 1, hlt', by go_num, HI2, trivial⟩
                case measure => simp [intOf]; omega
            · have hE := HA3.out h40 (fun y hy => by
                obtain ⟨i, hi⟩ := List.getElem?_of_mem hy
                exact hI.out i y (by have := (List.getElem?_eq_some_iff.1 hi).1; omega) hi)
              rw [hE] at HN
              clear hE
              go_wp2
              go_ret2
              rw [HN.out]
              exact ⟨G9.out, _, E, rfl, by have := TR.out; exact this, rfl⟩
end Go.Proofs.YtcmfmfkpmgoieaaGreatDoor
