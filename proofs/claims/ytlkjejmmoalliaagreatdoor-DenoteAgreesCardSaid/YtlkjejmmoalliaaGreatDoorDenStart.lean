/- What a value does that is steps: each of them, one behind the other. All steps at a place, those too that come to it by others. doAllHere walked. The walk as ends starts it. -/
import Derived.Test.YtlkjejmmoalliaaGreatDoorDenDoB
import Derived.Test.YtlkjejmmoalliaaGreatDoorDenDoC
import Derived.Test.YtlkjejmmoalliaaGreatDoorDenDo
import Derived.Deep.RegionLaw
import Derived.Test.YtlkjejmmoalliaaGreatDoorRexB
import Derived.Test.YtlkjejmmoalliaaGreatDoorDenCat
namespace Go.Proofs.YtlkjejmmoalliaaGreatDoor
open Go.RowKit

section
variable {w0 wb w : World} {base P Lb p fr u : Nat} {s : ByteArray} {G : List Pr} {X : List (Value × Option Nat)} {fz : Nat → Prop} {F : List (Nat × Nat)} {st : List Nat} {o : Option Nat} {v : Value}
/-- a function that a call enters -/
abbrev EnterF (f : Nat) : Prop := ∀ args w, (callFunc f args).run Tryz.prog w = .ok (.enter f args) w
/-- any step -/
theorem doPrim (h : ExW w0 wb base P Lb s G X fz st fr p F w) (hF : F.length ≤ 100000) (h0 : G[0]? = some .add) (hx : X[u]? = some (v, o)) :
    ∃ f c, v = clo f c ∧ EnterF f ∧ Calls Tryz.prog f c w fun e w' => e = .returned (.tuple #[]) ∧ ExW w0 wb base P Lb s G X fz st fr p (ex1 G s p F u) w' := by
  obtain ⟨vh, hs', vn, ns, vl, hS⟩ := id h
  have hu : u < G.length := by rw [← hS.ln]; exact (List.getElem?_eq_some_iff.1 hx).1
  have hg : G[u]? = some G[u] := List.getElem?_eq_getElem hu
  have hr := hS.rep u _ _ hg hx
  cases e : G[u] with
  | add =>
    rw [e] at hg
    obtain rfl := hS.a0 u hg
    obtain ⟨bw, ea, -⟩ := hS.ad
    obtain ⟨f, c, e1, hC⟩ := doAdd h hF h0 hx
    rw [hx] at ea; cases ea
    cases e1
    exact ⟨_, _, rfl, enters_of Tryz.func43 (by kernel_rfl) rfl, hC⟩
  | over c t =>
    rw [e] at hg hr
    obtain ⟨f, c, e1, hC⟩ := doOver h hF hg hx
    obtain ⟨_, _, _, _, e2, -⟩ := hr
    cases e2
    cases e1
    exact ⟨_, _, rfl, enters_of Tryz.func73 (by kernel_rfl) rfl, hC⟩
  | only k t =>
    rw [e] at hg hr
    obtain ⟨f, c, e1, hC⟩ := doOnly h hF hg hx
    obtain ⟨_, _, _, _, e2, -⟩ := hr
    cases e2
    cases e1
    exact ⟨_, _, rfl, enters_of Tryz.func78 (by kernel_rfl) rfl, hC⟩
  | once t =>
    rw [e] at hg hr
    obtain ⟨f, c, e1, hC⟩ := doOnce h hF hg hx
    obtain ⟨_, _, _, _, e2, -⟩ := hr
    cases e2
    cases e1
    exact ⟨_, _, rfl, enters_of Tryz.func88 (by kernel_rfl) rfl, hC⟩
end
/-- what a call of a value does that is the steps l -/
def DoV (w0 wb : World) (base P Lb : Nat) (s : ByteArray) (G : List Pr) (X : List (Value × Option Nat)) (fz : Nat → Prop) (st : List Nat) (fr p : Nat) (v : Value) (l : List Nat) : Prop :=
  ∀ F w, F.length + l.length ≤ 100000 → ExW w0 wb base P Lb s G X fz st fr p F w → ∃ f c, v = clo f c ∧ EnterF f ∧ Calls Tryz.prog f c w fun e w' => e = .returned (.tuple #[]) ∧ ExW w0 wb base P Lb s G X fz st fr p (exL G s p F l) w'
theorem ExW.fx {w0 wb w : World} {base P Lb p fr : Nat} {s : ByteArray} {G : List Pr} {X : List (Value × Option Nat)} {fz : Nat → Prop} {F : List (Nat × Nat)} {st : List Nat} (h : ExW w0 wb base P Lb s G X fz st fr p F w) {b : Nat} {v : Value} {t : TypeId} (hb : Bx wb fz b v t) :
    w.cell? ⟨b, 0, none⟩ = some v := by
  obtain ⟨vh, hs, vn, ns, vl, hS⟩ := h
  exact one_cell ((hS.fx b hb.1).trans hb.2)
section
variable {w0 wb : World} {base P Lb p fr : Nat} {s : ByteArray} {G : List Pr} {X : List (Value × Option Nat)} {fz : Nat → Prop} {st : List Nat}
set_option maxRecDepth 100000 in
set_option maxHeartbeats 4000000 in
theorem doPair {bb bi : Nat} {b v : Value} {B I : List Nat}
    (h1 : Bx wb fz bb b 94) (h2 : Bx wb fz bi v 94) (hb : DoV w0 wb base P Lb s G X fz st fr p b B) (hi : DoV w0 wb base P Lb s G X fz st fr p v I) (hfv : isFn v) :
    DoV w0 wb base P Lb s G X fz st fr p (clo 77 #[ptrV bb, ptrV bi]) (B ++ I) := by
  intro F w hl hE
  refine ⟨_, _, rfl, enters_of Tryz.func77 (by kernel_rfl) rfl, ?_⟩
  rw [List.length_append] at hl
  have z1 := hE.fx h1
  obtain ⟨f1, c1, rfl, eg, HC1⟩ := hb F w (by omega) hE
  obtain ⟨f2, c2, rfl⟩ := hfv
  have HD1 := Lib.hid HC1
  have HC2 := Lib.hid (fun w2 (h : ExW w0 wb base P Lb s G X fz st fr p (exL G s p F B) w2) => hi (exL G s p F B) w2 (by have := (exL_len G s p B F).2; omega) h)
  have HZ := Lib.hid (fun w2 (h : ExW w0 wb base P Lb s G X fz st fr p (exL G s p F B) w2) => h.fx h2)
  have HEQ := Lib.hid (exL_append G s p F B I)
  clear h1 h2 hb hi hE HC1
  go_enter Tryz.func77, Tryz.ntmps77
  go_upto_region 1 with (refine (HD1.out).mono ?_; rintro e w2 ⟨rfl, hE2⟩; have HE2 := Lib.hid hE2; clear hE2)
  obtain ⟨f, c, e, eh, HC⟩ := HC2.out w2 HE2.out
  cases e
  have HD2 := Lib.hid HC
  have z2 := HZ.out w2 HE2.out
  clear HC z1
  go_wp2_with (refine (HD2.out).mono ?_; rintro e w3 ⟨rfl, hE3⟩; have HE3 := Lib.hid hE3; clear hE3)
  go_end0
  exact ⟨rfl, by rw [HEQ.out]; exact HE3.out⟩
theorem flat_take {ls : List (List Nat)} {k : Nat} {l : List Nat} (h : ls[k]? = some l) : (ls.take (k + 1)).flatten = (ls.take k).flatten ++ l := by
  rw [List.take_add_one, h, List.flatten_append]; simp
theorem flat_take_le (ls : List (List Nat)) (k : Nat) : (ls.take k).flatten.length ≤ ls.flatten.length := by
  have h := congrArg (fun l => (List.flatten l).length) (List.take_append_drop k ls)
  simp only [List.flatten_append, List.length_append] at h
  omega
set_option maxRecDepth 100000 in
set_option maxHeartbeats 4000000 in
theorem doAny {bl g c : Nat} {cur : Array Value} {vs : List Value} {ls : List (List Nat)} (hl : Bx wb fz bl (.slice (some ⟨g, 0, none⟩) vs.length c) 91) (hg : fz g) (hr : wb.heap[g]? = some (.cells cur 94 (0, 0)))
    (hc : ∀ (k : Nat) (v : Value), vs[k]? = some v → cur[k]? = some v) (hn : vs.length ≤ 1000) (hs : ls.length = vs.length) (hv : ∀ (k : Nat) (v : Value) (l : List Nat), vs[k]? = some v → ls[k]? = some l → DoV w0 wb base P Lb s G X fz st fr p v l) :
    DoV w0 wb base P Lb s G X fz st fr p (clo 76 #[ptrV bl]) ls.flatten := by
  intro F w hlen hE
  refine ⟨_, _, rfl, enters_of Tryz.func76 (by kernel_rfl) rfl, ?_⟩
  have z1 := hE.fx hl
  have HE := Lib.hid hE
  have HV := Lib.hid (fun (k : Nat) (v : Value) (l : List Nat) (h1 : vs[k]? = some v) (h2 : ls[k]? = some l) (w' : World) (h : ExW w0 wb base P Lb s G X fz st fr p (exL G s p F (ls.take k).flatten) w') => hv k v l h1 h2 _ w' (by
    have e1 := (exL_len G s p (ls.take k).flatten F).2
    have e2 := flat_take_le ls (k + 1)
    rw [flat_take h2, List.length_append] at e2
    omega) h)
  have HC := Lib.hid (fun (k : Nat) (v : Value) (h1 : vs[k]? = some v) (F' : List (Nat × Nat)) (w' : World) (h : ExW w0 wb base P Lb s G X fz st fr p F' w') => (show w'.cell? ⟨g, k, none⟩ = some v from by
    obtain ⟨_, _, _, _, _, hS⟩ := h
    unfold World.cell?
    rw [show w'.heap[g]? = _ from (hS.fx g hg).trans hr]
    exact hc k v h1))
  have HS := Lib.hid hs
  clear hl hg hr hc hs hv hE hlen
  go_enter Tryz.func76, Tryz.ntmps76
  go_wp2
  clear z1
  go_loopw [2, 5] (fun _ i wr => ∃ k : Nat, k ≤ vs.length ∧ i = .int .i64 k ∧ Hid (ExW w0 wb base P Lb s G X fz st fr p (exL G s p F (ls.take k).flatten) wr)) (fun _ i _ => vs.length - (intOf i).toNat)
  case atStart => exact ⟨0, Nat.zero_le _, rfl, by simpa [exL_nil] using HE⟩
  case round =>
    obtain ⟨k, hk, rfl, hX⟩ := hrel
    by_cases hlt : k < vs.length
    · have hk1 : vs[k]? = some (vs[k]'hlt) := List.getElem?_eq_getElem hlt
      have hk2 : ls[k]? = some (ls[k]'(by rw [HS.out]; exact hlt)) := List.getElem?_eq_getElem (by rw [HS.out]; exact hlt)
      have c0 := HC.out k _ hk1 _ wr hX.out
      obtain ⟨f1, c1, e1, eg, HD⟩ := HV.out k _ _ hk1 hk2 wr hX.out
      rw [e1] at c0
      rw [← exL_append, ← flat_take hk2] at HD
      have HD1 := Lib.hid HD
      clear HD hk1 hk2 e1
      go_wp2_with (refine (HD1.out).mono ?_; rintro e w2 ⟨rfl, hE2⟩; have HE2 := Lib.hid hE2; clear hE2)
      go_roundw
      case rel => exact ⟨k + 1, by omega, by go_num, HE2⟩
      case measure => simp [intOf]; omega
    · obtain rfl : k = vs.length := by omega
      have HX := Lib.hid (show ExW w0 wb base P Lb s G X fz st fr p (exL G s p F ls.flatten) wr by have := hX.out; rwa [← HS.out, List.take_length] at this)
      go_wp2
      go_end0
      exact ⟨rfl, HX.out⟩
/-- any value that is steps -/
theorem doVal {v : Value} {l : List Nat} (h : ActV wb fz X v l) (h0 : G[0]? = some .add) : DoV w0 wb base P Lb s G X fz st fr p v l := by
  have one : ∀ {u : Nat} {v : Value} {o : Option Nat}, X[u]? = some (v, o) → DoV w0 wb base P Lb s G X fz st fr p v [u] := fun hx F w hl hE => doPrim hE (by simp at hl; omega) h0 hx
  induction h with
  | prim hv hx => exact one hx
  | any hl hg hr hc hn hs _ ih => exact doAny hl hg hr hc hn hs ih
  | pair h1 h2 _ hv hi ih => exact doPair h1 h2 ih (one hi) hv
end
end Go.Proofs.YtlkjejmmoalliaaGreatDoor

namespace Go.Proofs.YtlkjejmmoalliaaGreatDoor
open Go.RowKit

mutual
theorem thr_tl (e : Nat) : ∀ (n : Ni) (b : List Nat) (m : Nat), (thrN e n b m).1.length + 1 ≤ b.length + 3 * szN n ∧ ∀ pr ∈ (thrN e n b m).2, pr.tgt.length ≤ b.length + 3 * szN n + 1
  | .mk k x c l, b, m => by
    have hR := thrR_tl e l
    have hA := thrA_tl e l [m] (m + 1)
    rw [thrN, szN]
    by_cases h1 : k = 1
    · subst h1
      rw [if_pos rfl]
      exact ⟨by simp; omega, fun pr h => by simp at h; subst h; show b.length ≤ _; omega⟩
    rw [if_neg h1]
    by_cases h2 : k = 2
    · subst h2
      rw [if_pos rfl]
      have := hR b m; exact ⟨by omega, fun pr h => by have := this.2 pr h; omega⟩
    rw [if_neg h2]
    by_cases h3 : k = 3
    · subst h3
      rw [if_pos rfl]
      have e1 : [m].length = 1 := rfl
      rw [e1] at hA
      refine ⟨by simp only; omega, fun pr h => ?_⟩
      rcases List.mem_cons.1 h with rfl | h
      · show b.length ≤ _; omega
      · have := hA.2 pr h; omega
    rw [if_neg h3]
    have hq := hR [m] (m + 2)
    have e1 : [m].length = 1 := rfl
    rw [e1] at hq
    by_cases h4 : k = 4
    · subst h4
      rw [if_pos rfl]
      refine ⟨by simp; omega, fun pr h => ?_⟩
      rcases List.mem_cons.1 h with rfl | h
      · show (b ++ [m + 1]).length ≤ _; simp only [List.length_append, List.length_cons, List.length_nil]; omega
      rcases List.mem_cons.1 h with rfl | h
      · show (thrR e l [m] (m + 2)).1.length ≤ _; omega
      · have := hq.2 pr h; omega
    rw [if_neg h4]
    by_cases h5 : k = 5
    · subst h5
      rw [if_pos rfl]
      refine ⟨by simp; omega, fun pr h => ?_⟩
      rcases List.mem_cons.1 h with rfl | h
      · show (b ++ [m + 1]).length ≤ _; simp only [List.length_append, List.length_cons, List.length_nil]; omega
      rcases List.mem_cons.1 h with rfl | h
      · show (thrR e l [m] (m + 2)).1.length ≤ _; omega
      · have := hq.2 pr h; omega
    rw [if_neg h5]
    by_cases h6 : k = 6
    · subst h6
      rw [if_pos rfl]
      have hq := hR [m] (m + 1)
      rw [e1] at hq
      refine ⟨by simp; omega, fun pr h => ?_⟩
      rcases List.mem_cons.1 h with rfl | h
      · show b.length ≤ _; omega
      · have := hq.2 pr h; omega
    rw [if_neg h6]
    by_cases h7 : k = 7
    · subst h7
      rw [if_pos rfl]
      have := hR b m; exact ⟨by omega, fun pr h => by have := this.2 pr h; omega⟩
    rw [if_neg h7]
    by_cases h8 : k = 8
    · subst h8
      rw [if_pos rfl]
      exact ⟨by simp; omega, fun pr h => by simp at h; subst h; show b.length ≤ _; omega⟩
    rw [if_neg h8]
    by_cases h9 : k = 9
    · subst h9
      rw [if_pos rfl]
      exact ⟨by simp; omega, fun pr h => by simp at h; subst h; show b.length ≤ _; omega⟩
    rw [if_neg h9]
    exact ⟨by simp only; omega, fun pr h => by cases h⟩
theorem thrR_tl (e : Nat) : ∀ (l : List Ni) (b : List Nat) (m : Nat), (thrR e l b m).1.length + l.length ≤ b.length + 3 * szL l ∧ ∀ pr ∈ (thrR e l b m).2, pr.tgt.length ≤ b.length + 3 * szL l + 1
  | [], b, m => by rw [thrR]; simp
  | n :: l, b, m => by
    have h1 := thrR_tl e l b m
    have h2 := thr_tl e n (thrR e l b m).1 (m + (thrR e l b m).2.length)
    rw [thrR, szL, List.length_cons]
    refine ⟨by simp only; omega, fun pr h => ?_⟩
    rcases List.mem_append.1 h with h | h
    · have := h1.2 pr h; omega
    · have := h2.2 pr h; omega
theorem thrA_tl (e : Nat) : ∀ (l : List Ni) (b : List Nat) (m : Nat), (thrA e l b m).1.length + l.length ≤ l.length * b.length + 3 * szL l ∧ ∀ pr ∈ (thrA e l b m).2, pr.tgt.length ≤ b.length + 3 * szL l + 1
  | [], b, m => by rw [thrA]; simp
  | n :: l, b, m => by
    have h1 := thrA_tl e l b (m + (thrN e n b m).2.length)
    have h2 := thr_tl e n b m
    rw [thrA, szL, List.length_cons, Nat.add_mul, Nat.one_mul]
    refine ⟨by simp only [List.length_append]; omega, fun pr h => ?_⟩
    rcases List.mem_append.1 h with h | h
    · have := h2.2 pr h; omega
    · have := h1.2 pr h; omega
end
/-- no row of steps is long -/
def Shrt (G : List Pr) (st : List Nat) : Prop := st.length ≤ 1000 ∧ ∀ pr ∈ G, pr.tgt.length ≤ 1000
theorem stg_shrt {e : Nat} {n : Ni} (h : szN n ≤ 200) : Shrt (stgN e n) (strN e n) := by
  have := thr_tl e n [0] 1
  have e1 : [0].length = 1 := rfl
  rw [e1] at this
  refine ⟨by unfold strN; omega, fun pr hp => ?_⟩
  rcases List.mem_cons.1 hp with rfl | hp
  · show ([] : List Nat).length ≤ _; simp
  · have := this.2 pr hp; omega
theorem Shrt.hr {G : List Pr} {st : List Nat} (h : Shrt G st) {fr q : Nat} {F : List (Nat × Nat)} {l : List Nat} (hl : l ∈ hrF G st fr F q) : l.length ≤ 1000 := by
  rcases mem_hrF.1 hl with ⟨-, rfl⟩ | ⟨x, -, -, rfl⟩
  · exact h.1
  · unfold tgtG
    split
    · rename_i p hp; exact h.2 p (List.mem_of_getElem? hp)
    · simp
/-- the walk ahead of a place: here is what is done no more -/
def EntW (w0 wb : World) (base P Lb : Nat) (s : ByteArray) (G : List Pr) (X : List (Value × Option Nat)) (fz : Nat → Prop) (st : List Nat) (fr p : Nat) (F : List (Nat × Nat)) (w : World) : Prop :=
  ∃ vh hs H vn ns vl, StW w0 wb base P Lb s G X fz F p vh hs H vn ns (hrF G st fr F p) vl w
theorem hr_none {G : List Pr} {st : List Nat} {fr p : Nat} {F : List (Nat × Nat)} (hfr : fr ≤ p) (hlt : ∀ x ∈ F, x.2 < p) : hrF G st fr F (p + 1) = [] := by
  unfold hrF
  rw [if_neg (by omega), List.nil_append, List.map_eq_nil_iff, List.filter_eq_nil_iff]
  intro x hx
  have := hlt x hx
  rw [show psh G (p + 1) x = false from psh_no (u := x.1) (p := x.2) (.inl (by omega))]
  simp
section
variable {w0 wb w : World} {base P Lb p fr : Nat} {s : ByteArray} {G : List Pr} {X : List (Value × Option Nat)} {fz : Nat → Prop} {F : List (Nat × Nat)} {st : List Nat}
/-- the two rows change places, the old one is emptied -/
theorem StW.swap {vh vn vl : Value} {hs ns : List Value} {H N : List (List Nat)} {va : Option Addr} {vc : Nat} (h : StW w0 wb base P Lb s G X fz F p vh hs H vn ns N vl w) (e : vh = .slice va hs.length vc) {w' : World}
    (g : w.grownBy w' (some P)) (P' : w'.heap[P]? = some (.cells #[.string s, .int .i64 p, vn, .slice va 0 vc] 93 (0, 0))) : StW w0 wb base P Lb s G X fz F p vn ns N (.slice va 0 vc) [] [] vl w' := by
  subst e
  have hne : ∀ b, b ≠ P → some b ≠ some P := fun b hb e => hb (by cases e; rfl)
  have hPL : Lb ≠ P := fun e => by have := h.wL; rw [e, h.wP] at this; simp at this
  have hPb := h.hP
  have oN := h.oN.kept g (.inr (own_type h.oN h.wP (by decide)))
  have oH : w'.ownsRow base 94 1 (.slice va 0 vc) 0 [] := by
    cases va with
    | none =>
      rcases h.oH.2 with ⟨e, -⟩ | ⟨g', c', cu, e, -⟩
      · injection e with e1 e2 e3; subst e3; exact World.ownsRow_nil _ _ _ _
      · cases e
    | some a =>
      have := own_take (h.oH.kept g (.inr (own_type h.oH h.wP (by decide)))) (m := 0) (by omega) (by simp)
      simpa using this
  refine h.turn (h.gr.andThen g (fun k e => .inl (by cases e; exact hPb.1))) (Nat.le_trans h.bs g.size) (fun b hb => g.block b (by have := (h.sep b hb).1; have := h.bs; omega) (hne b (h.sep b hb).2.1)) P' ((g.block Lb h.ltL (hne Lb hPL)).trans h.wL) oN oH
    (h.oL.kept g (.inr (own_type h.oL h.wP (by decide)))) (fun k e1 e2 => h.ap k (by rw [← e2]; cases va <;> rfl) e1) h.lN rfl h.aN (fun i v l h1 h2 => by simp at h1) ?_ h.le
  intro u t hu
  obtain ⟨v, bb, z, h1, h2, h3⟩ := h.be u t hu
  exact ⟨v, bb, z, h1, (g.block bb (cells_lt h2) (hne bb (h.bsp u v bb h1).2.2.1)).trans h2, h3⟩
end
end Go.Proofs.YtlkjejmmoalliaaGreatDoor

namespace Go.Proofs.YtlkjejmmoalliaaGreatDoor
open Go.RowKit

section
variable {w0 wb w : World} {base P Lb p fr : Nat} {s : ByteArray} {G : List Pr} {X : List (Value × Option Nat)} {fz : Nat → Prop} {F : List (Nat × Nat)} {st : List Nat}
set_option maxRecDepth 100000 in
set_option maxHeartbeats 8000000 in
theorem cAllHere (hlin : ∀ u, Lin G u → st.count u + cT u G ≤ 1) (hsh : Shrt G st) (h0 : G[0]? = some .add) (hPI : PI G s st fr F p 0 []) (hlt : ∀ x ∈ F, x.2 < p) (hB : G.length * (p + 1) ≤ 50000) (hE : EntW w0 wb base P Lb s G X fz st fr p F w) :
    Calls Tryz.prog 44 #[ptrV P] w fun e w' => e = .returned (.tuple #[]) ∧ ∃ F', PI G s st fr F' (p + 1) 0 [] ∧ (∀ x ∈ F', x.2 ≤ p) ∧ ExW w0 wb base P Lb s G X fz st fr p F' w' := by
  obtain ⟨vh, hs, H, vn, ns, vl, hS⟩ := hE
  obtain ⟨va, vc, rfl⟩ := owns_shape hS.oH
  obtain ⟨na, nc, rfl⟩ := owns_shape hS.oN
  have HS := Lib.hid hS
  have HN := Lib.hid (hr_none (G := G) (st := st) hPI.pr hlt)
  have HLIN := Lib.hid hlin
  have HSH := Lib.hid hsh
  have H0 := Lib.hid h0
  have HPI := Lib.hid hPI
  have HBB := Lib.hid hB
  clear hS hlin hsh h0 hPI hlt hB
  have HF0 := Lib.hid (show F.length ≤ 100000 from by have := HPI.out.bound; have := HBB.out; have : G.length * (p + 1) = G.length * (p + 1) := rfl; omega)
  obtain ⟨p0, p1, p2, p3⟩ := four_cells HS.out.wP
  have fP := four_free HS.out.wP
  go_enter Tryz.func44, Tryz.ntmps44
  go_upto_region 0 with fail
  go_region
  obtain ⟨w1, hw1⟩ : ∃ w1, w1 = ((w.setCell ⟨P, 2, none⟩ (.slice na ns.length nc)).setCell ⟨P, 3, none⟩ (.slice va 0 vc)).drew := ⟨_, rfl⟩
  have HE1 := Lib.hid (show ExW w0 wb base P Lb s G X fz st fr p F w1 from by
    have g1 : w.grownBy w1 (some P) := by
      rw [hw1]
      exact grown_drew ((grown_cell w P 2 _).andThen (grown_cell _ P 3 _) (fun k e => .inr e))
    have q1 := heap_setCell_same w P 2 _ _ (.slice na ns.length nc) HS.out.wP
    have q2 := heap_setCell_same _ P 3 _ _ (.slice va 0 vc) q1
    have hh := HS.out.swap rfl g1 (by rw [hw1]; exact q2)
    rw [← HN.out] at hh
    exact ⟨_, _, _, _, _, hh⟩)
  rw [← hw1]
  clear p0 p1 p2 p3 fP HS HN hw1
  go_wp2
  go_loopw [2] (fun i wr => ∃ (k : Nat) (F' : List (Nat × Nat)), k ≤ (hrF G st fr F' p).length ∧ i = .int .i64 k ∧ Hid (PI G s st fr F' p k []) ∧ Hid (∀ x ∈ F', x.2 ≤ p) ∧ Hid (ExW w0 wb base P Lb s G X fz st fr p F' wr)) (fun i _ => 60000 - (intOf i).toNat)
  case atStart => exact ⟨0, F, Nat.zero_le _, rfl, HPI, Lib.hid (fun x hx => (HPI.out.le x hx).2), HE1⟩
  case round =>
    obtain ⟨k, F', hk, rfl, HP2, HL2, HX2⟩ := hrel
    have hFl := HP2.out.bound
    have hFb := HBB.out
    have hhl := hrF_len G st fr F' p
    obtain ⟨vh, hs', vn', ns', vl', hS2⟩ := HX2.out
    have HS2 := Lib.hid hS2
    clear hS2
    have hlh := HS2.out.lH
    obtain ⟨va2, vc2, rfl⟩ := owns_shape HS2.out.oH
    obtain ⟨p0, p1, p2, p3⟩ := four_cells HS2.out.wP
    by_cases hlt : k < (hrF G st fr F' p).length
    · have hk1 : (hrF G st fr F' p)[k]? = some ((hrF G st fr F' p)[k]'hlt) := List.getElem?_eq_getElem hlt
      have hk2 : hs'[k]? = some (hs'[k]'(by omega)) := List.getElem?_eq_getElem (by omega)
      obtain ⟨gg, cap, eg0, -, hc⟩ := row_cells HS2.out.oH (by omega)
      cases eg0
      have c0 := hc k _ hk2
      have HA2 := (HS2.out.aH k _ _ hk2 hk1).move (fun b hb => ⟨hb, (HS2.out.fx b hb).symm⟩)
      have hsl := HSH.out.hr (List.mem_of_getElem? hk1)
      obtain ⟨f1, c1, e1, eg, HD⟩ := doVal (st := st) (fr := fr) (p := p) HA2 H0.out F' wr (by omega) HX2.out
      rw [e1] at c0
      have HD1 := Lib.hid HD
      have HP3 := Lib.hid (HP2.out.item HLIN.out (l1 := []) hk1)
      have HK3 := Lib.hid (show k + 1 ≤ (hrF G st fr (exL G s p F' ((hrF G st fr F' p)[k]'hlt)) p).length by
        obtain ⟨K, e⟩ := exL_hr (G := G) (s := s) (st := st) (fr := fr) (p := p) ((hrF G st fr F' p)[k]'hlt) F' p
        rw [e, List.length_append]; omega)
      generalize exL G s p F' ((hrF G st fr F' p)[k]'hlt) = F2 at HD1 HP3 HK3
      have hlt2 : k < hs'.length := by omega
      have hkk : k ≤ 50001 := by omega
      clear HD hk1 hk2 e1 HA2 hsl hFl hFb hhl hc HP2 HL2 hlh hlt hk
      go_wp2_with (refine (HD1.out).mono ?_; rintro e w2 ⟨rfl, hE2⟩; have HE2 := Lib.hid hE2; clear hE2)
      go_roundw
      case rel => exact ⟨k + 1, F2, HK3.out, by go_num, HP3, Lib.hid (fun x hx => (HP3.out.le x hx).2), HE2⟩
      case measure => simp [intOf]; omega
    · obtain rfl : k = (hrF G st fr F' p).length := by omega
      have HNX := Lib.hid HP2.out.next
      rw [← hlh] at *
      go_wp2
      go_end0
      exact ⟨rfl, F', HNX.out, fun a b h => HL2.out (a, b) h, HX2.out⟩
end
end Go.Proofs.YtlkjejmmoalliaaGreatDoor

namespace Go.Proofs.YtlkjejmmoalliaaGreatDoor
open Go.RowKit

mutual
theorem thr_noadd (e : Nat) : ∀ (n : Ni) (b : List Nat) (m : Nat), Pr.add ∉ (thrN e n b m).2
  | .mk k x c l, b, m => by
    have hR := thrR_noadd e l
    have hA := thrA_noadd e l
    rw [thrN]
    repeat' split
    all_goals simp [hR, hA]
theorem thrR_noadd (e : Nat) : ∀ (l : List Ni) (b : List Nat) (m : Nat), Pr.add ∉ (thrR e l b m).2
  | [], b, m => by rw [thrR]; simp
  | n :: l, b, m => by
    rw [thrR]; simp [thrR_noadd e l, thr_noadd e n]
theorem thrA_noadd (e : Nat) : ∀ (l : List Ni) (b : List Nat) (m : Nat), Pr.add ∉ (thrA e l b m).2
  | [], b, m => by rw [thrA]; simp
  | n :: l, b, m => by
    rw [thrA]; simp [thrA_noadd e l, thr_noadd e n]
end
theorem stg_add {e u : Nat} {n : Ni} (h : (stgN e n)[u]? = some .add) : u = 0 := by
  cases u with
  | zero => rfl
  | succ u =>
    unfold stgN at h
    rw [List.getElem?_cons_succ] at h
    exact (thr_noadd e n [0] 1 (List.mem_of_getElem? h)).elim
theorem nd_inj : ∀ {xs : List (Value × Option Nat)}, (xs.filterMap (·.2)).Nodup → ∀ (u u' : Nat) (v v' : Value) (b : Nat), xs[u]? = some (v, some b) → xs[u']? = some (v', some b) → u = u'
  | [], _, u, _, _, _, _, h, _ => by simp at h
  | (y, o) :: xs, hn, u, u', v, v', b, h, h' => by
    have hn' : (xs.filterMap (·.2)).Nodup := by
      cases o with
      | none => simpa using hn
      | some o => simp at hn; exact hn.2
    have no : ∀ (k : Nat) (z : Value), o = some b → xs[k]? ≠ some (z, some b) := fun k z e hk => by
      subst e
      simp at hn
      exact hn.1 _ (List.mem_of_getElem? hk)
    cases u with
    | zero =>
      cases u' with
      | zero => rfl
      | succ u' =>
        simp at h h'
        exact (no u' v' h.2 h').elim
    | succ u =>
      cases u' with
      | zero =>
        simp at h h'
        exact (no u v h'.2 h).elim
      | succ u' =>
        simp at h h'
        rw [nd_inj hn' u u' v v' b h h']
/-- what stays as it is behind through: all that it made but the places' variables, and the walk's variable -/
def fzS (lo bW : Nat) (w5 : World) (xs : List (Value × Option Nat)) (k : Nat) : Prop := (Iv lo w5 k ∧ isC w5 k ∧ ∀ x ∈ xs, x.2 ≠ some k) ∨ k = bW
theorem start_w {w0 w3 w5 W : World} {P Lb bW fr : Nat} {s : ByteArray} {n : Ni} {v vn : Value} {xs : List (Value × Option Nat)}
    (hM : MadeN s.size w3.heap.size w5 P n (clo 43 #[ptrV Lb, ptrV bW]) v xs) (hP : w0.heap.size ≤ P ∧ P < w3.heap.size) (hL : w0.heap.size ≤ Lb ∧ Lb < w3.heap.size) (hB : bW < w3.heap.size) (hBP : bW ≠ P) (hBL : bW ≠ Lb)
    (g3 : w0.grownBy w3 none) (g5 : w3.grownBy w5 none) (gW : w5.grownBy W (some P))
    (P' : W.heap[P]? = some (.cells #[.string s, .int .i64 fr, .slice none 0 0, vn] 93 (0, 0))) (L' : W.heap[Lb]? = some (.cells #[.slice none 0 0] 37 (0, 0)))
    (B' : W.heap[bW]? = some (.cells #[ptrV P] 90 (0, 0))) (oN : W.ownsRow w5.heap.size 94 1 vn 1 [v]) :
    EntW w0 W w5.heap.size P Lb s (stgN s.size n) ((clo 43 #[ptrV Lb, ptrV bW], none) :: xs) (fzS w3.heap.size bW w5 xs) (strN s.size n) fr fr [] W := by
  have h35 := g5.size
  have nP : ∀ k, w3.heap.size ≤ k → some k ≠ some P := fun k hk e => by cases e; omega
  have hA : Agr (Iv w3.heap.size w5) w5 xs W (fzS w3.heap.size bW w5 xs) := fun k h1 h2 h3 => ⟨.inl ⟨h1, h2, h3⟩, gW.block k h1.2 (nP k h1.1)⟩
  have hX : AtX ((clo 43 #[ptrV Lb, ptrV bW], none) :: xs) 1 xs := fun i x h => by rw [Nat.add_comm, List.getElem?_cons_succ]; exact h
  have hb : ActV W (fzS w3.heap.size bW w5 xs) ((clo 43 #[ptrV Lb, ptrV bW], none) :: xs) (clo 43 #[ptrV Lb, ptrV bW]) [0] := .prim ⟨_, _, rfl⟩ (o := none) rfl
  obtain ⟨hv, hr⟩ := hM.rep W _ _ [0] 1 hA hX hb
  have hh : hrF (stgN s.size n) (strN s.size n) fr [] fr = [strN s.size n] := by unfold hrF; simp
  have hrep : ∀ (u : Nat) (pr : Pr) (x : Value × Option Nat), (stgN s.size n)[u]? = some pr → ((clo 43 #[ptrV Lb, ptrV bW], none) :: xs)[u]? = some x → PrimRep W (fzS w3.heap.size bW w5 xs) P ((clo 43 #[ptrV Lb, ptrV bW], none) :: xs) x pr := fun u pr x h1 h2 => by
    cases u with
    | zero => unfold stgN at h1; simp at h1; subst h1; trivial
    | succ u =>
      unfold stgN at h1
      rw [List.getElem?_cons_succ] at h1 h2
      exact hr u pr x h1 h2
  have hlen : ((clo 43 #[ptrV Lb, ptrV bW], (none : Option Nat)) :: xs).length = (stgN s.size n).length := by rw [stg_len, List.length_cons, hM.len]; omega
  have hbb : ∀ (u : Nat) (v : Value) (bb : Nat), ((clo 43 #[ptrV Lb, ptrV bW], (none : Option Nat)) :: xs)[u]? = some (v, some bb) → ∃ u', u = u' + 1 ∧ xs[u']? = some (v, some bb) ∧ w3.heap.size ≤ bb ∧ bb < w5.heap.size ∧ W.heap[bb]? = some (.cells #[.int .i64 (-1)] 3 (0, 0)) := fun u v bb h => by
    cases u with
    | zero => simp at h
    | succ u =>
      rw [List.getElem?_cons_succ] at h
      obtain ⟨h1, h2⟩ := hM.rng _ (List.mem_of_getElem? h) bb rfl
      exact ⟨u, rfl, h, h1.1, h1.2, (gW.block bb h1.2 (nP bb h1.1)).trans h2⟩
  refine ⟨.slice none 0 0, [], [], vn, [v], .slice none 0 0, ?_⟩
  rw [hh]
  refine ⟨(g3.trans g5).andThen gW (fun k e => .inl (by cases e; exact hP.1)), gW.size, ⟨hP.1, by omega⟩, ⟨hL.1, by omega⟩, P', L', World.ownsRow_nil _ _ _ _, oN, World.ownsRow_nil _ _ _ _, fun g h => by simp [Value.ownBlock] at h, rfl, rfl,
    fun i v l h => by simp at h, ?_, hrep, ⟨bW, rfl, .inr rfl, B'⟩, fun u h => stg_add h, ?_, ?_, ?_, ?_, hlen, by simp, fun _ _ => rfl⟩
  · intro i y l h1 h2
    cases i with
    | zero => simp at h1 h2; subst h1; subst h2; exact hv
    | succ i => simp at h1
  · intro u t hu
    have hlt : u < ((clo 43 #[ptrV Lb, ptrV bW], (none : Option Nat)) :: xs).length := by rw [hlen]; exact (List.getElem?_eq_some_iff.1 hu).1
    have hx := List.getElem?_eq_getElem hlt
    obtain ⟨be, bw, bs, y, e, -⟩ := hrep u _ _ hu hx
    rw [e] at hx
    obtain ⟨_, _, _, _, _, h5⟩ := hbb u _ be hx
    exact ⟨_, be, -1, hx, h5, by simp, .inl rfl⟩
  · intro u u' y y' b h h'
    obtain ⟨k, rfl, h1, -⟩ := hbb u y b h
    obtain ⟨k', rfl, h1', -⟩ := hbb u' y' b h'
    rw [nd_inj hM.nd k k' y y' b h1 h1']
  · rintro b (⟨h1, h2, h3⟩ | rfl)
    · refine ⟨h1.2, by have := h1.1; omega, by have := h1.1; omega, fun u y h => ?_⟩
      obtain ⟨k, -, h4, -⟩ := hbb u y b h
      exact h3 _ (List.mem_of_getElem? h4) rfl
    · refine ⟨by omega, hBP, hBL, fun u y h => ?_⟩
      obtain ⟨k, -, -, h4, -⟩ := hbb u y b h
      omega
  · intro u y b h
    obtain ⟨k, -, -, h4, h5, -⟩ := hbb u y b h
    exact ⟨by have := g3.size; omega, h5, by omega, by omega⟩
end Go.Proofs.YtlkjejmmoalliaaGreatDoor
