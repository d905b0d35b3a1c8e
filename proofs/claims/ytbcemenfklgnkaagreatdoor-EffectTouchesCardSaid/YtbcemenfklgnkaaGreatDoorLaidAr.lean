/- What the listed variables hold when a law of layer 3 begins: errors and the library's tables; a world in which they do; members that came in. -/
import Derived.Test.YtbcemenfklgnkaaGreatDoorLaidErr
import Derived.Test.YtbcemenfklgnkaaGreatDoorArA
import Derived.LaidSub
import Derived.Lib.LaidTab
namespace Go.Proofs.YtbcemenfklgnkaaGreatDoor
open Go.RowKit Go.Maps Go.ChangeShapes Go.WideShapes Go.Deep

/-- the listed errors, the library's two among them -/
def exSn : List Sn := allSn ++ [⟨19, "strconv.ErrRange", 20, [118, 97, 108, 117, 101, 32, 111, 117, 116, 32, 111, 102, 32, 114, 97, 110, 103, 101]⟩,
  ⟨20, "strconv.ErrSyntax", 19, [105, 110, 118, 97, 108, 105, 100, 32, 115, 121, 110, 116, 97, 120]⟩]
theorem ex_ok : exSn.all Sn.okB = true := by kernel_rfl
theorem exSn_ok : ∀ q ∈ exSn, q.ok := fun q hq => by
  have := List.all_eq_true.1 ex_ok q hq
  unfold Sn.okB at this
  rw [Bool.and_eq_true, beq_iff_eq, beq_iff_eq] at this
  exact this
def isEx (x : String × DataW Unit) : Bool := exSn.any fun q => q.name == x.1
def isPow (x : String × DataW Unit) : Bool := x.1 == "internal/strconv.uint64pow10"
def synSn : Sn := ⟨20, "strconv.ErrSyntax", 19, [105, 110, 118, 97, 108, 105, 100, 32, 115, 121, 110, 116, 97, 120]⟩
/-- of some listed errors, what the walks ask -/
theorem envs_of_laid {W : World} {L : List (String × DataW Unit)} (E : List Sn) (hnum : (E.map Sn.num).Nodup) (hok : ∀ q ∈ E, q.ok) (hLA : LA = (E.map fun q => (q.num, q.g)).filter fun x => LA.contains x) (hsy : synSn ∈ E)
    (h1 : L.filter (fun x => E.any fun q => q.name == x.1) = E.map Sn.laid) (h2 : L.filter isPow = [("internal/strconv.uint64pow10", Lib.tabData .u64 Lib.pow10Tab)]) (h : laidMet Tryz.prog L W) :
    ∃ A, Env A W ∧ (∀ q ∈ E, SentAt A W q) ∧ ∀ q ∈ E, ∀ r ∈ E, q.num ≠ r.num → A q.num ≠ A r.num := by
  have he := h.filter (fun x => E.any fun q => q.name == x.1)
  have hp := h.filter isPow
  rw [h1] at he
  rw [h2] at hp
  obtain ⟨A, hA, hne⟩ := sents_of_laid (L := E) hnum hok he
  refine ⟨A, ⟨fun x hx => ?_, ?_, ?_⟩, hA, hne⟩
  · rw [hLA] at hx
    obtain ⟨q, hq, rfl⟩ := List.mem_map.1 (List.mem_filter.1 hx).1
    exact (hA q hq).1
  · exact Lib.tabIs_of_head (g := 21) (t := 233) (e := 160) (n := 20) (by kernel_rfl) (by kernel_rfl) Tryz.underlying233 Tryz.underlying160 (by kernel_rfl) (by kernel_rfl) hp
  · exact ⟨_, _, (hA synSn hsy).1⟩
theorem env_of_laid {W : World} {L : List (String × DataW Unit)} (h1 : L.filter isEx = exSn.map Sn.laid) (h2 : L.filter isPow = [("internal/strconv.uint64pow10", Lib.tabData .u64 Lib.pow10Tab)]) (h : laidMet Tryz.prog L W) : ∃ A, Env A W ∧ ErrEnv A W := by
  obtain ⟨A, hE, hA, hne⟩ := envs_of_laid exSn (by decide) exSn_ok (by decide) (by simp [exSn, synSn]) h1 h2 h
  have hsub : ∀ q ∈ allSn, q ∈ exSn := fun q hq => List.mem_append_left _ hq
  exact ⟨A, hE, fun q hq => hA q (hsub q hq), fun q hq r hr hn => hne q (hsub q hq) r (hsub r hr) hn⟩

/-- a datum's cells, where it is plain -/
def cellsD : Nat → DataW Unit → List Value
  | n + 1, .agg ds => ds.flatMap (cellsD n)
  | _ + 1, .lit (.int k i) => [.int k i]
  | _ + 1, .lit (.string l) => [.string ⟨l.toArray⟩]
  | _ + 1, .lit (.bool b) => [.bool b]
  | _, _ => []
/-- what lies behind a listed error -/
def boxD : DataW Unit → List Value
  | .iface _ (.ptr d) => cellsD 4 d
  | _ => []
def isBox : DataW Unit → Bool
  | .iface _ (.ptr _) => true
  | _ => false
/-- a world in which all listed variables hold what is listed: tables, and errors -/
noncomputable def laidWorldX (L : List (String × DataW Unit)) (os : Os) : World :=
  let w0 := World.holding Tryz.prog os ⟨((L.filter fun x => isBox x.2).map fun x => Obj.cells (boxD x.2).toArray 238).toArray, #[], []⟩
  { w0 with heap := (L.foldl (fun (h : Array Obj × Nat) (x : String × DataW Unit) => match Tryz.prog.globalNamed x.1 with
      | some g => if isBox x.2 then (h.1.modify g fun
          | .cells _ t frozen => .cells #[.iface 236 (.pointer (some ⟨low + h.2, 0, none⟩))] t frozen
          | o => o, h.2 + 1) else (h.1.modify g fun
          | .cells _ t frozen => .cells (cellsD 4 x.2).toArray t frozen
          | o => o, h.2)
      | none => h) (w0.heap, 0)).1 }

/-! members that came in -/
section
variable {H : Type} {enc : TypeId × Value → H} {w : World} {base : Nat} {spare : Nat → Bool} {held : Bool}
theorem cellsMember : Tryz.prog.cellsOf 113 = 3 := by kernel_rfl
set_option maxRecDepth 100000 in
theorem member_of_trod {fuel : Nat} {cs : List Value} {x : DataW H × List MemPlace} (h : DataW.trod enc Tryz.prog w base spare held fuel 113 cs = some x) :
    ∃ m : Mb, cs = [.string m.n, .int .i64 m.t, .string m.c] ∧ m.n.size ≤ maxLen ∧ m.c.size ≤ maxLen := by
  obtain ⟨xs, n, _, _, hlen, hxs, hf⟩ := DataW.trod_struct Tryz.underlying113 h
  rw [cellsMember] at hlen
  match cs, hlen with
  | [c0, c1, c2], _ =>
    match xs, hxs with
    | [x0, x1, x2], _ =>
      have h0 : DataW.trod enc Tryz.prog w base spare held n 9 (([c0, c1, c2].drop 0).take (Tryz.prog.cellsOf 9)) = some x0 := hf 0 _ rfl
      have h1 : DataW.trod enc Tryz.prog w base spare held n 3 (([c0, c1, c2].drop 1).take (Tryz.prog.cellsOf 3)) = some x1 := hf 1 _ rfl
      have h2 : DataW.trod enc Tryz.prog w base spare held n 9 (([c0, c1, c2].drop 2).take (Tryz.prog.cellsOf 9)) = some x2 := hf 2 _ rfl
      rw [cellsStr] at h0 h2
      rw [cellsInt] at h1
      obtain ⟨s0, e0, _, z0⟩ := DataW.trod_string Tryz.underlying9 h0
      obtain ⟨n1, e1, _, _⟩ := DataW.trod_int Tryz.underlying3 h1
      obtain ⟨s2, e2, _, z2⟩ := DataW.trod_string Tryz.underlying9 h2
      have e0' : [c0] = [Value.string s0] := e0
      have e1' : [c1] = [Value.int .i64 n1] := e1
      have e2' : [c2] = [Value.string s2] := e2
      rw [List.cons.injEq] at e0' e1' e2'
      exact ⟨⟨s0, n1, s2⟩, by rw [e0'.1, e1'.1, e2'.1], z0, z2⟩
set_option maxRecDepth 100000 in
/-- a slice of members that came in, as the walk is told of it -/
theorem mrow_open {a : Option Addr} {len cap : Nat} {d : DataW H} {p : List MemPlace}
    (hj : DataW.Trod enc Tryz.prog w 0 (fun _ => true) true 141 (.slice a len cap) d p) : ∃ l, MRow w (.slice a len cap) l := by
  obtain ⟨fuel, hf⟩ := hj
  rcases open_slice Tryz.underlying141 hf with ⟨hcs, _⟩ | ⟨ad, len', cap', m, n, D, Pl, hcs, _, hl, hm, hmm, _, hi⟩
  · simp [Value.cells] at hcs
    obtain ⟨rfl, rfl, rfl⟩ := hcs
    exact ⟨[], none, 0, rfl, by simp, by simp, fun h => absurd rfl h⟩
  · simp [Value.cells] at hcs
    obtain ⟨rfl, rfl, rfl⟩ := hcs
    rw [if_pos rfl] at hmm
    subst hmm
    rw [cellsMember] at hi
    unfold maxLen at hm
    have key : ∀ i, i < len → ∃ f : Mb, f.n.size ≤ maxLen ∧ f.c.size ≤ maxLen ∧ w.cell? (ad.add (i * 3 + 0)) = some (.string f.n) ∧ w.cell? (ad.add (i * 3 + 1)) = some (.int .i64 f.t) ∧ w.cell? (ad.add (i * 3 + 2)) = some (.string f.c) := by
      intro i him
      obtain ⟨cs', hc, ht⟩ := hi i (by omega)
      obtain ⟨f, rfl, z0, z1⟩ := member_of_trod ht
      obtain ⟨_, _, hat⟩ := World.cells?_some hc
      refine ⟨f, z0, z1, ?_, ?_, ?_⟩
      · rw [← Go.Deep.add_add, hat 0 (by omega)]; rfl
      · rw [← Go.Deep.add_add, hat 1 (by omega)]; rfl
      · rw [← Go.Deep.add_add, hat 2 (by omega)]; rfl
    have : ∀ k, k ≤ len → ∃ l : List Mb, l.length = k ∧ ∀ (j : Nat) (f : Mb), l[j]? = some f → f.n.size ≤ maxLen ∧ f.c.size ≤ maxLen ∧ w.cell? (ad.add (j * 3 + 0)) = some (.string f.n) ∧ w.cell? (ad.add (j * 3 + 1)) = some (.int .i64 f.t) ∧ w.cell? (ad.add (j * 3 + 2)) = some (.string f.c) := by
      intro k
      induction k with
      | zero => exact fun _ => ⟨[], rfl, by simp⟩
      | succ k ih =>
        intro hk
        obtain ⟨l, hl1, hl2⟩ := ih (by omega)
        obtain ⟨f, hf⟩ := key k (by omega)
        refine ⟨l ++ [f], by simp [hl1], fun j g hj => ?_⟩
        rcases Nat.lt_or_ge j l.length with hjl | hjl
        · rw [List.getElem?_append_left hjl] at hj
          exact hl2 j g hj
        · rw [List.getElem?_append_right hjl] at hj
          have hj0 : j - l.length = 0 := by
            rcases Nat.eq_zero_or_pos (j - l.length) with h | h
            · exact h
            · rw [List.getElem?_eq_none (by simp; omega)] at hj; cases hj
          rw [hj0] at hj
          obtain rfl : f = g := by simpa using hj
          obtain rfl : j = k := by omega
          exact hf
    obtain ⟨l, hl1, hl2⟩ := this len (Nat.le_refl _)
    refine ⟨l, some ad, _, by rw [hl1], by omega, fun f hf => ?_, fun hne => ?_⟩
    · obtain ⟨j, hj⟩ := List.mem_iff_getElem?.1 hf
      obtain ⟨z0, z1, _⟩ := hl2 j f hj
      exact ⟨z0, z1⟩
    · obtain ⟨f0, hf0⟩ : ∃ f, l[0]? = some f := by
        cases l with
        | nil => exact absurd rfl hne
        | cons f r => exact ⟨f, rfl⟩
      obtain ⟨b, off, spot⟩ := ad
      obtain ⟨_, _, hc0, _⟩ := hl2 0 f0 hf0
      have hspot : spot = none := by simpa [Addr.add] using World.cell?_spot hc0
      subst hspot
      refine ⟨b, off, rfl, ?_, fun j f hj => ?_⟩
      · rw [Addr.add_lit] at hc0
        exact cell_block hc0
      · obtain ⟨_, _, h0, h1, h2⟩ := hl2 j f hj
        rw [Addr.add_lit] at h0 h1 h2
        exact ⟨h0, h1, h2⟩
set_option maxRecDepth 100000 in
/-- a member, by value -/
theorem member_open {r : Reach} {b0 : Nat} {v : Value} {d : DataW H} {p : List MemPlace} (hv : Value.okWide Tryz.prog w r b0 113 v) (h : DataW.Trod enc Tryz.prog w base spare held 113 v d p) :
    ∃ m : Mb, v = valM m ∧ m.n.size ≤ maxLen ∧ m.c.size ≤ maxLen := by
  obtain ⟨cs, rfl, hsz⟩ := okWide_struct Tryz.underlying113 hv
  obtain ⟨fuel, hf⟩ := h
  obtain ⟨m, e, z0, z1⟩ := member_of_trod hf
  refine ⟨m, ?_, z0, z1⟩
  cases cs
  have e' : _ = _ := e
  simp [Value.cells] at e'
  unfold valM
  rw [e']
end
end Go.Proofs.YtbcemenfklgnkaaGreatDoor
