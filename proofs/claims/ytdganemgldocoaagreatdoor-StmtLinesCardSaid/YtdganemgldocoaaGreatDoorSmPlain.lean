/- Statements, plainly: where the first of some signs stands outside of pieces, the statement of a line, all lines' statements. -/
import Derived.Test.YtdganemgldocoaaGreatDoorLxPlain
import Derived.Test.YtdganemgldocoaaGreatDoorLnPlain
import Derived.Test.YtdganemgldocoaaGreatDoorAtPlain
namespace Go.Proofs.YtdganemgldocoaaGreatDoor

theorem sfx_drop {l r : List UInt8} (h : r <:+ l) : l.drop (l.length - r.length) = r := by
  obtain ⟨t, rfl⟩ := h
  rw [List.length_append, Nat.add_sub_cancel, List.drop_left]
theorem eat_sfx {c : UInt8} {l r : List UInt8} (h : eatQ c l = some r) : r <:+ l := by rw [eat_some h]; exact List.suffix_cons c r
theorem bk_sfx {r : List UInt8} {x : Pq × List UInt8} (h : bkQ r = .ok x) : x.2 <:+ r := by
  unfold bkQ at h
  split at h
  · cases h
  · rename_i r2 h2
    split at h
    · cases h
    · rename_i r3 h3
      cases h
      exact (eat_sfx h3).trans ((List.dropWhile_suffix _).trans (eat_sfx h2))
theorem dl_sfx {r : List UInt8} {x : Pq × List UInt8} (h : dlQ r = .ok x) : x.2 <:+ r := by
  unfold dlQ at h
  split at h
  · split at h
    · cases h
      exact List.dropWhile_suffix _
    · cases h
  · rename_i r2 h2
    split at h
    · have d2 := (List.dropWhile_suffix (l := r2) ltrQ).trans (eat_sfx h2)
      unfold crQ at h
      split at h
      · split at h
        · cases h
        · rename_i r3 h3
          cases h
          exact (eat_sfx h3).trans d2
      · rename_i r3 h3
        split at h
        · cases h
        · rename_i r5 h5
          split at h
          · cases h
          · rename_i r6 h6
            cases h
            exact (eat_sfx h6).trans ((List.dropWhile_suffix _).trans ((eat_sfx h5).trans ((List.dropWhile_suffix _).trans ((eat_sfx h3).trans d2))))
    · cases h
theorem on_sfx {b : UInt8} {r : List UInt8} {x : Pq × List UInt8} (h : onQ (b :: r) = .ok x) : x.2 <:+ b :: r := by
  rw [onQ] at h
  split at h
  · split at h
    · cases h
    · rename_i y hq
      cases h
      refine List.IsSuffix.trans ?_ (List.suffix_cons b r)
      cases he : endF r 0 with
      | none => rw [qt_none r 0 he] at hq; cases hq
      | some e =>
        rw [qt_some r 0 e he] at hq
        cases hq
        exact List.drop_suffix _ _
  · split at h
    · exact (bk_sfx h).trans (List.suffix_cons b r)
    · split at h
      · exact (dl_sfx h).trans (List.suffix_cons b r)
      · cases h
        exact List.dropWhile_suffix _
theorem on_suffix {b : UInt8} {r : List UInt8} {x : Pq × List UInt8} (h : onQ (b :: r) = .ok x) : (b :: r).drop (r.length + 1 - x.2.length) = x.2 := sfx_drop (on_sfx h)
/-- how far off the first sign stands within a Plain piece -/
def fnQ (sg : UInt8 → Bool) (l : List UInt8) : Option Nat :=
  match l with
  | [] => none
  | b :: r =>
    if blkQ b then (fnQ sg r).map (· + 1)
    else if plcQ b then (if sg b then some 0 else (fnQ sg r).map (· + 1))
    else match onQ (b :: r) with
      | .error _ => none
      | .ok x => if x.2.length < r.length + 1 then (fnQ sg x.2).map (· + (r.length + 1 - x.2.length)) else none
termination_by l.length
/-- where it stands, from place k on -/
def fnA (sg : UInt8 → Bool) (l : List UInt8) (k : Nat) : Int :=
  match fnQ sg (l.drop k) with
  | none => -1
  | some i => ((k + i : Nat) : Int)
theorem fnA_end {sg : UInt8 → Bool} {l : List UInt8} {k : Nat} (h : l.length ≤ k) : fnA sg l k = -1 := by
  unfold fnA; rw [List.drop_of_length_le h, fnQ]
theorem fnA_blank {sg : UInt8 → Bool} {l : List UInt8} {k : Nat} {b : UInt8} (h : l[k]? = some b) (hb : blkQ b = true) : fnA sg l k = fnA sg l (k + 1) := by
  unfold fnA
  rw [drop_at h, fnQ, if_pos hb]
  cases fnQ sg (l.drop (k + 1)) with
  | none => rfl
  | some i => simp only [Option.map_some]; congr 1; omega
theorem fnA_sign {sg : UInt8 → Bool} {l : List UInt8} {k : Nat} {b : UInt8} (h : l[k]? = some b) (hb : blkQ b = false) (hp : plcQ b = true) (hs : sg b = true) : fnA sg l k = k := by
  unfold fnA
  rw [drop_at h, fnQ, if_neg (by rw [hb]; simp), if_pos hp, if_pos hs]
  simp
theorem fnA_on {sg : UInt8 → Bool} {l : List UInt8} {k : Nat} {b : UInt8} (h : l[k]? = some b) (hb : blkQ b = false) (hp : plcQ b = true) (hs : sg b = false) : fnA sg l k = fnA sg l (k + 1) := by
  unfold fnA
  rw [drop_at h, fnQ, if_neg (by rw [hb]; simp), if_pos hp, if_neg (by rw [hs]; simp)]
  cases fnQ sg (l.drop (k + 1)) with
  | none => rfl
  | some i => simp only [Option.map_some]; congr 1; omega
theorem fnA_err {sg : UInt8 → Bool} {l : List UInt8} {k e : Nat} {b : UInt8} (h : l[k]? = some b) (hb : blkQ b = false) (hp : plcQ b = false) (he : onA l k = .error e) : fnA sg l k = -1 := by
  unfold onA at he
  unfold fnA
  rw [drop_at h] at he ⊢
  rw [fnQ, if_neg (by rw [hb]; simp), if_neg (by rw [hp]; simp), he]
theorem fnA_piece {sg : UInt8 → Bool} {l : List UInt8} {k e : Nat} {b : UInt8} {p : Pq} (h : l[k]? = some b) (hb : blkQ b = false) (hp : plcQ b = false) (he : onA l k = .ok (p, l.drop e)) (hle : e ≤ l.length) : fnA sg l k = fnA sg l e := by
  have hk := on_place h hb he hle
  have hk2 := (List.getElem?_eq_some_iff.1 h).1
  unfold onA at he
  unfold fnA
  rw [drop_at h] at he ⊢
  rw [fnQ, if_neg (by rw [hb]; simp), if_neg (by rw [hp]; simp), he]
  simp only
  rw [if_pos (by rw [List.length_drop, List.length_drop]; omega)]
  cases fnQ sg (l.drop e) with
  | none => rfl
  | some i => simp only [Option.map_some, List.length_drop]; congr 1; omega
theorem fnQ_lt {sg : UInt8 → Bool} : ∀ (n : Nat) {l : List UInt8} {i : Nat}, l.length ≤ n → fnQ sg l = some i → ∃ b, l[i]? = some b ∧ sg b = true ∧ plcQ b = true := by
  intro n
  induction n with
  | zero =>
    intro l i hl h
    obtain rfl := List.eq_nil_of_length_eq_zero (Nat.le_zero.1 hl)
    rw [fnQ] at h; cases h
  | succ n ih =>
    intro l i hl h
    cases l with
    | nil => rw [fnQ] at h; cases h
    | cons b r =>
      rw [List.length_cons] at hl
      rw [fnQ] at h
      split at h
      · obtain ⟨j, hj, rfl⟩ := Option.map_eq_some_iff.1 h
        obtain ⟨c, h1, h2⟩ := ih (by omega) hj
        exact ⟨c, by rw [List.getElem?_cons_succ]; exact h1, h2⟩
      · split at h
        · rename_i hp
          split at h
          · rename_i hs
            cases h
            exact ⟨b, rfl, hs, hp⟩
          · obtain ⟨j, hj, rfl⟩ := Option.map_eq_some_iff.1 h
            obtain ⟨c, h1, h2⟩ := ih (by omega) hj
            exact ⟨c, by rw [List.getElem?_cons_succ]; exact h1, h2⟩
        · split at h
          · cases h
          · rename_i x hx
            split at h
            · rename_i hlt
              obtain ⟨j, hj, rfl⟩ := Option.map_eq_some_iff.1 h
              obtain ⟨c, h1, h2⟩ := ih (by omega) hj
              refine ⟨c, ?_, h2⟩
              rw [← h1, ← congrArg (fun m : List UInt8 => m[j]?) (on_suffix hx)]
              simp only [List.getElem?_drop]
              congr 1
              omega
            · cases h
/-- a statement -/
structure Sm where
  k : Int
  ln : Int
  nm : List UInt8
  hs : List (List Pq)
  ws : List (List Pq)
  fl : Nat
  pr : List UInt8
  rc : List UInt8
  hd : Bool
  cm : Bool
/-- is what stands between two = letters U alone, one at least? -/
def allU (l : List UInt8) : Bool := !l.isEmpty && l.all (· == 85)
/-- whether it is hidden, and the words' text -/
def hidS (l : List UInt8) : Bool × List UInt8 :=
  match fnQ (· == 61) l with
  | none => (false, l)
  | some k => if allU (trQ (l.take k)) then (true, l.drop (k + 1)) else (false, l)
def asgS (a b : List UInt8) : Except Nat Sm :=
  if namQ (trQ a) = false then .error 4 else
    match wdQ [] [] (hidS b).2 with
    | .error e => .error e
    | .ok L => .ok ⟨1, 0, trQ a, [], L, 0, [], [], (hidS b).1, false⟩
/-- the attributes of a rule, and the words' text -/
def atrS (l : List UInt8) : Except Nat (Nat × List UInt8 × List UInt8) :=
  if l.isEmpty || recQ l then .ok (0, [], l) else
    if l.all (· != 58) then .error 7 else
      match docA 0 (l.takeWhile (· != 58)) with
      | .error e => .error e
      | .ok x => .ok (x.1, x.2, (l.dropWhile (· != 58)).drop 1)
def rulS (a b : List UInt8) : Except Nat Sm :=
  match wdQ [] [] a with
  | .error e => .error e
  | .ok H => if H.isEmpty then .error 3 else
    match atrS b with
    | .error e => .error e
    | .ok x => match wdQ [] [] x.2.2 with
      | .error e => .error e
      | .ok L => .ok ⟨2, 0, [], H, L, x.1, x.2.1, [], false, false⟩
/-- what begins with < -/
def incS (l : List UInt8) : Except Nat Sm :=
  if l.head? = some 124 then
    (if (trQ (l.drop 1)).isEmpty then .error 3 else .ok ⟨3, 0, trQ (l.drop 1), [], [], 0, [], [], false, true⟩)
  else match wdQ [] [] l with
    | .error e => .error e
    | .ok L => if L.isEmpty then .error 3 else .ok ⟨3, 0, [], [], L, 0, [], [], false, false⟩
def sgS (b : UInt8) : Bool := b == 58 || b == 61
/-- what has neither sign -/
def nonS (l : List UInt8) : Nat := match wdQ [] [] l with | .error e => e | .ok _ => 3
/-- the statement of a line that isn't empty -/
def oneS (l : List UInt8) : Except Nat Sm :=
  if l.head? = some 60 then incS (l.drop 1) else
    match fnQ sgS l with
    | none => .error (nonS l)
    | some k => if l[k]? = some 61 then asgS (l.take k) (l.drop (k + 1)) else rulS (l.take k) (l.drop (k + 1))
/-- a line that came in: its text, its number, whether it is a recipe's -/
structure Li where
  t : ByteArray
  n : Int
  r : Bool
/-- the recipe lines' texts, each with a line feed behind it -/
def rcpS (L : List Li) : List UInt8 := L.flatMap fun x => x.t.data.toList ++ [10]
/-- all lines' statements; the first error and its line's number -/
def parS (O : List Sm) (L : List Li) : Except (Nat × Int) (List Sm) :=
  match L with
  | [] => .ok O
  | x :: r =>
    if x.r then (if (trQ x.t.data.toList).isEmpty then parS O r else .error (3, x.n))
    else if x.t.data.toList.isEmpty then parS O r
    else match oneS x.t.data.toList with
      | .error e => .error (e, x.n)
      | .ok s => if s.k = 2 then parS (O ++ [{ s with ln := x.n, rc := rcpS (r.takeWhile (·.r)) }]) (r.dropWhile (·.r)) else parS (O ++ [{ s with ln := x.n }]) r
termination_by L.length
decreasing_by
  all_goals first | (simp; done) | (have := (List.dropWhile_sublist (p := fun (y : Li) => y.r) (l := r)).length_le; simp; omega)
end Go.Proofs.YtdganemgldocoaaGreatDoor
