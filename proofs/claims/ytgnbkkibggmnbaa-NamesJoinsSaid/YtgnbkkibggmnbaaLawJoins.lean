/- Directory and base, put together, are the text; Join of what Member tells is the name; Member of what Join makes of two right names without brackets tells these. No condition on the texts. -/
import Derived.Test.YtgnbkkibggmnbaaWalkF
import Derived.ProofKit
import Derived.OpenShut
import Derived.ShutString
namespace Go.Proofs.Ytgnbkkibggmnbaa.namesJoins
open Go.ChangeShapes Go.WideShapes Go.ChangeAt Go.RowKit
open Go.ChangeMaps (open_string shut_string)

theorem own : ownKnob Try.prog.godebug = none := by kernel_rfl
theorem grown_drewN (w : World) (n : Nat) : Grown w (w.drewN n) := by
  induction n with
  | zero => exact Grown.refl _
  | succ n ih => exact Grown.drew ih

theorem nJoin (a b : ByteArray) (w : World) (ha : a.size ≤ 300) (hb : b.size ≤ 300) :
    Calls Try.prog 17 #[.string a, .string b] w fun e w' => e = .returned (.string (joinS a b)) ∧ w = w' := by
  go_enter Try.func17, Try.ntmps17
  go_wp2
  go_ret
  exact ⟨rfl, rfl⟩

/-- Member of what Join makes -/
theorem nMember_join (l m : ByteArray) (w : World) (hl : rightB l = true) (hm : rightB m = true) (pl : plainB l = true) (pm : plainB m = true) (hn : l.size + m.size ≤ 38) :
    Calls Try.prog 8 #[.string (joinS l m)] w fun e w' => e = .returned (.tuple #[.string l, .string m, .bool true]) ∧ ∃ n, w' = w.drewN n := by
  obtain ⟨h1, h2⟩ := mem_join l m hl hm pl pm hn
  have hz := join_size l m
  have := nMember_yes (joinS l m) w (by unfold maxLen; omega) h1
  rw [h2, join_lib, join_mem] at this
  exact this

set_option maxHeartbeats 1000000 in
/-- behind the two first tests: x, y, b is what Member tells of s -/
theorem fine (s l m : ByteArray) (hs : s.size ≤ maxLen) (w : World) (hz : s.size ≤ 300) (hl : l.size ≤ 100) (hm : m.size ≤ 100) (x y : ByteArray) (b : Bool)
    (M : Hid (∀ w, Calls Try.prog 8 #[.string s] w fun e w' => e = .returned (.tuple #[.string x, .string y, .bool b]) ∧ ∃ n, w' = w.drewN n))
    (K : Hid (b = true → ∀ w, Calls Try.prog 17 #[.string x, .string y] w fun e w' => e = .returned (.string s) ∧ w = w')) :
    Calls Try.prog 5 #[.string s, .string l, .string m] w fun e w' => e = .returned (.bool true) ∧ ∃ n, w' = w.drewN n := by
  have hz' : s.size < 4611686018427387904 := by omega
  have hll : l.size ≤ maxLen := by unfold maxLen; omega
  have hml : m.size ≤ maxLen := by unfold maxLen; omega
  have R1 := Lib.hid (fun w => nRight l w hll)
  have R2 := Lib.hid (fun w => nRight m w hml)
  have P1 := Lib.hid (fun w => lPlain l w hll)
  have P2 := Lib.hid (fun w => lPlain m w hml)
  have J := Lib.hid (fun w => nJoin l m w (by omega) (by omega))
  have MJ := Lib.hid (nMember_join l m)
  clear hll hml
  by_cases r1 : rightB l = true
  · by_cases r2 : rightB m = true
    · by_cases p1 : plainB l = true
      · by_cases p2 : plainB m = true
        · by_cases hsum : l.size + m.size ≤ 38
          · have MJ2 := Lib.hid (fun w => MJ.out w r1 r2 p1 p2 hsum)
            clear MJ
            cases b
            · go_enter Try.func5, Try.ntmps5
              go_wp2_with (first | (go_at_call 7; refine (lAlive _).mono ?_; rintro e w' ⟨rfl, n, rfl⟩) | (go_at_call 13; refine (nDir _ _ hs hz').mono ?_; rintro e w' ⟨rfl, rfl⟩) | (go_at_call 14; refine (nBase _ _ hs hz').mono ?_; rintro e w' ⟨rfl, rfl⟩) | (go_at_call_of 8 (Value.string s); refine (M.out _).mono ?_; rintro e w' ⟨rfl, n1, rfl⟩) | (go_at_call_of 17 (Value.string l); refine (J.out _).mono ?_; rintro e w' ⟨rfl, rfl⟩) | (go_at_call 17; refine (K2.out _).mono ?_; rintro e w' ⟨rfl, rfl⟩) | (go_at_call_of 10 (Value.string l); refine (R1.out _).mono ?_; rintro e w' ⟨rfl, rfl⟩) | (go_at_call_of 10 (Value.string m); refine (R2.out _).mono ?_; rintro e w' ⟨rfl, rfl⟩) | (go_at_call_of 18 (Value.string l); refine (P1.out _).mono ?_; rintro e w' ⟨rfl, rfl⟩) | (go_at_call_of 18 (Value.string m); refine (P2.out _).mono ?_; rintro e w' ⟨rfl, rfl⟩) | (go_at_call 8; refine (MJ2.out _).mono ?_; rintro e w' ⟨rfl, n2, rfl⟩))
              go_ret
              exact ⟨rfl, _, rfl⟩
            have K2 := Lib.hid (K.out rfl)
            clear K
            go_enter Try.func5, Try.ntmps5
            go_wp2_with (first | (go_at_call 7; refine (lAlive _).mono ?_; rintro e w' ⟨rfl, n, rfl⟩) | (go_at_call 13; refine (nDir _ _ hs hz').mono ?_; rintro e w' ⟨rfl, rfl⟩) | (go_at_call 14; refine (nBase _ _ hs hz').mono ?_; rintro e w' ⟨rfl, rfl⟩) | (go_at_call_of 8 (Value.string s); refine (M.out _).mono ?_; rintro e w' ⟨rfl, n1, rfl⟩) | (go_at_call_of 17 (Value.string l); refine (J.out _).mono ?_; rintro e w' ⟨rfl, rfl⟩) | (go_at_call 17; refine (K2.out _).mono ?_; rintro e w' ⟨rfl, rfl⟩) | (go_at_call_of 10 (Value.string l); refine (R1.out _).mono ?_; rintro e w' ⟨rfl, rfl⟩) | (go_at_call_of 10 (Value.string m); refine (R2.out _).mono ?_; rintro e w' ⟨rfl, rfl⟩) | (go_at_call_of 18 (Value.string l); refine (P1.out _).mono ?_; rintro e w' ⟨rfl, rfl⟩) | (go_at_call_of 18 (Value.string m); refine (P2.out _).mono ?_; rintro e w' ⟨rfl, rfl⟩) | (go_at_call 8; refine (MJ2.out _).mono ?_; rintro e w' ⟨rfl, n2, rfl⟩))
            go_ret
            exact ⟨rfl, _, rfl⟩
          · clear MJ
            cases b
            · go_enter Try.func5, Try.ntmps5
              go_wp2_with (first | (go_at_call 7; refine (lAlive _).mono ?_; rintro e w' ⟨rfl, n, rfl⟩) | (go_at_call 13; refine (nDir _ _ hs hz').mono ?_; rintro e w' ⟨rfl, rfl⟩) | (go_at_call 14; refine (nBase _ _ hs hz').mono ?_; rintro e w' ⟨rfl, rfl⟩) | (go_at_call_of 8 (Value.string s); refine (M.out _).mono ?_; rintro e w' ⟨rfl, n1, rfl⟩) | (go_at_call_of 17 (Value.string l); refine (J.out _).mono ?_; rintro e w' ⟨rfl, rfl⟩) | (go_at_call 17; refine (K2.out _).mono ?_; rintro e w' ⟨rfl, rfl⟩) | (go_at_call_of 10 (Value.string l); refine (R1.out _).mono ?_; rintro e w' ⟨rfl, rfl⟩) | (go_at_call_of 10 (Value.string m); refine (R2.out _).mono ?_; rintro e w' ⟨rfl, rfl⟩) | (go_at_call_of 18 (Value.string l); refine (P1.out _).mono ?_; rintro e w' ⟨rfl, rfl⟩) | (go_at_call_of 18 (Value.string m); refine (P2.out _).mono ?_; rintro e w' ⟨rfl, rfl⟩) | (go_at_call 8; refine (MJ2.out _).mono ?_; rintro e w' ⟨rfl, n2, rfl⟩))
              go_ret
              exact ⟨rfl, _, rfl⟩
            have K2 := Lib.hid (K.out rfl)
            clear K
            go_enter Try.func5, Try.ntmps5
            go_wp2_with (first | (go_at_call 7; refine (lAlive _).mono ?_; rintro e w' ⟨rfl, n, rfl⟩) | (go_at_call 13; refine (nDir _ _ hs hz').mono ?_; rintro e w' ⟨rfl, rfl⟩) | (go_at_call 14; refine (nBase _ _ hs hz').mono ?_; rintro e w' ⟨rfl, rfl⟩) | (go_at_call_of 8 (Value.string s); refine (M.out _).mono ?_; rintro e w' ⟨rfl, n1, rfl⟩) | (go_at_call_of 17 (Value.string l); refine (J.out _).mono ?_; rintro e w' ⟨rfl, rfl⟩) | (go_at_call 17; refine (K2.out _).mono ?_; rintro e w' ⟨rfl, rfl⟩) | (go_at_call_of 10 (Value.string l); refine (R1.out _).mono ?_; rintro e w' ⟨rfl, rfl⟩) | (go_at_call_of 10 (Value.string m); refine (R2.out _).mono ?_; rintro e w' ⟨rfl, rfl⟩) | (go_at_call_of 18 (Value.string l); refine (P1.out _).mono ?_; rintro e w' ⟨rfl, rfl⟩) | (go_at_call_of 18 (Value.string m); refine (P2.out _).mono ?_; rintro e w' ⟨rfl, rfl⟩) | (go_at_call 8; refine (MJ2.out _).mono ?_; rintro e w' ⟨rfl, n2, rfl⟩))
            go_ret
            exact ⟨rfl, _, rfl⟩
        · have p2' : plainB m = false := by simpa using p2
          clear p2 MJ
          cases b
          · go_enter Try.func5, Try.ntmps5
            go_wp2_with (first | (go_at_call 7; refine (lAlive _).mono ?_; rintro e w' ⟨rfl, n, rfl⟩) | (go_at_call 13; refine (nDir _ _ hs hz').mono ?_; rintro e w' ⟨rfl, rfl⟩) | (go_at_call 14; refine (nBase _ _ hs hz').mono ?_; rintro e w' ⟨rfl, rfl⟩) | (go_at_call_of 8 (Value.string s); refine (M.out _).mono ?_; rintro e w' ⟨rfl, n1, rfl⟩) | (go_at_call_of 17 (Value.string l); refine (J.out _).mono ?_; rintro e w' ⟨rfl, rfl⟩) | (go_at_call 17; refine (K2.out _).mono ?_; rintro e w' ⟨rfl, rfl⟩) | (go_at_call_of 10 (Value.string l); refine (R1.out _).mono ?_; rintro e w' ⟨rfl, rfl⟩) | (go_at_call_of 10 (Value.string m); refine (R2.out _).mono ?_; rintro e w' ⟨rfl, rfl⟩) | (go_at_call_of 18 (Value.string l); refine (P1.out _).mono ?_; rintro e w' ⟨rfl, rfl⟩) | (go_at_call_of 18 (Value.string m); refine (P2.out _).mono ?_; rintro e w' ⟨rfl, rfl⟩) | (go_at_call 8; refine (MJ2.out _).mono ?_; rintro e w' ⟨rfl, n2, rfl⟩))
            go_ret
            exact ⟨rfl, _, rfl⟩
          have K2 := Lib.hid (K.out rfl)
          clear K
          go_enter Try.func5, Try.ntmps5
          go_wp2_with (first | (go_at_call 7; refine (lAlive _).mono ?_; rintro e w' ⟨rfl, n, rfl⟩) | (go_at_call 13; refine (nDir _ _ hs hz').mono ?_; rintro e w' ⟨rfl, rfl⟩) | (go_at_call 14; refine (nBase _ _ hs hz').mono ?_; rintro e w' ⟨rfl, rfl⟩) | (go_at_call_of 8 (Value.string s); refine (M.out _).mono ?_; rintro e w' ⟨rfl, n1, rfl⟩) | (go_at_call_of 17 (Value.string l); refine (J.out _).mono ?_; rintro e w' ⟨rfl, rfl⟩) | (go_at_call 17; refine (K2.out _).mono ?_; rintro e w' ⟨rfl, rfl⟩) | (go_at_call_of 10 (Value.string l); refine (R1.out _).mono ?_; rintro e w' ⟨rfl, rfl⟩) | (go_at_call_of 10 (Value.string m); refine (R2.out _).mono ?_; rintro e w' ⟨rfl, rfl⟩) | (go_at_call_of 18 (Value.string l); refine (P1.out _).mono ?_; rintro e w' ⟨rfl, rfl⟩) | (go_at_call_of 18 (Value.string m); refine (P2.out _).mono ?_; rintro e w' ⟨rfl, rfl⟩) | (go_at_call 8; refine (MJ2.out _).mono ?_; rintro e w' ⟨rfl, n2, rfl⟩))
          go_ret
          exact ⟨rfl, _, rfl⟩
      · have p1' : plainB l = false := by simpa using p1
        clear p1 MJ
        cases b
        · go_enter Try.func5, Try.ntmps5
          go_wp2_with (first | (go_at_call 7; refine (lAlive _).mono ?_; rintro e w' ⟨rfl, n, rfl⟩) | (go_at_call 13; refine (nDir _ _ hs hz').mono ?_; rintro e w' ⟨rfl, rfl⟩) | (go_at_call 14; refine (nBase _ _ hs hz').mono ?_; rintro e w' ⟨rfl, rfl⟩) | (go_at_call_of 8 (Value.string s); refine (M.out _).mono ?_; rintro e w' ⟨rfl, n1, rfl⟩) | (go_at_call_of 17 (Value.string l); refine (J.out _).mono ?_; rintro e w' ⟨rfl, rfl⟩) | (go_at_call 17; refine (K2.out _).mono ?_; rintro e w' ⟨rfl, rfl⟩) | (go_at_call_of 10 (Value.string l); refine (R1.out _).mono ?_; rintro e w' ⟨rfl, rfl⟩) | (go_at_call_of 10 (Value.string m); refine (R2.out _).mono ?_; rintro e w' ⟨rfl, rfl⟩) | (go_at_call_of 18 (Value.string l); refine (P1.out _).mono ?_; rintro e w' ⟨rfl, rfl⟩) | (go_at_call_of 18 (Value.string m); refine (P2.out _).mono ?_; rintro e w' ⟨rfl, rfl⟩) | (go_at_call 8; refine (MJ2.out _).mono ?_; rintro e w' ⟨rfl, n2, rfl⟩))
          go_ret
          exact ⟨rfl, _, rfl⟩
        have K2 := Lib.hid (K.out rfl)
        clear K
        go_enter Try.func5, Try.ntmps5
        go_wp2_with (first | (go_at_call 7; refine (lAlive _).mono ?_; rintro e w' ⟨rfl, n, rfl⟩) | (go_at_call 13; refine (nDir _ _ hs hz').mono ?_; rintro e w' ⟨rfl, rfl⟩) | (go_at_call 14; refine (nBase _ _ hs hz').mono ?_; rintro e w' ⟨rfl, rfl⟩) | (go_at_call_of 8 (Value.string s); refine (M.out _).mono ?_; rintro e w' ⟨rfl, n1, rfl⟩) | (go_at_call_of 17 (Value.string l); refine (J.out _).mono ?_; rintro e w' ⟨rfl, rfl⟩) | (go_at_call 17; refine (K2.out _).mono ?_; rintro e w' ⟨rfl, rfl⟩) | (go_at_call_of 10 (Value.string l); refine (R1.out _).mono ?_; rintro e w' ⟨rfl, rfl⟩) | (go_at_call_of 10 (Value.string m); refine (R2.out _).mono ?_; rintro e w' ⟨rfl, rfl⟩) | (go_at_call_of 18 (Value.string l); refine (P1.out _).mono ?_; rintro e w' ⟨rfl, rfl⟩) | (go_at_call_of 18 (Value.string m); refine (P2.out _).mono ?_; rintro e w' ⟨rfl, rfl⟩) | (go_at_call 8; refine (MJ2.out _).mono ?_; rintro e w' ⟨rfl, n2, rfl⟩))
        go_ret
        exact ⟨rfl, _, rfl⟩
    · have r2' : rightB m = false := by simpa using r2
      clear r2 MJ
      cases b
      · go_enter Try.func5, Try.ntmps5
        go_wp2_with (first | (go_at_call 7; refine (lAlive _).mono ?_; rintro e w' ⟨rfl, n, rfl⟩) | (go_at_call 13; refine (nDir _ _ hs hz').mono ?_; rintro e w' ⟨rfl, rfl⟩) | (go_at_call 14; refine (nBase _ _ hs hz').mono ?_; rintro e w' ⟨rfl, rfl⟩) | (go_at_call_of 8 (Value.string s); refine (M.out _).mono ?_; rintro e w' ⟨rfl, n1, rfl⟩) | (go_at_call_of 17 (Value.string l); refine (J.out _).mono ?_; rintro e w' ⟨rfl, rfl⟩) | (go_at_call 17; refine (K2.out _).mono ?_; rintro e w' ⟨rfl, rfl⟩) | (go_at_call_of 10 (Value.string l); refine (R1.out _).mono ?_; rintro e w' ⟨rfl, rfl⟩) | (go_at_call_of 10 (Value.string m); refine (R2.out _).mono ?_; rintro e w' ⟨rfl, rfl⟩) | (go_at_call_of 18 (Value.string l); refine (P1.out _).mono ?_; rintro e w' ⟨rfl, rfl⟩) | (go_at_call_of 18 (Value.string m); refine (P2.out _).mono ?_; rintro e w' ⟨rfl, rfl⟩) | (go_at_call 8; refine (MJ2.out _).mono ?_; rintro e w' ⟨rfl, n2, rfl⟩))
        go_ret
        exact ⟨rfl, _, rfl⟩
      have K2 := Lib.hid (K.out rfl)
      clear K
      go_enter Try.func5, Try.ntmps5
      go_wp2_with (first | (go_at_call 7; refine (lAlive _).mono ?_; rintro e w' ⟨rfl, n, rfl⟩) | (go_at_call 13; refine (nDir _ _ hs hz').mono ?_; rintro e w' ⟨rfl, rfl⟩) | (go_at_call 14; refine (nBase _ _ hs hz').mono ?_; rintro e w' ⟨rfl, rfl⟩) | (go_at_call_of 8 (Value.string s); refine (M.out _).mono ?_; rintro e w' ⟨rfl, n1, rfl⟩) | (go_at_call_of 17 (Value.string l); refine (J.out _).mono ?_; rintro e w' ⟨rfl, rfl⟩) | (go_at_call 17; refine (K2.out _).mono ?_; rintro e w' ⟨rfl, rfl⟩) | (go_at_call_of 10 (Value.string l); refine (R1.out _).mono ?_; rintro e w' ⟨rfl, rfl⟩) | (go_at_call_of 10 (Value.string m); refine (R2.out _).mono ?_; rintro e w' ⟨rfl, rfl⟩) | (go_at_call_of 18 (Value.string l); refine (P1.out _).mono ?_; rintro e w' ⟨rfl, rfl⟩) | (go_at_call_of 18 (Value.string m); refine (P2.out _).mono ?_; rintro e w' ⟨rfl, rfl⟩) | (go_at_call 8; refine (MJ2.out _).mono ?_; rintro e w' ⟨rfl, n2, rfl⟩))
      go_ret
      exact ⟨rfl, _, rfl⟩
  · have r1' : rightB l = false := by simpa using r1
    clear r1 MJ
    cases b
    · go_enter Try.func5, Try.ntmps5
      go_wp2_with (first | (go_at_call 7; refine (lAlive _).mono ?_; rintro e w' ⟨rfl, n, rfl⟩) | (go_at_call 13; refine (nDir _ _ hs hz').mono ?_; rintro e w' ⟨rfl, rfl⟩) | (go_at_call 14; refine (nBase _ _ hs hz').mono ?_; rintro e w' ⟨rfl, rfl⟩) | (go_at_call_of 8 (Value.string s); refine (M.out _).mono ?_; rintro e w' ⟨rfl, n1, rfl⟩) | (go_at_call_of 17 (Value.string l); refine (J.out _).mono ?_; rintro e w' ⟨rfl, rfl⟩) | (go_at_call 17; refine (K2.out _).mono ?_; rintro e w' ⟨rfl, rfl⟩) | (go_at_call_of 10 (Value.string l); refine (R1.out _).mono ?_; rintro e w' ⟨rfl, rfl⟩) | (go_at_call_of 10 (Value.string m); refine (R2.out _).mono ?_; rintro e w' ⟨rfl, rfl⟩) | (go_at_call_of 18 (Value.string l); refine (P1.out _).mono ?_; rintro e w' ⟨rfl, rfl⟩) | (go_at_call_of 18 (Value.string m); refine (P2.out _).mono ?_; rintro e w' ⟨rfl, rfl⟩) | (go_at_call 8; refine (MJ2.out _).mono ?_; rintro e w' ⟨rfl, n2, rfl⟩))
      go_ret
      exact ⟨rfl, _, rfl⟩
    have K2 := Lib.hid (K.out rfl)
    clear K
    go_enter Try.func5, Try.ntmps5
    go_wp2_with (first | (go_at_call 7; refine (lAlive _).mono ?_; rintro e w' ⟨rfl, n, rfl⟩) | (go_at_call 13; refine (nDir _ _ hs hz').mono ?_; rintro e w' ⟨rfl, rfl⟩) | (go_at_call 14; refine (nBase _ _ hs hz').mono ?_; rintro e w' ⟨rfl, rfl⟩) | (go_at_call_of 8 (Value.string s); refine (M.out _).mono ?_; rintro e w' ⟨rfl, n1, rfl⟩) | (go_at_call_of 17 (Value.string l); refine (J.out _).mono ?_; rintro e w' ⟨rfl, rfl⟩) | (go_at_call 17; refine (K2.out _).mono ?_; rintro e w' ⟨rfl, rfl⟩) | (go_at_call_of 10 (Value.string l); refine (R1.out _).mono ?_; rintro e w' ⟨rfl, rfl⟩) | (go_at_call_of 10 (Value.string m); refine (R2.out _).mono ?_; rintro e w' ⟨rfl, rfl⟩) | (go_at_call_of 18 (Value.string l); refine (P1.out _).mono ?_; rintro e w' ⟨rfl, rfl⟩) | (go_at_call_of 18 (Value.string m); refine (P2.out _).mono ?_; rintro e w' ⟨rfl, rfl⟩) | (go_at_call 8; refine (MJ2.out _).mono ?_; rintro e w' ⟨rfl, n2, rfl⟩))
    go_ret
    exact ⟨rfl, _, rfl⟩

theorem walk (s l m : ByteArray) (hs : s.size ≤ maxLen) (hl : l.size ≤ maxLen) (hm : m.size ≤ maxLen) (w : World) :
    Calls Try.prog 5 #[.string s, .string l, .string m] w fun e w' => e = .returned (.bool true) ∧ ∃ n, w' = w.drewN n := by
  have hs' := hs; have hl' := hl; have hm' := hm
  unfold maxLen at hs' hl' hm'
  by_cases z1 : 300 < s.size
  · go_enter Try.func5, Try.ntmps5
    go_wp2_with (go_at_call 7; refine (lAlive _).mono ?_; rintro e w' ⟨rfl, n, rfl⟩)
    go_ret
    exact ⟨rfl, _, rfl⟩
  by_cases z2 : 100 < l.size
  · go_enter Try.func5, Try.ntmps5
    go_wp2_with (go_at_call 7; refine (lAlive _).mono ?_; rintro e w' ⟨rfl, n, rfl⟩)
    go_ret
    exact ⟨rfl, _, rfl⟩
  by_cases z3 : 100 < m.size
  · go_enter Try.func5, Try.ntmps5
    go_wp2_with (go_at_call 7; refine (lAlive _).mono ?_; rintro e w' ⟨rfl, n, rfl⟩)
    go_ret
    exact ⟨rfl, _, rfl⟩
  by_cases hb : memB s = true
  · refine fine s l m hs w (by omega) (by omega) (by omega) _ _ true (Lib.hid fun w => nMember_yes s w hs hb) (Lib.hid fun _ w => ?_)
    have h1 : (s.extract 0 (opn s)).size ≤ 300 := by rw [ByteArray.size_extract]; omega
    have h2 : (s.extract (opn s + 1) (s.size - 1)).size ≤ 300 := by rw [ByteArray.size_extract]; omega
    have := nJoin _ _ w h1 h2
    rw [join_member s hb] at this
    exact this
  · have hb' : memB s = false := by simpa using hb
    exact fine s l m hs w (by omega) (by omega) (by omega) _ _ false (Lib.hid fun w => (nMember_no s w hs hb').mono fun _ _ ⟨he, hw⟩ => ⟨he, 0, hw.symm⟩) (Lib.hid fun h => by cases h)

set_option maxRecDepth 100000 in
theorem lifted (os : Os) (started : os.Started) (H : Type) (enc : TypeId × Value → H) :
    ReturnsInHanded {} Try.checked os 5 .any (Rows.namesJoinsSpec.pre6 enc Try.prog Try.f5 Rows.namesJoinsRow.domain false) (Rows.namesJoinsSpec.post enc Try.prog Try.f5 false true false false) := by
  refine returnsInHanded_of_change (C := Try.checked) own started (by kernel_rfl) Try.func5
    (ChangeSpec.witness6 (enc := enc) (C := Try.checked) false ⟨#[], #[.string ByteArray.empty, .string ByteArray.empty, .string ByteArray.empty], []⟩ 8 (by kernel_rfl) (by kernel_rfl) (by kernel_rfl) (by kernel_rfl)) ?_
  intro W base args ds gs before hval0 hW hcnd _
  have hval : ∀ (j : Nat) t v, Try.f5.params[j]? = some t → args[j]? = some v → Value.okWide Try.prog W .any base t v := hval0
  have hW' := hW
  obtain ⟨p, q, hA0, hV, rfl, hfz, hnd⟩ := hW
  have hA : DataW.TrodAll enc Try.prog W 0 (fun _ => true) true Try.f5.params.toList args.toList ds p := hA0
  rw [Try.params5] at hA hval
  obtain ⟨v0, vs0, d0, ds0, p0, q0, hargs, rfl, rfl, h0, r0⟩ := trodAll_cons hA
  obtain ⟨v1, vs1, d1, ds1, p1, q1, rfl, rfl, rfl, h1, r1⟩ := trodAll_cons r0
  obtain ⟨v2, vs2, d2, ds2, p2, q2, rfl, rfl, rfl, h2, r2⟩ := trodAll_cons r1
  obtain ⟨rfl, rfl, rfl⟩ := trodAll_nil r2
  obtain rfl : args = #[v0, v1, v2] := by cases args; simp_all
  obtain ⟨rfl, rfl⟩ := trodVars_none hV
  obtain ⟨a0, rfl, rfl, rfl, w0⟩ := open_string Try.underlying9 (hval 0 9 v0 rfl rfl) h0
  obtain ⟨a1, rfl, rfl, rfl, w1⟩ := open_string Try.underlying9 (hval 1 9 v1 rfl rfl) h1
  obtain ⟨a2, rfl, rfl, rfl, w2⟩ := open_string Try.underlying9 (hval 2 9 v2 rfl rfl) h2
  clear hA0 hval0
  simp only [List.append_nil] at hW'
  refine (walk a0 a1 a2 w0 w1 w2 W).mono fun e W' ⟨he, n, hw⟩ => ?_
  have hg : Grown W W' := by rw [hw]; exact grown_drewN W n
  subst he
  exact ⟨_, rfl, post_of_same (pa := []) (pv := []) hW' (fun _ _ _ => (trodAll_cons_mk (shut_bool Try.underlying4 _) trodAll_mk0)) (fun sp _ => (trodAll_cons_mk (shut_string Try.underlying9 w0) (trodAll_cons_mk (shut_string Try.underlying9 w1) (trodAll_cons_mk (shut_string Try.underlying9 w2) trodAll_mk0)))) (fun _ _ => rfl) rfl
    (hg.frame _) hg.2.1 (ok_one (by kernel_rfl) rfl (okWide_bool_mk Try.underlying4 _))⟩

theorem over : Rows.namesJoinsRow.holds Try.pinned (OpenSpec.ofChange Rows.namesJoinsSpec) :=
  OpenClaim.holds_of_wide 5 Try.f5 rfl rfl rfl rfl rfl rfl rfl ⟨rfl, rfl, rfl, rfl, rfl⟩ rfl rfl rfl rfl rfl (by kernel_rfl) Try.func5 (by kernel_rfl)
    (of_decide_eq_true (by kernel_rfl)) (by unfold Func.isWrapper; first | (rw [if_pos (by decide +kernel)]; kernel_rfl) | (rw [if_neg (by decide +kernel)]; exact ⟨rfl, rfl⟩))
    (fun os started H enc _ => lifted os started H enc)

theorem proved : Rows.NamesJoinsSaid := over
end Go.Proofs.Ytgnbkkibggmnbaa.namesJoins
