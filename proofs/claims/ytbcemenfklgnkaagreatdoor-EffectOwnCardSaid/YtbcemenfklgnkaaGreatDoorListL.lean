/- Long lists of texts, for any number of texts. -/
import Derived.Test.YtbcemenfklgnkaaGreatDoorListA
namespace Go.Proofs.YtbcemenfklgnkaaGreatDoor
open Go.RowKit

def longT (m : Nat) (l : List ByteArray) : Bool := decide (m < l.length) || l.any bigB
theorem longT_hit {m : Nat} {l : List ByteArray} {k : Nat} {x : ByteArray} (h : l[k]? = some x) (hx : 100 < x.size) : longT m l = true := by
  unfold longT
  rw [List.any_eq_true.2 ⟨x, List.mem_of_getElem? h, by unfold bigB; exact decide_eq_true (by omega)⟩, Bool.or_true]
theorem longT_not {m : Nat} {l : List ByteArray} (h : l.length ≤ m) {k : Nat} (hk : l.length ≤ k) (ha : (l.take k).any bigB = false) : longT m l = false := by
  rw [List.take_of_length_le hk] at ha
  unfold longT; rw [ha, decide_eq_false (by omega)]; rfl
theorem shortT {m : Nat} {l : List ByteArray} (h : longT m l = false) : l.length ≤ m ∧ ∀ x ∈ l, x.size ≤ 100 := by
  unfold longT at h
  simp only [Bool.or_eq_false_iff, decide_eq_false_iff_not, List.any_eq_false] at h
  refine ⟨by omega, fun x hx => ?_⟩
  have := h.2 x hx
  unfold bigB at this
  simp only [decide_eq_true_eq] at this
  omega

set_option maxHeartbeats 400000 in
theorem lLongT (v : Value) (l : List ByteArray) (m : Nat) (w : World) (h : Row w v l) :
    Calls Tryz.prog 19 #[v, .int .i64 m, .int .i64 100] w fun e w' => e = .returned (.bool (longT m l)) ∧ w = w' := by
  obtain ⟨a, c, rfl, ⟨hn, -⟩, hr⟩ := h
  by_cases hm : m < l.length
  · have hL := Lib.hid (show longT m l = true by unfold longT; rw [decide_eq_true hm]; rfl)
    clear hr
    go_enter Tryz.func19, Tryz.ntmps19
    go_wp2
    go_ret
    exact ⟨ret_bool hL.out.symm, rfl⟩
  have HM : l.length ≤ m := by omega
  have hdm : decide (m < l.length) = false := decide_eq_false hm
  clear hm
  have HR := Lib.hid hr
  clear hr
  go_enter Tryz.func19, Tryz.ntmps19
  go_wp2
  go_loop [8, 15] (fun _ i => ∃ k : Nat, k ≤ l.length ∧ i = .int .i64 k ∧ Hid ((l.take k).any bigB = false)) (fun _ i => l.length - (intOf i).toNat)
  case atStart => exact ⟨0, Nat.zero_le _, rfl, Lib.hid rfl⟩
  case round =>
    obtain ⟨k, hk, rfl, ha⟩ := hrel
    by_cases hlt : k < l.length
    · obtain ⟨x, hx⟩ := get_of l k hlt
      obtain ⟨b, off, rfl, hb, hc⟩ := HR.out (by intro e; rw [e] at hlt; simp at hlt)
      have hcell := hc k x hx
      have Hx := Lib.hid hx
      clear hc hx
      by_cases hbig : 100 < x.size
      · have hL := Lib.hid (longT_hit (m := m) Hx.out hbig)
        go_wp2
        go_ret
        exact ⟨ret_bool hL.out.symm, rfl⟩
      · go_wp2
        go_round
        case rel => exact ⟨k + 1, by omega, by go_num, big_snoc l k x Hx.out (by omega) ha.out⟩
        case measure => simp [intOf]; omega
    · have hL := Lib.hid (longT_not HM (show l.length ≤ k by omega) ha.out)
      go_wp2
      go_ret
      exact ⟨ret_bool hL.out.symm, rfl⟩
end Go.Proofs.YtbcemenfklgnkaaGreatDoor
