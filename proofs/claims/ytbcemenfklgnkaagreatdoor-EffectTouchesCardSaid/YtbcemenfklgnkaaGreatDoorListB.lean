/- Two lists that are the same; a copy with marked room behind, and that it stands as it stood. -/
import Derived.Test.YtbcemenfklgnkaaGreatDoorListA
import Derived.WalkSmall
import Derived.OwnWalk
import Derived.Laws.AppendOwn
namespace Go.Proofs.YtbcemenfklgnkaaGreatDoor
open Go.RowKit

set_option maxHeartbeats 400000 in
theorem lSame (v1 v2 : Value) (l : List ByteArray) (w : World) (h1 : Row w v1 l) (h2 : Row w v2 l) :
    Calls Tryz.prog 22 #[v1, v2] w fun e w' => e = .returned (.bool true) ∧ ∃ n, w' = w.drewN n := by
  obtain ⟨a1, c1, rfl, ⟨hn, -⟩, hr1⟩ := h1
  obtain ⟨a2, c2, rfl, -, hr2⟩ := h2
  have HR1 := Lib.hid hr1
  have HR2 := Lib.hid hr2
  clear hr1 hr2
  go_enter Tryz.func22, Tryz.ntmps22
  go_wp2
  go_loopw [5, 13] (fun _ i wr => ∃ k : Nat, k ≤ l.length ∧ i = .int .i64 k ∧ ∃ n, wr = w.drewN n) (fun _ i _ => l.length - (intOf i).toNat)
  case atStart => exact ⟨0, Nat.zero_le _, rfl, 0, rfl⟩
  case round =>
    obtain ⟨k, hk, rfl, n, rfl⟩ := hrel
    by_cases hlt : k < l.length
    · obtain ⟨x, hx⟩ := get_of l k hlt
      obtain ⟨b1, off1, rfl, hb1, hc1⟩ := HR1.out (by intro e; rw [e] at hlt; simp at hlt)
      obtain ⟨b2, off2, rfl, hb2, hc2⟩ := HR2.out (by intro e; rw [e] at hlt; simp at hlt)
      have hcell1 := hc1 k x hx
      have hcell2 := hc2 k x hx
      clear hc1 hc2 hx
      go_wp2
      go_quiet (fail)
      go_wp2
      go_roundw
      case rel => exact ⟨k + 1, by omega, by go_num, _, rfl⟩
      case measure => simp [intOf]; omega
    · go_wp2
      go_ret
      exact ⟨rfl, _, rfl⟩

theorem infoStr : (Tryz.prog.info? 9).map (fun i => (i.zero, i.size, i.bytes)) = some (some (.string ByteArray.empty), 1, 16) := by kernel_rfl

/-- the cells of a list's texts -/
def cellsOf (l : List ByteArray) : List Value := l.map Value.string
theorem cells_one (l : List ByteArray) : ∀ u ∈ cellsOf l, u.oneCell' = true := by
  intro u hu; obtain ⟨x, _, rfl⟩ := List.mem_map.1 hu; rfl
theorem cells_at {l : List ByteArray} {j : Nat} {u : Value} (h : (cellsOf l)[j]? = some u) : ∃ x, l[j]? = some x ∧ u = .string x := by
  unfold cellsOf at h; rw [List.getElem?_map] at h
  cases hx : l[j]? with
  | none => rw [hx] at h; cases h
  | some x => rw [hx] at h; exact ⟨x, rfl, (Option.some.inj h).symm⟩
end Go.Proofs.YtbcemenfklgnkaaGreatDoor
