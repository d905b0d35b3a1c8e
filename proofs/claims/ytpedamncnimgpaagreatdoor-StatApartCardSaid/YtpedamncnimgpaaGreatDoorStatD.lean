/- What the laws of layer 4 share: the chapter's example. -/
import Derived.Test.YtpedamncnimgpaaGreatDoorStatB
namespace Go.Proofs.YtpedamncnimgpaaGreatDoor
open Go.RowKit Go.Maps

def exN : ByteArray := ⟨#[108, 105, 98, 46, 97, 40, 120, 46, 111, 41]⟩
def exL : ByteArray := ⟨#[108, 105, 98, 46, 97]⟩
def exM : ByteArray := ⟨#[120, 46, 111]⟩
theorem ex_mem : memB exN = true := by decide +kernel
theorem ex_lib : libB exN = exL := by decide +kernel
theorem ex_me : meB exN = exM := by decide +kernel
theorem ex_name : nameB exM = true := by decide +kernel
theorem ex_right : rightB exL = true := by decide +kernel
theorem ex_nil (s : ByteArray) : getL [] s = nilF := rfl
theorem ex_start : archOf (startOf nilF.c) = some [] := by
  unfold startOf
  rw [if_pos (by rw [Lib.toList_data]; rfl)]
  exact arch_start
theorem ex_make : makeE [⟨exM, 3, ⟨#[]⟩⟩] = 0 := by
  rw [makeE_zero]
  refine ⟨fun m hm => ?_, fun m hm => ?_, by simp, ?_⟩
  · simp at hm; subst hm; exact ex_name
  · simp at hm; subst hm; exact (time_iff 3).2 (by decide)
  · simp [sumM, sizeM]; decide
/-- the example: how Set ends in a tree without files -/
theorem ex_set : ∃ y : ByteArray, statR [] exN 3 = (0, [⟨exL, y, 3⟩]) ∧ y.size ≤ 900 ∧ timeS [⟨exL, y, 3⟩] exN = 3 := by
  have hn : archOf nilF.c = none := arch_no _ (by decide)
  have hm : setM [] (newM (getL [] (libB exN)).c (meB exN) 3) = [⟨exM, 3, ⟨#[]⟩⟩] := by
    rw [ex_lib, ex_me]; exact set_doc_new hn
  obtain ⟨y, hy, -⟩ := some_ba (makeL [⟨exM, 3, ⟨#[]⟩⟩])
  have hy9 : y.size ≤ 900 := arch_len ⟨ex_make, hy⟩
  have hr := statR_put (l := []) (s := exN) (t := 3) (a := []) ex_mem (by decide) (by rw [ex_nil]; exact ex_start) (by rw [hm]; exact ex_make) (y := y) (by rw [hm]; exact hy)
  have hp : putE [] ⟨exL, y, 3⟩ = 0 := by
    unfold putE setE
    rw [if_neg (by rw [ex_right]; decide), if_neg (by simp only; omega), if_neg (show ¬((3 : Int) < 1 ∨ 549755813888 < (3 : Int)) by decide), if_neg (by simp)]
  rw [ex_lib, hp] at hr
  have hr' : statR [] exN 3 = (0, [⟨exL, y, 3⟩]) := hr
  have ht := time_set (l := []) (s := exN) (t := 3) (by rw [hr'])
  rw [hr'] at ht
  exact ⟨y, hr', hy9, ht⟩

set_option maxRecDepth 100000 in
set_option maxHeartbeats 1000000 in
theorem lAliveS (A : Nat → Addr) (w : World) (hE : Env A w) :
    Calls Tryz.prog 6 #[] w fun e w' => e = .returned (.bool true) ∧ w.grownBy w' none := by
  have HE := Lib.hid hE
  clear hE
  obtain ⟨y, hr, hy, ht⟩ := ex_set
  have HS := Lib.hid (fun (p b : Nat) (W : World) (hW : IsTree W p b []) (hE : Env A W) => sSet p b [] exN 3 A W hW hE (by decide) (by simp))
  unfold SetOut at HS
  rw [hr] at HS
  simp only [errV_zero] at HS
  have HO := Lib.hid (fun (p b : Nat) (W : World) (hW : IsTree W p b [⟨exL, y, 3⟩]) (hE : Env A W) => sOf p b [⟨exL, y, 3⟩] exN A W hW hE (by decide) (by simpa using hy))
  rw [ht] at HO
  have HT := Lib.hid (fun (p b : Nat) (W : World) (hW : IsTree W p b [⟨exL, y, 3⟩]) => tTime p b [⟨exL, y, 3⟩] exL W hW (by decide))
  rw [show (getL [⟨exL, y, 3⟩] exL).t = 3 from rfl] at HT
  clear hr ht
  unfold exN at HS HO
  generalize hX : [(⟨exL, y, 3⟩ : Fl)] = X at *
  unfold exL at HT
  clear hX
  go_enter Tryz.func6, Tryz.ntmps6
  go_wp2_with fail
  refine (tNew _).mono ?_
  rintro e w1 ⟨rfl, t1, g1⟩
  have T1 := Lib.hid t1; have G1 := Lib.hid g1
  clear t1 g1
  go_wp2_with (first
    | (go_at_call 20; refine (HS.out _ _ _ T1.out (HE.out.grown G1.out)).mono ?_; rintro e w2 ⟨rfl, t2, g2⟩; have T2 := Lib.hid t2; have G2 := Lib.hid (grown_none G1.out g2 (Nat.le_refl _)); clear t2 g2)
    | (go_at_call 13; refine (HO.out _ _ _ T2.out (HE.out.grown G2.out)).mono ?_; rintro e w3 ⟨rfl, g3⟩; have T3 := Lib.hid (T2.out.grown g3); have G3 := Lib.hid (G2.out.trans g3); clear g3)
    | (go_at_call 24; refine (HT.out _ _ _ T3.out).mono ?_; rintro e w4 ⟨rfl, rfl⟩))
  go_ret
  exact ⟨rfl, G3.out⟩
end Go.Proofs.YtpedamncnimgpaaGreatDoor
