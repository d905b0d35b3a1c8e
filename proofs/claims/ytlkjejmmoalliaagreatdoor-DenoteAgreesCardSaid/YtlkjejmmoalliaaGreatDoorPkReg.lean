/- Two statements of here whose order is open: a way more on the stack, a way more at the next place. -/
import Derived.Test.YtlkjejmmoalliaaGreatDoorPkStep
import Derived.Deep.RegionLaw
import Derived.Deep.RegionHeld3
namespace Go.Proofs.YtlkjejmmoalliaaGreatDoor
open Go.RowKit

def findReg (n : Nat) : Code → Option Code
  | .region k ops d => if k = n then some (.region k ops d) else none
  | .seq a b => match findReg n a with
    | some c => some c
    | none => findReg n b
  | .loop c => findReg n c
  | .block _ c => findReg n c
  | .scope c => findReg n c
  | .cond _ a b => match findReg n a with
    | some c => some c
    | none => findReg n b
  | _ => none
noncomputable def regC (n : Nat) : Code := ((Tryz.f19.body.bind (findReg n)).getD .skip)

set_option maxRecDepth 1000000 in
set_option maxHeartbeats 8000000 in
theorem reg9 {Q : Exit → Act → World → Prop} {u1 u2 u5 u6 u7 u8 u9 u10 u11 u12 u13 u14 u15 u16 u17 u18 u19 u20 u21 u22 u23 u24 u25 u26 u27 u28 u29 u30 u31 u32 u33 u34 u35 u36 u37 u38 u39 u40 u41 u42 u43 u44 u45 u46 u47 u48 u49 u50 u51 u52 u53 u54 u55 u56 u57 u58 u59 u60 u61 u62 u63 u64 u65 u66 u67 u68 u69 u70 u71 u72 u73 u74 u75 u76 u77 u78 u79 u80 u81 u82 u83 u84 u85 u86 u87 u88 u89 u90 u91 u92 u93 u94 u95 u96 u97 u98 u99 u100 u101 u102 u103 u104 u105 u106 u107 u108 u109 u110 u111 u112 u113 u114 u115 u116 u117 u118 u119 u120 u121 u122 u123 u124 u125 u126 u127 u128 u129 u130 u131 u132 u133 u134 u135 u136 u137 u138 u139 u140 u141 u142 u143 u144 u145 u146 u147 u148 u149 u150 u151 u152 u153 u154 u155 u156 u157 u158 u159 u160 u161 u162 u163 u164 u165 u166 u167 u168 u169 u170 u171 u172 u173 u174 u175 u176 : Value} {w0 w5 : World} {p q o cb off : Nat} {cv bv sv nv : Value} {s : ByteArray} {B : List Int} {S N : List Wx} {xa yy : Int} {xb : Nat} {xk : List Int}
    (hX : Hx w0 p cv s q bv B sv S nv N o ⟨xa, xb, xk⟩ w5) (k2 : w5.cell? ⟨cb, off + 2, none⟩ = some (.int .i64 yy)) (hSl : S.length ≤ 4000)
    (hQ : ∀ (v54 v55 v56 v57 v58 v59 v60 v61 v62 v63 v64 v65 v66 v67 v68 v69 : Value) (w' : World), Hid (∃ sv', Hx w0 p cv s q bv B sv' (S ++ [⟨yy, xb, xk⟩]) nv N o ⟨xa, xb, xk⟩ w') → Q .normal ⟨#[.pointer (some ⟨p, 0, none⟩), u1, u2, .pointer (some ⟨o, 0, none⟩), .pointer (some ⟨cb, off, none⟩), u5, u6, u7, u8, u9, u10, u11, u12, u13, u14, u15, u16, u17, u18, u19, u20, u21, u22, u23, u24, u25, u26, u27, u28, u29, u30, u31, u32, u33, u34, u35, u36, u37, u38, u39, u40, u41, u42, u43, u44, u45, u46, u47, u48, u49, u50, u51, u52, u53, v54, v55, v56, v57, v58, v59, v60, v61, v62, v63, v64, v65, v66, v67, v68, v69, u70, u71, u72, u73, u74, u75, u76, u77, u78, u79, u80, u81, u82, u83, u84, u85, u86, u87, u88, u89, u90, u91, u92, u93, u94, u95, u96, u97, u98, u99, u100, u101, u102, u103, u104, u105, u106, u107, u108, u109, u110, u111, u112, u113, u114, u115, u116, u117, u118, u119, u120, u121, u122, u123, u124, u125, u126, u127, u128, u129, u130, u131, u132, u133, u134, u135, u136, u137, u138, u139, u140, u141, u142, u143, u144, u145, u146, u147, u148, u149, u150, u151, u152, u153, u154, u155, u156, u157, u158, u159, u160, u161, u162, u163, u164, u165, u166, u167, u168, u169, u170, u171, u172, u173, u174, u175, u176], []⟩ w') :
    Code.wp Tryz.prog (regC 9) Q ⟨#[.pointer (some ⟨p, 0, none⟩), u1, u2, .pointer (some ⟨o, 0, none⟩), .pointer (some ⟨cb, off, none⟩), u5, u6, u7, u8, u9, u10, u11, u12, u13, u14, u15, u16, u17, u18, u19, u20, u21, u22, u23, u24, u25, u26, u27, u28, u29, u30, u31, u32, u33, u34, u35, u36, u37, u38, u39, u40, u41, u42, u43, u44, u45, u46, u47, u48, u49, u50, u51, u52, u53, u54, u55, u56, u57, u58, u59, u60, u61, u62, u63, u64, u65, u66, u67, u68, u69, u70, u71, u72, u73, u74, u75, u76, u77, u78, u79, u80, u81, u82, u83, u84, u85, u86, u87, u88, u89, u90, u91, u92, u93, u94, u95, u96, u97, u98, u99, u100, u101, u102, u103, u104, u105, u106, u107, u108, u109, u110, u111, u112, u113, u114, u115, u116, u117, u118, u119, u120, u121, u122, u123, u124, u125, u126, u127, u128, u129, u130, u131, u132, u133, u134, u135, u136, u137, u138, u139, u140, u141, u142, u143, u144, u145, u146, u147, u148, u149, u150, u151, u152, u153, u154, u155, u156, u157, u158, u159, u160, u161, u162, u163, u164, u165, u166, u167, u168, u169, u170, u171, u172, u173, u174, u175, u176], []⟩ w5 := by
  obtain ⟨iu, hiu, hu0, hu1, hu2⟩ := info_parts infoWay
  have IU := Lib.hid hiu; have ZU0 := Lib.hid hu0; have ZU1 := Lib.hid hu1; have ZU2 := Lib.hid hu2
  clear hiu hu0 hu1 hu2
  have X5 := Lib.hid hX
  obtain ⟨va, vc, rfl⟩ := owns_shape hX.W.oS
  obtain ⟨d0, d1⟩ := two_cells hX.O
  obtain ⟨c0, c1, c2, c3, c4, c5⟩ := six_cells hX.W.P
  have HOS := Lib.hid (fun W (g : w5.grownBy W none) => X5.out.grown g)
  have p1 := fun ob => (World.grownBy_alloc w5 ob none).cell c4 (by simp)
  have HQ := Lib.hid hQ
  clear hX hQ
  conv => arg 2; whnf
  refine wp_region_noPanic ?_
  go_region_law (refine step_append_lies _ (by rfl) _ _ 58 (by rfl) w0.heap.size 57 iu _ 2 16 Tryz.underlying58 IU.out ZU0.out ZU1.out ZU2.out rfl (by decide) (.slice va S.length vc) S.length (flatW S) (by rfl) (HOS.out _ ((grown_drew (World.grownBy.refl _ _)).trans (World.grownBy_alloc _ _ _))).W.oS ⟨_, 0, none⟩ 1 1 (wayC ⟨yy, xb, xk⟩) (by rfl) rfl (new_way _ _ _ _ (by simp)) (way_one _) (by decide) (by unfold maxLen; omega) (by omega) (by have := X5.out.W.G.size; simp; omega) _ rfl ?_; intro gg cap w7 hown2 hgrow2 hat hlt2; have X7 := Lib.hid ((HOS.out _ ((grown_drew (World.grownBy.refl _ _)).trans (World.grownBy_alloc _ _ _))).pushS yy hown2 hgrow2 (hat.imp_right (fun e => Nat.le_of_eq e.symm))); have O7 := Lib.hid ((HOS.out _ ((grown_drew (World.grownBy.refl _ _)).trans (World.grownBy_alloc _ _ _))).appP hgrow2); have f7 := four_free O7.out 4; obtain ⟨-, -, -, -, q7, -⟩ := six_cells O7.out)
  all_goals
    exact NoPanic.normal (HQ.out _ _ _ _ _ _ _ _ _ _ _ _ _ _ _ _ _ (Lib.hid ⟨_, X7.out⟩))
set_option maxRecDepth 1000000 in
set_option maxHeartbeats 8000000 in
theorem reg20 {Q : Exit → Act → World → Prop} {u1 u2 u4 u5 u6 u7 u8 u9 u10 u11 u12 u13 u14 u15 u16 u17 u18 u19 u20 u21 u22 u23 u24 u25 u26 u27 u28 u29 u30 u31 u32 u33 u34 u35 u36 u37 u38 u39 u40 u41 u42 u43 u44 u45 u46 u47 u48 u49 u50 u51 u52 u53 u54 u55 u56 u57 u58 u59 u60 u61 u62 u63 u64 u65 u66 u67 u68 u69 u70 u71 u72 u73 u74 u75 u76 u77 u78 u79 u80 u81 u82 u83 u84 u85 u86 u87 u88 u89 u90 u91 u92 u93 u94 u95 u96 u97 u98 u99 u100 u101 u102 u103 u104 u105 u106 u107 u108 u109 u110 u111 u112 u113 u114 u115 u116 u117 u118 u119 u120 u121 u122 u123 u124 u125 u126 u127 u128 u129 u130 u131 u132 u133 u134 u135 u136 u137 u138 u139 u140 u141 u142 u143 u144 u145 u146 u147 u148 u149 u150 u151 u152 u153 u154 u155 u156 u157 u158 u159 u160 u161 u162 u163 u164 u165 u166 u167 u168 u169 u170 u171 u172 u173 u174 u175 u176 : Value} {w0 w5 : World} {p q o : Nat} {cv bv sv nv : Value} {s : ByteArray} {B : List Int} {S N : List Wx} {xa : Int} {xb : Nat} {xk : List Int}
    (hX : Hx w0 p cv s q bv B sv S nv N o ⟨xa, xb, xk⟩ w5) (hSl : N.length ≤ 4000)
    (hQ : ∀ (v167 v168 v169 v170 v171 v172 v173 v174 v175 v176 : Value) (w' : World), Hid (∃ nv', Wk w0 p cv s q bv B sv S nv' (N ++ [⟨xa, xb, xk⟩]) w') → Q .normal ⟨#[.pointer (some ⟨p, 0, none⟩), u1, u2, .pointer (some ⟨o, 0, none⟩), u4, u5, u6, u7, u8, u9, u10, u11, u12, u13, u14, u15, u16, u17, u18, u19, u20, u21, u22, u23, u24, u25, u26, u27, u28, u29, u30, u31, u32, u33, u34, u35, u36, u37, u38, u39, u40, u41, u42, u43, u44, u45, u46, u47, u48, u49, u50, u51, u52, u53, u54, u55, u56, u57, u58, u59, u60, u61, u62, u63, u64, u65, u66, u67, u68, u69, u70, u71, u72, u73, u74, u75, u76, u77, u78, u79, u80, u81, u82, u83, u84, u85, u86, u87, u88, u89, u90, u91, u92, u93, u94, u95, u96, u97, u98, u99, u100, u101, u102, u103, u104, u105, u106, u107, u108, u109, u110, u111, u112, u113, u114, u115, u116, u117, u118, u119, u120, u121, u122, u123, u124, u125, u126, u127, u128, u129, u130, u131, u132, u133, u134, u135, u136, u137, u138, u139, u140, u141, u142, u143, u144, u145, u146, u147, u148, u149, u150, u151, u152, u153, u154, u155, u156, u157, u158, u159, u160, u161, u162, u163, u164, u165, u166, v167, v168, v169, v170, v171, v172, v173, v174, v175, v176], []⟩ w') :
    Code.wp Tryz.prog (regC 20) Q ⟨#[.pointer (some ⟨p, 0, none⟩), u1, u2, .pointer (some ⟨o, 0, none⟩), u4, u5, u6, u7, u8, u9, u10, u11, u12, u13, u14, u15, u16, u17, u18, u19, u20, u21, u22, u23, u24, u25, u26, u27, u28, u29, u30, u31, u32, u33, u34, u35, u36, u37, u38, u39, u40, u41, u42, u43, u44, u45, u46, u47, u48, u49, u50, u51, u52, u53, u54, u55, u56, u57, u58, u59, u60, u61, u62, u63, u64, u65, u66, u67, u68, u69, u70, u71, u72, u73, u74, u75, u76, u77, u78, u79, u80, u81, u82, u83, u84, u85, u86, u87, u88, u89, u90, u91, u92, u93, u94, u95, u96, u97, u98, u99, u100, u101, u102, u103, u104, u105, u106, u107, u108, u109, u110, u111, u112, u113, u114, u115, u116, u117, u118, u119, u120, u121, u122, u123, u124, u125, u126, u127, u128, u129, u130, u131, u132, u133, u134, u135, u136, u137, u138, u139, u140, u141, u142, u143, u144, u145, u146, u147, u148, u149, u150, u151, u152, u153, u154, u155, u156, u157, u158, u159, u160, u161, u162, u163, u164, u165, u166, u167, u168, u169, u170, u171, u172, u173, u174, u175, u176], []⟩ w5 := by
  obtain ⟨iu, hiu, hu0, hu1, hu2⟩ := info_parts infoWay
  have IU := Lib.hid hiu; have ZU0 := Lib.hid hu0; have ZU1 := Lib.hid hu1; have ZU2 := Lib.hid hu2
  clear hiu hu0 hu1 hu2
  have X5 := Lib.hid hX
  obtain ⟨va, vc, rfl⟩ := owns_shape hX.W.oN
  obtain ⟨d0, d1⟩ := two_cells hX.O
  obtain ⟨c0, c1, c2, c3, c4, c5⟩ := six_cells hX.W.P
  have HOS := Lib.hid (fun W (g : w5.grownBy W none) => X5.out.grown g)
  have p1 := fun ob => (World.grownBy_alloc w5 ob none).cell c5 (by simp)
  have HQ := Lib.hid hQ
  clear hX hQ
  conv => arg 2; whnf
  refine wp_region_noPanic ?_
  go_region_law (refine step_append_lies _ (by rfl) _ _ 58 (by rfl) w0.heap.size 57 iu _ 2 16 Tryz.underlying58 IU.out ZU0.out ZU1.out ZU2.out rfl (by decide) (.slice va N.length vc) N.length (flatW N) (by rfl) (HOS.out _ ((grown_drew (World.grownBy.refl _ _)).trans (World.grownBy_alloc _ _ _))).W.oN ⟨_, 0, none⟩ 1 1 (wayC ⟨xa, xb, xk⟩) (by rfl) rfl (new_way _ _ _ _ (by simp)) (way_one _) (by decide) (by unfold maxLen; omega) (by omega) (by have := X5.out.W.G.size; simp; omega) _ rfl ?_; intro gg cap w7 hown2 hgrow2 hat hlt2; have X7 := Lib.hid ((HOS.out _ ((grown_drew (World.grownBy.refl _ _)).trans (World.grownBy_alloc _ _ _))).W.pushN (x := ⟨xa, xb, xk⟩) (HOS.out _ ((grown_drew (World.grownBy.refl _ _)).trans (World.grownBy_alloc _ _ _))).K hown2 hgrow2 (hat.imp_right (fun e => Nat.le_of_eq e.symm))); have O7 := Lib.hid ((HOS.out _ ((grown_drew (World.grownBy.refl _ _)).trans (World.grownBy_alloc _ _ _))).appN hgrow2); have f7 := four_free O7.out 5; obtain ⟨-, -, -, -, -, q7⟩ := six_cells O7.out)
  all_goals
    exact NoPanic.normal (HQ.out _ _ _ _ _ _ _ _ _ _ _ (Lib.hid ⟨_, X7.out⟩))
end Go.Proofs.YtlkjejmmoalliaaGreatDoor
