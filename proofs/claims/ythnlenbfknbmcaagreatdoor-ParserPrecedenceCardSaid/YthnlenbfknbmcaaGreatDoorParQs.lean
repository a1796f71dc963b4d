/-
  The walk of ParserPrecedence: a region.
-/
import Derived.Test.YthnlenbfknbmcaaGreatDoorParQ0
namespace Go.Proofs.YthnlenbfknbmcaaGreatDoor
open Go.RowKit Go.Shelf
set_option maxRecDepth 100000
set_option linter.unusedVariables false
set_option linter.unusedSimpArgs false

set_option maxHeartbeats 16000000 in
theorem reg_s (ops : Array Oper) (h : Tryz.f4.body.bind (findR 14) = some ops) (Q : Exit → Act → World → Prop) (w : World) {a b c d xs : Xp} {ada adb adc add ads : Option Addr} {capa capb capc capd caps : Nat} {bA bB bC bD bX : Nat} (t0 t1 t2 t3 t8 t10 t11 t12 t13 t14 t15 t16 t17 t18 t19 t21 t22 t23 t24 t25 t26 t27 t28 t29 t30 t31 t32 t33 t34 t35 t36 t37 t38 t39 t40 t41 t42 t43 t44 t45 t46 t47 t48 t49 t50 t51 t52 t53 t54 t55 t56 t57 t58 t59 t60 t61 t62 t63 t64 t65 t66 t67 t68 t69 t70 t71 t72 t73 t74 t75 t76 t77 t78 t79 t80 t81 t82 t83 t84 t85 t86 t87 t88 t89 t90 t91 t92 t93 t94 t95 t96 t97 t98 t99 t100 t101 t102 t103 t104 t105 t106 t107 t108 t109 t110 t111 t112 t113 t114 t115 t116 t117 t118 t119 t120 t121 t122 t123 t124 t125 t126 t127 t128 t129 t130 t131 t132 t133 t134 t135 t136 t137 t138 t139 t140 t141 t142 t143 t144 t145 t146 t147 t148 t149 t150 t151 t152 t153 t154 t155 t156 t157 t158 t159 t160 t161 t162 t163 t164 t165 t166 t167 t168 t169 t170 t171 t172 t173 t174 t175 t176 t177 t178 t179 t180 t181 t182 t183 t184 t185 t186 t187 t188 t189 t190 t191 t192 t193 t194 t195 t196 t197 t198 t199 t200 t201 t202 t203 t204 t205 t206 t207 t208 t209 t210 t211 t212 t213 t214 t215 t216 t217 t218 t219 t220 t221 t222 t223 t224 t225 t226 t227 t228 t229 t230 t231 t232 t233 t234 t235 t236 t237 t238 t239 t240 t241 t242 t243 t244 t245 t246 : Value) (oa : Own w bA [.int .i64 a.o, .int .i64 a.n, .slice ada a.ks.length capa]) (ob : Own w bB [.int .i64 b.o, .int .i64 b.n, .slice adb b.ks.length capb]) (oc : Own w bC [.int .i64 c.o, .int .i64 c.n, .slice adc c.ks.length capc]) (od : Own w bD [.int .i64 d.o, .int .i64 d.n, .slice add d.ks.length capd]) (oxs : Own w bX [.int .i64 xs.o, .int .i64 xs.n, .slice ads xs.ks.length caps]) (Ta : Tree (fun _ => False) w a (.agg #[.int .i64 a.o, .int .i64 a.n, .slice ada a.ks.length capa])) (Tb : Tree (fun _ => False) w b (.agg #[.int .i64 b.o, .int .i64 b.n, .slice adb b.ks.length capb])) (Tc : Tree (fun _ => False) w c (.agg #[.int .i64 c.o, .int .i64 c.n, .slice adc c.ks.length capc])) (Td : Tree (fun _ => False) w d (.agg #[.int .i64 d.o, .int .i64 d.n, .slice add d.ks.length capd])) (Ts : Tree (fun _ => False) w xs (.agg #[.int .i64 xs.o, .int .i64 xs.n, .slice ads xs.ks.length caps])) (Qs : Hid (xs = (nodeE 14 [(nodeE 14 [(nodeE 6 [(nodeE 7 [a, b]), c]), d]), a]))) (hQ : ∀ (s212 s213 s214 s215 s216 s217 s218 s219 s220 s221 s222 s223 s224 s225 s226 s227 s228 s229 : Value) (w2 : World), Below w.heap.size w w2 → Q .normal { tmps := #[t0, t1, t2, t3, .pointer (some ⟨bA, 0, none⟩), .pointer (some ⟨bB, 0, none⟩), .pointer (some ⟨bC, 0, none⟩), .pointer (some ⟨bD, 0, none⟩), t8, .bool true, t10, t11, t12, t13, t14, t15, t16, t17, t18, t19, .pointer (some ⟨bX, 0, none⟩), t21, t22, t23, t24, t25, t26, t27, t28, t29, t30, t31, t32, t33, t34, t35, t36, t37, t38, t39, t40, t41, t42, t43, t44, t45, t46, t47, t48, t49, t50, t51, t52, t53, t54, t55, t56, t57, t58, t59, t60, t61, t62, t63, t64, t65, t66, t67, t68, t69, t70, t71, t72, t73, t74, t75, t76, t77, t78, t79, t80, t81, t82, t83, t84, t85, t86, t87, t88, t89, t90, t91, t92, t93, t94, t95, t96, t97, t98, t99, t100, t101, t102, t103, t104, t105, t106, t107, t108, t109, t110, t111, t112, t113, t114, t115, t116, t117, t118, t119, t120, t121, t122, t123, t124, t125, t126, t127, t128, t129, t130, t131, t132, t133, t134, t135, t136, t137, t138, t139, t140, t141, t142, t143, t144, t145, t146, t147, t148, t149, t150, t151, t152, t153, t154, t155, t156, t157, t158, t159, t160, t161, t162, t163, t164, t165, t166, t167, t168, t169, t170, t171, t172, t173, t174, t175, t176, t177, t178, t179, t180, t181, t182, t183, t184, t185, t186, t187, t188, t189, t190, t191, t192, t193, t194, t195, t196, t197, t198, t199, t200, t201, t202, t203, t204, t205, t206, t207, t208, t209, t210, t211, s212, s213, s214, s215, s216, s217, s218, s219, s220, s221, s222, s223, s224, s225, s226, s227, s228, s229, t230, t231, t232, t233, t234, t235, t236, t237, t238, t239, t240, t241, t242, t243, t244, t245, t246], defers := [] } w2) : (Code.region 14 ops true).wp Tryz.prog Q { tmps := #[t0, t1, t2, t3, .pointer (some ⟨bA, 0, none⟩), .pointer (some ⟨bB, 0, none⟩), .pointer (some ⟨bC, 0, none⟩), .pointer (some ⟨bD, 0, none⟩), t8, .bool true, t10, t11, t12, t13, t14, t15, t16, t17, t18, t19, .pointer (some ⟨bX, 0, none⟩), t21, t22, t23, t24, t25, t26, t27, t28, t29, t30, t31, t32, t33, t34, t35, t36, t37, t38, t39, t40, t41, t42, t43, t44, t45, t46, t47, t48, t49, t50, t51, t52, t53, t54, t55, t56, t57, t58, t59, t60, t61, t62, t63, t64, t65, t66, t67, t68, t69, t70, t71, t72, t73, t74, t75, t76, t77, t78, t79, t80, t81, t82, t83, t84, t85, t86, t87, t88, t89, t90, t91, t92, t93, t94, t95, t96, t97, t98, t99, t100, t101, t102, t103, t104, t105, t106, t107, t108, t109, t110, t111, t112, t113, t114, t115, t116, t117, t118, t119, t120, t121, t122, t123, t124, t125, t126, t127, t128, t129, t130, t131, t132, t133, t134, t135, t136, t137, t138, t139, t140, t141, t142, t143, t144, t145, t146, t147, t148, t149, t150, t151, t152, t153, t154, t155, t156, t157, t158, t159, t160, t161, t162, t163, t164, t165, t166, t167, t168, t169, t170, t171, t172, t173, t174, t175, t176, t177, t178, t179, t180, t181, t182, t183, t184, t185, t186, t187, t188, t189, t190, t191, t192, t193, t194, t195, t196, t197, t198, t199, t200, t201, t202, t203, t204, t205, t206, t207, t208, t209, t210, t211, t212, t213, t214, t215, t216, t217, t218, t219, t220, t221, t222, t223, t224, t225, t226, t227, t228, t229, t230, t231, t232, t233, t234, t235, t236, t237, t238, t239, t240, t241, t242, t243, t244, t245, t246], defers := [] } w := by
  simp only [Option.bind_some, Option.bind, findR, Tryz.f4, Nat.reduceEqDiff, if_false, if_true, reduceIte, Option.some.injEq] at h
  subst h
  have hz := Below.refl w.heap.size w
  have noa := oa
  have nob := ob
  have noc := oc
  have nod := od
  have noxs := oxs
  have nTa := Ta
  have nTb := Tb
  have nTc := Tc
  have nTd := Td
  have nTs := Ts
  clear oa ob oc od Ta Tb Tc Td Ts oxs
  have HS : ∀ w2, Below w.heap.size w w2 → (fun w' => w'.cell? ⟨bA, 0, none⟩ = some (.int .i64 a.o) ∧ w'.cell? ⟨bA, 1, none⟩ = some (.int .i64 a.n) ∧ w'.cell? ⟨bA, 2, none⟩ = some (.slice ada a.ks.length capa) ∧ w'.cell? ⟨bB, 0, none⟩ = some (.int .i64 b.o) ∧ w'.cell? ⟨bB, 1, none⟩ = some (.int .i64 b.n) ∧ w'.cell? ⟨bB, 2, none⟩ = some (.slice adb b.ks.length capb) ∧ w'.cell? ⟨bC, 0, none⟩ = some (.int .i64 c.o) ∧ w'.cell? ⟨bC, 1, none⟩ = some (.int .i64 c.n) ∧ w'.cell? ⟨bC, 2, none⟩ = some (.slice adc c.ks.length capc) ∧ w'.cell? ⟨bD, 0, none⟩ = some (.int .i64 d.o) ∧ w'.cell? ⟨bD, 1, none⟩ = some (.int .i64 d.n) ∧ w'.cell? ⟨bD, 2, none⟩ = some (.slice add d.ks.length capd) ∧ w'.cell? ⟨bX, 0, none⟩ = some (.int .i64 xs.o) ∧ w'.cell? ⟨bX, 1, none⟩ = some (.int .i64 xs.n) ∧ w'.cell? ⟨bX, 2, none⟩ = some (.slice ads xs.ks.length caps)) w2 := fun w2 h => ⟨(noa.below h).cell 0 _ rfl, (noa.below h).cell 1 _ rfl, (noa.below h).cell 2 _ rfl, (nob.below h).cell 0 _ rfl, (nob.below h).cell 1 _ rfl, (nob.below h).cell 2 _ rfl, (noc.below h).cell 0 _ rfl, (noc.below h).cell 1 _ rfl, (noc.below h).cell 2 _ rfl, (nod.below h).cell 0 _ rfl, (nod.below h).cell 1 _ rfl, (nod.below h).cell 2 _ rfl, (noxs.below h).cell 0 _ rfl, (noxs.below h).cell 1 _ rfl, (noxs.below h).cell 2 _ rfl⟩
  go_region_held3 (fun w' => w'.cell? ⟨bA, 0, none⟩ = some (.int .i64 a.o) ∧ w'.cell? ⟨bA, 1, none⟩ = some (.int .i64 a.n) ∧ w'.cell? ⟨bA, 2, none⟩ = some (.slice ada a.ks.length capa) ∧ w'.cell? ⟨bB, 0, none⟩ = some (.int .i64 b.o) ∧ w'.cell? ⟨bB, 1, none⟩ = some (.int .i64 b.n) ∧ w'.cell? ⟨bB, 2, none⟩ = some (.slice adb b.ks.length capb) ∧ w'.cell? ⟨bC, 0, none⟩ = some (.int .i64 c.o) ∧ w'.cell? ⟨bC, 1, none⟩ = some (.int .i64 c.n) ∧ w'.cell? ⟨bC, 2, none⟩ = some (.slice adc c.ks.length capc) ∧ w'.cell? ⟨bD, 0, none⟩ = some (.int .i64 d.o) ∧ w'.cell? ⟨bD, 1, none⟩ = some (.int .i64 d.n) ∧ w'.cell? ⟨bD, 2, none⟩ = some (.slice add d.ks.length capd) ∧ w'.cell? ⟨bX, 0, none⟩ = some (.int .i64 xs.o) ∧ w'.cell? ⟨bX, 1, none⟩ = some (.int .i64 xs.n) ∧ w'.cell? ⟨bX, 2, none⟩ = some (.slice ads xs.ks.length caps)) (first | with_reducible exact HS _ hz | with_reducible exact HS _ (hz.trans ((drB _).mono hz.size)) | with_reducible exact HS _ (balloc hz _) | with_reducible exact HS _ ((balloc hz _).trans ((drB _).mono (balloc hz _).size)) | with_reducible exact HS _ (balloc (balloc hz _) _) | with_reducible exact HS _ ((balloc (balloc hz _) _).trans ((drB _).mono (balloc (balloc hz _) _).size))) (first
    | (go_at_call 10
       have mk := N4
       clear mk
       refine (same_self (Q := (fun _ => False)) (R := (fun _ => False)) (x := xs) (by first | exact nTs) (by rw [Qs.out]; exact N4)).mono ?_
       rintro e v ⟨rfl, hx⟩
       first | (have hq := hx; with_reducible replace noa := noa.below hq) | (have hq := (bAq hx); with_reducible replace noa := noa.below hq) | (have hq := (bAq (bDq hx)); with_reducible replace noa := noa.below hq) | (have hq := (bAq (bAq hx)); with_reducible replace noa := noa.below hq) | (have hq := (bAq (bAq (bDq hx))); with_reducible replace noa := noa.below hq) | (have hq := (bDq hx); with_reducible replace noa := noa.below hq)
       replace nob := nob.below hq
       replace noc := noc.below hq
       replace nod := nod.below hq
       replace noxs := noxs.below hq
       replace hz := hz.trans (hq.mono hz.size)
       clear hq
       clear hx)
    | (go_at_call 18
       have mk := N3
       clear mk
       refine (lnode_any 14 _ 2 2 _).mono ?_
       rintro e v ⟨rfl, hx⟩
       first | with_reducible have on := (Own.new _ #[.int .i64 14, .int .i64 0, .slice _ 2 2, .int .i64 a.o, .int .i64 a.n, .slice ada a.ks.length capa] 24).below hx | with_reducible have on := ((Own.new _ #[.int .i64 14, .int .i64 0, .slice _ 2 2, .int .i64 a.o, .int .i64 a.n, .slice ada a.ks.length capa] 24).below (drB _)).below hx | with_reducible have on := ((Own.new _ #[.int .i64 14, .int .i64 0, .slice _ 2 2, .int .i64 a.o, .int .i64 a.n, .slice ada a.ks.length capa] 24).alloc _).below hx | with_reducible have on := (((Own.new _ #[.int .i64 14, .int .i64 0, .slice _ 2 2, .int .i64 a.o, .int .i64 a.n, .slice ada a.ks.length capa] 24).alloc _).below (drB _)).below hx
       try simp only [alloc_size, drew_size] at on
       first | (have hq := hx; with_reducible replace noa := noa.below hq) | (have hq := (bAq hx); with_reducible replace noa := noa.below hq) | (have hq := (bAq (bDq hx)); with_reducible replace noa := noa.below hq) | (have hq := (bAq (bAq hx)); with_reducible replace noa := noa.below hq) | (have hq := (bAq (bAq (bDq hx))); with_reducible replace noa := noa.below hq) | (have hq := (bDq hx); with_reducible replace noa := noa.below hq)
       replace nob := nob.below hq
       replace noc := noc.below hq
       replace nod := nod.below hq
       replace noxs := noxs.below hq
       replace nTa := nTa.below hq
       replace nTb := nTb.below hq
       replace nTc := nTc.below hq
       replace nTd := nTd.below hq
       replace nTs := nTs.below hq
       replace N1 := N1.below hq
       replace N2 := N2.below hq
       replace N3 := N3.below hq
       replace hz := hz.trans (hq.mono hz.size)
       clear hq
       clear hx
       have N4 := tree_two (Q := (fun _ => False)) (o := 14) (fun h => h) on N3 nTa 2
       clear on)
    | (go_at_call 18
       have mk := N2
       clear mk
       refine (lnode_any 14 _ 2 2 _).mono ?_
       rintro e v ⟨rfl, hx⟩
       first | with_reducible have on := (Own.new _ #[.int .i64 6, .int .i64 0, .slice _ 2 2, .int .i64 d.o, .int .i64 d.n, .slice add d.ks.length capd] 24).below hx | with_reducible have on := ((Own.new _ #[.int .i64 6, .int .i64 0, .slice _ 2 2, .int .i64 d.o, .int .i64 d.n, .slice add d.ks.length capd] 24).below (drB _)).below hx | with_reducible have on := ((Own.new _ #[.int .i64 6, .int .i64 0, .slice _ 2 2, .int .i64 d.o, .int .i64 d.n, .slice add d.ks.length capd] 24).alloc _).below hx | with_reducible have on := (((Own.new _ #[.int .i64 6, .int .i64 0, .slice _ 2 2, .int .i64 d.o, .int .i64 d.n, .slice add d.ks.length capd] 24).alloc _).below (drB _)).below hx
       try simp only [alloc_size, drew_size] at on
       first | (have hq := hx; with_reducible replace noa := noa.below hq) | (have hq := (bAq hx); with_reducible replace noa := noa.below hq) | (have hq := (bAq (bDq hx)); with_reducible replace noa := noa.below hq) | (have hq := (bAq (bAq hx)); with_reducible replace noa := noa.below hq) | (have hq := (bAq (bAq (bDq hx))); with_reducible replace noa := noa.below hq) | (have hq := (bDq hx); with_reducible replace noa := noa.below hq)
       replace nob := nob.below hq
       replace noc := noc.below hq
       replace nod := nod.below hq
       replace noxs := noxs.below hq
       replace nTa := nTa.below hq
       replace nTb := nTb.below hq
       replace nTc := nTc.below hq
       replace nTd := nTd.below hq
       replace nTs := nTs.below hq
       replace N1 := N1.below hq
       replace N2 := N2.below hq
       replace hz := hz.trans (hq.mono hz.size)
       clear hq
       clear hx
       have N3 := tree_two (Q := (fun _ => False)) (o := 14) (fun h => h) on N2 nTd 2
       clear on)
    | (go_at_call 18
       have mk := N1
       clear mk
       refine (lnode_any 6 _ 2 2 _).mono ?_
       rintro e v ⟨rfl, hx⟩
       first | with_reducible have on := (Own.new _ #[.int .i64 7, .int .i64 0, .slice _ 2 2, .int .i64 c.o, .int .i64 c.n, .slice adc c.ks.length capc] 24).below hx | with_reducible have on := ((Own.new _ #[.int .i64 7, .int .i64 0, .slice _ 2 2, .int .i64 c.o, .int .i64 c.n, .slice adc c.ks.length capc] 24).below (drB _)).below hx | with_reducible have on := ((Own.new _ #[.int .i64 7, .int .i64 0, .slice _ 2 2, .int .i64 c.o, .int .i64 c.n, .slice adc c.ks.length capc] 24).alloc _).below hx | with_reducible have on := (((Own.new _ #[.int .i64 7, .int .i64 0, .slice _ 2 2, .int .i64 c.o, .int .i64 c.n, .slice adc c.ks.length capc] 24).alloc _).below (drB _)).below hx
       try simp only [alloc_size, drew_size] at on
       first | (have hq := hx; with_reducible replace noa := noa.below hq) | (have hq := (bAq hx); with_reducible replace noa := noa.below hq) | (have hq := (bAq (bDq hx)); with_reducible replace noa := noa.below hq) | (have hq := (bAq (bAq hx)); with_reducible replace noa := noa.below hq) | (have hq := (bAq (bAq (bDq hx))); with_reducible replace noa := noa.below hq) | (have hq := (bDq hx); with_reducible replace noa := noa.below hq)
       replace nob := nob.below hq
       replace noc := noc.below hq
       replace nod := nod.below hq
       replace noxs := noxs.below hq
       replace nTa := nTa.below hq
       replace nTb := nTb.below hq
       replace nTc := nTc.below hq
       replace nTd := nTd.below hq
       replace nTs := nTs.below hq
       replace N1 := N1.below hq
       replace hz := hz.trans (hq.mono hz.size)
       clear hq
       clear hx
       have N2 := tree_two (Q := (fun _ => False)) (o := 6) (fun h => h) on N1 nTc 2
       clear on)
    | (go_at_call 18
       refine (lnode_any 7 _ 2 2 _).mono ?_
       rintro e v ⟨rfl, hx⟩
       first | with_reducible have on := (Own.new _ #[.int .i64 a.o, .int .i64 a.n, .slice ada a.ks.length capa, .int .i64 b.o, .int .i64 b.n, .slice adb b.ks.length capb] 24).below hx | with_reducible have on := ((Own.new _ #[.int .i64 a.o, .int .i64 a.n, .slice ada a.ks.length capa, .int .i64 b.o, .int .i64 b.n, .slice adb b.ks.length capb] 24).below (drB _)).below hx | with_reducible have on := ((Own.new _ #[.int .i64 a.o, .int .i64 a.n, .slice ada a.ks.length capa, .int .i64 b.o, .int .i64 b.n, .slice adb b.ks.length capb] 24).alloc _).below hx | with_reducible have on := (((Own.new _ #[.int .i64 a.o, .int .i64 a.n, .slice ada a.ks.length capa, .int .i64 b.o, .int .i64 b.n, .slice adb b.ks.length capb] 24).alloc _).below (drB _)).below hx
       try simp only [alloc_size, drew_size] at on
       first | (have hq := hx; with_reducible replace noa := noa.below hq) | (have hq := (bAq hx); with_reducible replace noa := noa.below hq) | (have hq := (bAq (bDq hx)); with_reducible replace noa := noa.below hq) | (have hq := (bAq (bAq hx)); with_reducible replace noa := noa.below hq) | (have hq := (bAq (bAq (bDq hx))); with_reducible replace noa := noa.below hq) | (have hq := (bDq hx); with_reducible replace noa := noa.below hq)
       replace nob := nob.below hq
       replace noc := noc.below hq
       replace nod := nod.below hq
       replace noxs := noxs.below hq
       replace nTa := nTa.below hq
       replace nTb := nTb.below hq
       replace nTc := nTc.below hq
       replace nTd := nTd.below hq
       replace nTs := nTs.below hq
       replace hz := hz.trans (hq.mono hz.size)
       clear hq
       clear hx
       have N1 := tree_two (Q := (fun _ => False)) (o := 7) (fun h => h) on nTa nTb 2
       clear on))
  all_goals exact hQ _ _ _ _ _ _ _ _ _ _ _ _ _ _ _ _ _ _ _ hz
end Go.Proofs.YthnlenbfknbmcaaGreatDoor
