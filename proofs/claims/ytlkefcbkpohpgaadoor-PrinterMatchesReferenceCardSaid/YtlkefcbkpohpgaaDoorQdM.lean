/-
  The law PrinterMatchesReference: both functions return what the reference returns.
-/
import Derived.Test.YtlkefcbkpohpgaaDoorQdB
import Derived.Test.YtlkefcbkpohpgaaDoorQdC
import Derived.Test.YtlkefcbkpohpgaaDoorPrnLayD
import Derived.Lib.SmallJoins
import Derived.ChangeMaps5
namespace Go.Proofs.YtlkefcbkpohpgaaDoor
open Go.RowKit Go.Shelf
set_option maxRecDepth 100000
set_option linter.unusedVariables false
set_option linter.unusedSimpArgs false

set_option maxHeartbeats 3200000 in
theorem lawM_any {Q : Nat → Prop} (x : Xp) (u rv : Value) (w : World) (hP : PL w) (h1 : Tree Q w x u) (hr : ∃ a0 a1 a2 a3 a4 a5 a6 a7 kn kd we pe bd1 bap1 bd2 bap2, RateAt w rv a0 a1 a2 a3 a4 a5 a6 a7 kn kd we pe bd1 bap1 bd2 bap2) : Calls Tryd.prog 3 #[u, rv] w (Ret (.bool true) w) := by
  obtain ⟨ad1, cap1, rfl, -, -⟩ := h1.shape
  obtain ⟨a0, a1, a2, a3, a4, a5, a6, a7, kn, kd, we, pe, bd1, bap1, bd2, bap2, rfl, t1, t2⟩ := hr
  obtain ⟨W, hW⟩ : ∃ W, W = (w.alloc (.cells #[.int .i64 x.o, .int .i64 x.n, .slice ad1 x.ks.length cap1] 24)).alloc (.cells #[.int .i64 a0, .int .i64 a1, .int .i64 a2, .int .i64 a3, .int .i64 a4, .int .i64 a5, .int .i64 a6, .int .i64 a7, .int .i64 kn, .int .i64 kd, .int .i64 we.o, .int .i64 we.n, .slice bd1 we.ks.length bap1, .int .i64 pe.o, .int .i64 pe.n, .slice bd2 pe.ks.length bap2] 30) := ⟨_, rfl⟩
  have o1 : Own W w.heap.size [.int .i64 x.o, .int .i64 x.n, .slice ad1 x.ks.length cap1] := by rw [hW]; exact (Own.new w #[.int .i64 x.o, .int .i64 x.n, .slice ad1 x.ks.length cap1] 24).alloc _
  have o2 : Own W (w.heap.size + 1) [.int .i64 a0, .int .i64 a1, .int .i64 a2, .int .i64 a3, .int .i64 a4, .int .i64 a5, .int .i64 a6, .int .i64 a7, .int .i64 kn, .int .i64 kd, .int .i64 we.o, .int .i64 we.n, .slice bd1 we.ks.length bap1, .int .i64 pe.o, .int .i64 pe.n, .slice bd2 pe.ks.length bap2] := by
    rw [hW]
    have := Own.new (w.alloc (.cells #[.int .i64 x.o, .int .i64 x.n, .slice ad1 x.ks.length cap1] 24)) #[.int .i64 a0, .int .i64 a1, .int .i64 a2, .int .i64 a3, .int .i64 a4, .int .i64 a5, .int .i64 a6, .int .i64 a7, .int .i64 kn, .int .i64 kd, .int .i64 we.o, .int .i64 we.n, .slice bd1 we.ks.length bap1, .int .i64 pe.o, .int .i64 pe.n, .slice bd2 pe.ks.length bap2] 30
    simpa using this
  have hb : Below w.heap.size w W := by rw [hW]; exact balloc (balloc (Below.refl _ _) _) _
  have hd := head_any W (hP.below hb)
  have hpe := fun w1 (h : Below w.heap.size w w1) => pprint_any x _ w1 (hP.below h) (h1.below h)
  have hre := fun w1 (h : Below w.heap.size w w1) => rexpr9_any x ad1 cap1 w1 (h1.below h)
  have hpr := fun w1 (h : Below w.heap.size w w1) => prate_any a0 a1 a2 a3 a4 a5 a6 a7 kn kd we pe bd1 bd2 bap1 bap2 w1 (hP.below h) (t1.below h) (t2.below h)
  have hrr := fun w1 (h : Below w.heap.size w w1) => rrate_any a0 a1 a2 a3 a4 a5 a6 a7 kn kd we pe bd1 bd2 bap1 bap2 w1 (t1.below h) (t2.below h)
  generalize (⟨(exprP x).1.toArray⟩ : ByteArray) = S1 at hpe hre
  generalize (exprP x).2 = k1 at hpe hre
  generalize (⟨(rateP a0 a1 a2 a3 a4 a5 a6 a7 kn kd we pe).1.toArray⟩ : ByteArray) = S2 at hpr hrr
  generalize (rateP a0 a1 a2 a3 a4 a5 a6 a7 kn kd we pe).2 = k2 at hpr hrr
  obtain ⟨c0, c1, c2, -, -, -, zc⟩ := o1.three
  obtain ⟨d0, d1, d2, d3, d4, d5, d6, d7, d8, d9, d10, d11, d12, d13, d14, d15, zd⟩ := own_16 o2
  go_enter Tryd.func3, Tryd.ntmps3
  go_wp2_with fail
  rw [← hW]
  clear hW
  refine hd.mono ?_
  rintro e w0 ⟨rfl, hx⟩
  clear c0 c1 c2 zc d0 d1 d2 d3 d4 d5 d6 d7 d8 d9 d10 d11 d12 d13 d14 d15 zd
  replace o1 := o1.below hx
  replace o2 := o2.below hx
  replace hb := hb.trans (hx.mono hb.size)
  obtain ⟨c0, c1, c2, -, -, -, zc⟩ := o1.three
  obtain ⟨d0, d1, d2, d3, d4, d5, d6, d7, d8, d9, d10, d11, d12, d13, d14, d15, zd⟩ := own_16 o2
  clear hx
  go_wp2_with fail
  refine (hpe _ hb).mono ?_
  rintro e w1 ⟨rfl, hx⟩
  clear c0 c1 c2 zc d0 d1 d2 d3 d4 d5 d6 d7 d8 d9 d10 d11 d12 d13 d14 d15 zd
  replace o1 := o1.below hx
  replace o2 := o2.below hx
  replace hb := hb.trans (hx.mono hb.size)
  obtain ⟨c0, c1, c2, -, -, -, zc⟩ := o1.three
  obtain ⟨d0, d1, d2, d3, d4, d5, d6, d7, d8, d9, d10, d11, d12, d13, d14, d15, zd⟩ := own_16 o2
  clear hx
  go_wp2_with fail
  refine (hre _ hb).mono ?_
  rintro e w2 ⟨rfl, hx⟩
  clear c0 c1 c2 zc d0 d1 d2 d3 d4 d5 d6 d7 d8 d9 d10 d11 d12 d13 d14 d15 zd
  replace o1 := o1.below hx
  replace o2 := o2.below hx
  replace hb := hb.trans (hx.mono hb.size)
  obtain ⟨c0, c1, c2, -, -, -, zc⟩ := o1.three
  obtain ⟨d0, d1, d2, d3, d4, d5, d6, d7, d8, d9, d10, d11, d12, d13, d14, d15, zd⟩ := own_16 o2
  clear hx
  go_wp2_with fail
  refine (hpr _ hb).mono ?_
  rintro e w3 ⟨rfl, hx⟩
  clear c0 c1 c2 zc d0 d1 d2 d3 d4 d5 d6 d7 d8 d9 d10 d11 d12 d13 d14 d15 zd
  replace o1 := o1.below hx
  replace o2 := o2.below hx
  replace hb := hb.trans (hx.mono hb.size)
  obtain ⟨c0, c1, c2, -, -, -, zc⟩ := o1.three
  obtain ⟨d0, d1, d2, d3, d4, d5, d6, d7, d8, d9, d10, d11, d12, d13, d14, d15, zd⟩ := own_16 o2
  clear hx
  go_wp2_with fail
  refine (hrr _ hb).mono ?_
  rintro e w4 ⟨rfl, hx⟩
  go_wp2_with fail
  go_ret
  exact Ret.mk (by first | rfl | simp) (hb.trans (hx.mono hb.size))
end Go.Proofs.YtlkefcbkpohpgaaDoor
namespace Go.Proofs.YtlkefcbkpohpgaaDoor
open Go.ChangeShapes Go.WideShapes Go.ChangeAt Go.RowKit Go.Joins
open Go.ChangeMaps (open_string)
set_option linter.unusedVariables false
set_option maxRecDepth 100000

theorem contractMatchesReference (H : Type) (enc : TypeId × Value → H) (W : World) (base : Nat) (args : Array Value) (ds gs : List (DataW H)) (before : List MemPlace)
    (hval0 : ∀ (j : Nat) t v, Tryd.f3.params[j]? = some t → args[j]? = some v → Value.okWide Tryd.prog W .any base t v)
    (hW : DataW.Whole enc Tryd.prog Tryd.f3.params.toList Rows.printerMatchesReferenceSpec.vars false W args.toList ds gs before) (hL : laidMetH Tryd.prog Rows.printerMatchesReferenceRow.laid W) (hsh : W.ShapedOpen Tryd.prog) :
    Calls Tryd.prog 3 args W fun e W' => ∃ v, e = .returned v ∧ Rows.printerMatchesReferenceSpec.post enc Tryd.prog Tryd.f3 false true false false W args v W' := by
  have hval : ∀ (j : Nat) t v, Tryd.f3.params[j]? = some t → args[j]? = some v → Value.okWide Tryd.prog W .any base t v := hval0
  have hT : PL W := pl_of hL
  have hW' := hW
  obtain ⟨p, q, hA0, hV, rfl, hfz, hnd⟩ := hW
  have hA : DataW.TrodAll enc Tryd.prog W 0 (fun _ => true) true Tryd.f3.params.toList args.toList ds p := hA0
  rw [Tryd.params3] at hA hval
  obtain ⟨v0, vs0, d0, ds0, p0, q0, hargs, rfl, rfl, h0, r0⟩ := trodAll_cons hA
  obtain ⟨v1, vs1, d1, ds1, p1, q1, rfl, rfl, rfl, h1, r1⟩ := trodAll_cons r0
  obtain ⟨rfl, rfl, rfl⟩ := trodAll_nil r1
  obtain rfl : args = #[v0, v1] := by cases args; simp_all
  obtain ⟨rfl, rfl⟩ := trodVars_none hV
  have k0 := h0
  have lt0 : ∀ x ∈ p0, x.block < W.heap.size := by obtain ⟨m, hm⟩ := k0; exact DataW.trod_lt m _ _ _ hm
  obtain ⟨e0, t0⟩ := tree_of_trod (hval 0 24 v0 rfl rfl) h0
  have k1 := h1
  have lt1 : ∀ x ∈ p1, x.block < W.heap.size := by obtain ⟨m, hm⟩ := k1; exact DataW.trod_lt m _ _ _ hm
  have m1 := rate_of_trod (hval 1 30 v1 rfl rfl) h1
  clear hA0 hval0
  have hwalk := lawM_any e0 v0 v1 W hT t0 m1
  refine hwalk.mono fun e W' ⟨he, bel⟩ => ?_
  subst he
  exact ⟨_, rfl, _, _, _, [], _, [], hW', trodAll_mk1 (shut_bool Tryd.underlying4 _), (trodAll_cons_mk (Below.trod laidD (by kernel_rfl) (of_decide_eq_true (by kernel_rfl)) k0 bel lt0) (trodAll_cons_mk (Below.trod laidD (by kernel_rfl) (of_decide_eq_true (by kernel_rfl)) k1 bel lt1) trodAll_mk0)), rfl, bel.frame _, fun h => by cases h⟩

theorem readsMatchesReference (os : Os) {H : Type} (enc : TypeId × Value → H) : ∃ places, DataW.whole enc Tryd.prog ((prnWorld os).forCall (fun _ _ => 0) ⟨#[], #[.agg #[.int .i64 0, .int .i64 0, .slice none 0 0], .agg #[.int .i64 0, .int .i64 0, .int .i64 0, .int .i64 0, .int .i64 0, .int .i64 0, .int .i64 0, .int .i64 0, .int .i64 0, .int .i64 0, .int .i64 0, .int .i64 0, .slice none 0 0, .int .i64 0, .int .i64 0, .slice none 0 0]], []⟩).memory Tryd.f3.params.toList Rows.printerMatchesReferenceSpec.vars false (#[.agg #[.int .i64 0, .int .i64 0, .slice none 0 0], .agg #[.int .i64 0, .int .i64 0, .int .i64 0, .int .i64 0, .int .i64 0, .int .i64 0, .int .i64 0, .int .i64 0, .int .i64 0, .int .i64 0, .int .i64 0, .int .i64 0, .slice none 0 0, .int .i64 0, .int .i64 0, .slice none 0 0]] : Array Value).toList 8 = some ([.agg [.lit (.int .i64 0), .lit (.int .i64 0), .nil], .agg [.lit (.int .i64 0), .lit (.int .i64 0), .lit (.int .i64 0), .agg [.lit (.int .i64 0), .lit (.int .i64 0)], .lit (.int .i64 0), .lit (.int .i64 0), .lit (.int .i64 0), .agg [.lit (.int .i64 0), .lit (.int .i64 0)], .agg [.lit (.int .i64 0), .lit (.int .i64 0), .nil], .agg [.lit (.int .i64 0), .lit (.int .i64 0), .nil]]], [], places) :=
  ⟨[], by kernel_rfl⟩
set_option maxRecDepth 100000 in
theorem liftedMatchesReference (os : Os) (started : os.Started) (H : Type) (enc : TypeId × Value → H) (F : Stop.Interp) :
    ReturnsInHanded {} Tryd.checked os 3 .any ((OpenSpec.ofChange Rows.printerMatchesReferenceSpec).preRow enc Tryd.prog Tryd.f3 Rows.printerMatchesReferenceRow.domain false Rows.printerMatchesReferenceRow.laid) (((OpenSpec.ofChange Rows.printerMatchesReferenceSpec).at F).post enc Tryd.prog Tryd.f3 false true false false) := by
  obtain ⟨places, hx⟩ := readsMatchesReference os enc
  refine returnsInHanded_of_row (C := Tryd.checked) (s := OpenSpec.ofChange Rows.printerMatchesReferenceSpec) ownD started (by kernel_rfl) Tryd.func3
    (witness_row_at (enc := enc) (C := Tryd.checked) false (prnWorld os) #[.agg #[.int .i64 0, .int .i64 0, .slice none 0 0], .agg #[.int .i64 0, .int .i64 0, .int .i64 0, .int .i64 0, .int .i64 0, .int .i64 0, .int .i64 0, .int .i64 0, .int .i64 0, .int .i64 0, .int .i64 0, .int .i64 0, .slice none 0 0, .int .i64 0, .int .i64 0, .slice none 0 0]] rfl (by kernel_rfl) (by kernel_rfl) (by kernel_rfl)
      (OpenSpec.preRow_of_cond 8 hx (by kernel_rfl) (fun k hk => by cases hk) (by kernel_rfl) (prn_met os _))) ?_
  intro W base args ds gs before hval hW _ _ _ hL hsh _
  exact contractMatchesReference H enc W base args ds gs before hval hW hL hsh
theorem printerMatchesReference_said : Rows.PrinterMatchesReferenceSaid :=
  OpenClaim.holds_of_cond 3 Tryd.f3 rfl rfl rfl rfl rfl rfl rfl ⟨rfl, rfl, rfl, rfl, rfl⟩ rfl rfl rfl rfl rfl (by kernel_rfl) Tryd.func3 (by kernel_rfl)
    (of_decide_eq_true (by kernel_rfl)) (by unfold Func.isWrapper; first | (rw [if_pos (by decide +kernel)]; kernel_rfl) | (rw [if_neg (by decide +kernel)]; exact ⟨rfl, rfl⟩))
    (fun os started H enc _ F => by rw [OpenClaim.pre_eq_preRow]; exact liftedMatchesReference os started H enc F)
theorem plainMatchesReference (f : FuncId) (fn : Func) (hf : Tryd.pinned.checked.prog.funcNamed "innkeeper/innkeeperlaw09.PrinterMatchesReference" = some f) (hfn : Tryd.pinned.checked.prog.funcs[f]? = some fn) :
    false = Tryd.pinned.checked.prog.looks [] ∧ ∀ (j : Nat) t, fn.params[j]? = some t → Tryd.pinned.checked.prog.wantsStandIn t = false := by
  obtain rfl : f = 3 := Option.some.inj ((show Tryd.prog.funcNamed "innkeeper/innkeeperlaw09.PrinterMatchesReference" = some 3 by kernel_rfl).symm.trans hf) |>.symm
  obtain rfl : fn = Tryd.f3 := (Option.some.inj (Tryd.func3.symm.trans hfn)).symm
  refine ⟨by kernel_rfl, fun j t ht => ?_⟩
  rw [Tryd.params3] at ht
  have hm := Array.mem_of_getElem? ht
  simp only [List.mem_toArray, List.mem_cons, List.not_mem_nil, or_false] at hm
  rcases hm with rfl | rfl <;> (show Tryd.prog.wantsStandIn _ = false; kernel_rfl)
/-- The given statement. -/
theorem printerMatchesReference_card : Rows.PrinterMatchesReferenceCardSaid :=
  Claim7.holds_tied_plain_at .later [] _ _ _ _ printerMatchesReference_said (fun _ h => by cases h) (by kernel_rfl) (fun _ h => by cases h) printerMatchesReference_row_tie rfl ⟨rfl, rfl⟩ (by kernel_rfl) rfl plainMatchesReference (by kernel_rfl)
end Go.Proofs.YtlkefcbkpohpgaaDoor
