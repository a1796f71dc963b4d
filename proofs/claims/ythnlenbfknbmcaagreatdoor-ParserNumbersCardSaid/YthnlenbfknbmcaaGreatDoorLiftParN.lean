/-
  The law ParserNumbers is proved: whatever the input, it returns true, and the input reads as it did, in every run in which the tables and the two errors that the library reads stand as they are laid.
-/
import Derived.Test.YthnlenbfknbmcaaGreatDoorParLay
import Derived.Test.YthnlenbfknbmcaaGreatDoorParHead
import Derived.Test.YthnlenbfknbmcaaGreatDoorParLawN
import Derived.Lib.SmallJoins
import Derived.ChangeMaps5
namespace Go.Proofs.YthnlenbfknbmcaaGreatDoor
open Go.ChangeShapes Go.WideShapes Go.ChangeAt Go.RowKit Go.Joins
open Go.ChangeMaps (open_string)
set_option linter.unusedVariables false
set_option maxRecDepth 100000

theorem arr_of_trod {H : Type} {enc : TypeId × Value → H} {W : World} {base : Nat} {spare : Nat → Bool} {held : Bool} {v : Value} {d : DataW H} {ps : List MemPlace} (h : DataW.Trod enc Tryz.prog W base spare held 41 v d ps) :
    ∃ x0 x1 x2 x3 x4 x5 x6 x7 : Nat, v = .agg #[.int .u32 (x0 : Nat), .int .u32 (x1 : Nat), .int .u32 (x2 : Nat), .int .u32 (x3 : Nat), .int .u32 (x4 : Nat), .int .u32 (x5 : Nat), .int .u32 (x6 : Nat), .int .u32 (x7 : Nat)] ∧ x0 ≤ 4294967295 ∧ x1 ≤ 4294967295 ∧ x2 ≤ 4294967295 ∧ x3 ≤ 4294967295 ∧ x4 ≤ 4294967295 ∧ x5 ≤ 4294967295 ∧ x6 ≤ 4294967295 ∧ x7 ≤ 4294967295 := by
  have hca : Tryz.prog.cellsOf 41 = 8 := by kernel_rfl
  have hcu : Tryz.prog.cellsOf 40 = 1 := by kernel_rfl
  have hag : ∃ cs : List Value, v = .agg cs.toArray := by
    obtain ⟨fuel, hf⟩ := h
    obtain ⟨xs, m, _, _, hl, _, _⟩ := DataW.trod_array Tryz.underlying41 hf
    rw [hca] at hl
    cases v <;> first | exact ⟨_, rfl⟩ | (simp [Value.cells] at hl)
  obtain ⟨cs, rfl⟩ := hag
  obtain ⟨fuel, hf⟩ := h
  obtain ⟨xs, m, _, _, hl, hn, he⟩ := DataW.trod_array Tryz.underlying41 hf
  have hl2 : cs.length = 8 := by rw [← hca]; exact hl
  match cs, hl2 with
  | [v0, v1, v2, v3, v4, v5, v6, v7], _ =>
    have one : ∀ (i : Nat) (hi : i < 8) (u : Value), DataW.trod enc Tryz.prog W base spare held m 40 [u] = xs[i]? → ∃ a : Nat, u = .int .u32 (a : Nat) ∧ a ≤ 4294967295 := by
      intro i hi u hu
      rw [List.getElem?_eq_getElem (by omega)] at hu
      obtain ⟨a, ea, _, wf⟩ := DataW.trod_int Tryz.underlying40 hu
      simp only [List.cons.injEq, and_true] at ea
      subst ea
      have hb : 0 ≤ a ∧ a ≤ 4294967295 := by simpa [Lit.wf, IntKind.min, IntKind.max, IntKind.signed, IntKind.bits] using wf
      exact ⟨a.toNat, by rw [Int.toNat_of_nonneg hb.1], by omega⟩
    have hi : ∀ (i : Nat), i < 8 → DataW.trod enc Tryz.prog W base spare held m 40 ((([v0, v1, v2, v3, v4, v5, v6, v7] : List Value).drop i).take 1) = xs[i]? := fun i h8 => by
      have := he i h8
      rw [hcu, Nat.mul_one] at this
      exact this
    obtain ⟨x0, rfl, h0⟩ := one 0 (by decide) v0 (hi 0 (by decide))
    obtain ⟨x1, rfl, h1⟩ := one 1 (by decide) v1 (hi 1 (by decide))
    obtain ⟨x2, rfl, h2⟩ := one 2 (by decide) v2 (hi 2 (by decide))
    obtain ⟨x3, rfl, h3⟩ := one 3 (by decide) v3 (hi 3 (by decide))
    obtain ⟨x4, rfl, h4⟩ := one 4 (by decide) v4 (hi 4 (by decide))
    obtain ⟨x5, rfl, h5⟩ := one 5 (by decide) v5 (hi 5 (by decide))
    obtain ⟨x6, rfl, h6⟩ := one 6 (by decide) v6 (hi 6 (by decide))
    obtain ⟨x7, rfl, h7⟩ := one 7 (by decide) v7 (hi 7 (by decide))
    exact ⟨x0, x1, x2, x3, x4, x5, x6, x7, rfl, h0, h1, h2, h3, h4, h5, h6, h7⟩
theorem contractNumbers (H : Type) (enc : TypeId × Value → H) (W : World) (base : Nat) (args : Array Value) (ds gs : List (DataW H)) (before : List MemPlace)
    (hval0 : ∀ (j : Nat) t v, Tryz.f5.params[j]? = some t → args[j]? = some v → Value.okWide Tryz.prog W .any base t v)
    (hW : DataW.Whole enc Tryz.prog Tryz.f5.params.toList Rows.parserNumbersSpec.vars false W args.toList ds gs before) (hL : laidMetH Tryz.prog Rows.parserNumbersRow.laid W) (hsh : W.ShapedOpen Tryz.prog) :
    Calls Tryz.prog 5 args W fun e W' => ∃ v, e = .returned v ∧ Rows.parserNumbersSpec.post enc Tryz.prog Tryz.f5 false true false false W args v W' := by
  have hval : ∀ (j : Nat) t v, Tryz.f5.params[j]? = some t → args[j]? = some v → Value.okWide Tryz.prog W .any base t v := hval0
  have hT : Lay W := lay_of hL hsh
  have hW' := hW
  obtain ⟨p, q, hA0, hV, rfl, hfz, hnd⟩ := hW
  have hA : DataW.TrodAll enc Tryz.prog W 0 (fun _ => true) true Tryz.f5.params.toList args.toList ds p := hA0
  rw [Tryz.params5] at hA hval
  obtain ⟨v0, vs0, d0, ds0, p0, q0, hargs, rfl, rfl, h0, r0⟩ := trodAll_cons hA
  obtain ⟨v1, vs1, d1, ds1, p1, q1, rfl, rfl, rfl, h1, r1⟩ := trodAll_cons r0
  obtain ⟨v2, vs2, d2, ds2, p2, q2, rfl, rfl, rfl, h2, r2⟩ := trodAll_cons r1
  obtain ⟨v3, vs3, d3, ds3, p3, q3, rfl, rfl, rfl, h3, r3⟩ := trodAll_cons r2
  obtain ⟨rfl, rfl, rfl⟩ := trodAll_nil r3
  obtain rfl : args = #[v0, v1, v2, v3] := by cases args; simp_all
  obtain ⟨rfl, rfl⟩ := trodVars_none hV
  have k0 := h0
  have lt0 : ∀ x ∈ p0, x.block < W.heap.size := by obtain ⟨m, hm⟩ := k0; exact DataW.trod_lt m _ _ _ hm
  obtain ⟨x0, x1, x2, x3, x4, x5, x6, x7, rfl, hx0, hx1, hx2, hx3, hx4, hx5, hx6, hx7⟩ := arr_of_trod h0
  have k1 := h1
  have lt1 : ∀ x ∈ p1, x.block < W.heap.size := by obtain ⟨m, hm⟩ := k1; exact DataW.trod_lt m _ _ _ hm
  obtain ⟨a1, rfl, _, _, w1⟩ := open_int Tryz.underlying40 (hval 1 40 v1 rfl rfl) h1
  obtain ⟨n1, rfl⟩ : ∃ n : Nat, a1 = n := ⟨a1.toNat, by have := w1; simp [Lit.wf, IntKind.min, IntKind.max, IntKind.signed, IntKind.bits] at this; omega⟩
  have z1 : 0 ≤ (n1 : Int) ∧ (n1 : Int) ≤ 4294967295 := by simpa [Lit.wf, IntKind.min, IntKind.max, IntKind.signed, IntKind.bits] using w1
  have k2 := h2
  have lt2 : ∀ x ∈ p2, x.block < W.heap.size := by obtain ⟨m, hm⟩ := k2; exact DataW.trod_lt m _ _ _ hm
  obtain ⟨e2, t2⟩ := tree_of_trod (hval 2 24 v2 rfl rfl) h2
  have k3 := h3
  have lt3 : ∀ x ∈ p3, x.block < W.heap.size := by obtain ⟨m, hm⟩ := k3; exact DataW.trod_lt m _ _ _ hm
  obtain ⟨e3, t3⟩ := tree_of_trod (hval 3 24 v3 rfl rfl) h3
  clear hA0 hval0
  have hwalk := lawN_any phead_any x0 x1 x2 x3 x4 x5 x6 x7 n1 ⟨hx0, hx1, hx2, hx3, hx4, hx5, hx6, hx7, by omega⟩ e2 e3 v2 v3 W hT t2 t3
  refine hwalk.mono fun e W' ⟨he, bel⟩ => ?_
  subst he
  exact ⟨_, rfl, _, _, _, [], _, [], hW', trodAll_mk1 (shut_bool Tryz.underlying4 _), (trodAll_cons_mk (Below.trod laidD (by kernel_rfl) (of_decide_eq_true (by kernel_rfl)) k0 bel lt0) (trodAll_cons_mk (Below.trod laidD (by kernel_rfl) (of_decide_eq_true (by kernel_rfl)) k1 bel lt1) (trodAll_cons_mk (Below.trod laidD (by kernel_rfl) (of_decide_eq_true (by kernel_rfl)) k2 bel lt2) (trodAll_cons_mk (Below.trod laidD (by kernel_rfl) (of_decide_eq_true (by kernel_rfl)) k3 bel lt3) trodAll_mk0)))), rfl, bel.frame _, fun h => by cases h⟩

theorem readsNumbers (os : Os) {H : Type} (enc : TypeId × Value → H) : ∃ places, DataW.whole enc Tryz.prog ((parWorld os).forCall (fun _ _ => 0) ⟨#[], #[.agg #[.int .u32 0, .int .u32 0, .int .u32 0, .int .u32 0, .int .u32 0, .int .u32 0, .int .u32 0, .int .u32 0], .int .u32 0, .agg #[.int .i64 0, .int .i64 0, .slice none 0 0], .agg #[.int .i64 0, .int .i64 0, .slice none 0 0]], []⟩).memory Tryz.f5.params.toList Rows.parserNumbersSpec.vars false (#[.agg #[.int .u32 0, .int .u32 0, .int .u32 0, .int .u32 0, .int .u32 0, .int .u32 0, .int .u32 0, .int .u32 0], .int .u32 0, .agg #[.int .i64 0, .int .i64 0, .slice none 0 0], .agg #[.int .i64 0, .int .i64 0, .slice none 0 0]] : Array Value).toList 8 = some ([.agg [.lit (.int .u32 0), .lit (.int .u32 0), .lit (.int .u32 0), .lit (.int .u32 0), .lit (.int .u32 0), .lit (.int .u32 0), .lit (.int .u32 0), .lit (.int .u32 0)], .lit (.int .u32 0), .agg [.lit (.int .i64 0), .lit (.int .i64 0), .nil], .agg [.lit (.int .i64 0), .lit (.int .i64 0), .nil]], [], places) :=
  ⟨[], by kernel_rfl⟩
set_option maxRecDepth 100000 in
theorem liftedNumbers (os : Os) (started : os.Started) (H : Type) (enc : TypeId × Value → H) (F : Stop.Interp) :
    ReturnsInHanded {} Tryz.checked os 5 .any ((OpenSpec.ofChange Rows.parserNumbersSpec).preRow enc Tryz.prog Tryz.f5 Rows.parserNumbersRow.domain false Rows.parserNumbersRow.laid) (((OpenSpec.ofChange Rows.parserNumbersSpec).at F).post enc Tryz.prog Tryz.f5 false true false false) := by
  obtain ⟨places, hx⟩ := readsNumbers os enc
  refine returnsInHanded_of_row (C := Tryz.checked) (s := OpenSpec.ofChange Rows.parserNumbersSpec) ownD started (by kernel_rfl) Tryz.func5
    (witness_row_at (enc := enc) (C := Tryz.checked) false (parWorld os) #[.agg #[.int .u32 0, .int .u32 0, .int .u32 0, .int .u32 0, .int .u32 0, .int .u32 0, .int .u32 0, .int .u32 0], .int .u32 0, .agg #[.int .i64 0, .int .i64 0, .slice none 0 0], .agg #[.int .i64 0, .int .i64 0, .slice none 0 0]] rfl (by kernel_rfl) (by kernel_rfl) (by kernel_rfl)
      (OpenSpec.preRow_of_cond 8 hx (by kernel_rfl) (fun k hk => by cases hk) (by kernel_rfl) (par_met os _))) ?_
  intro W base args ds gs before hval hW _ _ _ hL hsh _
  exact contractNumbers H enc W base args ds gs before hval hW hL hsh
theorem parserNumbers_said : Rows.ParserNumbersSaid :=
  OpenClaim.holds_of_cond 5 Tryz.f5 rfl rfl rfl rfl rfl rfl rfl ⟨rfl, rfl, rfl, rfl, rfl⟩ rfl rfl rfl rfl rfl (by kernel_rfl) Tryz.func5 (by kernel_rfl)
    (of_decide_eq_true (by kernel_rfl)) (by unfold Func.isWrapper; first | (rw [if_pos (by decide +kernel)]; kernel_rfl) | (rw [if_neg (by decide +kernel)]; exact ⟨rfl, rfl⟩))
    (fun os started H enc _ F => by rw [OpenClaim.pre_eq_preRow]; exact liftedNumbers os started H enc F)
theorem plainNumbers (f : FuncId) (fn : Func) (hf : Tryz.pinned.checked.prog.funcNamed "innkeeper/innkeeperlaw08.ParserNumbers" = some f) (hfn : Tryz.pinned.checked.prog.funcs[f]? = some fn) :
    true = Tryz.pinned.checked.prog.looks [] ∧ ∀ (j : Nat) t, fn.params[j]? = some t → Tryz.pinned.checked.prog.wantsStandIn t = false := by
  obtain rfl : f = 5 := Option.some.inj ((show Tryz.prog.funcNamed "innkeeper/innkeeperlaw08.ParserNumbers" = some 5 by kernel_rfl).symm.trans hf) |>.symm
  obtain rfl : fn = Tryz.f5 := (Option.some.inj (Tryz.func5.symm.trans hfn)).symm
  refine ⟨by kernel_rfl, fun j t ht => ?_⟩
  rw [Tryz.params5] at ht
  have hm := Array.mem_of_getElem? ht
  simp only [List.mem_toArray, List.mem_cons, List.not_mem_nil, or_false] at hm
  rcases hm with rfl | rfl | rfl | rfl <;> (show Tryz.prog.wantsStandIn _ = false; kernel_rfl)
/-- The given statement. -/
theorem parserNumbers_card : Rows.ParserNumbersCardSaid :=
  Claim7.holds_tied_plain_at .later [] _ _ _ _ parserNumbers_said (fun _ h => by cases h) (by kernel_rfl) (fun _ h => by cases h) parserNumbers_row_tie rfl ⟨rfl, rfl⟩ (by kernel_rfl) rfl plainNumbers (by kernel_rfl)
end Go.Proofs.YthnlenbfknbmcaaGreatDoor
