/-
  The examples of the chapter.
-/
import Derived.Test.YtnjaedbekogeaaaDoorMonRShare
import Derived.Test.YtnjaedbekogeaaaDoorMonRParse
import Derived.Test.YtnjaedbekogeaaaDoorMonRefC
namespace Go.Proofs.YtnjaedbekogeaaaDoor
open Go.RowKit Go.Shelf
set_option maxRecDepth 100000

theorem money_held : Tryd.prog.stoodInHeld 24 = false := by kernel_rfl
theorem eql_money (a b c d : Int) (w : World) : (binOp .eql 24 (.agg #[.int .i64 a, .int .i64 b]) (.agg #[.int .i64 c, .int .i64 d])).run Tryd.prog w = .ok (.bool (a == c && b == d)) w := by
  have hu : Tryd.prog.underlying 24 = some (.struct (Tryd.prog.fieldsOf 24)) := by kernel_rfl
  simp only [binOp]
  by_cases h1 : a = c <;> by_cases h2 : b = d <;> simp [Op.equal, Op.maxDepth, run_equalIn_struct _ _ _ _ _ hu money_held, Op.eqFields, go_sem, h1, h2]

theorem mown_below {w w1 : World} {base : Nat} {e : TypeId} {size n : Nat} {v : Value} {xs : List Value} (h : w.ownsRow base e size v n xs) (hb : Below w.heap.size w w1) : w1.ownsRow base e size v n xs := by
  obtain ⟨h0, h1 | ⟨g, cap, cur, hv, hg, hh, hr⟩⟩ := h
  · exact ⟨h0, .inl h1⟩
  · exact ⟨h0, .inr ⟨g, cap, cur, hv, hg, (hb.block g (Array.getElem?_eq_some_iff.1 hh).1).trans hh, hr⟩⟩
def encX (x : Ex) : List Value := [.int .i64 x.f, .int .i64 x.t, .int .i64 x.n, .int .i64 x.d]
theorem exs_two {w : World} {base : Nat} {v : Value} {x y : Ex} (h : w.ownsRow base 53 4 v 2 (encX x ++ encX y)) (hi : XS [x, y]) : Exs w v [x, y] := by
  obtain ⟨_, ⟨_, h0⟩ | ⟨g, cap', cur, rfl, _, hh, _, _, _, hct⟩⟩ := h
  · simp at h0
  · have key : ∀ j (hj : j < 8), w.cell? ⟨g, j, none⟩ = (encX x ++ encX y)[j]? := by
      intro j hj
      rw [← hct, List.getElem?_take, if_pos (by omega)]
      simp [World.cell?, hh]
    refine ⟨⟨_, _, rfl⟩, fun ad n c e i hil => ?_, hi, by simp⟩
    cases e
    refine ⟨_, rfl, (Array.getElem?_eq_some_iff.1 hh).1, ?_⟩
    have hil : i < 2 := hil
    simp only [add_zero0]
    match i, hil with
    | 0, _ => exact ⟨key 0 (by omega), key 1 (by omega), key 2 (by omega), key 3 (by omega)⟩
    | 1, _ => exact ⟨key 4 (by omega), key 5 (by omega), key 6 (by omega), key 7 (by omega)⟩
theorem exs_one (w : World) (x : Ex) (hi : XS [x]) : Exs (w.alloc (.cells #[.int .i64 x.f, .int .i64 x.t, .int .i64 x.n, .int .i64 x.d] 53)) (.slice (some ⟨w.heap.size, 0, none⟩) 1 1) [x] := by
  have o := Own.new w #[.int .i64 x.f, .int .i64 x.t, .int .i64 x.n, .int .i64 x.d] 53
  refine ⟨⟨_, _, rfl⟩, fun ad n c e i hil => ?_, hi, by simp⟩
  cases e
  have hil : i < 1 := hil
  obtain rfl : i = 0 := by omega
  refine ⟨_, rfl, o.lt, ?_⟩
  simp only [add_zero0]
  exact ⟨o.cell 0 _ rfl, o.cell 1 _ rfl, o.cell 2 _ rfl, o.cell 3 _ rfl⟩

theorem Tryd.infoEx : (Tryd.prog.info? 53).map (fun i => (i.zero, i.size, i.bytes)) = some (some (.agg #[.int .i64 0, .int .i64 0, .int .i64 0, .int .i64 0]), 4, 32) := by kernel_rfl
section
variable {ops : Array Oper} {rest : List Oper} {o : Oper} {a : Act} {Q : Exit → Act → World → Prop}
theorem wpList_asked {w : World} (hg : Region.wanted o (yielded ops a.tmps) = true) (h : ∀ K : Act → World → Prop, (∀ a w, wpList Tryd.prog ops Q rest a w → K a w) → o.wp Tryd.prog a w K Q) : wpList Tryd.prog ops Q (o :: rest) a w :=
  wpList_step fun K hK => by rw [if_pos hg]; exact h K hK
/-- an append of exchanges that is asked for -/
theorem app_exs (w : World) (hg : Region.wanted o (yielded ops a.tmps) = true) (s x : Operand) (ho : o.op = .call { callee := .builtin .append, args := #[s, x], argTypes := #[22, 22] })
    (base b c : Nat) (v : Value) (hs : a.eval s = v) (hx : a.eval x = .slice (some ⟨b, 0, none⟩) 1 c) (p q : Ex) (hown : w.ownsRow base 53 4 v 1 (encX p)) (hnews : ∀ j u, (encX q)[j]? = some u → w.cell? ((⟨b, 0, none⟩ : Addr).add j) = some u) (hB : base ≤ w.heap.size)
    (h : ∀ v' w', w'.ownsRow base 53 4 v' 2 (encX p ++ encX q) → Below base w w' → wpList Tryd.prog ops Q rest (a.put o.dst v') w') : wpList Tryd.prog ops Q (o :: rest) a w := by
  obtain ⟨i, hi, hz0, hz1, hz2⟩ := info_parts Tryd.infoEx
  refine wpList_asked hg fun K hK => ?_
  refine wp_append_own w s x 22 ho base 53 i (.agg #[.int .i64 0, .int .i64 0, .int .i64 0, .int .i64 0]) 4 32 Tryd.underlying22 hi hz0 hz1 hz2 rfl (by decide) v 1 (encX p) hs hown ⟨b, 0, none⟩ 1 c (encX q) hx rfl hnews
    (by intro u hu; simp [encX] at hu; rcases hu with rfl | rfl | rfl | rfl <;> rfl) (by unfold maxLen; omega) (by omega) hB ?_
  intro v' w' hown' hgr _
  refine hK _ _ (h v' w' hown' ((Below.refl base w).grown hgr hB (fun k hk => ?_)))
  obtain ⟨_, ⟨rfl, _⟩ | ⟨g, cap, cur, rfl, hg, _⟩⟩ := hown
  · cases hk
  · cases hk; exact hg
end

def x0 : Ex := ⟨1, 2, 1, 100⟩
theorem x0_int : XS [x0] := by intro x hx; rw [List.mem_singleton.1 hx]; exact ⟨⟨by decide, by decide⟩, ⟨by decide, by decide⟩, ⟨by decide, by decide⟩, ⟨by decide, by decide⟩⟩
theorem x00_int : XS [x0, x0] := by intro x hx; refine x0_int x ?_; simpa using hx
theorem conv1 : convF [x0] 250 1 2 = ((2, 2), 0) := by decide +kernel
theorem conv2 : convF [x0] 250 2 2 = ((250, 2), 0) := by decide +kernel
theorem conv3 : convF [x0] 250 2 1 = ((0, 0), 4) := by decide +kernel
theorem vldX1 : vldX [x0] = true := by decide +kernel
theorem vldX2 : vldX [x0, x0] = false := by decide +kernel
theorem share1 : shareF 100 [1, 1, 1] = ([33, 33, 34], 0) := by decide +kernel
theorem share2 : shareF 100 [0, 0] = ([], 1) := by decide +kernel
theorem txt1205 : txtOf 1205 = [49, 50, 46, 48, 53] := by unfold txtOf; rw [if_neg (by decide), show (1205 : Int).natAbs / 100 = 12 from rfl, Lib.decDigits_two (by decide) (by decide)]; rfl
theorem txt50 : txtOf (-50) = [45, 48, 46, 53, 48] := by unfold txtOf; rw [if_pos (by decide), show (-50 : Int).natAbs / 100 = 0 from rfl, Lib.decDigits_one (by decide)]; rfl
theorem txt0 : txtOf 0 = [48, 46, 48, 48] := by unfold txtOf; rw [if_neg (by decide), show (0 : Int).natAbs / 100 = 0 from rfl, Lib.decDigits_one (by decide)]; rfl
theorem txt100 : txtOf 100 = [49, 46, 48, 48] := by unfold txtOf; rw [if_neg (by decide), show (100 : Int).natAbs / 100 = 1 from rfl, Lib.decDigits_one (by decide)]; rfl
theorem textF_ok {c : Int} (h : wthB c 1000000000 = true) : textF c = (txtOf c, 0) := by unfold textF; rw [if_pos h]
theorem parse_txt {c : Int} (h : wthB c 1000000000 = true) : parseF (txtOf c) = (c, 0) := by unfold parseF; rw [pN_txt c h, if_pos ⟨h, rfl⟩]
theorem parse50 : parseF [45, 48, 46, 53, 48] = (-50, 0) := by rw [← txt50]; exact parse_txt (by decide)
theorem parse00 : parseF [45, 48, 46, 48, 48] = (0, 7) := by unfold parseF; rw [show pN [45, 48, 46, 48, 48] = 0 by decide, txt0]; decide
theorem parse01 : parseF [48, 49, 46, 48, 48] = (0, 7) := by unfold parseF; rw [show pN [48, 49, 46, 48, 48] = 100 by decide, txt100]; decide

theorem mints_new (w : World) (xs : List Int) (hl : xs.length ≤ 1000) (h : ∀ x ∈ xs, I64 x) : Ints (w.alloc (.cells (xs.map (Value.int .i64)).toArray 3)) (.slice (some ⟨w.heap.size, 0, none⟩) xs.length xs.length) xs := by
  refine ⟨?_, h⟩
  have := row_own (Own.new w (xs.map (Value.int .i64)).toArray 3) (by simpa using hl) (cap := xs.length)
  simpa using this

set_option maxHeartbeats 8000000 in
theorem mhead_any (w0 : World) (hL0 : Lay w0) : Calls Tryd.prog 9 #[] w0 (Ret (.bool true) w0) := by
  go_enter Tryd.func9, Tryd.ntmps9
  go_wp2_with fail
  have hX := exs_one w0 x0 x0_int
  have hO : (w0.alloc (.cells #[.int .i64 1, .int .i64 2, .int .i64 1, .int .i64 100] 53)).ownsRow w0.heap.size 53 4 (.slice (some ⟨w0.heap.size, 0, none⟩) 1 1) 1 (encX x0) :=
    ⟨rfl, .inr ⟨w0.heap.size, 1, #[.int .i64 1, .int .i64 2, .int .i64 1, .int .i64 100], rfl, Nat.le_refl _, by simp only [World.alloc, Array.getElem?_push_size], by omega, by unfold maxLen; omega, by simp, by simp [encX, x0]⟩⟩
  have hbA : Below w0.heap.size w0 (w0.alloc (.cells #[.int .i64 1, .int .i64 2, .int .i64 1, .int .i64 100] 53)) := (Below.refl _ _).alloc (Nat.le_refl _) _
  simp only [x0] at hX
  generalize w0.alloc (.cells #[.int .i64 1, .int .i64 2, .int .i64 1, .int .i64 100] 53) = w at *
  have hb : Below w.heap.size w w := Below.refl _ _
  have hL := hL0.below hbA
  have hC1 : ∀ wk, Below w.heap.size w wk → Calls Tryd.prog 10 #[.slice (some ⟨w0.heap.size, 0, none⟩) 1 1, .agg #[.int .i64 250, .int .i64 1], .int .i64 2] wk (Ret (.tuple #[.agg #[.int .i64 2, .int .i64 2], .int .i64 0]) wk) := fun wk h => by
    have := convert_any _ _ 250 1 2 wk (hX.below h); rw [show [(⟨1, 2, 1, 100⟩ : Ex)] = [x0] from rfl, conv1] at this; exact this
  have hC2 : ∀ wk, Below w.heap.size w wk → Calls Tryd.prog 10 #[.slice (some ⟨w0.heap.size, 0, none⟩) 1 1, .agg #[.int .i64 250, .int .i64 2], .int .i64 2] wk (Ret (.tuple #[.agg #[.int .i64 250, .int .i64 2], .int .i64 0]) wk) := fun wk h => by
    have := convert_any _ _ 250 2 2 wk (hX.below h); rw [show [(⟨1, 2, 1, 100⟩ : Ex)] = [x0] from rfl, conv2] at this; exact this
  have hC3 : ∀ wk, Below w.heap.size w wk → Calls Tryd.prog 10 #[.slice (some ⟨w0.heap.size, 0, none⟩) 1 1, .agg #[.int .i64 250, .int .i64 2], .int .i64 1] wk (Ret (.tuple #[.agg #[.int .i64 0, .int .i64 0], .int .i64 4]) wk) := fun wk h => by
    have := convert_any _ _ 250 2 1 wk (hX.below h); rw [show [(⟨1, 2, 1, 100⟩ : Ex)] = [x0] from rfl, conv3] at this; exact this
  have hV : ∀ wk, Below w.heap.size w wk → Calls Tryd.prog 12 #[.slice (some ⟨w0.heap.size, 0, none⟩) 1 1] wk (Ret (.bool true) wk) := fun wk h => by
    have := mvalid_any _ _ wk (hX.below h); rw [show [(⟨1, 2, 1, 100⟩ : Ex)] = [x0] from rfl, vldX1] at this; exact this
  have hT1 : ∀ wk, Below w.heap.size w wk → Calls Tryd.prog 17 #[.int .i64 1205] wk (Ret (.tuple #[.string ⟨#[49, 50, 46, 48, 53]⟩, .int .i64 0]) wk) := fun wk h => by
    have := mtext_any 1205 wk (hL.below h).tab; rw [textF_ok (by decide), txt1205] at this; exact this
  have hT2 : ∀ wk, Below w.heap.size w wk → Calls Tryd.prog 17 #[.int .i64 (-50)] wk (Ret (.tuple #[.string ⟨#[45, 48, 46, 53, 48]⟩, .int .i64 0]) wk) := fun wk h => by
    have := mtext_any (-50) wk (hL.below h).tab; rw [textF_ok (by decide), txt50] at this; exact this
  have hP1 : ∀ wk, Below w.heap.size w wk → Calls Tryd.prog 19 #[.string ⟨#[45, 48, 46, 53, 48]⟩] wk (Ret (.tuple #[.int .i64 (-50), .int .i64 0]) wk) := fun wk h => by
    have := mparse_any [45, 48, 46, 53, 48] (by decide) wk (hL.below h); rw [parse50] at this; exact this
  have hP2 : ∀ wk, Below w.heap.size w wk → Calls Tryd.prog 19 #[.string ⟨#[45, 48, 46, 48, 48]⟩] wk (Ret (.tuple #[.int .i64 0, .int .i64 7]) wk) := fun wk h => by
    have := mparse_any [45, 48, 46, 48, 48] (by decide) wk (hL.below h); rw [parse00] at this; exact this
  have hP3 : ∀ wk, Below w.heap.size w wk → Calls Tryd.prog 19 #[.string ⟨#[48, 49, 46, 48, 48]⟩] wk (Ret (.tuple #[.int .i64 0, .int .i64 7]) wk) := fun wk h => by
    have := mparse_any [48, 49, 46, 48, 48] (by decide) wk (hL.below h); rw [parse01] at this; exact this
  clear hL hL0
  go_wp2_with fail
  refine (hC1 _ hb).mono ?_
  rintro e w1 ⟨rfl, hx⟩
  replace hb : Below w.heap.size w w1 := Below.trans (by (repeat (first | exact Below.refl _ _ | assumption | refine Below.drew ?_ | refine below_drewN ?_ _ | refine Below.setCell ?_ (by first | omega | (simp <;> omega)) _ | refine Below.alloc ?_ (by have := hb.size; first | omega | (simp <;> omega)) _))) (hx.mono (by have := hb.size; first | omega | (simp <;> omega)))
  clear hx
  go_wp2_with fail
  refine (hC2 _ (by (have hbs := hb.size; repeat (first | exact Below.refl _ _ | assumption | refine Below.drew ?_ | refine below_drewN ?_ _ | refine Below.setCell ?_ (by first | omega | (simp <;> omega)) _ | refine Below.alloc ?_ (by first | omega | (simp <;> omega)) _)))).mono ?_
  rintro e w2 ⟨rfl, hx⟩
  try clear c0_o2 c1_o2 f0_o2 f1_o2 z_o2
  first | have o2 := (Own.new w1 _ _).below hx | have o2 := ((Own.new w1 _ _).alloc _).below hx | have o2 := (((Own.new w1 _ _).alloc _).alloc _).below hx | have o2 := ((((Own.new w1 _ _).alloc _).alloc _).alloc _).below hx | have o2 := ((Own.new w1 _ _).set2 _ _).below hx | have o2 := (((Own.new w1 _ _).setCell (by simp <;> omega) _).setCell (by simp <;> omega) _).below hx
  obtain ⟨c0_o2, c1_o2, f0_o2, f1_o2, z_o2⟩ := o2.two
  replace hb : Below w.heap.size w w2 := Below.trans (by (repeat (first | exact Below.refl _ _ | assumption | refine Below.drew ?_ | refine below_drewN ?_ _ | refine Below.setCell ?_ (by first | omega | (simp <;> omega)) _ | refine Below.alloc ?_ (by have := hb.size; first | omega | (simp <;> omega)) _))) (hx.mono (by have := hb.size; first | omega | (simp <;> omega)))
  clear hx
  go_wp2_with fail
  refine (hC3 _ (by (have hbs := hb.size; repeat (first | exact Below.refl _ _ | assumption | refine Below.drew ?_ | refine below_drewN ?_ _ | refine Below.setCell ?_ (by first | omega | (simp <;> omega)) _ | refine Below.alloc ?_ (by first | omega | (simp <;> omega)) _)))).mono ?_
  rintro e w3 ⟨rfl, hx⟩
  try clear c0_o2 c1_o2 f0_o2 f1_o2 z_o2
  first | replace o2 := o2.below hx | replace o2 := (o2.alloc _).below hx | replace o2 := ((o2.alloc _).alloc _).below hx | replace o2 := (((o2.alloc _).alloc _).alloc _).below hx | replace o2 := (o2.set2 _ _).below hx | replace o2 := ((o2.setCell (by simp <;> omega) _).setCell (by simp <;> omega) _).below hx
  obtain ⟨c0_o2, c1_o2, f0_o2, f1_o2, z_o2⟩ := o2.two
  try clear c0_o4 c1_o4 f0_o4 f1_o4 z_o4
  first | have o4 := (Own.new w2 _ _).below hx | have o4 := ((Own.new w2 _ _).alloc _).below hx | have o4 := (((Own.new w2 _ _).alloc _).alloc _).below hx | have o4 := ((((Own.new w2 _ _).alloc _).alloc _).alloc _).below hx | have o4 := ((Own.new w2 _ _).set2 _ _).below hx | have o4 := (((Own.new w2 _ _).setCell (by simp <;> omega) _).setCell (by simp <;> omega) _).below hx
  obtain ⟨c0_o4, c1_o4, f0_o4, f1_o4, z_o4⟩ := o4.two
  replace hb : Below w.heap.size w w3 := Below.trans (by (repeat (first | exact Below.refl _ _ | assumption | refine Below.drew ?_ | refine below_drewN ?_ _ | refine Below.setCell ?_ (by first | omega | (simp <;> omega)) _ | refine Below.alloc ?_ (by have := hb.size; first | omega | (simp <;> omega)) _))) (hx.mono (by have := hb.size; first | omega | (simp <;> omega)))
  clear hx
  go_wp2_with fail
  have i111 : Ints ((w3.alloc (.cells #[.int .i64 0, .int .i64 0] 24)).alloc (.cells #[.int .i64 1, .int .i64 1, .int .i64 1] 3)) (.slice (some ⟨w3.heap.size + 1, 0, none⟩) 3 3) [1, 1, 1] := by
    have h := mints_new (w3.alloc (.cells #[.int .i64 0, .int .i64 0] 24)) [1, 1, 1] (by simp) (by intro x hx; simp at hx; subst hx; exact ⟨by decide, by decide⟩)
    rw [show (w3.alloc (.cells #[.int .i64 0, .int .i64 0] 24)).heap.size = w3.heap.size + 1 by simp] at h
    exact h
  refine (mshare_any 100 _ [1, 1, 1] _ i111).mono ?_
  rintro e w4 ⟨v8, he8, i8, hx⟩
  rw [share1] at i8 he8
  subst he8
  have hbn : Below w3.heap.size w3 ((w3.alloc (.cells #[.int .i64 0, .int .i64 0] 24)).alloc (.cells #[.int .i64 1, .int .i64 1, .int .i64 1] 3)) := ((Below.refl _ _).alloc (Nat.le_refl _) _).alloc (by simp) _
  replace hx := hbn.trans (hx.mono hbn.size)
  replace o2 := o2.below hx
  replace o4 := o4.below hx
  replace hb := hb.trans (hx.mono hb.size)
  clear hx hbn i111 c0_o2 c1_o2 f0_o2 f1_o2 z_o2 c0_o4 c1_o4 f0_o4 f1_o4 z_o4
  go_wp2_with fail
  refine (hT1 _ hb).mono ?_
  rintro e w5 ⟨rfl, hx⟩
  replace o2 := o2.below hx
  replace o4 := o4.below hx
  replace i8 := i8.below hx
  replace hb := hb.trans (hx.mono hb.size)
  clear hx
  go_wp2_with fail
  refine (hT2 _ hb).mono ?_
  rintro e w6 ⟨rfl, hx⟩
  replace o2 := o2.below hx
  replace o4 := o4.below hx
  replace i8 := i8.below hx
  replace hb := hb.trans (hx.mono hb.size)
  clear hx
  go_wp2_with fail
  refine (hP1 _ hb).mono ?_
  rintro e w7 ⟨rfl, hx⟩
  replace o2 := o2.below hx
  replace o4 := o4.below hx
  replace i8 := i8.below hx
  replace hb := hb.trans (hx.mono hb.size)
  clear hx
  go_wp2_with fail
  refine (hP2 _ hb).mono ?_
  rintro e w8 ⟨rfl, hx⟩
  replace o2 := o2.below hx
  replace o4 := o4.below hx
  replace i8 := i8.below hx
  replace hb := hb.trans (hx.mono hb.size)
  clear hx
  go_wp2_with fail
  refine (hP3 _ hb).mono ?_
  rintro e w9 ⟨rfl, hx⟩
  replace o2 := o2.below hx
  replace o4 := o4.below hx
  replace i8 := i8.below hx
  replace hb := hb.trans (hx.mono hb.size)
  clear hx
  go_wp2_with fail
  have i00 : Ints (w9.alloc (.cells #[.int .i64 0, .int .i64 0] 3)) (.slice (some ⟨w9.heap.size, 0, none⟩) 2 2) [0, 0] := mints_new w9 [0, 0] (by simp) (by intro x hx; simp at hx; subst hx; exact ⟨by decide, by decide⟩)
  refine (mshare_any 100 _ [0, 0] _ i00).mono ?_
  rintro e w10 ⟨v20, he20, _, hx⟩
  rw [share2] at he20
  subst he20
  have hbn : Below w9.heap.size w9 (w9.alloc (.cells #[.int .i64 0, .int .i64 0] 3)) := (Below.refl _ _).alloc (Nat.le_refl _) _
  replace hx := hbn.trans (hx.mono hbn.size)
  replace o2 := o2.below hx
  replace o4 := o4.below hx
  replace i8 := i8.below hx
  replace hb := hb.trans (hx.mono hb.size)
  clear hx hbn i00 hC1 hC2 hC3 hT1 hT2 hP1 hP2 hP3
  obtain ⟨a0, a1, _, _, _⟩ := o2.two
  obtain ⟨b0, b1, _, _, _⟩ := o4.two
  have hem := eql_money
  go_wp2_with fail
  have i33 : Ints (w10.alloc (.cells #[.int .i64 33, .int .i64 33, .int .i64 34] 3)) (.slice (some ⟨w10.heap.size, 0, none⟩) 3 3) [33, 33, 34] := mints_new w10 [33, 33, 34] (by simp) (by intro x hx; simp at hx; rcases hx with rfl | rfl <;> exact ⟨by decide, by decide⟩)
  have hbn : Below w10.heap.size w10 (w10.alloc (.cells #[.int .i64 33, .int .i64 33, .int .i64 34] 3)) := (Below.refl _ _).alloc (Nat.le_refl _) _
  have hsm := msame_any _ _ _ _ _ (i8.below hbn) i33
  rw [decide_eq_true rfl] at hsm
  refine hsm.mono ?_
  rintro e w11 ⟨rfl, hx⟩
  replace hx := hbn.trans (hx.mono hbn.size)
  replace hb := hb.trans (hx.mono hb.size)
  clear hx hbn i33 i8 o2 o4 a0 a1 b0 b1 hsm
  go_wp2_with fail
  refine (hV _ hb).mono ?_
  rintro e w12 ⟨rfl, hx⟩
  replace hb := hb.trans (hx.mono hb.size)
  clear hx hV
  have hO2 := mown_below hO hb
  have hX2 := hX.below hb
  have hnews : ∀ j u, (encX x0)[j]? = some u → w12.cell? ((⟨w0.heap.size, 0, none⟩ : Addr).add j) = some u := fun j u hj => by
    obtain ⟨ad, cp, he, hc⟩ := hX2.open
    cases he
    obtain ⟨a, ha, _, h0, h1, h2, h3⟩ := hc 0 (by simp)
    cases ha
    match j, hj with
    | 0, hj => cases hj; exact h0
    | 1, hj => cases hj; exact h1
    | 2, hj => cases hj; exact h2
    | 3, hj => cases hj; exact h3
    | j + 4, hj => simp [encX] at hj
  go_wp2_with (at_builtin; go_loud (refine app_exs _ (by kernel_rfl) _ _ rfl w0.heap.size w0.heap.size 1 _ rfl rfl x0 x0 hO2 hnews (by have := hb.size; have := hbA.size; omega) ?_; intro v13 w13 hown hx; refine Hid.out ?_))
  have hb13 := (hbA.trans (hb.mono hbA.size)).trans hx
  have hV2 := mvalid_any v13 [x0, x0] w13 (exs_two hown x00_int)
  rw [vldX2] at hV2
  clear hX hO hO2 hX2 hnews hown hb hbA hx
  refine Lib.hid ?_
  go_wp2_with (go_at_call 12; refine hV2.mono ?_; rintro e w14 ⟨rfl, hx⟩)
  go_ret
  exact Ret.mk rfl (hb13.trans (hx.mono hb13.size))
end Go.Proofs.YtnjaedbekogeaaaDoor
