/-
  The reference's Expr.
-/
import Derived.Test.YthnlenbfknbmcaaGreatDoorParR9
import Derived.Test.YthnlenbfknbmcaaGreatDoorQp
import Derived.Test.YthnlenbfknbmcaaGreatDoorQg
import Derived.Test.YthnlenbfknbmcaaGreatDoorParHead
namespace Go.Proofs.YthnlenbfknbmcaaGreatDoor
open Go.RowKit Go.Shelf
set_option maxRecDepth 100000
set_option linter.unusedVariables false
set_option linter.unusedSimpArgs false
theorem renv_of {s : List UInt8} {w : World} {ad : Option Addr} {cap : Nat} (h0 : (tokP s).2.1 = 0) (h : Toks w (.slice ad (tokP s).1.length cap) ((tokP s).1.map Tok.rt)) : REnv w ad cap (tokP s).1 :=
  ⟨h, fun x hx hk => num_shape (by have := (tok_fine s x hx).2.1; omega), by have := tok_count s; omega⟩
set_option maxHeartbeats 3200000 in
theorem rExpr8_any (s : List UInt8) (w : World) : Calls Tryz.prog 9 #[.string ⟨s.toArray⟩] w (EEnd s w) := by
  have hb0 : Below w.heap.size w (w.alloc (.cells #[.int .i64 0, .int .i64 0, .slice none 0 0] 24)) := balloc (Below.refl _ _) _
  have ht := rtok_any s (w.alloc (.cells #[.int .i64 0, .int .i64 0, .slice none 0 0] 24))
  have o2 := Own.new w #[.int .i64 0, .int .i64 0, .slice none 0 0] 24
  go_enter Tryz.func9, Tryz.ntmps9
  go_wp2_with fail
  refine ht.mono ?_
  rintro e w1 ⟨v1, rfl, hv1, -, hx⟩
  replace o2 := o2.below hx
  have hb := hb0.trans (hx.mono hb0.size)
  clear ht hb0 hx
  have yw1 := hb.size
  have z1 := o2.lt
  obtain ⟨a0, a1, a2, a3, a4, a5, a6⟩ := o2.three
  by_cases h0 : (tokP s).2.1 = 0
  · have h0b : (((tokP s).2.1 : Int) != 0) = false := by simpa using (by omega : ((tokP s).2.1 : Int) = 0)
    have hcnt := tok_count s
    obtain ⟨ad, cap, hvv⟩ := hv1.open
    rw [List.length_map] at hvv
    subst hvv
    have hE := renv_of h0 hv1
    have HX := rexpr_any hE 0 false w1 (Below.refl _ _) (Nat.zero_le _)
    have h0H := Lib.hid h0
    clear hv1 hE h0
    go_wp2_with fail
    refine HX.mono ?_
    rintro e w2 ⟨x, j, d, tv, rfl, T, hx, -, hj, g1, g2⟩
    obtain ⟨adx, capx, rfl, -, -⟩ := T.shape
    clear a0 a1 a2 a3 a4 a5 a6 HX
    replace o2 := o2.below hx
    replace hb := hb.trans (hx.mono hb.size)
    have hz2 := hx.size
    clear hx
    obtain ⟨a0, a1, a2, a3, a4, a5, a6⟩ := o2.three
    have G1 : Hid (d = true → G .expr (tokP s).1 (.bad ((tokP s).1.drop j))) := Lib.hid fun h => by have := (g1 h).resolve_left (by simp); exact this.2
    have G2 : Hid (d = false → G .expr (tokP s).1 (.ok [x] ((tokP s).1.drop j))) := Lib.hid fun h => (g2 h).2
    clear g1 g2
    have hb8 : Below w.heap.size w ((w2.alloc (.cells #[.slice ad (tokP s).1.length cap, .int .i64 (j : Nat), .bool d] 67)).alloc (.cells #[.int .i64 x.o, .int .i64 x.n, .slice adx x.ks.length capx] 24)) := balloc (balloc hb _) _
    cases d with
    | true =>
      have HE : Hid (EP s zeroE 8) := Lib.hid (.bad h0H.out (G1.out rfl))
      clear G1 G2
      go_wp2_with fail
      refine bodyPost_ret (results_ct rfl rfl (loadVar_at (vs := [.int .i64 0, .int .i64 0, .slice none 0 0]) Tryz.underlying24 rfl (by kernel_rfl) (((o2.put3 _ _ _).alloc _).alloc _))) rfl ?_
      exact ⟨zeroE, 8, _, HE.out, rfl, tree_leaf _ _ 0 0 none 0, balloc (balloc (bset3 hb (by omega) _ _ _) _) _⟩
    | false =>
      have hg := G2.out rfl
      clear G1 G2
      by_cases hl : j < (tokP s).1.length
      · have hlb : decide ((j : Int) < ((tokP s).1.length : Int)) = true := by simpa using hl
        have HE : Hid (EP s zeroE 8) := Lib.hid (.left h0H.out hg (by intro h; have := congrArg List.length h; rw [List.length_drop] at this; simp at this; omega))
        clear hg
        go_wp2_with fail
        refine bodyPost_ret (results_ct rfl rfl (loadVar_at (vs := [.int .i64 0, .int .i64 0, .slice none 0 0]) Tryz.underlying24 rfl (by kernel_rfl) (((o2.put3 _ _ _).alloc _).alloc _))) rfl ?_
        exact ⟨zeroE, 8, _, HE.out, rfl, tree_leaf _ _ 0 0 none 0, balloc (balloc (bset3 hb (by omega) _ _ _) _) _⟩
      · have hlb : decide ((j : Int) < ((tokP s).1.length : Int)) = false := by simpa using hl
        rw [List.drop_of_length_le (by omega)] at hg
        have HG := Lib.hid hg
        have T2 := (T.alloc (.cells #[.slice ad (tokP s).1.length cap, .int .i64 (j : Nat), .bool false] 67)).alloc (.cells #[.int .i64 x.o, .int .i64 x.n, .slice adx x.ks.length capx] 24)
        have hV := rvalid8_any _ _ _ T2
        have o8 := Own.new (w2.alloc (.cells #[.slice ad (tokP s).1.length cap, .int .i64 (j : Nat), .bool false] 67)) #[.int .i64 x.o, .int .i64 x.n, .slice adx x.ks.length capx] 24
        have o28 := (o2.alloc (.cells #[.slice ad (tokP s).1.length cap, .int .i64 (j : Nat), .bool false] 67)).alloc (.cells #[.int .i64 x.o, .int .i64 x.n, .slice adx x.ks.length capx] 24)
        clear hg
        go_wp2_with fail
        refine hV.mono ?_
        rintro e w3 ⟨rfl, hx⟩
        clear a0 a1 a2 a3 a4 a5 a6 hV
        replace o28 := o28.below hx
        replace o8 := o8.below hx
        replace T2 := T2.below hx
        have hb3 := hb8.trans (hx.mono hb8.size)
        have hz3 := hx.size
        simp only [alloc_size] at hz3 o8
        clear hx
        obtain ⟨a0, a1, a2, a3, a4, a5, a6⟩ := o28.three
        obtain ⟨b0, b1, b2, b3, b4, b5, b6⟩ := o8.three
        cases hv : validF x with
        | false =>
          have HE : Hid (EP s zeroE 1) := Lib.hid (.arg h0H.out HG.out hv)
          clear hv
          go_wp2_with fail
          refine bodyPost_ret (results_ct rfl rfl (loadVar_at (vs := [.int .i64 0, .int .i64 0, .slice none 0 0]) Tryz.underlying24 rfl (by kernel_rfl) (o28.put3 _ _ _))) rfl ?_
          exact ⟨zeroE, 1, _, HE.out, rfl, tree_leaf _ _ 0 0 none 0, bset3 hb3 (by omega) _ _ _⟩
        | true =>
          have HE : Hid (EP s x 0) := Lib.hid (.ok h0H.out HG.out hv)
          clear hv
          go_wp2_with fail
          refine bodyPost_ret (results_ct rfl rfl (loadVar_at (vs := [.int .i64 x.o, .int .i64 x.n, .slice adx x.ks.length capx]) Tryz.underlying24 rfl (by kernel_rfl) (o28.put3 _ _ _))) rfl ?_
          exact ⟨x, 0, _, HE.out, rfl, (((T2.lo (b := w.heap.size + 1) (by omega)).set3 (by show _ < _; omega) _ _ _).lo (by omega)), bset3 hb3 (by omega) _ _ _⟩
  · have h0b : (((tokP s).2.1 : Int) != 0) = true := by simpa using (by omega : ¬ ((tokP s).2.1 : Int) = 0)
    have HE : Hid (EP s zeroE (tokP s).2.1) := Lib.hid (.lex h0)
    generalize (tokP s).2.1 = ek at *
    clear hv1 h0
    go_wp2_with fail
    refine bodyPost_ret (results_ct rfl rfl (loadVar_at (vs := [.int .i64 0, .int .i64 0, .slice none 0 0]) Tryz.underlying24 rfl (by kernel_rfl) (o2.put3 _ _ _))) rfl ?_
    exact ⟨zeroE, ek, _, HE.out, rfl, tree_leaf _ _ 0 0 none 0, bset3 hb (by omega) _ _ _⟩
end Go.Proofs.YthnlenbfknbmcaaGreatDoor
