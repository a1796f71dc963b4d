/-
  printer.Expr: the text of an expression, or an error.
-/
import Derived.Test.YtlkefcbkpohpgaaDoorPrnExp
import Derived.Test.YtlkefcbkpohpgaaDoorParVld
namespace Go.Proofs.YtlkefcbkpohpgaaDoor
open Go.RowKit Go.Shelf
set_option maxRecDepth 100000

theorem txt_ne {e : Xp} (h : okE e = true) : txtE e ≠ [] := by
  obtain ⟨o, n, l⟩ := e
  rcases node_shape h with ⟨rfl, rfl, a, rfl, ha⟩ | ⟨rfl, rfl, a, rfl, ha⟩ | ⟨rfl, rfl, hn⟩ | ⟨rfl, rfl, a, rfl, ha⟩ | ⟨rfl, rfl, a, b, c, rfl, ha, hb, hc⟩ | ⟨ho, rfl, a, b, rfl, ha, hb⟩
  · rw [txtE_mk]
    obtain ⟨_, _, c, r, h3, _⟩ := dec_all a
    intro h2
    have : Lib.decDigits a = [] := h2
    rw [h3] at this; cases this
  · rw [txtE_mk]
    intro h2
    have : monT a = [] := h2
    unfold monT at this
    simp at this
  · rw [txtE_mk]
    rcases hn with rfl | rfl | rfl | rfl <;> (intro h2; cases h2)
  · rw [txt_one]; intro h2; cases h2
  · rw [txt_three]; intro h2; cases h2
  · rw [txt_two]
    intro h2
    have := congrArg List.length h2
    rcases ho with rfl | rfl | rfl | rfl | rfl | rfl | rfl | rfl | rfl | rfl <;> simp [shapeT] at this
/-- a new writer -/
theorem wld_new {B : Nat} (w : World) (hB : B ≤ w.heap.size) : Wld B w.heap.size [] (w.alloc (.cells #[.pointer none, .slice none 0 0] 53)) := by
  refine .inl ⟨hB, .slice none 0 0, ?_, ⟨rfl, .inl ⟨rfl, rfl⟩⟩, by simp [Value.ownBlock]⟩
  show (w.heap.push _)[w.heap.size]? = _
  rw [Array.getElem?_push_size]
set_option maxHeartbeats 2000000 in
theorem pprint_any {Q : Nat → Prop} (e : Xp) (v : Value) (w : World) (hP : PL w) (ht : Tree Q w e v) : Calls Tryd.prog 8 #[v] w (Ret (.tuple #[.string ⟨(exprP e).1.toArray⟩, .int .i64 (exprP e).2]) w) := by
  obtain ⟨ad, cap, rfl, hmin, -⟩ := ht.shape
  have hb0 : Below w.heap.size w (w.alloc (.cells #[.int .i64 e.o, .int .i64 e.n, .slice ad e.ks.length cap] 24)) := (Below.refl _ w).alloc (Nat.le_refl _) _
  have o2 := Own.new w #[.int .i64 e.o, .int .i64 e.n, .slice ad e.ks.length cap] 24
  have hval := pvalid_any e _ _ (ht.below hb0)
  unfold exprP
  cases hv : validF e with
  | false =>
    rw [hv] at hval
    rw [if_neg (by simp)]
    clear hv
    go_enter Tryd.func8, Tryd.ntmps8
    go_wp2_with fail
    refine hval.mono ?_
    rintro e1 w2 ⟨rfl, hx⟩
    go_wp2_with fail
    go_ret2
    exact Ret.mk rfl (hb0.trans (hx.mono hb0.size))
  | true =>
    rw [hv] at hval
    rw [if_pos rfl]
    have hok := (valid_is hv).1
    have htl := txt_len hv
    have hne := txt_ne hok
    have hE := fun b l w1 => expr_of hP (b := b) e hok ad cap l w1 ⟨_, ht⟩
    clear hv
    generalize txtE e = T at hE htl hne ⊢
    go_enter Tryd.func8, Tryd.ntmps8
    go_wp2_with fail
    refine hval.mono ?_
    rintro e1 w2 ⟨rfl, hx⟩
    have hb2 := hb0.trans (hx.mono hb0.size)
    replace o2 := o2.below hx
    have hwl := wld_new (B := w.heap.size) w2 hb2.size
    have hb3 : Below w.heap.size w (w2.alloc (.cells #[.pointer none, .slice none 0 0] 53)) := hb2.alloc hb2.size _
    obtain ⟨u0, u1, u2, -, -, -, -⟩ := (o2.alloc (.cells #[.pointer none, .slice none 0 0] 53)).three
    clear hval hx
    go_wp2_with fail
    refine (hE w2.heap.size [] _ hwl hb3 (by simp; omega)).mono ?_
    rintro e3 w4 ⟨rfl, h4, hb4, ho4⟩
    have hb5 := hb3.trans hb4
    clear u0 u1 u2
    go_wp2_with fail
    refine (wstring_any w.heap.size w2.heap.size _ (by simpa using hne) (by simp; omega) w4 h4).mono ?_
    rintro e3 w5 ⟨rfl, hb6⟩
    go_wp2_with fail
    go_ret2
    exact Ret.mk (by simp) (hb5.trans hb6)
end Go.Proofs.YtlkefcbkpohpgaaDoor
