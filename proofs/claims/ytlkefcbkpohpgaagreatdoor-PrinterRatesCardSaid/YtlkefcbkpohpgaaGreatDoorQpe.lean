/-
  The walk of expression and kid: the text of an expression.
-/
import Derived.Test.YtlkefcbkpohpgaaGreatDoorQpl
import Derived.Deep.RegionHeld3
import Derived.Test.YtlkefcbkpohpgaaGreatDoorQn
namespace Go.Proofs.YtlkefcbkpohpgaaGreatDoor
open Go.RowKit Go.Shelf
set_option maxRecDepth 100000

def ExprC (W0 : World) (b : Nat) (x : Xp) : Prop := ∀ (ad : Option Addr) (cap : Nat) (l : List UInt8) (w : World), (∃ Q, Tree Q W0 x (.agg #[.int .i64 x.o, .int .i64 x.n, .slice ad x.ks.length cap])) → Wld W0.heap.size b l w → Below W0.heap.size W0 w → l.length + (txtE x).length ≤ 1000000 →
  Calls Tryz.prog 51 #[.pointer (some ⟨b, 0, none⟩), .agg #[.int .i64 x.o, .int .i64 x.n, .slice ad x.ks.length cap]] w (WEnd W0.heap.size b (l ++ txtE x) (.tuple #[]) w)
theorem op_range {e : Xp} (h : okE e = true) : ∃ k : Nat, e.o = k ∧ 1 ≤ k ∧ k ≤ 15 := by
  obtain ⟨o, n, l⟩ := e
  simp only [Xp.o]
  rcases node_shape h with ⟨rfl, -⟩ | ⟨rfl, -⟩ | ⟨rfl, -⟩ | ⟨rfl, -⟩ | ⟨rfl, -⟩ | ⟨ho, -⟩
  · exact ⟨1, rfl, by decide, by decide⟩
  · exact ⟨2, rfl, by decide, by decide⟩
  · exact ⟨3, rfl, by decide, by decide⟩
  · exact ⟨15, rfl, by decide, by decide⟩
  · exact ⟨10, rfl, by decide, by decide⟩
  · exact ⟨o.toNat, by omega, by omega, by omega⟩
theorem rank_le (o : Int) : rankO o ≤ 7 := by unfold rankO; repeat' split
                                              all_goals omega
theorem rank_at (e : Xp) {k : Nat} (h : e.o = k) : rankO (k : Int) = rankE e := by cases e; exact congrArg rankO h.symm
/-- a new block of the call's own, and what the writer leaves of it -/
theorem box_own {b : Nat} {w w1 : World} {xs : List Value} (hb : b < w.heap.size) (ho : Lib.OthersKept 5 (some b) (w.alloc (.cells xs.toArray 24)) w1) (hz : w.heap.size + 1 ≤ w1.heap.size) : Own w1 w.heap.size xs := by
  have hh : (w.alloc (.cells xs.toArray 24)).heap[w.heap.size]? = some (.cells xs.toArray 24 (0, 0)) := by
    show (w.heap.push _)[w.heap.size]? = _
    rw [Array.getElem?_push_size]
  have h1 := ho w.heap.size _ hh (by simp; omega) (fun c f e => by cases e)
  have o1 := Own.new w xs.toArray 24
  exact ⟨fun i v hi => (World.cell?_of_block (w := w.alloc (.cells xs.toArray 24)) (h1.trans hh.symm)).trans (o1.cell i v (by simpa using hi)), fun i v hi => (World.frozen?_of_block (w := w.alloc (.cells xs.toArray 24)) (h1.trans hh.symm)).trans (o1.fro i v (by simpa using hi)), by omega⟩
set_option maxHeartbeats 2000000 in
theorem kid_of {W0 : World} (hP : PL W0) {b : Nat} {x : Xp} (hx : okE x = true) (hE : ExprC W0 b x) : KidC W0 b x := by
  obtain ⟨k, hk, hk1, hk2⟩ := op_range hx
  have hrk := rank_at x hk
  obtain ⟨o, n, ks⟩ := x
  simp only [Xp.o] at hk
  subst hk
  intro least hl ad cap l w ht hw hb hlen
  simp only [Xp.o, Xp.n, Xp.ks] at ht ⊢
  have hE2 : ∀ (l : List UInt8) (w : World), Wld W0.heap.size b l w → Below W0.heap.size W0 w → l.length + (txtE (.mk k n ks)).length ≤ 1000000 →
      Calls Tryz.prog 51 #[.pointer (some ⟨b, 0, none⟩), .agg #[.int .i64 (k : Int), .int .i64 n, .slice ad ks.length cap]] w (WEnd W0.heap.size b (l ++ txtE (.mk k n ks)) (.tuple #[]) w) := fun l w h1 h2 h3 => hE ad cap l w ht h1 h2 h3
  clear hE ht
  generalize Xp.mk (k : Int) n ks = x at hlen hrk hE2 hx ⊢
  have hrl := rank_le (k : Int)
  have r0 := (hP.below ⟨hb.os, hb.tape, hb.output, hb.size, hb.block⟩).rank k hk1 hk2
  obtain ⟨hB, hlt⟩ := wld_lt hw
  have hbz := hb.size
  have hw1 := wld_alloc hw (.cells #[.int .i64 (k : Int), .int .i64 n, .slice ad ks.length cap] 24)
  have hb1 : Below W0.heap.size W0 (w.alloc (.cells #[.int .i64 (k : Int), .int .i64 n, .slice ad ks.length cap] 24)) := hb.alloc hbz _
  have hb2 : Below W0.heap.size w (w.alloc (.cells #[.int .i64 (k : Int), .int .i64 n, .slice ad ks.length cap] 24)) := (Below.refl _ w).alloc hbz _
  have hk9 : Lib.OthersKept 5 (some b) w (w.alloc (.cells #[.int .i64 (k : Int), .int .i64 n, .slice ad ks.length cap] 24)) := (Lib.OthersKept.refl _ _ w).alloc _
  have r1 := (((Below.refl w.heap.size w).alloc (Nat.le_refl _) (.cells #[.int .i64 (k : Int), .int .i64 n, .slice ad ks.length cap] 24)).cell (p := ⟨1, k * 2, none⟩) (World.block_lt_of_cell? _ _ r0)).trans r0
  rw [hrk] at r1
  unfold kidT at hlen ⊢
  by_cases hr : rankE x < least
  · rw [decide_eq_true hr] at hlen ⊢
    have t1 : decide ((least : Int) ≤ (rankE x : Int)) = false := decide_eq_false (by omega)
    go_enter Tryz.func112, Tryz.ntmps112
    simp only [brkS, if_true, List.length_cons, List.length_append, List.length_nil] at hlen ⊢
    have hbox : ∀ w1 : World, Lib.OthersKept 5 (some b) (w.alloc (.cells #[.int .i64 (k : Int), .int .i64 n, .slice ad ks.length cap] 24)) w1 → (w.alloc (.cells #[.int .i64 (k : Int), .int .i64 n, .slice ad ks.length cap] 24)).heap.size ≤ w1.heap.size → Own w1 w.heap.size [.int .i64 (k : Int), .int .i64 n, .slice ad ks.length cap] := fun w1 h1 h2 => box_own (xs := [.int .i64 (k : Int), .int .i64 n, .slice ad ks.length cap]) hlt h1 (by simpa using h2)
    go_wp2_with fail
    refine (wbyte_any W0.heap.size b l 40 _ hw1 (by omega) hb1.size).mono ?_
    rintro e w2 ⟨rfl, h2, hb3, ho3⟩
    have q1 := hb1.trans hb3
    have q2 := hb2.trans hb3
    have q3 := hk9.trans ho3
    obtain ⟨c0, c1, c2, -, -, -, -⟩ := (hbox w2 ho3 hb3.size).three
    clear r1 r0
    go_wp2_with fail
    refine (hE2 _ w2 h2 q1 (by simp only [List.length_append, List.length_cons, List.length_nil]; omega)).mono ?_
    rintro e w3 ⟨rfl, h4, hb4, ho4⟩
    have q4 := q1.trans hb4
    have q5 := q2.trans hb4
    have q6 := q3.trans ho4
    clear c0 c1 c2
    go_wp2_with fail
    refine (wbyte_any W0.heap.size b _ 41 w3 h4 (by simp only [List.length_append, List.length_cons, List.length_nil]; omega) q4.size).mono ?_
    rintro e w5 ⟨rfl, h6, hb6, ho6⟩
    go_wp2_with fail
    go_end0
    refine ⟨rfl, ?_, q5.trans hb6, q6.trans ho6⟩
    have e9 : l ++ 40 :: (txtE x ++ [41]) = l ++ [40] ++ txtE x ++ [41] := by simp
    rw [e9]; exact h6
  · rw [decide_eq_false hr] at hlen ⊢
    have t1 : decide ((least : Int) ≤ (rankE x : Int)) = true := decide_eq_true (by omega)
    go_enter Tryz.func112, Tryz.ntmps112
    simp only [brkS] at hlen ⊢
    go_wp2_with fail
    refine (hE2 l _ hw1 hb1 (by simpa using hlen)).mono ?_
    rintro e w3 ⟨rfl, h4, hb4, ho4⟩
    go_wp2_with fail
    go_end0
    exact ⟨rfl, by simpa using h4, hb2.trans hb4, hk9.trans ho4⟩
theorem wld_drew {B b : Nat} {l : List UInt8} {w : World} (h : Wld B b l w) : Wld B b l w.drew := h
set_option maxHeartbeats 4000000 in
theorem expr_of {W0 : World} (hP : PL W0) {b : Nat} : ∀ e : Xp, okE e = true → ExprC W0 b e := by
  intro e
  induction e using Xp.ind with
  | h o n kids ih =>
  intro hok ad cap l w ht hw hb hlen
  obtain ⟨hB, hlt⟩ := wld_lt hw
  have hbz := hb.size
  have shp := node_shape hok
  simp only [Xp.o, Xp.n, Xp.ks] at ht ⊢
  have hw1 := wld_alloc hw (.cells #[.int .i64 o, .int .i64 n, .slice ad kids.length cap] 24)
  have hb1 : Below W0.heap.size W0 (w.alloc (.cells #[.int .i64 o, .int .i64 n, .slice ad kids.length cap] 24)) := hb.alloc hbz _
  have hb2 : Below W0.heap.size w (w.alloc (.cells #[.int .i64 o, .int .i64 n, .slice ad kids.length cap] 24)) := (Below.refl _ w).alloc hbz _
  have hk9 : Lib.OthersKept 5 (some b) w (w.alloc (.cells #[.int .i64 o, .int .i64 n, .slice ad kids.length cap] 24)) := (Lib.OthersKept.refl _ _ w).alloc _
  have hP1 := hP.below hb1
  rcases shp with ⟨rfl, rfl, a, rfl, ha⟩ | ⟨rfl, rfl, a, rfl, ha⟩ | ⟨rfl, rfl, hn⟩ | hrest
  · rw [txtE_mk] at hlen ⊢
    have e9 : shapeT 1 (a : Int) (txtL 1 0 []) = Lib.decDigits a := rfl
    rw [e9] at hlen ⊢
    go_enter Tryz.func51, Tryz.ntmps51
    go_wp2_with fail
    go_region_with (first
      | (go_at_call 57; refine (pitoa_any a (by omega) _ (hP1.tab.below (Below.refl _ _).drew)).mono ?_; rintro e w2 ⟨rfl, hx⟩)
      | (go_at_call 60
         refine (wwrite_any W0.heap.size b l (Lib.decDigits a) w2 (wld_below (wld_drew hw1) hx) (by omega) (by omega) (Nat.le_trans hb1.size hx.size)).mono ?_
         rintro e w3 ⟨rfl, h3, hb3, ho3⟩))
    all_goals
      go_end0
      exact ⟨rfl, h3, (hb2.drew.trans (hx.mono hb1.size)).trans hb3, (hk9.drew.trans (others_below hx)).trans ho3⟩
  · rw [txtE_mk] at hlen ⊢
    have e9 : shapeT 2 (a : Int) (txtL 2 0 []) = monT a := rfl
    rw [e9] at hlen ⊢
    go_enter Tryz.func51, Tryz.ntmps51
    go_wp2_with fail
    refine (ptext_any a ha _ hP1.tab).mono ?_
    rintro e w2 ⟨rfl, hx⟩
    go_wp2_with fail
    refine (wwrite_any W0.heap.size b l (monT a) w2 (wld_below hw1 hx) (by omega) (by omega) (Nat.le_trans hb1.size hx.size)).mono ?_
    rintro e w3 ⟨rfl, h3, hb3, ho3⟩
    go_wp2_with fail
    go_end0
    exact ⟨rfl, h3, (hb2.trans (hx.mono hb1.size)).trans hb3, (hk9.trans (others_below hx)).trans ho3⟩
  · rw [txtE_mk] at hlen ⊢
    have e9 : shapeT 3 n (txtL 3 0 []) = varT n := rfl
    rw [e9] at hlen ⊢
    clear hok ih e9
    simp only [List.length_nil] at hw1 hb1 hb2 hk9 hP1 ⊢
    rcases hn with rfl | rfl | rfl | rfl
    · have r0 : (w.alloc (.cells #[.int .i64 3, .int .i64 1, .slice ad 0 cap] 24)).cell? ⟨0, 1, none⟩ = some (.string ⟨(varT 1).toArray⟩) := hP1.vars 1 (by decide) (by decide)
      generalize varT 1 = T at hlen r0 ⊢
      go_enter Tryz.func51, Tryz.ntmps51
      go_wp2_with fail
      go_region_with (go_at_call 60
                      refine (wwrite_any W0.heap.size b l T _ (wld_drew hw1) (by omega) (by omega) hb1.size).mono ?_
                      rintro e w3 ⟨rfl, h3, hb3, ho3⟩)
      all_goals
        go_end0
        exact ⟨rfl, h3, hb2.drew.trans hb3, hk9.drew.trans ho3⟩
    · have r0 : (w.alloc (.cells #[.int .i64 3, .int .i64 2, .slice ad 0 cap] 24)).cell? ⟨0, 2, none⟩ = some (.string ⟨(varT 2).toArray⟩) := hP1.vars 2 (by decide) (by decide)
      generalize varT 2 = T at hlen r0 ⊢
      go_enter Tryz.func51, Tryz.ntmps51
      go_wp2_with fail
      go_region_with (go_at_call 60
                      refine (wwrite_any W0.heap.size b l T _ (wld_drew hw1) (by omega) (by omega) hb1.size).mono ?_
                      rintro e w3 ⟨rfl, h3, hb3, ho3⟩)
      all_goals
        go_end0
        exact ⟨rfl, h3, hb2.drew.trans hb3, hk9.drew.trans ho3⟩
    · have r0 : (w.alloc (.cells #[.int .i64 3, .int .i64 3, .slice ad 0 cap] 24)).cell? ⟨0, 3, none⟩ = some (.string ⟨(varT 3).toArray⟩) := hP1.vars 3 (by decide) (by decide)
      generalize varT 3 = T at hlen r0 ⊢
      go_enter Tryz.func51, Tryz.ntmps51
      go_wp2_with fail
      go_region_with (go_at_call 60
                      refine (wwrite_any W0.heap.size b l T _ (wld_drew hw1) (by omega) (by omega) hb1.size).mono ?_
                      rintro e w3 ⟨rfl, h3, hb3, ho3⟩)
      all_goals
        go_end0
        exact ⟨rfl, h3, hb2.drew.trans hb3, hk9.drew.trans ho3⟩
    · have r0 : (w.alloc (.cells #[.int .i64 3, .int .i64 4, .slice ad 0 cap] 24)).cell? ⟨0, 4, none⟩ = some (.string ⟨(varT 4).toArray⟩) := hP1.vars 4 (by decide) (by decide)
      generalize varT 4 = T at hlen r0 ⊢
      go_enter Tryz.func51, Tryz.ntmps51
      go_wp2_with fail
      go_region_with (go_at_call 60
                      refine (wwrite_any W0.heap.size b l T _ (wld_drew hw1) (by omega) (by omega) hb1.size).mono ?_
                      rintro e w3 ⟨rfl, h3, hb3, ho3⟩)
      all_goals
        go_end0
        exact ⟨rfl, h3, hb2.drew.trans hb3, hk9.drew.trans ho3⟩
  · have h123 : o ≠ 1 ∧ o ≠ 2 ∧ o ≠ 3 := by rcases hrest with ⟨h, -⟩ | ⟨h, -⟩ | ⟨h, -⟩ <;> omega
    obtain ⟨k, rfl, hk1, hk2, hf, hcn, hasc, hsl⟩ := fill_txt hok h123.1 h123.2.1 h123.2.2
    have r0 := hP1.shape k (by omega) hk2
    obtain ⟨Q, ht⟩ := ht
    obtain ⟨ad', cap', hv', hmin, hks⟩ := ht.shape
    simp only [Xp.o, Xp.n, Xp.ks] at hv' hmin hks
    have hadd : ad' = ad ∧ cap' = cap := by simp at hv'; exact ⟨hv'.1.symm, hv'.2.symm⟩
    obtain ⟨rfl, rfl⟩ := hadd
    have hK : ∀ x ∈ kids, KidC W0 b x := fun x hx => kid_of hP (okL_mem (by rw [okE_mk, Bool.and_eq_true] at hok; exact hok.2) x hx) (ih x hx (okL_mem (by rw [okE_mk, Bool.and_eq_true] at hok; exact hok.2) x hx))
    have hO := fun w1 h1 h2 => oper_any W0 b kids hK (shpO k) hasc hcn (by omega) ad' cap' (by omega) hks l w1 h1 h2 (by rw [hf]; exact hlen)
    rw [hf] at hO
    have t1 : ((k : Int) == 1) = false := beq_eq_false_iff_ne.2 h123.1
    have t2 : ((k : Int) == 2) = false := beq_eq_false_iff_ne.2 h123.2.1
    have t3 : ((k : Int) == 3) = false := beq_eq_false_iff_ne.2 h123.2.2
    clear hf hK ih hks hv' ht hok hrest
    generalize txtE (.mk k n kids) = T at hO hlen ⊢
    go_enter Tryz.func51, Tryz.ntmps51
    go_wp2_with fail
    go_region_with (go_at_call 81
                    refine (hO _ (wld_drew hw1) hb1.drew).mono ?_
                    rintro e w3 ⟨rfl, h3, hb3, ho3⟩)
    all_goals
      go_end0
      exact ⟨rfl, h3, hb2.drew.trans hb3, hk9.drew.trans ho3⟩
end Go.Proofs.YtlkefcbkpohpgaaGreatDoor
namespace Go.Proofs.YtlkefcbkpohpgaaGreatDoor
open Go.RowKit Go.Shelf
set_option maxRecDepth 100000

theorem txt_ne {e : Xp} (h : okE e = true) : txtE e ≠ [] := by
  obtain ⟨o, n, l⟩ := e
  rcases node_shape h with ⟨rfl, rfl, a, rfl, ha⟩ | ⟨rfl, rfl, a, rfl, ha⟩ | ⟨rfl, rfl, hn⟩ | ⟨rfl, rfl, a, rfl, ha⟩ | ⟨rfl, rfl, a, b, c, rfl, ha, hb, hc⟩ | ⟨ho, rfl, a, b, rfl, ha, hb⟩
  · rw [txtE_mk]
    obtain ⟨_, _, c, r, h3, _⟩ := dec_all a
    intro h2
    have : Lib.decDigits a = [] := h2
    rw [h3] at this; cases this
  · rw [txtE_mk]
    intro h2
    have : monT a = [] := h2
    unfold monT at this
    simp at this
  · rw [txtE_mk]
    rcases hn with rfl | rfl | rfl | rfl <;> (intro h2; cases h2)
  · rw [txt_one]; intro h2; cases h2
  · rw [txt_three]; intro h2; cases h2
  · rw [txt_two]
    intro h2
    have := congrArg List.length h2
    rcases ho with rfl | rfl | rfl | rfl | rfl | rfl | rfl | rfl | rfl | rfl <;> simp [shapeT] at this
/-- a new writer -/
theorem wld_new {B : Nat} (w : World) (hB : B ≤ w.heap.size) : Wld B w.heap.size [] (w.alloc (.cells #[.pointer none, .slice none 0 0] 94)) := by
  refine .inl ⟨hB, .slice none 0 0, ?_, ⟨rfl, .inl ⟨rfl, rfl⟩⟩, by simp [Value.ownBlock]⟩
  show (w.heap.push _)[w.heap.size]? = _
  rw [Array.getElem?_push_size]
set_option maxHeartbeats 2000000 in
theorem pprint_any {Q : Nat → Prop} (e : Xp) (v : Value) (w : World) (hP : PL w) (ht : Tree Q w e v) : Calls Tryz.prog 25 #[v] w (Ret (.tuple #[.string ⟨(exprP e).1.toArray⟩, .int .i64 (exprP e).2]) w) := by
  obtain ⟨ad, cap, rfl, hmin, -⟩ := ht.shape
  have hb0 : Below w.heap.size w (w.alloc (.cells #[.int .i64 e.o, .int .i64 e.n, .slice ad e.ks.length cap] 24)) := (Below.refl _ w).alloc (Nat.le_refl _) _
  have o2 := Own.new w #[.int .i64 e.o, .int .i64 e.n, .slice ad e.ks.length cap] 24
  have hval := pvalid_any e _ _ (ht.below hb0)
  unfold exprP
  cases hv : validF e with
  | false =>
    rw [hv] at hval
    rw [if_neg (by simp)]
    clear hv
    go_enter Tryz.func25, Tryz.ntmps25
    go_wp2_with fail
    refine hval.mono ?_
    rintro e1 w2 ⟨rfl, hx⟩
    go_wp2_with fail
    go_ret2
    exact Ret.mk rfl (hb0.trans (hx.mono hb0.size))
  | true =>
    rw [hv] at hval
    rw [if_pos rfl]
    have hok := (valid_is hv).1
    have htl := txt_len hv
    have hne := txt_ne hok
    have hE := fun b l w1 => expr_of hP (b := b) e hok ad cap l w1 ⟨_, ht⟩
    clear hv
    generalize txtE e = T at hE htl hne ⊢
    go_enter Tryz.func25, Tryz.ntmps25
    go_wp2_with fail
    refine hval.mono ?_
    rintro e1 w2 ⟨rfl, hx⟩
    have hb2 := hb0.trans (hx.mono hb0.size)
    replace o2 := o2.below hx
    have hwl := wld_new (B := w.heap.size) w2 hb2.size
    have hb3 : Below w.heap.size w (w2.alloc (.cells #[.pointer none, .slice none 0 0] 94)) := hb2.alloc hb2.size _
    obtain ⟨u0, u1, u2, -, -, -, -⟩ := (o2.alloc (.cells #[.pointer none, .slice none 0 0] 94)).three
    clear hval hx
    go_wp2_with fail
    refine (hE w2.heap.size [] _ hwl hb3 (by simp; omega)).mono ?_
    rintro e3 w4 ⟨rfl, h4, hb4, ho4⟩
    have hb5 := hb3.trans hb4
    clear u0 u1 u2
    go_wp2_with fail
    refine (wstring_any w.heap.size w2.heap.size _ (by simpa using hne) (by simp; omega) w4 h4).mono ?_
    rintro e3 w5 ⟨rfl, hb6⟩
    go_wp2_with fail
    go_ret2
    exact Ret.mk (by simp) (hb5.trans hb6)
end Go.Proofs.YtlkefcbkpohpgaaGreatDoor
