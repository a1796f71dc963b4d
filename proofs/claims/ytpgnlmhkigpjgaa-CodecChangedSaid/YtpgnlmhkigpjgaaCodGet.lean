/-
  The program: Get. A panic of the reader is recovered.
-/
import Derived.Test.YtpgnlmhkigpjgaaCodLst
import Derived.Defers
import Derived.Recover
import Derived.Laws.Pointers
namespace Go.Proofs.Ytpgnlmhkigpjgaa
open Go.RowKit

theorem list_some {w0 w : World} {R k : Nat} {v : Value} {bs : List UInt8} (h : RD w0 R v bs k w) (hlen : bs.length ≤ 1000000) {q : List Int × Nat} (hr : lrd (bs.drop k) = some q) :
    Calls Try.prog 29 #[.pointer (some ⟨R, 0, none⟩)] w fun e w' => ∃ B, e = .returned (.slice (some ⟨B, 0, none⟩) q.1.length q.1.length) ∧ Only R w w' ∧ w.heap.size ≤ B ∧ Own w' B (q.1.map (.int .i64)) ∧ Typed w' B 3 ∧ q.1.length ≤ 4000 ∧ (∀ x ∈ q.1, I64 x) ∧ RD w0 R v bs (k + q.2) w' := by
  refine (list_any h hlen).mono ?_
  rw [hr]
  rintro e w' ⟨h1, B, h2, h3⟩
  exact ⟨B, h2, h1, h3⟩
theorem list_none {w0 w : World} {R k : Nat} {v : Value} {bs : List UInt8} (h : RD w0 R v bs k w) (hlen : bs.length ≤ 1000000) (hr : lrd (bs.drop k) = none) :
    Calls Try.prog 29 #[.pointer (some ⟨R, 0, none⟩)] w fun e w' => e = .panicked bad ∧ Only R w w' := by
  refine (list_any h hlen).mono ?_
  rw [hr]
  rintro e w' ⟨h1, h2⟩
  exact ⟨h2, h1⟩
theorem end_any {w0 w : World} {R k : Nat} {v : Value} {bs : List UInt8} (h : RD w0 R v bs k w) (b : Bool) (hb : decide (k = bs.length) = b) :
    Calls Try.prog 30 #[.pointer (some ⟨R, 0, none⟩)] w fun e w' => e = (if b then .returned (.tuple #[]) else .panicked bad) ∧ Below w.heap.size w w' := by
  obtain ⟨ad, cap, hv⟩ := h.old.shape
  obtain ⟨c0, c1, f0, f1, hl⟩ := h.own.two
  rw [hv] at c0
  simp only [List.length_map] at c0
  have hd : ((k : Int) == bs.length) = b := by rw [← hb, Bool.eq_iff_iff, beq_iff_eq, decide_eq_true_iff]; omega
  cases b
  · go_enter Try.func30, Try.ntmps30
    go_wp2_with fail
    refine wp_region_uptail 10 (by kernel_rfl) (by kernel_rfl) ?_
    simp only [List.take_succ_cons, List.take_zero, List.drop_succ_cons, List.drop_zero]
    repeat (go_big_quiet_step (fail))
    refine wpQuiet_nil ?_
    rintro w1 ⟨g, rfl⟩
    go_wp2_with (go_at_call 37; refine (must_false _).mono ?_; rintro e w1 ⟨rfl, rfl⟩)
    exact ⟨rfl, rfl, up_below w g⟩
  · go_enter Try.func30, Try.ntmps30
    go_wp2_with fail
    refine wp_region_uptail 10 (by kernel_rfl) (by kernel_rfl) ?_
    simp only [List.take_succ_cons, List.take_zero, List.drop_succ_cons, List.drop_zero]
    repeat (go_big_quiet_step (fail))
    refine wpQuiet_nil ?_
    rintro w1 ⟨g, rfl⟩
    go_wp2_with (go_at_call 37; refine (must_true _).mono ?_; rintro e w1 ⟨rfl, rfl⟩)
    go_end0
    exact ⟨rfl, up_below w g⟩

theorem catch_panic (p q : Addr) (x y : Value) (u : TypeId) (pv : Value) (older : List PanicEntry) (w : World) (hpq : q.block ≠ p.block) (hp : w.cell? p = some x) (hq : w.cell? q = some y) (fp : w.frozen? p = false) (fq : w.frozen? q = false) :
    CallsD Try.prog 28 #[.pointer (some p), .pointer (some q)] (.panicking ({ v := .iface u pv, recovered := false } :: older)) w fun e u' w' =>
      e = .returned (.tuple #[]) ∧ u' = .panicking ({ v := .iface u pv, recovered := true } :: older) ∧ w' = (w.setCell p (.slice none 0 0)).setCell q (.int .i64 7) := by
  have hq' : (w.setCell p (.slice none 0 0)).cell? q = some y := by rw [World.cell?_setCell_other _ _ _ _ (fun e => hpq (by rw [e]))]; exact hq
  have fq' : (w.setCell p (.slice none 0 0)).frozen? q = false := by rw [World.frozen?_setCell]; exact fq
  refine callsD_of_wpS Try.func28 rfl fun c₀ cs hu => ?_
  apply wpS_seq
  apply wpS_region
  simp [wpOpsS, go_sem, recoverD, hu, Try.ntmps28, Exit.thenS]
  refine wpS_cond (t := true) (by simp [Act.eval, Array.replicate]) ?_
  simp only [if_true]
  apply wpS_region
  simp [wpOpsS, go_sem, hp, fp, hq', fq', bodyPostS, results, Try.results28]
theorem catch_idle (p q : Addr) (w : World) :
    CallsD Try.prog 28 #[.pointer (some p), .pointer (some q)] .returning w fun e u' w' => e = .returned (.tuple #[]) ∧ u' = .returning ∧ w' = w := by
  refine callsD_of_wpS Try.func28 rfl fun c₀ cs hu => ?_
  apply wpS_seq
  apply wpS_region
  simp [wpOpsS, go_sem, recoverD, hu, Try.ntmps28, Exit.thenS]
  refine wpS_cond (t := false) (by simp [Act.eval, Array.replicate]) ?_
  simp only [Bool.false_eq_true, if_false]
  refine wpS_of_wp (wp_skip ?_)
  cases c₀
  simp_all [bodyPostS, results, Try.results28]

/-- integers in a block of integers -/
def IntsT (w : World) (v : Value) (l : List Int) : Prop := Ints w v l ∧ (v = .slice none 0 0 ∨ ∃ B n c, v = .slice (some ⟨B, 0, none⟩) n c ∧ n ≤ c ∧ Typed w B 3)
theorem IntsT.below {w w' : World} {v : Value} {l : List Int} (h : IntsT w v l) (hb : Below w.heap.size w w') : IntsT w' v l := by
  refine ⟨h.1.below hb, ?_⟩
  rcases h.2 with e | ⟨B, n, c, e, hn, ht⟩
  · exact .inl e
  · exact .inr ⟨B, n, c, e, hn, ht.below hb⟩
/-- the reader that Get lays, behind the variables of its results -/
def gw (v : Value) (w : World) : World := ((w.alloc (.cells #[.slice none 0 0] 22)).alloc (.cells #[.int .i64 0] 25)).alloc (.cells #[v, .int .i64 0] 54)
theorem gw_rd {v : Value} {bs : List UInt8} {w : World} (h : Bytes w v bs) : RD w (w.heap.size + 1 + 1) v bs 0 (gw v w) := by
  refine ⟨h, by omega, ?_, ?_⟩
  · exact (((Below.refl _ w).alloc (by simp) _).alloc (by simp) _).alloc (by simp <;> omega) _
  · exact Own.at _ #[v, .int .i64 0] _ _ (by simp)
theorem gw_one (v : Value) (w : World) : Own (gw v w) w.heap.size [.slice none 0 0] := ((Own.new w #[.slice none 0 0] _).alloc _).alloc _
theorem gw_two (v : Value) (w : World) : Own (gw v w) (w.heap.size + 1) [.int .i64 0] := (Own.at _ #[.int .i64 0] _ _ (by simp)).alloc _

set_option maxRecDepth 100000 in
set_option maxHeartbeats 4000000 in
theorem Get_none (v : Value) (bs : List UInt8) (w : World) (h : Bytes w v bs) (hlen : bs.length ≤ 1000000) (hg : lget bs = none) :
    Calls Try.prog 15 #[v] w (Ret (.tuple #[.slice none 0 0, .int .i64 7]) w) := by
  have hmf : ∀ (fn : Fn) (first cap : Array Value) (w : World), (Instr.makeFunc fn first cap).run Try.prog w = .ok (.func fn first cap) w := fun _ _ _ _ => rfl
  rw [lget_lrd] at hg
  have hrd := gw_rd h
  have o1 := gw_one v w
  have o2 := gw_two v w
  have hB : Below w.heap.size w (gw v w) := hrd.bel
  obtain ⟨ad, cap, hv⟩ := h.shape
  rw [List.length_map] at hv
  subst hv
  cases hl : lrd bs with
  | none =>
    have hli := list_none hrd hlen (by simpa using hl)
    unfold gw at hrd o1 o2 hB hli
    go_enter_defers Try.func15, Try.ntmps15
    go_wp2_with (go_at_call 29; refine hli.mono ?_; rintro e w3 ⟨rfl, hon⟩)
    have p1 := o1.only (by omega) hon
    have p2 := o2.only (by omega) hon
    refine leaves_cons (f := 28) (args := #[.pointer (some ⟨w.heap.size, 0, none⟩), .pointer (some ⟨w.heap.size + 1, 0, none⟩)]) (by simp) (by simp [go_sem]) ?_
    refine (catch_panic ⟨w.heap.size, 0, none⟩ ⟨w.heap.size + 1, 0, none⟩ _ _ _ _ [] _ (by simp) p1.one.1 p2.one.1 p1.one.2.1 p2.one.2.1).mono ?_
    rintro e u' w'' ⟨rfl, rfl, rfl⟩
    have n1 := (set_own p1 (v' := .slice none 0 0)).only (by omega) ((Only.refl (w.heap.size + 1) _).set 0 (.int .i64 7))
    have n2 := set_own (p2.only (by omega) ((Only.refl w.heap.size w3).set 0 (.slice none 0 0))) (v' := .int .i64 7)
    have hbel : Below w.heap.size w ((w3.setCell ⟨w.heap.size, 0, none⟩ (.slice none 0 0)).setCell ⟨w.heap.size + 1, 0, none⟩ (.int .i64 7)) :=
      Below.setCell (p := ⟨w.heap.size + 1, 0, none⟩) (Below.setCell (p := ⟨w.heap.size, 0, none⟩) (hB.trans (hon.below (by omega) (by simp <;> omega))) (Nat.le_refl _) _) (by simp) _
    have hc1 := n1.one.1
    have hc2 := n2.one.1
    generalize (w3.setCell ⟨w.heap.size, 0, none⟩ (.slice none 0 0)).setCell ⟨w.heap.size + 1, 0, none⟩ (.int .i64 7) = W at *
    simp [Leaves, settle, results, Try.results15, go_sem, hc1, hc2, Ret, hbel]
  | some q =>
    rw [hl, Option.bind_some] at hg
    have hne : decide (0 + q.2 = bs.length) = false := by
      by_cases e : q.2 = bs.length
      · rw [if_pos e] at hg; cases hg
      · simp [e]
    have hli := list_some hrd hlen (by simpa using hl)
    unfold gw at hrd o1 o2 hB hli
    clear hg hl
    go_enter_defers Try.func15, Try.ntmps15
    go_wp2_with (go_at_call 29; refine hli.mono ?_; rintro e w3 ⟨B, rfl, hon, hBl, hoB, htB, hl4, hi64, hr3⟩; have p1 := o1.only (by omega) hon; have p2 := o2.only (by omega) hon; have c1 := p1.one.1; have f1 := p1.one.2.1)
    have hB3 : Below w.heap.size w w3 := hB.trans (hon.below (by omega) (by simp <;> omega))
    have hs1 := Below.setCell (p := ⟨w.heap.size, 0, none⟩) hB3 (Nat.le_refl _) (.slice (some ⟨B, 0, none⟩) q.1.length q.1.length)
    have r4 : RD w (w.heap.size + 1 + 1) (.slice ad bs.length cap) bs (0 + q.2) (w3.setCell ⟨w.heap.size, 0, none⟩ (.slice (some ⟨B, 0, none⟩) q.1.length q.1.length)) := ⟨hr3.old, hr3.le, hs1, hr3.own.only (by omega) ((Only.refl w.heap.size w3).set 0 _)⟩
    have q1 := set_own p1 (v' := .slice (some ⟨B, 0, none⟩) q.1.length q.1.length)
    have q2 := p2.only (by omega) ((Only.refl w.heap.size w3).set 0 (.slice (some ⟨B, 0, none⟩) q.1.length q.1.length))
    have hen := end_any r4 false hne
    simp only [Bool.false_eq_true, if_false] at hen
    clear p1 p2 hr3 o1 o2 hrd hli
    generalize w3.setCell ⟨w.heap.size, 0, none⟩ (.slice (some ⟨B, 0, none⟩) q.1.length q.1.length) = w4 at hen r4 q1 q2 hs1 ⊢
    go_wp2_with (go_at_call 30; refine hen.mono ?_; rintro e w5 ⟨rfl, hx5⟩)
    replace q1 := q1.below hx5
    replace q2 := q2.below hx5
    refine leaves_cons (f := 28) (args := #[.pointer (some ⟨w.heap.size, 0, none⟩), .pointer (some ⟨w.heap.size + 1, 0, none⟩)]) (by simp) (by simp [go_sem]) ?_
    refine (catch_panic ⟨w.heap.size, 0, none⟩ ⟨w.heap.size + 1, 0, none⟩ _ _ _ _ [] _ (by simp) q1.one.1 q2.one.1 q1.one.2.1 q2.one.2.1).mono ?_
    rintro e u' w'' ⟨rfl, rfl, rfl⟩
    have n1 := (set_own q1 (v' := .slice none 0 0)).only (by omega) ((Only.refl (w.heap.size + 1) _).set 0 (.int .i64 7))
    have n2 := set_own (q2.only (by omega) ((Only.refl w.heap.size w5).set 0 (.slice none 0 0))) (v' := .int .i64 7)
    have hbel : Below w.heap.size w ((w5.setCell ⟨w.heap.size, 0, none⟩ (.slice none 0 0)).setCell ⟨w.heap.size + 1, 0, none⟩ (.int .i64 7)) :=
      Below.setCell (p := ⟨w.heap.size + 1, 0, none⟩) (Below.setCell (p := ⟨w.heap.size, 0, none⟩) (hs1.trans (hx5.mono hs1.size)) (Nat.le_refl _) _) (by simp) _
    have hc1 := n1.one.1
    have hc2 := n2.one.1
    generalize (w5.setCell ⟨w.heap.size, 0, none⟩ (.slice none 0 0)).setCell ⟨w.heap.size + 1, 0, none⟩ (.int .i64 7) = W at *
    simp [Leaves, settle, results, Try.results15, go_sem, hc1, hc2, Ret, hbel]

set_option maxRecDepth 100000 in
set_option maxHeartbeats 4000000 in
theorem Get_some (v : Value) (bs : List UInt8) (w : World) (h : Bytes w v bs) (hlen : bs.length ≤ 1000000) (l : List Int) (hg : lget bs = some l) :
    Calls Try.prog 15 #[v] w fun e w' => ∃ v', e = .returned (.tuple #[v', .int .i64 0]) ∧ IntsT w' v' l ∧ Below w.heap.size w w' := by
  have hmf : ∀ (fn : Fn) (first cap : Array Value) (w : World), (Instr.makeFunc fn first cap).run Try.prog w = .ok (.func fn first cap) w := fun _ _ _ _ => rfl
  rw [lget_lrd] at hg
  have hrd := gw_rd h
  have o1 := gw_one v w
  have o2 := gw_two v w
  have hB : Below w.heap.size w (gw v w) := hrd.bel
  obtain ⟨ad, cap, hv⟩ := h.shape
  rw [List.length_map] at hv
  subst hv
  obtain ⟨q, hl, hg⟩ := Option.bind_eq_some_iff.1 hg
  have he : decide (0 + q.2 = bs.length) = true ∧ q.1 = l := by
    by_cases e : q.2 = bs.length
    · rw [if_pos e] at hg; cases hg; simp [e]
    · rw [if_neg e] at hg; cases hg
  obtain ⟨he, rfl⟩ := he
  have hli := list_some hrd hlen (by simpa using hl)
  unfold gw at hrd o1 o2 hB hli
  clear hg hl
  go_enter_defers Try.func15, Try.ntmps15
  go_wp2_with (go_at_call 29; refine hli.mono ?_; rintro e w3 ⟨B, rfl, hon, hBl, hoB, htB, hl4, hi64, hr3⟩; have p1 := o1.only (by omega) hon; have p2 := o2.only (by omega) hon; have c1 := p1.one.1; have f1 := p1.one.2.1)
  have hB3 : Below w.heap.size w w3 := hB.trans (hon.below (by omega) (by simp <;> omega))
  have hs1 := Below.setCell (p := ⟨w.heap.size, 0, none⟩) hB3 (Nat.le_refl _) (.slice (some ⟨B, 0, none⟩) q.1.length q.1.length)
  have r4 : RD w (w.heap.size + 1 + 1) (.slice ad bs.length cap) bs (0 + q.2) (w3.setCell ⟨w.heap.size, 0, none⟩ (.slice (some ⟨B, 0, none⟩) q.1.length q.1.length)) := ⟨hr3.old, hr3.le, hs1, hr3.own.only (by omega) ((Only.refl w.heap.size w3).set 0 _)⟩
  have q1 := set_own p1 (v' := .slice (some ⟨B, 0, none⟩) q.1.length q.1.length)
  have q2 := p2.only (by omega) ((Only.refl w.heap.size w3).set 0 (.slice (some ⟨B, 0, none⟩) q.1.length q.1.length))
  replace hBl : w.heap.size + 1 + 1 + 1 ≤ B := by simpa using hBl
  have hoB4 := hoB.only (by omega) ((Only.refl w.heap.size w3).set 0 (.slice (some ⟨B, 0, none⟩) q.1.length q.1.length))
  have htB4 := htB.set ⟨w.heap.size, 0, none⟩ (.slice (some ⟨B, 0, none⟩) q.1.length q.1.length)
  have hen := end_any r4 true he
  simp only [if_true] at hen
  clear p1 p2 hr3 o1 o2 hrd hli
  generalize w3.setCell ⟨w.heap.size, 0, none⟩ (.slice (some ⟨B, 0, none⟩) q.1.length q.1.length) = w4 at hen r4 q1 q2 hs1 hoB4 htB4 ⊢
  go_wp2_with (go_at_call 30; refine hen.mono ?_; rintro e w5 ⟨rfl, hx5⟩; replace q1 := q1.below hx5; replace q2 := q2.below hx5; have c1 := q1.one.1; have f1 := q1.one.2.1; have c2 := q2.one.1; have f2 := q2.one.2.1)
  replace hoB4 := hoB4.below hx5
  replace htB4 := htB4.below hx5
  refine leaves_cons (f := 28) (args := #[.pointer (some ⟨w.heap.size, 0, none⟩), .pointer (some ⟨w.heap.size + 1, 0, none⟩)]) (by simp) (by simp [go_sem]) ?_
  refine (catch_idle ⟨w.heap.size, 0, none⟩ ⟨w.heap.size + 1, 0, none⟩ _).mono ?_
  rintro e u' w'' ⟨rfl, rfl, rfl⟩
  have ht5 := (htB4.set ⟨w.heap.size, 0, none⟩ (.slice (some ⟨B, 0, none⟩) q.1.length q.1.length)).set ⟨w.heap.size + 1, 0, none⟩ (.int .i64 0)
  generalize hV : Value.slice (some ⟨B, 0, none⟩) q.1.length q.1.length = V at *
  have n1 := (set_own q1 (v' := V)).only (by omega) ((Only.refl (w.heap.size + 1) _).set 0 (.int .i64 0))
  have n2 := set_own (q2.only (by omega) ((Only.refl w.heap.size w5).set 0 V)) (v' := .int .i64 0)
  have n3 := (hoB4.only (by omega) ((Only.refl w.heap.size w5).set 0 V)).only (by omega) ((Only.refl (w.heap.size + 1) _).set 0 (.int .i64 0))
  have hbel : Below w.heap.size w ((w5.setCell ⟨w.heap.size, 0, none⟩ V).setCell ⟨w.heap.size + 1, 0, none⟩ (.int .i64 0)) :=
    Below.setCell (p := ⟨w.heap.size + 1, 0, none⟩) (Below.setCell (p := ⟨w.heap.size, 0, none⟩) (hs1.trans (hx5.mono hs1.size)) (Nat.le_refl _) _) (by simp) _
  have hc1 := n1.one.1
  have hc2 := n2.one.1
  have hrow : Row ((w5.setCell ⟨w.heap.size, 0, none⟩ V).setCell ⟨w.heap.size + 1, 0, none⟩ (.int .i64 0)) V (q.1.map (.int .i64)) := by have := Row.own (c := q.1.length) n3 (by rw [List.length_map]; omega); rw [List.length_map, hV] at this; exact this
  generalize (w5.setCell ⟨w.heap.size, 0, none⟩ V).setCell ⟨w.heap.size + 1, 0, none⟩ (.int .i64 0) = W at *
  simp [Leaves, settle, results, Try.results15, go_sem, hc1, hc2, hbel]
  exact ⟨⟨hrow, hi64⟩, .inr ⟨B, _, _, hV.symm, Nat.le_refl _, ht5⟩⟩
end Go.Proofs.Ytpgnlmhkigpjgaa
