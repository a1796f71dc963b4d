/-
  A parser is made; what it reads is tried, and a panic is recovered.
-/
import Derived.Test.YthnlenbfknbmcaaGreatDoorQo
import Derived.Test.YthnlenbfknbmcaaGreatDoorQm
import Derived.Test.YthnlenbfknbmcaaGreatDoorQi
import Derived.Recover
import Derived.Defers
import Derived.Test.YthnlenbfknbmcaaGreatDoorQn
namespace Go.Proofs.YthnlenbfknbmcaaGreatDoor
open Go.RowKit Go.Shelf
set_option maxRecDepth 100000

theorem fault_assert (a : Value) (w : World) : (Instr.typeAssert (.iface 60 a) 20 60 false).run Tryz.prog w = .ok a w := by kernel_rfl
set_option maxHeartbeats 800000 in
/-- a deferred closure that recovers: of a call that panicked with a fault -/
theorem catch_diedE (B : Nat) (e0 n0 e n : Int) (older : List PanicEntry) (w : World) (ho : Own w B [.int .i64 e0, .int .i64 n0]) :
    CallsD Tryz.prog 41 #[.pointer (some ⟨B, 0, none⟩)] (.panicking ({ v := faultV e n, recovered := false } :: older)) w fun x u' w' =>
      x = .returned (.tuple #[]) ∧ u' = .panicking ({ v := faultV e n, recovered := true } :: older) ∧ w' = (w.setCell ⟨B, 0, none⟩ (.int .i64 e)).setCell ⟨B, 1, none⟩ (.int .i64 n) := by
  obtain ⟨h0, h1, f0, f1, hz⟩ := ho.two
  unfold faultV
  refine callsD_of_wpS Tryz.func41 rfl fun c₀ cs hu => ?_
  apply wpS_seq
  apply wpS_region
  simp [wpOpsS, go_sem, recoverD, hu, Tryz.ntmps41, Exit.thenS]
  apply wpS_seq
  apply wpS_region
  simp [wpOpsS, go_sem, Exit.thenS]
  refine wpS_cond (t := true) (by simp [Act.eval]) ?_
  simp only [if_true]
  apply wpS_region
  simp [wpOpsS, go_sem, fault_assert, h0, h1, f0, f1, bodyPostS, results, Tryz.results41]
set_option maxHeartbeats 800000 in
theorem catch_idleE (B : Nat) (w : World) :
    CallsD Tryz.prog 41 #[.pointer (some ⟨B, 0, none⟩)] .returning w fun x u' w' => x = .returned (.tuple #[]) ∧ u' = .returning ∧ w' = w := by
  refine callsD_of_wpS Tryz.func41 rfl fun c₀ cs hu => ?_
  apply wpS_seq
  apply wpS_region
  simp [wpOpsS, go_sem, recoverD, hu, Tryz.ntmps41, Exit.thenS]
  apply wpS_seq
  apply wpS_region
  simp [wpOpsS, go_sem, Exit.thenS]
  refine wpS_cond (t := false) (by simp [Act.eval]) ?_
  simp only [Bool.false_eq_true, if_false]
  refine wpS_of_wp (wp_skip ?_)
  cases c₀
  simp_all [bodyPostS, results, Tryz.results41]
set_option maxHeartbeats 800000 in
/-- a deferred closure that recovers: of a call that panicked with a fault -/
theorem catch_diedR (B : Nat) (e0 n0 e n : Int) (older : List PanicEntry) (w : World) (ho : Own w B [.int .i64 e0, .int .i64 n0]) :
    CallsD Tryz.prog 51 #[.pointer (some ⟨B, 0, none⟩)] (.panicking ({ v := faultV e n, recovered := false } :: older)) w fun x u' w' =>
      x = .returned (.tuple #[]) ∧ u' = .panicking ({ v := faultV e n, recovered := true } :: older) ∧ w' = (w.setCell ⟨B, 0, none⟩ (.int .i64 e)).setCell ⟨B, 1, none⟩ (.int .i64 n) := by
  obtain ⟨h0, h1, f0, f1, hz⟩ := ho.two
  unfold faultV
  refine callsD_of_wpS Tryz.func51 rfl fun c₀ cs hu => ?_
  apply wpS_seq
  apply wpS_region
  simp [wpOpsS, go_sem, recoverD, hu, Tryz.ntmps51, Exit.thenS]
  apply wpS_seq
  apply wpS_region
  simp [wpOpsS, go_sem, Exit.thenS]
  refine wpS_cond (t := true) (by simp [Act.eval]) ?_
  simp only [if_true]
  apply wpS_region
  simp [wpOpsS, go_sem, fault_assert, h0, h1, f0, f1, bodyPostS, results, Tryz.results51]
set_option maxHeartbeats 800000 in
theorem catch_idleR (B : Nat) (w : World) :
    CallsD Tryz.prog 51 #[.pointer (some ⟨B, 0, none⟩)] .returning w fun x u' w' => x = .returned (.tuple #[]) ∧ u' = .returning ∧ w' = w := by
  refine callsD_of_wpS Tryz.func51 rfl fun c₀ cs hu => ?_
  apply wpS_seq
  apply wpS_region
  simp [wpOpsS, go_sem, recoverD, hu, Tryz.ntmps51, Exit.thenS]
  apply wpS_seq
  apply wpS_region
  simp [wpOpsS, go_sem, Exit.thenS]
  refine wpS_cond (t := false) (by simp [Act.eval]) ?_
  simp only [Bool.false_eq_true, if_false]
  refine wpS_of_wp (wp_skip ?_)
  cases c₀
  simp_all [bodyPostS, results, Tryz.results51]

variable {W0 : World} {v : Value} {m : Nat} {L : List Tok}
/-- an expression alone -/
def AEnd (W0 : World) (L : List Tok) (w : World) (e : Ending) (w' : World) : Prop :=
  (∃ x tv, G .expr L (.ok [x] []) ∧ e = .returned tv ∧ Tree (Lo w.heap.size) w' x tv ∧ Kept (some W0.heap.size) w w') ∨
  (∃ n : Int, ((∃ r, G .expr L (.bad r)) ∨ ∃ x r, G .expr L (.ok [x] r) ∧ r ≠ []) ∧ Dies 8 n (some W0.heap.size) w e w')
set_option maxHeartbeats 800000 in
theorem alone_any (hE : Env W0 v m L) (w : World) (hS : St W0 v m L 0 w) : Calls Tryz.prog 26 #[.pointer (some ⟨W0.heap.size, 0, none⟩)] w (AEnd W0 L w) := by
  have hP := hS.own.lt
  have k := Kept.refl (some W0.heap.size) w
  go_enter Tryz.func26, Tryz.ntmps26
  go_wp2_with fail
  have o2 := Own.new w zE 24
  refine (expr_any hE 0 _ (hS.alloc _)).mono ?_
  rintro e w1 (⟨x1, j1, tv1, g1, l1, rfl, t1, kk, s1⟩ | ⟨j1, g1, rfl, kk⟩)
  case inr =>
    go_wp2_with fail
    exact bodyPost_panic rfl (.inr ⟨_, .inl ⟨_, g1⟩, rfl, (k.alloc _).trans kk⟩)
  replace o2 := kk.own o2 (by simp; omega)
  replace k := (k.alloc _).trans kk
  have y1 := kk.size
  (try simp only [alloc_size] at y1 t1)
  clear kk
  obtain ⟨ad1, cap1, rfl, -, -⟩ := t1.shape
  have z1 := s1.own.lt
  have o3 := Own.new w1 #[.int .i64 x1.o, .int .i64 x1.n, .slice ad1 x1.ks.length cap1] 24
  have s2 := s1.alloc (.cells #[.int .i64 x1.o, .int .i64 x1.n, .slice ad1 x1.ks.length cap1] 24)
  have hen := ended_any hE j1 _ s2
  go_wp2_with fail
  by_cases hj : j1 = L.length
  · rw [show decide (j1 = L.length) = true by simpa using hj] at hen
    refine hen.mono ?_
    rintro e w2 ⟨rfl, hb⟩
    replace o2 := (o2.alloc _).below hb
    replace o3 := o3.below hb
    replace t1 := (t1.alloc _).below hb
    replace k := (k.alloc _).later hb
    obtain ⟨a0, a1, a2, a3, a4, a5, a6⟩ := o2.three
    obtain ⟨b0, b1, b2, b3, b4, b5, b6⟩ := o3.three
    have HG : Hid (G .expr L (.ok [x1] [])) := Lib.hid (by rw [hj, List.drop_length] at g1; exact g1)
    clear g1 hen hb
    go_wp2_with fail
    clear a0 a1 a2 a3 a4 a5 b0 b1 b2 b3 b4 b5
    refine ret_cells (vs := [.int .i64 x1.o, .int .i64 x1.n, .slice ad1 x1.ks.length cap1]) rfl Tryz.underlying24 rfl (by kernel_rfl) (B := w.heap.size) (o2.put3 _ _ _) rfl rfl ?_
    exact .inl ⟨x1, _, HG.out, rfl, (t1.set3 (by show w.heap.size < _; omega) _ _ _).lo (by omega), k.set3 (by omega) _ _ _⟩
  · rw [show decide (j1 = L.length) = false by simpa using hj] at hen
    refine hen.mono ?_
    rintro e w2 ⟨rfl, hb⟩
    have s3 := s2.below hb
    replace k := (k.alloc _).later hb
    have hle := s3.le
    have HG : Hid (∃ x r, G .expr L (.ok [x] r) ∧ r ≠ []) := Lib.hid ⟨x1, _, g1, by intro e; have := congrArg List.length e; rw [List.length_drop] at this; simp at this; omega⟩
    clear g1 hen hb
    go_wp2_with fail
    refine (refuse_any hE j1 _ s3).mono ?_
    rintro e w3 ⟨rfl, kk⟩
    go_wp2_with fail
    exact bodyPost_panic rfl (.inr ⟨_, .inr HG.out, rfl, k.trans kk⟩)

/-- what is read, and no fault, or no expression and a fault -/
def TryEnd (W0 : World) (L : List Tok) (w : World) (e : Ending) (w' : World) : Prop :=
  (∃ x tv, G .expr L (.ok [x] []) ∧ e = .returned (.tuple #[tv, .agg #[.int .i64 0, .int .i64 0]]) ∧ Tree (Lo w.heap.size) w' x tv ∧ Kept (some W0.heap.size) w w') ∨
  (∃ n : Int, ((∃ r, G .expr L (.bad r)) ∨ ∃ x r, G .expr L (.ok [x] r) ∧ r ≠ []) ∧ e = .returned (.tuple #[exV 0 0, .agg #[.int .i64 8, .int .i64 n]]) ∧ Kept (some W0.heap.size) w w')
set_option maxHeartbeats 1600000 in
theorem attempt_any (hE : Env W0 v m L) (w : World) (hS : St W0 v m L 0 w) : Calls Tryz.prog 24 #[.func (.func 26) #[.pointer (some ⟨W0.heap.size, 0, none⟩)] #[]] w (TryEnd W0 L w) := by
  have hmf : ∀ (fn : Fn) (first cap : Array Value) (w : World), (Instr.makeFunc fn first cap).run Tryz.prog w = .ok (.func fn first cap) w := fun _ _ _ _ => rfl
  have hP := hS.own.lt
  have k := ((Kept.refl (some W0.heap.size) w).alloc (.cells zE 24)).alloc (.cells #[.int .i64 0, .int .i64 0] 60)
  have o2 := (Own.new w zE 24).alloc (.cells #[.int .i64 0, .int .i64 0] 60)
  have o3 := Own.at (w.alloc (.cells zE 24)) #[.int .i64 0, .int .i64 0] 60 (w.heap.size + 1) (by simp)
  go_enter_defers Tryz.func24, Tryz.ntmps24
  go_wp2_with fail
  refine (alone_any hE _ ((hS.alloc _).alloc _)).mono ?_
  rintro e w1 (⟨x1, tv1, g1, rfl, t1, kk⟩ | ⟨n, hn, rfl, kk⟩)
  · replace o2 := kk.own o2 (by simp; omega)
    replace o3 := kk.own o3 (by simp; omega)
    replace k := k.trans kk
    have y1 := kk.size
    (try simp only [alloc_size] at y1 t1)
    obtain ⟨ad1, cap1, rfl, -, -⟩ := t1.shape
    obtain ⟨a0, a1, a2, a3, a4, a5, a6⟩ := o2.three
    obtain ⟨b0, b1, b2, b3, b4⟩ := o3.two
    go_wp2_with fail
    clear a0 a1 a2 a3 a4 a5 b0 b1 b2 b3
    refine leaves_cons (f := 41) (args := #[.pointer (some ⟨w.heap.size + 1, 0, none⟩)]) (by simp) (by simp [go_sem]) ?_
    refine (catch_idleE (w.heap.size + 1) _).mono ?_
    rintro e u' w2 ⟨rfl, rfl, rfl⟩
    have p2 := ((o2.put3 (.int .i64 x1.o) (.int .i64 x1.n) (.slice ad1 x1.ks.length cap1)).setCell (p := ⟨w.heap.size + 1, 0, none⟩) (by simp) (.int .i64 0)).setCell (p := ⟨w.heap.size + 1, 1, none⟩) (by simp) (.int .i64 0)
    have p3 := ((o3.off3 (B := w.heap.size) (by omega) (.int .i64 x1.o) (.int .i64 x1.n) (.slice ad1 x1.ks.length cap1)).setAt (i := 0) (.int .i64 0) (by simp)).setAt (i := 1) (.int .i64 0) (by simp)
    refine ⟨_, results_cc rfl rfl rfl (loadVar_at Tryz.underlying24 rfl (by kernel_rfl) p2) (loadVar_at Tryz.underlying60 rfl (by kernel_rfl) p3), .inl ⟨x1, _, g1, rfl, ?_, ?_⟩⟩
    · exact (((t1.set3 (by show w.heap.size < _; omega) _ _ _).set (b := ⟨w.heap.size + 1, 0, none⟩) _ (by show w.heap.size + 1 < _; omega)).set (b := ⟨w.heap.size + 1, 1, none⟩) _ (by show w.heap.size + 1 < _; omega)).lo (by omega)
    · exact ((k.set3 (by omega) _ _ _).set (b := ⟨w.heap.size + 1, 0, none⟩) (.inr (by simp)) _).set (b := ⟨w.heap.size + 1, 1, none⟩) (.inr (by simp)) _
  · replace o2 := kk.own o2 (by simp; omega)
    replace o3 := kk.own o3 (by simp; omega)
    replace k := k.trans kk
    go_wp2_with fail
    refine leaves_cons (f := 41) (args := #[.pointer (some ⟨w.heap.size + 1, 0, none⟩)]) (by simp) (by simp [go_sem]) ?_
    refine (catch_diedE (w.heap.size + 1) 0 0 8 n [] _ o3).mono ?_
    rintro e u' w2 ⟨rfl, rfl, rfl⟩
    have p2 := (o2.setCell (p := ⟨w.heap.size + 1, 0, none⟩) (by simp) (.int .i64 8)).setCell (p := ⟨w.heap.size + 1, 1, none⟩) (by simp) (.int .i64 n)
    have p3 := (o3.setAt (i := 0) (.int .i64 8) (by simp)).setAt (i := 1) (.int .i64 n) (by simp)
    refine ⟨_, results_cc rfl rfl rfl (loadVar_at Tryz.underlying24 rfl (by kernel_rfl) p2) (loadVar_at Tryz.underlying60 rfl (by kernel_rfl) p3), .inr ⟨n, hn, rfl, ?_⟩⟩
    exact (k.set (b := ⟨w.heap.size + 1, 0, none⟩) (.inr (by simp)) _).set (b := ⟨w.heap.size + 1, 1, none⟩) (.inr (by simp)) _
end Go.Proofs.YthnlenbfknbmcaaGreatDoor
namespace Go.Proofs.YthnlenbfknbmcaaGreatDoor
open Go.RowKit Go.Shelf
set_option maxRecDepth 100000

theorem right_some : ∀ {l : List Tok} {line : Nat}, RightF line l → ∀ x ∈ l, x.t ≠ []
  | y :: r, line, h, x, hx => by
    obtain ⟨h1, _, _, h4⟩ := h
    rcases List.mem_cons.1 hx with rfl | hx
    · rintro e
      rw [e] at h1
      exact h1 rfl
    · exact right_some h4 x hx
theorem tok_some {s : List UInt8} (h : (tokP s).2.1 = 0) : ∀ x ∈ (tokP s).1, x.t ≠ [] := right_some (tok_zero h).2.2.2.1
/-- a parser that has read nothing -/
def New (v : Value) (L : List Tok) (w : World) (e : Ending) (w' : World) : Prop :=
  ∃ W0 m, Env W0 v m L ∧ e = .returned (.pointer (some ⟨W0.heap.size, 0, none⟩)) ∧ St W0 v m L 0 w' ∧ Below w.heap.size w W0
set_option maxHeartbeats 800000 in
theorem parserOf_any (s : List UInt8) (h0 : (tokP s).2.1 = 0) (v : Value) (w : World) (hv : Toks w v ((tokP s).1.map Tok.rt)) (hL : Lay w) : Calls Tryz.prog 25 #[v] w (New v (tokP s).1 w) := by
  obtain ⟨ad, cap, hvv⟩ := hv.open
  rw [List.length_map] at hvv
  subst hvv
  go_enter Tryz.func25, Tryz.ntmps25
  go_wp2_with fail
  refine (operators_any w).mono ?_
  rintro e w1 ⟨rfl, l, hl, rfl⟩
  have hb : Below w.heap.size w (w.drew.alloc (mapO l)) := (Below.refl _ _).drew.alloc (Nat.le_refl _) _
  have hm : MapO (w.drew.alloc (mapO l)) w.heap.size l := (MapKept.heap_alloc w.drew _).1
  have HE : Hid (Env (w.drew.alloc (mapO l)) (.slice ad (tokP s).1.length cap) w.heap.size (tokP s).1) := Lib.hid
    ⟨hv.below hb, ⟨l, hm, hl⟩, hL.below hb, fun x hx hk => num_shape (by have := (tok_fine s x hx).2.1; omega), tok_some h0, by have := tok_count s; omega⟩
  generalize hW : w.drew.alloc (mapO l) = W0 at *
  have hz : W0.heap.size = w.heap.size + 1 := by rw [← hW]; exact alloc_size w.drew _
  clear hl hm hv
  go_wp2_with fail
  go_ret
  refine ⟨W0, w.heap.size, HE.out, by rw [hz]; rfl, ⟨Below.alloc (Below.refl _ _) (Nat.le_refl _) _, ?_, Nat.zero_le _⟩, hb⟩
  exact Own.new W0 #[.map (some w.heap.size), .slice ad (tokP s).1.length cap, .int .i64 0] 91
/-- what Expr gives -/
def EEnd (s : List UInt8) (w : World) (e : Ending) (w' : World) : Prop := ∃ x k tv, EP s x k ∧ e = .returned (.tuple #[tv, .int .i64 (k : Nat)]) ∧ Tree (Lo w.heap.size) w' x tv ∧ Below w.heap.size w w'
set_option maxHeartbeats 1600000 in
theorem pexpr_any (s : List UInt8) (w : World) (hL : Lay w) : Calls Tryz.prog 8 #[.string ⟨s.toArray⟩] w (EEnd s w) := by
  have hmf : ∀ (fn : Fn) (first cap : Array Value) (w : World), (Instr.makeFunc fn first cap).run Tryz.prog w = .ok (.func fn first cap) w := fun _ _ _ _ => rfl
  have hb0 : Below w.heap.size w (w.alloc (.cells zE 24)) := by (repeat (first | exact Below.refl _ _ | assumption | refine Below.drew ?_ | refine below_drewN ?_ _ | refine Below.setCell ?_ (by first | omega | (simp <;> omega)) _ | refine Below.alloc ?_ (by first | omega | (simp <;> omega)) _))
  have ht := tok_any s _ (hL.below hb0)
  have o2 := Own.new w zE 24
  go_enter Tryz.func8, Tryz.ntmps8
  go_wp2_with fail
  refine ht.mono ?_
  rintro e w1 ⟨v1, rfl, hv1, -, hb1⟩
  replace o2 := o2.below hb1
  have hb2 : Below w.heap.size w w1 := hb0.trans (hb1.mono (by simp))
  have y5 := hb1.size
  rw [alloc_size] at y5
  clear ht hb0 hb1
  have y1 := hb2.size
  by_cases h0 : (tokP s).2.1 = 0
  · rw [h0]
    go_wp2_with fail
    refine (parserOf_any s h0 v1 w1 hv1 (hL.below hb2)).mono ?_
    rintro e w2 ⟨W0, m, hE, rfl, hS, hbW⟩
    have hb3 : Below w1.heap.size w1 w2 := hbW.trans (hS.base.mono hbW.size)
    replace o2 := o2.below hb3
    have z2 := o2.lt
    have hb4 := hb2.trans (hb3.mono y1)
    have y2 := hbW.size
    have y3 := hb3.size
    have y4 := hS.own.lt
    clear hbW hb2 hb3
    go_wp2_with fail
    refine (attempt_any hE w2 hS).mono ?_
    rintro e w3 (⟨x1, tv1, g1, rfl, t1, kk⟩ | ⟨n, hn, rfl, kk⟩)
    · replace o2 := kk.own o2 (by simp; omega)
      have hb5 := hb4.trans (kk.below (B := w.heap.size) (by omega) (by omega))
      have y6 := kk.size
      obtain ⟨ad1, cap1, rfl, -, -⟩ := t1.shape
      have o7 := (Own.new w3 #[.int .i64 x1.o, .int .i64 x1.n, .slice ad1 x1.ks.length cap1] 24).alloc (.cells #[.int .i64 0, .int .i64 0] 60)
      have o8 := Own.at (w3.alloc (.cells #[.int .i64 x1.o, .int .i64 x1.n, .slice ad1 x1.ks.length cap1] 24)) #[.int .i64 0, .int .i64 0] 60 (w3.heap.size + 1) (by simp)
      have t2 := (t1.alloc (.cells #[.int .i64 x1.o, .int .i64 x1.n, .slice ad1 x1.ks.length cap1] 24)).alloc (.cells #[.int .i64 0, .int .i64 0] 60)
      have hv := pvalid_any x1 _ _ t2
      replace o2 := (o2.alloc (.cells #[.int .i64 x1.o, .int .i64 x1.n, .slice ad1 x1.ks.length cap1] 24)).alloc (.cells #[.int .i64 0, .int .i64 0] 60)
      have hb6 : Below w.heap.size w ((w3.alloc (.cells #[.int .i64 x1.o, .int .i64 x1.n, .slice ad1 x1.ks.length cap1] 24)).alloc (.cells #[.int .i64 0, .int .i64 0] 60)) := (hb5.alloc (by omega) _).alloc (by simp; omega) _
      have y7 : ((w3.alloc (.cells #[.int .i64 x1.o, .int .i64 x1.n, .slice ad1 x1.ks.length cap1] 24)).alloc (.cells #[.int .i64 0, .int .i64 0] 60)).heap.size = w3.heap.size + 2 := by simp
      clear kk hE hS hb4 t1 hv1 hb5
      obtain ⟨b0, b1, b2, -, -, -, b6⟩ := o7.three
      go_wp2_with fail
      cases hval : validF x1 with
      | true =>
        rw [hval] at hv
        have HE : Hid (EP s x1 0) := Lib.hid (.ok h0 g1 hval)
        refine hv.mono ?_
        rintro e w4 ⟨rfl, hb⟩
        replace o2 := o2.below hb
        replace o7 := o7.below hb
        replace t2 := t2.below hb
        have hb7 := hb6.trans (hb.mono hb6.size)
        clear hb6 hb hv b0 b1 b2 b6
        obtain ⟨b0, b1, b2, -, -, -, b6⟩ := o7.three
        obtain ⟨a0, a1, a2, a3, a4, a5, a6⟩ := o2.three
        go_wp2_with fail
        clear a0 a1 a2 a3 a4 a5 b0 b1 b2
        refine bodyPost_ret (results_ct rfl rfl (loadVar_at Tryz.underlying24 rfl (by kernel_rfl) (o2.put3 (.int .i64 x1.o) (.int .i64 x1.n) (.slice ad1 x1.ks.length cap1)))) rfl ?_
        refine ⟨x1, 0, _, HE.out, rfl, (t2.set3 (by show w.heap.size < _; omega) _ _ _).lo (by omega), by (repeat (first | exact Below.refl _ _ | assumption | refine Below.drew ?_ | refine below_drewN ?_ _ | refine Below.setCell ?_ (by first | omega | (simp <;> omega)) _ | refine Below.alloc ?_ (by first | omega | (simp <;> omega)) _))⟩
      | false =>
        rw [hval] at hv
        have HE : Hid (EP s zeroE 1) := Lib.hid (.arg h0 g1 hval)
        refine hv.mono ?_
        rintro e w4 ⟨rfl, hb⟩
        replace o2 := o2.below hb
        have hb7 := hb6.trans (hb.mono hb6.size)
        clear hb6 hb hv b0 b1 b2 b6
        obtain ⟨a0, a1, a2, a3, a4, a5, a6⟩ := o2.three
        go_wp2_with fail
        refine bodyPost_ret (results_ct rfl rfl (loadVar_at Tryz.underlying24 rfl (by kernel_rfl) (o2.put3 (.int .i64 0) (.int .i64 0) (.slice none 0 0)))) rfl ?_
        exact ⟨zeroE, 1, _, HE.out, rfl, tree_leaf _ _ 0 0 none 0, by (repeat (first | exact Below.refl _ _ | assumption | refine Below.drew ?_ | refine below_drewN ?_ _ | refine Below.setCell ?_ (by first | omega | (simp <;> omega)) _ | refine Below.alloc ?_ (by first | omega | (simp <;> omega)) _))⟩
    · replace o2 := kk.own o2 (by simp; omega)
      have hb5 := hb4.trans (kk.below (B := w.heap.size) (by omega) (by omega))
      have HE : Hid (EP s zeroE 8) := Lib.hid (by
        rcases hn with ⟨r, g⟩ | ⟨x, r, g, hr⟩
        · exact .bad h0 g
        · exact .left h0 g hr)
      have y6 := kk.size
      have o8 := Own.at (w3.alloc (.cells zE 24)) #[.int .i64 8, .int .i64 n] 60 (w3.heap.size + 1) (by simp)
      replace o2 := (o2.alloc (.cells zE 24)).alloc (.cells #[.int .i64 8, .int .i64 n] 60)
      have hb6 : Below w.heap.size w ((w3.alloc (.cells zE 24)).alloc (.cells #[.int .i64 8, .int .i64 n] 60)) := (hb5.alloc (by omega) _).alloc (by simp; omega) _
      clear kk hE hS hb4 hv1 hb5 hn
      unfold exV
      obtain ⟨a0, a1, a2, a3, a4, a5, a6⟩ := o2.three
      obtain ⟨b0, b1, b2, b3, b4⟩ := o8.two
      go_wp2_with fail
      go_region
      go_wp2_with fail
      refine bodyPost_ret (results_ct rfl rfl (loadVar_at Tryz.underlying24 rfl (by kernel_rfl) (o2.put3 (.int .i64 0) (.int .i64 0) (.slice none 0 0)).drew)) rfl ?_
      exact ⟨zeroE, 8, _, HE.out, rfl, tree_leaf _ _ 0 0 none 0, by (repeat (first | exact Below.refl _ _ | assumption | refine Below.drew ?_ | refine below_drewN ?_ _ | refine Below.setCell ?_ (by first | omega | (simp <;> omega)) _ | refine Below.alloc ?_ (by first | omega | (simp <;> omega)) _))⟩
  · have h0' : (((tokP s).2.1 : Int) != 0) = true := by rw [bne_iff_ne]; omega
    have HE : Hid (EP s zeroE (tokP s).2.1) := Lib.hid (.lex h0)
    generalize (tokP s).2.1 = k at *
    clear h0
    obtain ⟨a0, a1, a2, a3, a4, a5, a6⟩ := o2.three
    have h1 : (k != 0) = true := by rw [bne_iff_ne] at *; omega
    go_wp2_with fail
    refine bodyPost_ret (results_ct rfl rfl (loadVar_at Tryz.underlying24 rfl (by kernel_rfl) (o2.put3 (.int .i64 0) (.int .i64 0) (.slice none 0 0)))) rfl ?_
    exact ⟨zeroE, k, _, HE.out, rfl, tree_leaf _ _ 0 0 none 0, by (repeat (first | exact Below.refl _ _ | assumption | refine Below.drew ?_ | refine below_drewN ?_ _ | refine Below.setCell ?_ (by first | omega | (simp <;> omega)) _ | refine Below.alloc ?_ (by first | omega | (simp <;> omega)) _))⟩
end Go.Proofs.YthnlenbfknbmcaaGreatDoor
