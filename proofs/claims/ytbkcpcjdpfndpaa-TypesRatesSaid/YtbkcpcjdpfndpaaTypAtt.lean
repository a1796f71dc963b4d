/-
  Infer: what panics is recovered.
-/
import Derived.Test.YtbkcpcjdpfndpaaTypInfer
import Derived.Test.YtbkcpcjdpfndpaaParVld
import Derived.Test.YtbkcpcjdpfndpaaParSize
import Derived.Test.YtbkcpcjdpfndpaaParRes
namespace Go.Proofs.Ytbkcpcjdpfndpaa
open Go.RowKit Go.Shelf
set_option maxRecDepth 100000

theorem errno_assert (a : Value) (w : World) : (Instr.typeAssert (.iface 35 a) 20 35 false).run Try.prog w = .ok a w := by kernel_rfl
set_option maxHeartbeats 800000 in
theorem catch_diedT (B : Nat) (e0 : Int) (older : List PanicEntry) (w : World) (ho : Own w B [.int .i64 e0]) :
    CallsD Try.prog 32 #[.pointer (some ⟨B, 0, none⟩)] (.panicking ({ v := errV, recovered := false } :: older)) w fun x u' w' =>
      x = .returned (.tuple #[]) ∧ u' = .panicking ({ v := errV, recovered := true } :: older) ∧ w' = w.setCell ⟨B, 0, none⟩ (.int .i64 20) := by
  obtain ⟨h0, f0, hz⟩ := ho.one
  unfold errV
  refine callsD_of_wpS Try.func32 rfl fun c₀ cs hu => ?_
  apply wpS_seq
  apply wpS_region
  simp [wpOpsS, go_sem, recoverD, hu, Try.ntmps32, Exit.thenS]
  apply wpS_seq
  apply wpS_region
  simp [wpOpsS, go_sem, Exit.thenS]
  refine wpS_cond (t := true) (by simp [Act.eval]) ?_
  simp only [if_true]
  apply wpS_region
  simp [wpOpsS, go_sem, errno_assert, h0, f0, bodyPostS, results, Try.results32]
set_option maxHeartbeats 800000 in
theorem catch_idleT (B : Nat) (w : World) :
    CallsD Try.prog 32 #[.pointer (some ⟨B, 0, none⟩)] .returning w fun x u' w' => x = .returned (.tuple #[]) ∧ u' = .returning ∧ w' = w := by
  refine callsD_of_wpS Try.func32 rfl fun c₀ cs hu => ?_
  apply wpS_seq
  apply wpS_region
  simp [wpOpsS, go_sem, recoverD, hu, Try.ntmps32, Exit.thenS]
  apply wpS_seq
  apply wpS_region
  simp [wpOpsS, go_sem, Exit.thenS]
  refine wpS_cond (t := false) (by simp [Act.eval]) ?_
  simp only [Bool.false_eq_true, if_false]
  refine wpS_of_wp (wp_skip ?_)
  cases c₀
  simp_all [bodyPostS, results, Try.results32]
theorem loadVar_errno {B : Nat} {w : World} {x : Int} (ho : Own w B [.int .i64 x]) : (loadVar 35 ⟨B, 0, none⟩).run Try.prog w = .ok (.int .i64 x) w := by
  obtain ⟨h0, -, -⟩ := ho.one
  have hagg : (isAgg 35).run Try.prog w = .ok false w := by kernel_rfl
  simp [loadVar, Sem.run_bind, hagg, h0]
theorem ownT_set1 {w : World} {B : Nat} {x : Value} (h : Own w B [x]) (v : Value) : Own (w.setCell ⟨B, 0, none⟩ v) B [v] := h.setAt v (by simp)
theorem mapRl_new (w : World) : MapRl (w.alloc (mapR 15)) w.heap.size := (MapKept.heap_alloc w _).1
theorem MapRl.drew {w : World} {m : Nat} (h : MapRl w m) : MapRl w.drew m := h
attribute [local irreducible] mapR MapRl
theorem results_t1 {P : Program} {fn : Func} {p t : Tmp} {ty : TypeId} {B : Nat} {a : Value} {w : World} {tmps : Array Value} (h : fn.results = #[.tmp t, .cell p ty]) (hp : tmps.getD p undef = .pointer (some ⟨B, 0, none⟩))
    (h1 : (loadVar ty ⟨B, 0, none⟩).run P w = .ok a w) : (results fn tmps).run P w = .ok (.tuple #[tmps.getD t undef, a]) w := results_tc h hp h1
theorem Own.drewT {w : World} {B : Nat} {xs : List Value} (h : Own w B xs) : Own w.drew B xs := ⟨h.cell, h.fro, h.lt⟩
def AttEnd (T : Nat) (w : World) (e : Ending) (w' : World) : Prop := e = .returned (.tuple #[.int .i64 (T : Nat), .int .i64 (if T = 0 then 20 else 0)]) ∧ Below w.heap.size w w'
set_option maxHeartbeats 400000 in
theorem tattempt_any {Q : Nat → Prop} (x : Xp) (v : Value) (w : World) (hok : okE x = true) (ht : Tree Q w x v) : Calls Try.prog 24 #[v] w (AttEnd (typE x) w) := by
  have hmf : ∀ (fn : Fn) (first cap : Array Value) (w : World), (Instr.makeFunc fn first cap).run Try.prog w = .ok (.func fn first cap) w := fun _ _ _ _ => rfl
  have HI := fun m w1 (hm : MapRl w1 m) h => infer_any Q m x v w1 hok hm (Tree.below ht (w' := w1) h)
  obtain ⟨ad, cap, rfl, -, -⟩ := ht.shape
  generalize typE x = T at *
  have o3 : Own ((w.alloc (.cells #[.int .i64 x.o, .int .i64 x.n, .slice ad x.ks.length cap] 24)).alloc (.cells #[.int .i64 0] 35)) (w.heap.size + 1) [.int .i64 0] := Own.at (w.alloc (.cells #[.int .i64 x.o, .int .i64 x.n, .slice ad x.ks.length cap] 24)) #[.int .i64 0] 35 (w.heap.size + 1) (by simp)
  have hb1 : Below w.heap.size w ((w.alloc (.cells #[.int .i64 x.o, .int .i64 x.n, .slice ad x.ks.length cap] 24)).alloc (.cells #[.int .i64 0] 35)) := by (repeat (first | exact Below.refl _ _ | assumption | refine Below.drew ?_ | refine below_drewN ?_ _ | refine Below.setCell ?_ (by first | omega | (simp <;> omega)) _ | refine Below.alloc ?_ (by first | omega | (simp <;> omega)) _))
  have HM : MapRl (((w.alloc (.cells #[.int .i64 x.o, .int .i64 x.n, .slice ad x.ks.length cap] 24)).alloc (.cells #[.int .i64 0] 35)).alloc (mapR 15)).drew (w.heap.size + 1 + 1) := by
    have h := (mapRl_new ((w.alloc (.cells #[.int .i64 x.o, .int .i64 x.n, .slice ad x.ks.length cap] 24)).alloc (.cells #[.int .i64 0] 35))).drew
    rw [World.size_alloc, World.size_alloc] at h
    exact h
  have HI2 := HI _ _ HM (by (repeat (first | exact Below.refl _ _ | assumption | refine Below.drew ?_ | refine below_drewN ?_ _ | refine Below.setCell ?_ (by first | omega | (simp <;> omega)) _ | refine Below.alloc ?_ (by first | omega | (simp <;> omega)) _)))
  clear ht
  go_enter_defers Try.func24, Try.ntmps24
  go_wp2_with fail
  first | (go_region_with (first
    | (go_at_call 33
       refine HI2.mono ?_
       rintro e w2 (⟨h1, rfl, h2⟩ | ⟨h1, rfl, h2⟩)
       all_goals (
         have H1 := Lib.hid h1
         clear h1
         have hb2 : Below w.heap.size w w2 := Below.trans (by (repeat (first | exact Below.refl _ _ | assumption | refine Below.drew ?_ | refine below_drewN ?_ _ | refine Below.setCell ?_ (by first | omega | (simp <;> omega)) _ | refine Below.alloc ?_ (by first | omega | (simp <;> omega)) _))) (h2.mono (by simp; omega))
         have o4 := (((o3.alloc (mapR 15)).drewT).below h2)
         obtain ⟨g0, g1, gz⟩ := o4.one)
       case inr =>
         clear hb1 h2 HI HI2 HM hmf o3 g0 g1
         go_wp2_with fail
         refine leaves_cons (f := 32) (args := #[.pointer (some ⟨w.heap.size + 1, 0, none⟩)]) (by simp) (by simp [go_sem]) ?_
         refine (catch_diedT (w.heap.size + 1) 0 [] _ o4).mono ?_
         rintro e u' w3 ⟨rfl, rfl, rfl⟩
         refine ⟨_, results_t1 rfl rfl (loadVar_errno (ownT_set1 o4 _)), ?_⟩
         exact ⟨by rw [H1.out]; rfl, hb2.setCell (by simp) _⟩)
    | (go_at_call 34; refine (rules_any _).mono ?_; rintro e w1 ⟨rfl, rfl⟩))) | fail
  all_goals (
    have o5 := ownT_set1 o4 (.int .i64 0)
    go_wp2_with fail
    refine leaves_cons (f := 32) (args := #[.pointer (some ⟨w.heap.size + 1, 0, none⟩)]) (by simp) (by simp [go_sem]) ?_
    refine (catch_idleT (w.heap.size + 1) _).mono ?_
    rintro e u' w3 ⟨rfl, rfl, rfl⟩
    refine ⟨_, results_t1 rfl rfl (loadVar_errno o5), ?_⟩
    exact ⟨by rw [if_neg H1.out]; rfl, hb2.setCell (by simp) _⟩)
end Go.Proofs.Ytbkcpcjdpfndpaa
