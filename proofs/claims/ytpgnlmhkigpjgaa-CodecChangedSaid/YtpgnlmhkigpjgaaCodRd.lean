/-
  The program: the reader: next, integer, list, end.
-/
import Derived.Test.YtpgnlmhkigpjgaaCodPut
import Derived.Test.YtpgnlmhkigpjgaaTail
namespace Go.Proofs.Ytpgnlmhkigpjgaa
open Go.RowKit

/-- of what was there only block R has changed -/
structure Only (R : Nat) (w w' : World) : Prop where
  os : w'.os = w.os
  tape : w'.tape = w.tape
  output : w'.output = w.output
  size : w.heap.size ≤ w'.heap.size
  block : ∀ k, k < w.heap.size → k ≠ R → w'.heap[k]? = w.heap[k]?
theorem Only.refl (R : Nat) (w : World) : Only R w w := ⟨rfl, rfl, rfl, Nat.le_refl _, fun _ _ _ => rfl⟩
theorem Only.trans {R : Nat} {a b c : World} (h : Only R a b) (k : Only R b c) : Only R a c :=
  ⟨k.os.trans h.os, k.tape.trans h.tape, k.output.trans h.output, Nat.le_trans h.size k.size, fun i hi hR => (k.block i (Nat.lt_of_lt_of_le hi h.size) hR).trans (h.block i hi hR)⟩
theorem Only.of {R : Nat} {w w' : World} (h : Below w.heap.size w w') : Only R w w' := ⟨h.os, h.tape, h.output, h.size, fun k hk _ => h.block k hk⟩
theorem Only.below {R B : Nat} {w w' : World} (h : Only R w w') (h1 : B ≤ R) (h2 : B ≤ w.heap.size) : Below B w w' := ⟨h.os, h.tape, h.output, h.size, fun k hk => h.block k (by omega) (by omega)⟩
theorem Only.set {R : Nat} {w w' : World} (h : Only R w w') (i : Nat) (v : Value) : Only R w (w'.setCell ⟨R, i, none⟩ v) :=
  ⟨h.os, h.tape, h.output, by simpa using h.size, fun k hk hR => (heap_setCell_other _ _ _ _ (by simpa using hR)).trans (h.block k hk hR)⟩
theorem Own.only {w w' : World} {B R : Nat} {xs : List Value} (h : Own w B xs) (hR : B ≠ R) (hb : Only R w w') : Own w' B xs := by
  have e := hb.block B h.lt hR
  exact ⟨fun i v hi => by rw [← h.cell i v hi]; simp [World.cell?, e], fun i v hi => by rw [← h.fro i v hi]; simp [World.frozen?, e], Nat.lt_of_lt_of_le h.lt hb.size⟩
theorem Own.set1 {w : World} {B : Nat} {x y : Value} (h : Own w B [x, y]) (z : Value) : Own (w.setCell ⟨B, 1, none⟩ z) B [x, z] := by
  obtain ⟨c0, c1, f0, f1, l⟩ := h.two
  refine ⟨fun i v hi => ?_, fun i v hi => ?_, by simpa using l⟩
  · match i, hi with
    | 0, hi => simp at hi; subst hi; rw [World.cell?_setCell_other _ _ _ _ (by simp)]; exact c0
    | 1, hi => simp at hi; subst hi; exact World.cell?_setCell_same _ _ _ c1
  · match i, hi with
    | 0, hi => simpa using f0
    | 1, hi => simpa using f1

/-- a reader of bytes at a place -/
structure RD (w0 : World) (R : Nat) (v : Value) (bs : List UInt8) (k : Nat) (w : World) : Prop where
  old : Bytes w0 v bs
  le : w0.heap.size ≤ R
  bel : Below w0.heap.size w0 w
  own : Own w R [v, .int .i64 (k : Int)]
theorem RD.only {w0 w w' : World} {R k k' : Nat} {v : Value} {bs : List UInt8} (h : RD w0 R v bs k w) (ho : Only R w w') (hw : Own w' R [v, .int .i64 (k' : Int)]) : RD w0 R v bs k' w' :=
  ⟨h.old, h.le, h.bel.trans (ho.below h.le h.bel.size), hw⟩

set_option maxRecDepth 100000 in
theorem next_some {w0 w : World} {R k : Nat} {v : Value} {bs : List UInt8} (h : RD w0 R v bs k w) (hk : k < bs.length) :
    Calls Try.prog 40 #[.pointer (some ⟨R, 0, none⟩)] w fun e w' => e = .returned (vB bs[k]) ∧ Only R w w' ∧ RD w0 R v bs (k + 1) w' := by
  have hlen := h.old.short
  obtain ⟨a, cap, hva, hab, hc⟩ : ∃ a cap, v = .slice (some a) bs.length cap ∧ a.block < w0.heap.size ∧ w0.cell? (a.add k) = some (vB bs[k]) := by
    obtain ⟨ad, cap, hv⟩ := h.old.shape
    obtain ⟨a, rfl, hab, hc⟩ := h.old.cells _ _ _ hv k (by simpa using hk)
    exact ⟨a, cap, by rw [hv]; simp, hab, by rw [hc]; simp⟩
  have ho := h.own
  have hmono : ∀ w', Only R w w' → Own w' R [v, .int .i64 ((k + 1 : Nat) : Int)] → RD w0 R v bs (k + 1) w' := fun w' => h.only
  have hb0 : ∀ w', Only R w w' → w'.cell? (a.add k) = some (vB bs[k]) := fun w' ho => by
    have hb := h.bel.trans (ho.below h.le h.bel.size)
    exact (hb.cell (p := a.add k) (by rw [blk_add]; exact hab)).trans hc
  clear hc h
  obtain ⟨c0, c1, f0, f1, hl⟩ := ho.two
  rw [hva] at c0 ho hmono
  rw [List.length_map] at hlen
  generalize vB bs[k] = y at hb0 ⊢
  subst hva
  have hd : decide (k < bs.length) = true := by simpa using hk
  go_enter Try.func40, Try.ntmps40
  go_wp2_with fail
  refine wp_region_uptail 10 (by kernel_rfl) (by kernel_rfl) ?_
  simp only [List.take_succ_cons, List.take_zero, List.drop_succ_cons, List.drop_zero]
  repeat (go_big_quiet_step (fail))
  refine wpQuiet_nil ?_
  rintro w1 ⟨g, rfl⟩
  have hx := up_below w g
  have o2 := (ho.below hx).set1 (.int .i64 ((k + 1 : Nat) : Int))
  have r2 := (Only.of (R := R) hx).set 1 (.int .i64 ((k + 1 : Nat) : Int))
  rw [show (((k + 1 : Nat) : Int)) = (k : Int) + 1 by omega] at o2 r2 hmono
  go_wp2_with (go_at_call 37; refine (must_true _).mono ?_; rintro e w1 ⟨rfl, rfl⟩)
  clear hx ho c0 c1 f0 f1 hl
  generalize (up w g).setCell { block := R, off := 1 } (Value.int IntKind.i64 ((k : Int) + 1)) = W at o2 r2 ⊢
  obtain ⟨c0, c1, f0, f1, hl⟩ := o2.two
  have hcc : ∀ g : Grow W, (up W g).cell? (a.add k) = some y := fun g => hb0 _ (r2.trans (Only.of (up_below W g)))
  refine wp_region_up (by kernel_rfl) (by kernel_rfl) ?_
  repeat (go_big_quiet_step (fail))
  refine wpQuiet_nil ?_
  rintro w2 ⟨g2, rfl⟩
  go_wp2_with fail
  go_ret
  have r3 := r2.trans (Only.of (R := R) (up_below W g2))
  exact ⟨rfl, r3, hmono _ r3 (o2.below (up_below W g2))⟩
theorem next_none {w0 w : World} {R k : Nat} {v : Value} {bs : List UInt8} (h : RD w0 R v bs k w) (hk : bs.length ≤ k) :
    Calls Try.prog 40 #[.pointer (some ⟨R, 0, none⟩)] w fun e w' => e = .panicked bad ∧ Only R w w' := by
  obtain ⟨ad, cap, hv⟩ := h.old.shape
  obtain ⟨c0, c1, f0, f1, hl⟩ := h.own.two
  rw [hv] at c0
  simp only [List.length_map] at c0
  have hd : decide (k < bs.length) = false := by simp; omega
  go_enter Try.func40, Try.ntmps40
  go_wp2_with fail
  refine wp_region_uptail 10 (by kernel_rfl) (by kernel_rfl) ?_
  simp only [List.take_succ_cons, List.take_zero, List.drop_succ_cons, List.drop_zero]
  repeat (go_big_quiet_step (fail))
  refine wpQuiet_nil ?_
  rintro w1 ⟨g, rfl⟩
  go_wp2_with (go_at_call 37; refine (must_false _).mono ?_; rintro e w1 ⟨rfl, rfl⟩)
  exact ⟨rfl, rfl, Only.of (up_below w g)⟩
end Go.Proofs.Ytpgnlmhkigpjgaa
