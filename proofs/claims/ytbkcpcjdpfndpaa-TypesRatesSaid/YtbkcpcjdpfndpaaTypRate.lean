/-
  A rate that can be used, at the program.
-/
import Derived.Test.YtbkcpcjdpfndpaaTypFormed
namespace Go.Proofs.Ytbkcpcjdpfndpaa
open Go.RowKit Go.Shelf
set_option maxRecDepth 100000

theorem infT_of {e : Xp} (h : validF e = true) : inferT e = typE e := by unfold inferT; rw [if_pos h]
theorem form_valid {r : Rg} (h : formR r = true) : validF r.when = true ∧ validF r.price = true := by
  unfold formR at h
  simp only [Bool.and_eq_true] at h
  exact ⟨h.1.2, h.2⟩
set_option maxHeartbeats 3200000 in
theorem trate_any {Q : Nat → Prop} (a0 a1 a2 a3 a4 a5 a6 a7 kn kd : Int) (we pe : Xp) (ad1 : Option Addr) (cap1 : Nat) (ad2 : Option Addr) (cap2 : Nat) (w : World) (tw : Tree Q w we (.agg #[.int .i64 we.o, .int .i64 we.n, .slice ad1 we.ks.length cap1])) (tp : Tree Q w pe (.agg #[.int .i64 pe.o, .int .i64 pe.n, .slice ad2 pe.ks.length cap2])) : Calls Try.prog 13 #[.agg #[.int .i64 a0, .int .i64 a1, .int .i64 a2, .int .i64 a3, .int .i64 a4, .int .i64 a5, .int .i64 a6, .int .i64 a7, .int .i64 kn, .int .i64 kd, .int .i64 we.o, .int .i64 we.n, .slice ad1 we.ks.length cap1, .int .i64 pe.o, .int .i64 pe.n, .slice ad2 pe.ks.length cap2]] w (Ret (.tuple #[.bool (rateB ⟨a0, a1, a2, a3, a4, a5, a6, a7, kn, kd, we, pe⟩), .int .i64 (rateE ⟨a0, a1, a2, a3, a4, a5, a6, a7, kn, kd, we, pe⟩)]) w) := by
  obtain ⟨B, hB⟩ : ∃ B, rateB ⟨a0, a1, a2, a3, a4, a5, a6, a7, kn, kd, we, pe⟩ = B := ⟨_, rfl⟩
  obtain ⟨E, hE⟩ : ∃ E, rateE ⟨a0, a1, a2, a3, a4, a5, a6, a7, kn, kd, we, pe⟩ = E := ⟨_, rfl⟩
  rw [hB, hE]
  have hf := fun w1 h => formed_any a0 a1 a2 a3 a4 a5 a6 a7 kn kd we pe ad1 cap1 ad2 cap2 w1 (tw.below (w' := w1) h) (tp.below h)
  have ob := Own.new w #[.int .i64 a0, .int .i64 a1, .int .i64 a2, .int .i64 a3, .int .i64 a4, .int .i64 a5, .int .i64 a6, .int .i64 a7, .int .i64 kn, .int .i64 kd, .int .i64 we.o, .int .i64 we.n, .slice ad1 we.ks.length cap1, .int .i64 pe.o, .int .i64 pe.n, .slice ad2 pe.ks.length cap2] 30
  have hb : Below w.heap.size w (w.alloc (.cells #[.int .i64 a0, .int .i64 a1, .int .i64 a2, .int .i64 a3, .int .i64 a4, .int .i64 a5, .int .i64 a6, .int .i64 a7, .int .i64 kn, .int .i64 kd, .int .i64 we.o, .int .i64 we.n, .slice ad1 we.ks.length cap1, .int .i64 pe.o, .int .i64 pe.n, .slice ad2 pe.ks.length cap2] 30)) := by (repeat (first | exact Below.refl _ _ | assumption | refine Below.drew ?_ | refine below_drewN ?_ _ | refine Below.setCell ?_ (by first | omega | (simp <;> omega)) _ | refine Below.alloc ?_ (by first | omega | (simp <;> omega)) _))
  cases hF : formR ⟨a0, a1, a2, a3, a4, a5, a6, a7, kn, kd, we, pe⟩ with
  | false =>
    rw [hF] at hf
    have HZ : Hid (B = false ∧ E = 1) := Lib.hid ⟨by rw [← hB]; unfold rateB; rw [hF]; rfl, by rw [← hE]; unfold rateE; rw [hF]; rfl⟩
    clear hF hB hE tw tp
    go_enter Try.func13, Try.ntmps13
    go_wp2_with fail
    refine (hf _ hb).mono ?_
    rintro e w1 ⟨rfl, hx⟩
    go_wp2_with fail
    go_ret2
    exact Ret.mk (by rw [HZ.out.1, HZ.out.2]; rfl) (hb.trans (hx.mono hb.size))
  | true =>
  rw [hF] at hf
  obtain ⟨v1, v2⟩ := form_valid hF
  have HB : Hid ((typE we = 3 ∧ typE pe = 2 → B = true ∧ E = 0) ∧ (¬ (typE we = 3 ∧ typE pe = 2) → B = false ∧ E = 20)) := Lib.hid ⟨fun h => ⟨by rw [← hB]; unfold rateB; rw [hF, h.1, h.2]; rfl, by rw [← hE]; unfold rateE; rw [hF, if_pos rfl, if_pos h]⟩, fun h => ⟨by rw [← hB, Bool.eq_false_iff]; unfold rateB; rw [hF]; simpa using fun h1 h2 => h ⟨h1, h2⟩, by rw [← hE]; unfold rateE; rw [hF, if_pos rfl, if_neg h]⟩⟩
  have h1 := fun w1 h => thas_any we 3 _ w1 (tw.below (w' := w1) h)
  have h2 := fun w1 h => thas_any pe 2 _ w1 (tp.below (w' := w1) h)
  rw [infT_of v1] at h1
  rw [infT_of v2] at h2
  clear hB hE hF v1 v2 tw tp
  generalize typE we = t1 at *
  generalize typE pe = t2 at *
  go_enter Try.func13, Try.ntmps13
  go_wp2_with fail
  refine (hf _ hb).mono ?_
  rintro e w1 ⟨rfl, hx⟩
  replace ob := ob.below hx
  replace hb := hb.trans (hx.mono hb.size)
  clear hx hf
  have c10 := ob.cell 10 _ rfl
  have c11 := ob.cell 11 _ rfl
  have c12 := ob.cell 12 _ rfl
  have hz := ob.lt
  go_wp2_with fail
  refine (h1 _ hb).mono ?_
  rintro e w2 ⟨rfl, hx⟩
  replace ob := ob.below hx
  replace hb := hb.trans (hx.mono hb.size)
  clear hx h1 c10 c11 c12
  by_cases ht1 : t1 = 3
  · rw [show ((t1 : Int) == 3) = true by rw [beq_iff_eq]; omega]
    have c13 := ob.cell 13 _ rfl
    have c14 := ob.cell 14 _ rfl
    have c15 := ob.cell 15 _ rfl
    have HT := Lib.hid ht1
    clear ht1
    go_wp2_with fail
    refine (h2 _ hb).mono ?_
    rintro e w3 ⟨rfl, hx⟩
    replace hb := hb.trans (hx.mono hb.size)
    clear hx h2 c13 c14 c15 ob
    by_cases ht2 : t2 = 2
    · rw [show ((t2 : Int) == 2) = true by rw [beq_iff_eq]; omega]
      have HZ := Lib.hid (HB.out.1 ⟨HT.out, ht2⟩)
      clear ht2
      go_wp2_with fail
      go_ret2
      exact Ret.mk (by rw [HZ.out.1, HZ.out.2]; rfl) hb
    · rw [show ((t2 : Int) == 2) = false by rw [beq_eq_false_iff_ne]; omega]
      have HZ := Lib.hid (HB.out.2 (fun h => ht2 h.2))
      clear ht2
      go_wp2_with fail
      go_ret2
      exact Ret.mk (by rw [HZ.out.1, HZ.out.2]; rfl) hb
  · rw [show ((t1 : Int) == 3) = false by rw [beq_eq_false_iff_ne]; omega]
    have HZ := Lib.hid (HB.out.2 (fun h => ht1 h.1))
    clear ht1 ob
    go_wp2_with fail
    go_ret2
    exact Ret.mk (by rw [HZ.out.1, HZ.out.2]; rfl) hb
end Go.Proofs.Ytbkcpcjdpfndpaa
