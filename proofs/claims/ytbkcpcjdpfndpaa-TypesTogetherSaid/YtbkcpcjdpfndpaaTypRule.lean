/-
  The rules of the operators, at the program: each returns a type, or panics.
-/
import Derived.Test.YtbkcpcjdpfndpaaTypPlain
import Derived.Recover
import Derived.Defers
import Derived.Deep.RegionHeld3
namespace Go.Proofs.Ytbkcpcjdpfndpaa
open Go.RowKit
set_option maxRecDepth 100000

theorem bodyPost_panic {P : Program} {fn : Func} {R : Ending → World → Prop} {a : Act} {w : World} {ch : List PanicEntry} (hd : a.defers = []) (hR : R (.panicked ch) w) : bodyPost P fn R (.panic ch) a w := ⟨hd, hR⟩
def errV : Value := .iface 35 (.int .i64 20)
def Dies20 (w : World) (e : Ending) (w' : World) : Prop := e = .panicked [{ v := errV, recovered := false }] ∧ Below w.heap.size w w'
/-- a type is returned; for 0 the call panics -/
def TyEnd (t : Nat) (w : World) (e : Ending) (w' : World) : Prop := (t ≠ 0 ∧ e = .returned (.int .i64 (t : Nat)) ∧ Below w.heap.size w w') ∨ (t = 0 ∧ Dies20 w e w')
/-- a slice of types -/
structure Kds (w : World) (g : Nat) (ts : List Nat) : Prop where
  cell : ∀ k t, ts[k]? = some t → w.cell? ⟨g, k, none⟩ = some (.int .i64 (t : Nat))
  lt : g < w.heap.size
theorem Kds.below {w w' : World} {g : Nat} {ts : List Nat} (h : Kds w g ts) (hb : Below w.heap.size w w') : Kds w' g ts :=
  ⟨fun k t hk => (hb.cell (p := ⟨g, k, none⟩) h.lt).trans (h.cell k t hk), Nat.lt_of_lt_of_le h.lt hb.size⟩
abbrev kdsV (g n cap : Nat) : Value := .slice (some ⟨g, 0, none⟩) n cap

theorem need_yes (w : World) : Calls Try.prog 54 #[.bool true] w (Ret (.tuple #[]) w) := by
  go_enter Try.func54, Try.ntmps54
  go_wp2_with fail
  go_end0
  exact Ret.mk rfl (Below.refl _ _)
theorem need_no (w : World) : Calls Try.prog 54 #[.bool false] w (Dies20 w) := by
  go_enter Try.func54, Try.ntmps54
  go_wp2_with fail
  exact bodyPost_panic rfl ⟨rfl, Below.refl _ _⟩
theorem counted_yes (t : Nat) (ht : t = 1 ∨ t = 2) (w : World) : Calls Try.prog 55 #[.int .i64 (t : Nat)] w (Ret (.int .i64 (t : Nat)) w) := by
  rcases ht with rfl | rfl
  all_goals (
    go_enter Try.func55, Try.ntmps55
    go_wp2_with fail
    refine (need_yes _).mono ?_
    rintro e w1 ⟨rfl, hb⟩
    go_wp2_with fail
    go_ret
    exact Ret.mk rfl hb)
theorem counted_no (t : Nat) (h1 : t ≠ 1) (h2 : t ≠ 2) (w : World) : Calls Try.prog 55 #[.int .i64 (t : Nat)] w (Dies20 w) := by
  have e1 : ((t : Int) == 1) = false := by rw [beq_eq_false_iff_ne]; omega
  have e2 : ((t : Int) == 2) = false := by rw [beq_eq_false_iff_ne]; omega
  have e3 : (t == 1) = false := by rw [beq_eq_false_iff_ne]; exact h1
  have e4 : (t == 2) = false := by rw [beq_eq_false_iff_ne]; exact h2
  go_enter Try.func55, Try.ntmps55
  go_wp2_with fail
  refine (need_no _).mono ?_
  rintro e w1 ⟨rfl, hb⟩
  go_wp2_with fail
  exact bodyPost_panic rfl ⟨rfl, hb⟩
theorem need_any (b : Bool) (w : World) : Calls Try.prog 54 #[.bool b] w fun e w' => (b = true ∧ Ret (.tuple #[]) w e w') ∨ (b = false ∧ Dies20 w e w') := by
  cases b
  · exact (need_no w).mono fun e w' h => .inr ⟨rfl, h⟩
  · exact (need_yes w).mono fun e w' h => .inl ⟨rfl, h⟩
/-- a number or money, or a panic -/
def cntT (t : Nat) : Nat := if t = 1 ∨ t = 2 then t else 0
theorem counted_any (t T : Nat) (hT : cntT t = T) (w : World) : Calls Try.prog 55 #[.int .i64 (t : Nat)] w (TyEnd T w) := by
  subst hT
  unfold cntT
  by_cases h : t = 1 ∨ t = 2
  · rw [if_pos h]
    exact (counted_yes t h w).mono fun e w' h2 => .inl ⟨by omega, h2.1, h2.2⟩
  · rw [if_neg h]
    exact (counted_no t (fun e => h (.inl e)) (fun e => h (.inr e)) w).mono fun e w' h2 => .inr ⟨rfl, h2⟩
theorem rule1_any (v : Value) (w : World) : Calls Try.prog 40 #[v] w (Ret (.int .i64 1) w) := by
  go_enter Try.func40, Try.ntmps40
  go_wp2_with fail
  go_ret
  exact Ret.mk rfl (Below.refl _ _)
theorem rule2_any (v : Value) (w : World) : Calls Try.prog 41 #[v] w (Ret (.int .i64 2) w) := by
  go_enter Try.func41, Try.ntmps41
  go_wp2_with fail
  go_ret
  exact Ret.mk rfl (Below.refl _ _)
set_option maxHeartbeats 1600000 in
theorem alike_any (g cap a b : Nat) (T : Nat) (hT0 : (if a = b then cntT a else 0) = T) (w : World) (hk : Kds w g [a, b]) : Calls Try.prog 42 #[.slice (some ⟨g, 0, none⟩) (2 : Nat) cap] w (TyEnd T w) := by
  have hg := hk.lt
  have HT := Lib.hid hT0
  clear hT0
  have c0 : w.cell? ⟨g, 0, none⟩ = some (.int .i64 (a : Nat)) := hk.cell 0 a rfl
  have c1 : w.cell? ⟨g, 1, none⟩ = some (.int .i64 (b : Nat)) := hk.cell 1 b rfl
  have hnd := fun w => need_any ((a : Int) == (b : Int)) w
  have HB : Hid (((a : Int) == (b : Int)) = true ↔ a = b) := Lib.hid (by rw [beq_iff_eq]; omega)
  have hq : ∀ x y : Int, (binOp .eql 3 (.int .i64 x) (.int .i64 y)).run Try.prog w = .ok (.bool (x == y)) w := fun x y => by kernel_rfl
  clear hq
  generalize hbb : ((a : Int) == (b : Int)) = t at hnd HB
  have hbb2 : (a == b) = t := by rw [← hbb]; exact Bool.eq_iff_iff.2 (by rw [beq_iff_eq, beq_iff_eq]; omega)
  go_enter Try.func42, Try.ntmps42
  go_wp2_with fail
  go_region_with ((go_at_call 54; refine (hnd _).mono ?_; rintro e w1 (⟨h, rfl, hb⟩ | ⟨h, rfl, hb⟩); have H := Lib.hid h; clear h; case inr => (have H := Lib.hid h; clear h; go_wp2_with fail; exact bodyPost_panic rfl (.inr ⟨by rw [← HT.out, if_neg]; intro hab; rw [HB.out.2 hab] at H; exact absurd H.out (by decide), rfl, Below.trans (by (repeat (first | exact Below.refl _ _ | assumption | refine Below.drew ?_ | refine below_drewN ?_ _ | refine Below.setCell ?_ (by first | omega | (simp <;> omega)) _ | refine Below.alloc ?_ (by first | omega | (simp <;> omega)) _))) hb⟩))))
  all_goals (
    have hb1 : Below w.heap.size w w1 := Below.trans (by (repeat (first | exact Below.refl _ _ | assumption | refine Below.drew ?_ | refine below_drewN ?_ _ | refine Below.setCell ?_ (by first | omega | (simp <;> omega)) _ | refine Below.alloc ?_ (by first | omega | (simp <;> omega)) _))) hb
    have d0 : w1.cell? ⟨g, 0, none⟩ = some (.int .i64 (a : Nat)) := (hb1.cell (p := ⟨g, 0, none⟩) hg).trans c0
    have hab := HB.out.1 (H.out)
    have hT2 : cntT a = T := by rw [← HT.out, if_pos hab]
    have HC := fun w2 => counted_any a T hT2 w2
    clear c0 c1 hT2 hab hb hbb hbb2
    go_wp2_with fail
    refine (HC _).mono ?_
    rintro e w2 (⟨h1, rfl, h2⟩ | ⟨h1, rfl, h2⟩)
    · have H1 := Lib.hid h1
      clear h1
      go_wp2_with fail
      go_ret
      exact .inl ⟨H1.out, rfl, hb1.trans (h2.mono hb1.size)⟩
    · have H1 := Lib.hid h1
      clear h1
      go_wp2_with fail
      exact bodyPost_panic rfl (.inr ⟨H1.out, rfl, hb1.trans (h2.mono hb1.size)⟩))
set_option maxHeartbeats 1600000 in
theorem quotient_any (g cap a b : Nat) (T : Nat) (hT0 : (if b = 1 then cntT a else 0) = T) (w : World) (hk : Kds w g [a, b]) : Calls Try.prog 44 #[.slice (some ⟨g, 0, none⟩) (2 : Nat) cap] w (TyEnd T w) := by
  have hg := hk.lt
  have HT := Lib.hid hT0
  clear hT0
  have c0 : w.cell? ⟨g, 0, none⟩ = some (.int .i64 (a : Nat)) := hk.cell 0 a rfl
  have c1 : w.cell? ⟨g, 1, none⟩ = some (.int .i64 (b : Nat)) := hk.cell 1 b rfl
  by_cases hab : b = 1
  · have hT2 : cntT a = T := by rw [← HT.out, if_pos hab]
    have HC := fun w2 => counted_any a T hT2 w2
    clear hT2
    subst hab
    go_enter Try.func44, Try.ntmps44
    go_wp2_with fail
    refine (need_yes _).mono ?_
    rintro e w1 ⟨rfl, hb1⟩
    have d0 : w1.cell? ⟨g, 0, none⟩ = some (.int .i64 (a : Nat)) := (hb1.cell (p := ⟨g, 0, none⟩) hg).trans c0
    clear c0 c1
    go_wp2_with fail
    refine (HC _).mono ?_
    rintro e w2 (⟨h1, rfl, h2⟩ | ⟨h1, rfl, h2⟩)
    · have H1 := Lib.hid h1
      clear h1
      go_wp2_with fail
      go_ret
      exact .inl ⟨H1.out, rfl, hb1.trans (h2.mono hb1.size)⟩
    · have H1 := Lib.hid h1
      clear h1
      go_wp2_with fail
      exact bodyPost_panic rfl (.inr ⟨H1.out, rfl, hb1.trans (h2.mono hb1.size)⟩)
  · have H0 : Hid (T = 0) := Lib.hid (by rw [← HT.out, if_neg hab])
    have e1 : ((b : Int) == 1) = false := by rw [beq_eq_false_iff_ne]; omega
    have e2 : (b == 1) = false := by rw [beq_eq_false_iff_ne]; exact hab
    go_enter Try.func44, Try.ntmps44
    go_wp2_with fail
    refine (need_no _).mono ?_
    rintro e w1 ⟨rfl, hb⟩
    go_wp2_with fail
    exact bodyPost_panic rfl (.inr ⟨H0.out, rfl, hb⟩)
set_option maxHeartbeats 1600000 in
theorem product_any (g cap a b : Nat) (T : Nat) (hT0 : (if a = 1 then cntT b else if b = 1 then cntT a else 0) = T) (w : World) (hk : Kds w g [a, b]) : Calls Try.prog 43 #[.slice (some ⟨g, 0, none⟩) (2 : Nat) cap] w (TyEnd T w) := by
  have hg := hk.lt
  have HT := Lib.hid hT0
  clear hT0
  have c0 : w.cell? ⟨g, 0, none⟩ = some (.int .i64 (a : Nat)) := hk.cell 0 a rfl
  have c1 : w.cell? ⟨g, 1, none⟩ = some (.int .i64 (b : Nat)) := hk.cell 1 b rfl
  by_cases ha : a = 1
  · have hT2 : cntT b = T := by rw [← HT.out, if_pos ha]
    have HC := fun w2 => counted_any b T hT2 w2
    clear hT2
    subst ha
    go_enter Try.func43, Try.ntmps43
    go_wp2_with fail
    refine (HC _).mono ?_
    rintro e w2 (⟨h1, rfl, h2⟩ | ⟨h1, rfl, h2⟩)
    · have H1 := Lib.hid h1
      clear h1
      go_wp2_with fail
      go_ret
      exact .inl ⟨H1.out, rfl, h2⟩
    · have H1 := Lib.hid h1
      clear h1
      go_wp2_with fail
      exact bodyPost_panic rfl (.inr ⟨H1.out, rfl, h2⟩)
  · have hT2 : (if b = 1 then cntT a else 0) = T := by rw [← HT.out, if_neg ha]
    have HC := fun w2 (h : Kds w2 g [a, b]) => quotient_any g cap a b T hT2 w2 h
    clear hT2
    have e1 : ((a : Int) == 1) = false := by rw [beq_eq_false_iff_ne]; omega
    have e2 : (a == 1) = false := by rw [beq_eq_false_iff_ne]; exact ha
    go_enter Try.func43, Try.ntmps43
    go_wp2_with fail
    refine (HC _ hk).mono ?_
    rintro e w2 (⟨h1, rfl, h2⟩ | ⟨h1, rfl, h2⟩)
    · have H1 := Lib.hid h1
      clear h1
      go_wp2_with fail
      go_ret
      exact .inl ⟨H1.out, rfl, h2⟩
    · have H1 := Lib.hid h1
      clear h1
      go_wp2_with fail
      exact bodyPost_panic rfl (.inr ⟨H1.out, rfl, h2⟩)
set_option maxHeartbeats 1600000 in
theorem comparison_any (g cap a b : Nat) (T : Nat) (hT0 : (if a = b ∧ cntT a ≠ 0 then 3 else 0) = T) (w : World) (hk : Kds w g [a, b]) : Calls Try.prog 46 #[.slice (some ⟨g, 0, none⟩) (2 : Nat) cap] w (TyEnd T w) := by
  have hg := hk.lt
  have HT := Lib.hid hT0
  clear hT0
  obtain ⟨T2, hT2⟩ : ∃ T2, (if a = b then cntT a else 0) = T2 := ⟨_, rfl⟩
  have H3 : Hid (T2 ≠ 0 → T = 3) := Lib.hid (by
    intro h
    rw [← hT2] at h
    split at h
    · next h2 => rw [← HT.out, if_pos ⟨h2, h⟩]
    · exact absurd rfl h)
  have H0 : Hid (T2 = 0 → T = 0) := Lib.hid (by
    intro h
    rw [← hT2] at h
    split at h
    · next h2 => rw [← HT.out, if_neg (fun q => q.2 h)]
    · next h2 => rw [← HT.out, if_neg (fun q => h2 q.1)])
  have HC := fun w2 (h : Kds w2 g [a, b]) => alike_any g cap a b T2 hT2 w2 h
  clear hT2
  go_enter Try.func46, Try.ntmps46
  go_wp2_with fail
  refine (HC _ hk).mono ?_
  rintro e w2 (⟨h1, rfl, h2⟩ | ⟨h1, rfl, h2⟩)
  · have HF := Lib.hid (H3.out h1)
    clear h1
    go_wp2_with fail
    go_ret
    exact .inl ⟨by rw [HF.out]; decide, by rw [HF.out]; rfl, h2⟩
  · have HF := Lib.hid (H0.out h1)
    clear h1
    go_wp2_with fail
    exact bodyPost_panic rfl (.inr ⟨HF.out, rfl, h2⟩)
set_option maxHeartbeats 1600000 in
theorem truths_any (g cap : Nat) (ts : List Nat) (hl : ts.length ≤ 1000) (T : Nat) (hT0 : (if ts.all (fun t => t == 3) then 3 else 0) = T) (w : World) (hk : Kds w g ts) : Calls Try.prog 47 #[.slice (some ⟨g, 0, none⟩) ts.length cap] w (TyEnd T w) := by
  have hg := hk.lt
  have HT := Lib.hid hT0
  clear hT0
  go_enter Try.func47, Try.ntmps47
  go_wp2_with fail
  go_loopw [7] (fun i wr => ∃ k : Nat, i = .int .i64 k ∧ k ≤ ts.length ∧ (∀ j, j < k → ts[j]? = some 3) ∧ Below w.heap.size w wr) (fun i _ => ts.length - (intOf i).toNat)
  case atStart => exact ⟨0, rfl, Nat.zero_le _, fun j hj => absurd hj (Nat.not_lt_zero _), Below.refl _ _⟩
  case round =>
    obtain ⟨k, rfl, hkl, hall, q⟩ := hrel
    by_cases hkk : k < ts.length
    · have hc : wr.cell? ⟨g, k, none⟩ = some (.int .i64 (ts[k] : Nat)) := (hk.below q).cell k _ (List.getElem?_eq_getElem hkk)
      have hat := List.getElem?_eq_getElem hkk
      have hwk : IntKind.i64.wrap ((k : Int) + 1) = (k : Int) + 1 := IntWalk.i64_in _ (by omega)
      have HA := Lib.hid hall
      have HQ : Hid (ts[k] ≠ 3 → ts.all (fun t => t == 3) = false) := Lib.hid (by
        intro h
        rw [List.all_eq_false]
        exact ⟨ts[k], List.getElem_mem hkk, by simpa using h⟩)
      have HAT := Lib.hid hat
      clear hall hat
      generalize ts[k] = t at *
      by_cases ht : t = 3
      · subst ht
        go_wp2_with fail
        refine (need_yes _).mono ?_
        rintro e w1 ⟨rfl, hb1⟩
        go_wp2_with fail
        go_roundw
        case rel => exact ⟨k + 1, by go_num, by omega, fun j hj => by
            by_cases h : j = k
            · subst h; exact HAT.out
            · exact HA.out j (by omega), q.trans (hb1.mono q.size)⟩
        case measure => simp [intOf]; omega
      · have e1 : ((t : Int) == 3) = false := by rw [beq_eq_false_iff_ne]; omega
        have e2 : (t == 3) = false := by rw [beq_eq_false_iff_ne]; exact ht
        have HF : Hid (T = 0) := Lib.hid (by rw [← HT.out, HQ.out ht]; rfl)
        go_wp2_with fail
        refine (need_no _).mono ?_
        rintro e w1 ⟨rfl, hb1⟩
        go_wp2_with fail
        exact bodyPost_panic rfl (.inr ⟨HF.out, rfl, q.trans (hb1.mono q.size)⟩)
    · have HF : Hid (T = 3) := Lib.hid (by
        rw [← HT.out, if_pos]
        rw [List.all_eq_true]
        intro x hx
        obtain ⟨j, hj, rfl⟩ := List.mem_iff_getElem.1 hx
        have := hall j (by omega)
        rw [List.getElem?_eq_getElem hj] at this
        simpa using this)
      clear hall
      go_wp2_with fail
      go_ret
      exact .inl ⟨by rw [HF.out]; decide, by rw [HF.out]; rfl, q⟩
end Go.Proofs.Ytbkcpcjdpfndpaa
