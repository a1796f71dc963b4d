/-
  The walks of money's small functions: isAmount, isCurrency, floor, and the reference's; how a slice of exchanges reads.
-/
import Derived.Test.YtnjaedbekogeaaaDoorMonPlain
import Derived.Test.YtnjaedbekogeaaaDoorDigPlain
import Derived.Test.YtnjaedbekogeaaaDoorRatioF
import Derived.Test.YtnjaedbekogeaaaDoorRef01D
namespace Go.Proofs.YtnjaedbekogeaaaDoor
open Go.RowKit
set_option maxRecDepth 100000

def exV (x : Ex) : Value := .agg #[.int .i64 x.f, .int .i64 x.t, .int .i64 x.n, .int .i64 x.d]
def XS (l : List Ex) : Prop := ∀ x ∈ l, I64 x.f ∧ I64 x.t ∧ I64 x.n ∧ I64 x.d

theorem add_succ (a : Addr) (m : Nat) : a.add (m + 1) = { block := (a.add m).block, off := (a.add m).off + 1 } := by
  unfold Addr.add; split <;> split <;> simp_all <;> omega

theorem add_two (a : Addr) (m : Nat) : a.add (m + 2) = { block := (a.add m).block, off := (a.add m).off + 2 } := by
  unfold Addr.add; split <;> split <;> simp_all <;> omega
theorem add_three (a : Addr) (m : Nat) : a.add (m + 3) = { block := (a.add m).block, off := (a.add m).off + 3 } := by
  unfold Addr.add; split <;> split <;> simp_all <;> omega

/-- v is a slice that reads l, four cells a place -/
structure Exs (w : World) (v : Value) (l : List Ex) : Prop where
  shape : ∃ ad cap, v = .slice ad l.length cap
  cells : ∀ ad n cap, v = .slice ad n cap → ∀ i (h : i < l.length), ∃ a, ad = some a ∧ a.block < w.heap.size ∧ w.cell? (a.add (i * 4)) = some (.int .i64 (l[i]).f) ∧ w.cell? (a.add (i * 4 + 1)) = some (.int .i64 (l[i]).t) ∧
    w.cell? (a.add (i * 4 + 2)) = some (.int .i64 (l[i]).n) ∧ w.cell? (a.add (i * 4 + 3)) = some (.int .i64 (l[i]).d)
  ints : XS l
  short : l.length ≤ 9223372036854775807

theorem Exs.open {w : World} {v : Value} {l : List Ex} (h : Exs w v l) : ∃ ad cap, v = .slice ad l.length cap ∧
    ∀ i (_ : i < l.length), ∃ a, ad = some a ∧ a.block < w.heap.size ∧ w.cell? (a.add (i * 4)) = some (.int .i64 (l[i]).f) ∧ w.cell? (a.add (i * 4 + 1)) = some (.int .i64 (l[i]).t) ∧
    w.cell? (a.add (i * 4 + 2)) = some (.int .i64 (l[i]).n) ∧ w.cell? (a.add (i * 4 + 3)) = some (.int .i64 (l[i]).d) := by
  obtain ⟨ad, cap, rfl⟩ := h.shape
  exact ⟨ad, cap, rfl, h.cells ad _ cap rfl⟩
theorem Exs.below {w w1 : World} {v : Value} {l : List Ex} (h : Exs w v l) (hb : Below w.heap.size w w1) : Exs w1 v l := by
  refine ⟨h.shape, fun ad n cap e i hi => ?_, h.ints, h.short⟩
  obtain ⟨a, h0, h1, h2, h3, h4, h5⟩ := h.cells ad n cap e i hi
  have hc : ∀ m, w1.cell? (a.add m) = w.cell? (a.add m) := fun m => hb.cell (p := a.add m) (by rw [blk_add]; exact h1)
  exact ⟨a, h0, Nat.lt_of_lt_of_le h1 hb.size, (hc _).trans h2, (hc _).trans h3, (hc _).trans h4, (hc _).trans h5⟩

/-- the cells of a place, in a world that has grown since, as a load reads them -/
theorem Exs.reads {w : World} {ad : Option Addr} {l : List Ex} {cap : Nat} (h : Exs w (.slice ad l.length cap) l) {wr : World} {B : Nat} (hb : Below B w wr) (hB : w.heap.size ≤ B) (k : Nat) (hk : k < l.length) : ∃ a, ad = some a ∧
    wr.cell? (a.add (k * 4)) = some (.int .i64 (l[k]).f) ∧ wr.cell? { block := (a.add (k * 4)).block, off := (a.add (k * 4)).off + 1 } = some (.int .i64 (l[k]).t) ∧
    wr.cell? { block := (a.add (k * 4)).block, off := (a.add (k * 4)).off + 2 } = some (.int .i64 (l[k]).n) ∧ wr.cell? { block := (a.add (k * 4)).block, off := (a.add (k * 4)).off + 3 } = some (.int .i64 (l[k]).d) := by
  obtain ⟨a, rfl, hab, h1, h2, h3, h4⟩ := h.cells _ _ _ rfl k hk
  have hc : ∀ m, wr.cell? (a.add m) = w.cell? (a.add m) := fun m => hb.cell (p := a.add m) (by rw [blk_add]; omega)
  exact ⟨a, rfl, (hc _).trans h1, by rw [← add_succ]; exact (hc _).trans h2, by rw [← add_two]; exact (hc _).trans h3, by rw [← add_three]; exact (hc _).trans h4⟩

theorem isAmount_any (n : Int) (w : World) : Calls Tryd.prog 25 #[.int .i64 n] w (Same (.bool (wthB n 1000000000)) w) := by
  by_cases hA : -1000000000 ≤ n
  · go_enter Tryd.func25, Tryd.ntmps25
    go_wp2_with fail
    go_ret
    exact Same.mk (boolV (by unfold wthB; simp; omega)) rfl
  · have hA' : decide (-1000000000 ≤ n) = false := by simpa using hA
    go_enter Tryd.func25, Tryd.ntmps25
    go_wp2_with fail
    go_ret
    exact Same.mk (boolV (by unfold wthB; simp; omega)) rfl
theorem isAmount_at {b : Bool} (n : Int) (w : World) (h : wthB n 1000000000 = b) : Calls Tryd.prog 25 #[.int .i64 n] w (Same (.bool b) w) := by subst h; exact isAmount_any n w
theorem isCurrency_any (n : Int) (w : World) : Calls Tryd.prog 26 #[.int .i64 n] w (Same (.bool (cur n)) w) := by
  by_cases hA : 1 ≤ n
  · go_enter Tryd.func26, Tryd.ntmps26
    go_wp2_with fail
    go_ret
    exact Same.mk (boolV (by unfold cur; simp; omega)) rfl
  · have hA' : decide (1 ≤ n) = false := by simpa using hA
    go_enter Tryd.func26, Tryd.ntmps26
    go_wp2_with fail
    go_ret
    exact Same.mk (boolV (by unfold cur; simp; omega)) rfl
theorem isCurrency_at {b : Bool} (n : Int) (w : World) (h : cur n = b) : Calls Tryd.prog 26 #[.int .i64 n] w (Same (.bool b) w) := by subst h; exact isCurrency_any n w
theorem rAmount_any (n : Int) (w : World) : Calls Tryd.prog 22 #[.int .i64 n] w (Same (.bool (wthB n 1000000000)) w) := by
  by_cases hA : -1000000000 ≤ n
  · go_enter Tryd.func22, Tryd.ntmps22
    go_wp2_with fail
    go_ret
    exact Same.mk (boolV (by unfold wthB; simp; omega)) rfl
  · have hA' : decide (n ≥ -1000000000) = false := by simpa using hA
    go_enter Tryd.func22, Tryd.ntmps22
    go_wp2_with fail
    go_ret
    exact Same.mk (boolV (by unfold wthB; simp; omega)) rfl
theorem rAmount_at {b : Bool} (n : Int) (w : World) (h : wthB n 1000000000 = b) : Calls Tryd.prog 22 #[.int .i64 n] w (Same (.bool b) w) := by subst h; exact rAmount_any n w
theorem rCurrency_any (n : Int) (w : World) : Calls Tryd.prog 28 #[.int .i64 n] w (Same (.bool (cur n)) w) := by
  by_cases hA : 1 ≤ n
  · go_enter Tryd.func28, Tryd.ntmps28
    go_wp2_with fail
    go_ret
    exact Same.mk (boolV (by unfold cur; simp; omega)) rfl
  · have hA' : decide (n ≥ 1) = false := by simpa using hA
    go_enter Tryd.func28, Tryd.ntmps28
    go_wp2_with fail
    go_ret
    exact Same.mk (boolV (by unfold cur; simp; omega)) rfl
theorem rCurrency_at {b : Bool} (n : Int) (w : World) (h : cur n = b) : Calls Tryd.prog 28 #[.int .i64 n] w (Same (.bool b) w) := by subst h; exact rCurrency_any n w

theorem floor_any (n d : Int) (w : World) (h1 : -4000000000000000000 ≤ n) (h2 : n ≤ 4000000000000000000) (hd : 1 ≤ d) (hd2 : d ≤ 4000000000000000000) : Calls Tryd.prog 46 #[.int .i64 n, .int .i64 d] w (Same (.int .i64 (n / d)) w) := by
  have hl := tdiv_natAbs_le n d
  have HR := Lib.hid (tdiv_floor n d hd)
  generalize n / d = q at HR ⊢
  by_cases hm : n.tmod d < 0
  · go_enter Tryd.func46, Tryd.ntmps46
    go_wp2_with fail
    go_ret
    exact Same.mk (by rw [HR.out, if_pos hm]; rfl) rfl
  · have hm' : decide (n.tmod d < 0) = false := by simpa using hm
    go_enter Tryd.func46, Tryd.ntmps46
    go_wp2_with fail
    go_ret
    exact Same.mk (by rw [HR.out, if_neg (by omega)]; rfl) rfl
theorem rfloor_any (n d : Int) (w : World) (h1 : -4000000000000000000 ≤ n) (h2 : n ≤ 4000000000000000000) (hd : 1 ≤ d) (hd2 : d ≤ 4000000000000000000) : Calls Tryd.prog 33 #[.int .i64 n, .int .i64 d] w (Same (.int .i64 (n / d)) w) := by
  have hl := tdiv_natAbs_le n d
  have HR := Lib.hid (tdiv_floor n d hd)
  generalize n / d = q at HR ⊢
  by_cases hm : n.tmod d < 0
  · go_enter Tryd.func33, Tryd.ntmps33
    go_wp2_with fail
    go_ret
    exact Same.mk (by rw [HR.out, if_pos hm]; rfl) rfl
  · have hm' : decide (n.tmod d < 0) = false := by simpa using hm
    go_enter Tryd.func33, Tryd.ntmps33
    go_wp2_with fail
    go_ret
    exact Same.mk (by rw [HR.out, if_neg (by omega)]; rfl) rfl

theorem Own.four {w : World} {B : Nat} {x y z u : Value} (h : Own w B [x, y, z, u]) : w.cell? ⟨B, 0, none⟩ = some x ∧ w.cell? ⟨B, 1, none⟩ = some y ∧ w.cell? ⟨B, 2, none⟩ = some z ∧ w.cell? ⟨B, 3, none⟩ = some u ∧
    w.frozen? ⟨B, 0, none⟩ = false ∧ w.frozen? ⟨B, 1, none⟩ = false ∧ w.frozen? ⟨B, 2, none⟩ = false ∧ w.frozen? ⟨B, 3, none⟩ = false ∧ B < w.heap.size :=
  ⟨h.cell 0 _ rfl, h.cell 1 _ rfl, h.cell 2 _ rfl, h.cell 3 _ rfl, h.fro 0 _ rfl, h.fro 1 _ rfl, h.fro 2 _ rfl, h.fro 3 _ rfl, h.lt⟩

set_option maxHeartbeats 1000000 in
theorem isExchange_any (x : Ex) (w : World) : Calls Tryd.prog 38 #[exV x] w (Ret (.bool (exB x)) w) := by
  unfold exV
  obtain ⟨f, t, n, d⟩ := x
  have hb : Below w.heap.size w w := Below.refl _ _
  cases h1 : cur f with
  | false =>
    have H1 := Lib.hid h1
    clear h1
    go_enter Tryd.func38, Tryd.ntmps38
    go_wp2_with (go_at_call 26; refine (isCurrency_at _ _ H1.out).mono ?_; rintro e w' ⟨rfl, rfl⟩)
    go_ret
    exact Ret.mk (by simp [exB, H1.out]) (by (repeat (first | exact Below.refl _ _ | assumption | refine Below.drew ?_ | refine below_drewN ?_ _ | refine Below.setCell ?_ (by first | omega | (simp <;> omega)) _ | refine Below.alloc ?_ (by first | omega | (simp <;> omega)) _)))
  | true =>
  cases h2 : cur t with
  | false =>
    have H1 := Lib.hid h1
    have H2 := Lib.hid h2
    clear h1 h2
    go_enter Tryd.func38, Tryd.ntmps38
    go_wp2_with fail
    refine (isCurrency_at _ _ H1.out).mono ?_
    rintro e w' ⟨rfl, rfl⟩
    go_wp2_with (go_at_call 26; refine (isCurrency_at _ _ H2.out).mono ?_; rintro e w' ⟨rfl, rfl⟩)
    go_ret
    exact Ret.mk (by simp [exB, H2.out]) (by (repeat (first | exact Below.refl _ _ | assumption | refine Below.drew ?_ | refine below_drewN ?_ _ | refine Below.setCell ?_ (by first | omega | (simp <;> omega)) _ | refine Below.alloc ?_ (by first | omega | (simp <;> omega)) _)))
  | true =>
  by_cases h3 : f = t
  · subst h3
    have H1 := Lib.hid h1
    clear h1 h2
    go_enter Tryd.func38, Tryd.ntmps38
    go_wp2_with (go_at_call 26; refine (isCurrency_at _ _ H1.out).mono ?_; rintro e w' ⟨rfl, rfl⟩)
    go_ret
    exact Ret.mk (by simp [exB]) (by (repeat (first | exact Below.refl _ _ | assumption | refine Below.drew ?_ | refine below_drewN ?_ _ | refine Below.setCell ?_ (by first | omega | (simp <;> omega)) _ | refine Below.alloc ?_ (by first | omega | (simp <;> omega)) _)))
  have h3' : (f != t) = true := by simpa using h3
  cases h4 : vldB n d with
  | false =>
    have H1 := Lib.hid h1
    have H2 := Lib.hid h2
    have H4 := Lib.hid h4
    clear h1 h2 h4
    go_enter Tryd.func38, Tryd.ntmps38
    go_wp2_with fail
    refine (isCurrency_at _ _ H1.out).mono ?_
    rintro e w' ⟨rfl, rfl⟩
    go_wp2_with fail
    refine (isCurrency_at _ _ H2.out).mono ?_
    rintro e w' ⟨rfl, rfl⟩
    go_wp2_with fail
    refine (valid_at _ _ _ H4.out).mono ?_
    rintro e w1 ⟨rfl, hx⟩
    try clear c0_o1 c1_o1 c2_o1 c3_o1 f0_o1 f1_o1 f2_o1 f3_o1 z_o1
    first | have o1 := (Own.new w _ _).below hx | have o1 := ((Own.new w _ _).alloc _).below hx | have o1 := (((Own.new w _ _).alloc _).alloc _).below hx | have o1 := ((((Own.new w _ _).alloc _).alloc _).alloc _).below hx | have o1 := ((Own.new w _ _).set2 _ _).below hx | have o1 := (((Own.new w _ _).setCell (by simp <;> omega) _).setCell (by simp <;> omega) _).below hx
    obtain ⟨c0_o1, c1_o1, c2_o1, c3_o1, f0_o1, f1_o1, f2_o1, f3_o1, z_o1⟩ := o1.four
    replace hb : Below w.heap.size w w1 := Below.trans (by (repeat (first | exact Below.refl _ _ | assumption | refine Below.drew ?_ | refine below_drewN ?_ _ | refine Below.setCell ?_ (by first | omega | (simp <;> omega)) _ | refine Below.alloc ?_ (by have := hb.size; first | omega | (simp <;> omega)) _))) (hx.mono (by have := hb.size; first | omega | (simp <;> omega)))
    clear hx
    go_wp2_with fail
    go_ret
    exact Ret.mk (by simp [exB, H4.out]) hb
  | true =>
    have H1 := Lib.hid h1
    have H2 := Lib.hid h2
    have H4 := Lib.hid h4
    clear h1 h2 h4
    go_enter Tryd.func38, Tryd.ntmps38
    go_wp2_with fail
    refine (isCurrency_at _ _ H1.out).mono ?_
    rintro e w' ⟨rfl, rfl⟩
    go_wp2_with fail
    refine (isCurrency_at _ _ H2.out).mono ?_
    rintro e w' ⟨rfl, rfl⟩
    go_wp2_with fail
    refine (valid_at _ _ _ H4.out).mono ?_
    rintro e w1 ⟨rfl, hx⟩
    try clear c0_o1 c1_o1 c2_o1 c3_o1 f0_o1 f1_o1 f2_o1 f3_o1 z_o1
    first | have o1 := (Own.new w _ _).below hx | have o1 := ((Own.new w _ _).alloc _).below hx | have o1 := (((Own.new w _ _).alloc _).alloc _).below hx | have o1 := ((((Own.new w _ _).alloc _).alloc _).alloc _).below hx | have o1 := ((Own.new w _ _).set2 _ _).below hx | have o1 := (((Own.new w _ _).setCell (by simp <;> omega) _).setCell (by simp <;> omega) _).below hx
    obtain ⟨c0_o1, c1_o1, c2_o1, c3_o1, f0_o1, f1_o1, f2_o1, f3_o1, z_o1⟩ := o1.four
    replace hb : Below w.heap.size w w1 := Below.trans (by (repeat (first | exact Below.refl _ _ | assumption | refine Below.drew ?_ | refine below_drewN ?_ _ | refine Below.setCell ?_ (by first | omega | (simp <;> omega)) _ | refine Below.alloc ?_ (by have := hb.size; first | omega | (simp <;> omega)) _))) (hx.mono (by have := hb.size; first | omega | (simp <;> omega)))
    clear hx
    go_wp2_with fail
    go_ret
    exact Ret.mk (by simp [exB, H1.out, H2.out, H4.out, h3]) hb
theorem isExchange_at {b : Bool} (x : Ex) (w : World) (h : exB x = b) : Calls Tryd.prog 38 #[.agg #[.int .i64 x.f, .int .i64 x.t, .int .i64 x.n, .int .i64 x.d]] w (Ret (.bool b) w) := by subst h; exact isExchange_any x w
end Go.Proofs.YtnjaedbekogeaaaDoor
