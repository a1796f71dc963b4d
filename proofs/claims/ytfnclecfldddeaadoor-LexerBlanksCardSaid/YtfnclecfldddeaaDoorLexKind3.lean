/-
  The walks of kinds and kindOf: the kind of a text.
-/
import Derived.Test.YtfnclecfldddeaaDoorLexKind2
import Derived.Test.YtfnclecfldddeaaDoorLexSkip3
namespace Go.Proofs.YtfnclecfldddeaaDoor
open Go.RowKit Go.Shelf
set_option maxRecDepth 100000

def knCells : Array Value := #[.int .i64 1, .func (.func 39) #[] #[], .int .i64 2, .func (.func 41) #[] #[], .int .i64 3, .func (.func 42) #[] #[], .int .i64 4, .func (.func 45) #[] #[]]
/-- the table of the kinds -/
def Known (w : World) (a : Nat) : Prop := w.heap[a]? = some (.cells knCells 65 (0, 0))
theorem Known.lt {w : World} {a : Nat} (h : Known w a) : a < w.heap.size := (Array.getElem?_eq_some_iff.1 h).1
theorem Known.below {w w1 : World} {a : Nat} (h : Known w a) (hb : Below w.heap.size w w1) : Known w1 a := (hb.block _ h.lt).trans h
theorem Known.alloc {w : World} {a : Nat} (h : Known w a) (o : Obj) : Known (w.alloc o) a := (Below.heap_alloc _ _ _ h.lt).trans h
theorem Known.cells {w : World} {a : Nat} (h : Known w a) : w.cell? ⟨a, 0, none⟩ = some (.int .i64 1) ∧ w.cell? ⟨a, 1, none⟩ = some (.func (.func 39) #[] #[]) ∧ w.cell? ⟨a, 2, none⟩ = some (.int .i64 2) ∧ w.cell? ⟨a, 3, none⟩ = some (.func (.func 41) #[] #[]) ∧
    w.cell? ⟨a, 4, none⟩ = some (.int .i64 3) ∧ w.cell? ⟨a, 5, none⟩ = some (.func (.func 42) #[] #[]) ∧ w.cell? ⟨a, 6, none⟩ = some (.int .i64 4) ∧ w.cell? ⟨a, 7, none⟩ = some (.func (.func 45) #[] #[]) ∧ a < w.heap.size := by
  have hl := h.lt
  unfold Known knCells at h
  refine ⟨?_, ?_, ?_, ?_, ?_, ?_, ?_, ?_, hl⟩ <;> simp [World.cell?, h]

theorem kinds_any (w : World) : Calls Tryd.prog 30 #[] w fun e w' => e = .returned (.slice (some ⟨w.heap.size, 0, none⟩) 4 4) ∧ Known w' w.heap.size ∧ Below w.heap.size w w' := by
  go_enter Tryd.func30, Tryd.ntmps30
  go_wp2_with fail
  go_ret
  exact ⟨rfl, World.alloc_heap_new w _, (Below.refl _ w).alloc (Nat.le_refl _) _⟩

def kindP (t : List UInt8) : Nat := if nameB t then 1 else if numB t then 2 else if mnyB t then 3 else if sigB t then 4 else 0
theorem kind1_at {b : Bool} (t : List UInt8) (ht : t.length ≤ 1000000) (w : World) (h : nameB t = b) : Calls Tryd.prog 39 #[.string ⟨t.toArray⟩] w (Ret (.bool b) w) := by subst h; exact kind1_any t ht w
theorem kind2_at {b : Bool} (t : List UInt8) (ht : t.length ≤ 400000) (w : World) (hL : Lay w) (h : mnyB t = b) : Calls Tryd.prog 42 #[.string ⟨t.toArray⟩] w (Ret (.bool b) w) := by subst h; exact kind2_any t ht w hL
theorem kind3_at {b : Bool} (t : List UInt8) (ht : t.length ≤ 1000000) (w : World) (h : sigB t = b) : Calls Tryd.prog 45 #[.string ⟨t.toArray⟩] w (Ret (.bool b) w) := by subst h; exact kind3_any t ht w

set_option maxHeartbeats 4000000 in
theorem kindOf_0 (t : List UInt8) (ht : t.length ≤ 400000) (a cap : Nat) (w : World) (hL : Lay w) (kn : Known w a) (h0 : nameB t = true) :
    Calls Tryd.prog 34 #[.slice (some ⟨a, 0, none⟩) 4 cap, .string ⟨t.toArray⟩] w (Ret (.int .i64 1) w) := by
  have H0 := Lib.hid h0
  clear h0
  obtain ⟨S, hS⟩ : ∃ S, (⟨t.toArray⟩ : ByteArray) = S := ⟨_, rfl⟩
  have HS := Lib.hid hS
  rw [hS]
  clear hS
  have hb : Below w.heap.size w w := Below.refl _ _
  obtain ⟨c0, c1, c2, c3, c4, c5, c6, c7, cz⟩ := kn.cells
  go_enter Tryd.func34, Tryd.ntmps34
  go_wp2_with fail
  refine wp_loop_rounds 6 ?_
  rw [rounds_succ]
  go_wp2_with fail
  have hc := kind1_at t (by omega) (w.alloc (.cells #[.int .i64 1, .func (.func 39) #[] #[]] 65)) H0.out
  rw [HS.out] at hc
  refine hc.mono ?_
  clear hc
  rintro e w1 ⟨rfl, hx⟩
  replace kn := (kn.alloc _).below hx
  have o0 := (Own.new w #[.int .i64 1, .func (.func 39) #[] #[]] 65).below hx
  replace hx := ((Below.refl _ w).alloc (Nat.le_refl _) _).trans (hx.mono (by simp))
  replace hL := hL.below hx
  replace hb := hb.trans (hx.mono hb.size)
  clear hx c0 c1 c2 c3 c4 c5 c6 c7 cz
  obtain ⟨c0, c1, c2, c3, c4, c5, c6, c7, cz⟩ := kn.cells
  obtain ⟨d0, d1, f0, f1, dz⟩ := o0.two
  go_wp2_with fail
  go_ret
  exact Ret.mk rfl hb

set_option maxHeartbeats 4000000 in
theorem kindOf_1 (t : List UInt8) (ht : t.length ≤ 400000) (a cap : Nat) (w : World) (hL : Lay w) (kn : Known w a) (h0 : nameB t = false) (h1 : numB t = true) :
    Calls Tryd.prog 34 #[.slice (some ⟨a, 0, none⟩) 4 cap, .string ⟨t.toArray⟩] w (Ret (.int .i64 2) w) := by
  have H0 := Lib.hid h0
  clear h0
  have H1 := Lib.hid h1
  clear h1
  obtain ⟨S, hS⟩ : ∃ S, (⟨t.toArray⟩ : ByteArray) = S := ⟨_, rfl⟩
  have HS := Lib.hid hS
  rw [hS]
  clear hS
  have hb : Below w.heap.size w w := Below.refl _ _
  obtain ⟨c0, c1, c2, c3, c4, c5, c6, c7, cz⟩ := kn.cells
  go_enter Tryd.func34, Tryd.ntmps34
  go_wp2_with fail
  refine wp_loop_rounds 6 ?_
  rw [rounds_succ]
  go_wp2_with fail
  have hc := kind1_at t (by omega) (w.alloc (.cells #[.int .i64 1, .func (.func 39) #[] #[]] 65)) H0.out
  rw [HS.out] at hc
  refine hc.mono ?_
  clear hc
  rintro e w1 ⟨rfl, hx⟩
  replace kn := (kn.alloc _).below hx
  have o0 := (Own.new w #[.int .i64 1, .func (.func 39) #[] #[]] 65).below hx
  replace hx := ((Below.refl _ w).alloc (Nat.le_refl _) _).trans (hx.mono (by simp))
  replace hL := hL.below hx
  replace hb := hb.trans (hx.mono hb.size)
  clear hx c0 c1 c2 c3 c4 c5 c6 c7 cz
  obtain ⟨c0, c1, c2, c3, c4, c5, c6, c7, cz⟩ := kn.cells
  obtain ⟨d0, d1, f0, f1, dz⟩ := o0.two
  go_wp2_with fail
  clear o0 d0 d1 f0 f1 dz
  rw [rounds_succ]
  go_wp2_with fail
  have hc := isNumber_at t (by omega) (w1.alloc (.cells #[.int .i64 2, .func (.func 41) #[] #[]] 65)) H1.out
  rw [HS.out] at hc
  refine hc.mono ?_
  clear hc
  rintro e w2 ⟨rfl, hx⟩
  replace kn := (kn.alloc _).below hx
  have o1 := (Own.new w1 #[.int .i64 2, .func (.func 41) #[] #[]] 65).below hx
  replace hx := ((Below.refl _ w1).alloc (Nat.le_refl _) _).trans (hx.mono (by simp))
  replace hL := hL.below hx
  replace hb := hb.trans (hx.mono hb.size)
  clear hx c0 c1 c2 c3 c4 c5 c6 c7 cz
  obtain ⟨c0, c1, c2, c3, c4, c5, c6, c7, cz⟩ := kn.cells
  obtain ⟨d0, d1, f0, f1, dz⟩ := o1.two
  go_wp2_with fail
  go_ret
  exact Ret.mk rfl hb

set_option maxHeartbeats 4000000 in
theorem kindOf_2 (t : List UInt8) (ht : t.length ≤ 400000) (a cap : Nat) (w : World) (hL : Lay w) (kn : Known w a) (h0 : nameB t = false) (h1 : numB t = false) (h2 : mnyB t = true) :
    Calls Tryd.prog 34 #[.slice (some ⟨a, 0, none⟩) 4 cap, .string ⟨t.toArray⟩] w (Ret (.int .i64 3) w) := by
  have H0 := Lib.hid h0
  clear h0
  have H1 := Lib.hid h1
  clear h1
  have H2 := Lib.hid h2
  clear h2
  obtain ⟨S, hS⟩ : ∃ S, (⟨t.toArray⟩ : ByteArray) = S := ⟨_, rfl⟩
  have HS := Lib.hid hS
  rw [hS]
  clear hS
  have hb : Below w.heap.size w w := Below.refl _ _
  obtain ⟨c0, c1, c2, c3, c4, c5, c6, c7, cz⟩ := kn.cells
  go_enter Tryd.func34, Tryd.ntmps34
  go_wp2_with fail
  refine wp_loop_rounds 6 ?_
  rw [rounds_succ]
  go_wp2_with fail
  have hc := kind1_at t (by omega) (w.alloc (.cells #[.int .i64 1, .func (.func 39) #[] #[]] 65)) H0.out
  rw [HS.out] at hc
  refine hc.mono ?_
  clear hc
  rintro e w1 ⟨rfl, hx⟩
  replace kn := (kn.alloc _).below hx
  have o0 := (Own.new w #[.int .i64 1, .func (.func 39) #[] #[]] 65).below hx
  replace hx := ((Below.refl _ w).alloc (Nat.le_refl _) _).trans (hx.mono (by simp))
  replace hL := hL.below hx
  replace hb := hb.trans (hx.mono hb.size)
  clear hx c0 c1 c2 c3 c4 c5 c6 c7 cz
  obtain ⟨c0, c1, c2, c3, c4, c5, c6, c7, cz⟩ := kn.cells
  obtain ⟨d0, d1, f0, f1, dz⟩ := o0.two
  go_wp2_with fail
  clear o0 d0 d1 f0 f1 dz
  rw [rounds_succ]
  go_wp2_with fail
  have hc := isNumber_at t (by omega) (w1.alloc (.cells #[.int .i64 2, .func (.func 41) #[] #[]] 65)) H1.out
  rw [HS.out] at hc
  refine hc.mono ?_
  clear hc
  rintro e w2 ⟨rfl, hx⟩
  replace kn := (kn.alloc _).below hx
  have o1 := (Own.new w1 #[.int .i64 2, .func (.func 41) #[] #[]] 65).below hx
  replace hx := ((Below.refl _ w1).alloc (Nat.le_refl _) _).trans (hx.mono (by simp))
  replace hL := hL.below hx
  replace hb := hb.trans (hx.mono hb.size)
  clear hx c0 c1 c2 c3 c4 c5 c6 c7 cz
  obtain ⟨c0, c1, c2, c3, c4, c5, c6, c7, cz⟩ := kn.cells
  obtain ⟨d0, d1, f0, f1, dz⟩ := o1.two
  go_wp2_with fail
  clear o1 d0 d1 f0 f1 dz
  rw [rounds_succ]
  go_wp2_with fail
  have hc := kind2_at t (by omega) (w2.alloc (.cells #[.int .i64 3, .func (.func 42) #[] #[]] 65)) (hL.below ((Below.refl _ _).alloc (Nat.le_refl _) _)) H2.out
  rw [HS.out] at hc
  refine hc.mono ?_
  clear hc
  rintro e w3 ⟨rfl, hx⟩
  replace kn := (kn.alloc _).below hx
  have o2 := (Own.new w2 #[.int .i64 3, .func (.func 42) #[] #[]] 65).below hx
  replace hx := ((Below.refl _ w2).alloc (Nat.le_refl _) _).trans (hx.mono (by simp))
  replace hL := hL.below hx
  replace hb := hb.trans (hx.mono hb.size)
  clear hx c0 c1 c2 c3 c4 c5 c6 c7 cz
  obtain ⟨c0, c1, c2, c3, c4, c5, c6, c7, cz⟩ := kn.cells
  obtain ⟨d0, d1, f0, f1, dz⟩ := o2.two
  go_wp2_with fail
  go_ret
  exact Ret.mk rfl hb

set_option maxHeartbeats 4000000 in
theorem kindOf_3 (t : List UInt8) (ht : t.length ≤ 400000) (a cap : Nat) (w : World) (hL : Lay w) (kn : Known w a) (h0 : nameB t = false) (h1 : numB t = false) (h2 : mnyB t = false) (h3 : sigB t = true) :
    Calls Tryd.prog 34 #[.slice (some ⟨a, 0, none⟩) 4 cap, .string ⟨t.toArray⟩] w (Ret (.int .i64 4) w) := by
  have H0 := Lib.hid h0
  clear h0
  have H1 := Lib.hid h1
  clear h1
  have H2 := Lib.hid h2
  clear h2
  have H3 := Lib.hid h3
  clear h3
  obtain ⟨S, hS⟩ : ∃ S, (⟨t.toArray⟩ : ByteArray) = S := ⟨_, rfl⟩
  have HS := Lib.hid hS
  rw [hS]
  clear hS
  have hb : Below w.heap.size w w := Below.refl _ _
  obtain ⟨c0, c1, c2, c3, c4, c5, c6, c7, cz⟩ := kn.cells
  go_enter Tryd.func34, Tryd.ntmps34
  go_wp2_with fail
  refine wp_loop_rounds 6 ?_
  rw [rounds_succ]
  go_wp2_with fail
  have hc := kind1_at t (by omega) (w.alloc (.cells #[.int .i64 1, .func (.func 39) #[] #[]] 65)) H0.out
  rw [HS.out] at hc
  refine hc.mono ?_
  clear hc
  rintro e w1 ⟨rfl, hx⟩
  replace kn := (kn.alloc _).below hx
  have o0 := (Own.new w #[.int .i64 1, .func (.func 39) #[] #[]] 65).below hx
  replace hx := ((Below.refl _ w).alloc (Nat.le_refl _) _).trans (hx.mono (by simp))
  replace hL := hL.below hx
  replace hb := hb.trans (hx.mono hb.size)
  clear hx c0 c1 c2 c3 c4 c5 c6 c7 cz
  obtain ⟨c0, c1, c2, c3, c4, c5, c6, c7, cz⟩ := kn.cells
  obtain ⟨d0, d1, f0, f1, dz⟩ := o0.two
  go_wp2_with fail
  clear o0 d0 d1 f0 f1 dz
  rw [rounds_succ]
  go_wp2_with fail
  have hc := isNumber_at t (by omega) (w1.alloc (.cells #[.int .i64 2, .func (.func 41) #[] #[]] 65)) H1.out
  rw [HS.out] at hc
  refine hc.mono ?_
  clear hc
  rintro e w2 ⟨rfl, hx⟩
  replace kn := (kn.alloc _).below hx
  have o1 := (Own.new w1 #[.int .i64 2, .func (.func 41) #[] #[]] 65).below hx
  replace hx := ((Below.refl _ w1).alloc (Nat.le_refl _) _).trans (hx.mono (by simp))
  replace hL := hL.below hx
  replace hb := hb.trans (hx.mono hb.size)
  clear hx c0 c1 c2 c3 c4 c5 c6 c7 cz
  obtain ⟨c0, c1, c2, c3, c4, c5, c6, c7, cz⟩ := kn.cells
  obtain ⟨d0, d1, f0, f1, dz⟩ := o1.two
  go_wp2_with fail
  clear o1 d0 d1 f0 f1 dz
  rw [rounds_succ]
  go_wp2_with fail
  have hc := kind2_at t (by omega) (w2.alloc (.cells #[.int .i64 3, .func (.func 42) #[] #[]] 65)) (hL.below ((Below.refl _ _).alloc (Nat.le_refl _) _)) H2.out
  rw [HS.out] at hc
  refine hc.mono ?_
  clear hc
  rintro e w3 ⟨rfl, hx⟩
  replace kn := (kn.alloc _).below hx
  have o2 := (Own.new w2 #[.int .i64 3, .func (.func 42) #[] #[]] 65).below hx
  replace hx := ((Below.refl _ w2).alloc (Nat.le_refl _) _).trans (hx.mono (by simp))
  replace hL := hL.below hx
  replace hb := hb.trans (hx.mono hb.size)
  clear hx c0 c1 c2 c3 c4 c5 c6 c7 cz
  obtain ⟨c0, c1, c2, c3, c4, c5, c6, c7, cz⟩ := kn.cells
  obtain ⟨d0, d1, f0, f1, dz⟩ := o2.two
  go_wp2_with fail
  clear o2 d0 d1 f0 f1 dz
  rw [rounds_succ]
  go_wp2_with fail
  have hc := kind3_at t (by omega) (w3.alloc (.cells #[.int .i64 4, .func (.func 45) #[] #[]] 65)) H3.out
  rw [HS.out] at hc
  refine hc.mono ?_
  clear hc
  rintro e w4 ⟨rfl, hx⟩
  replace kn := (kn.alloc _).below hx
  have o3 := (Own.new w3 #[.int .i64 4, .func (.func 45) #[] #[]] 65).below hx
  replace hx := ((Below.refl _ w3).alloc (Nat.le_refl _) _).trans (hx.mono (by simp))
  replace hL := hL.below hx
  replace hb := hb.trans (hx.mono hb.size)
  clear hx c0 c1 c2 c3 c4 c5 c6 c7 cz
  obtain ⟨c0, c1, c2, c3, c4, c5, c6, c7, cz⟩ := kn.cells
  obtain ⟨d0, d1, f0, f1, dz⟩ := o3.two
  go_wp2_with fail
  go_ret
  exact Ret.mk rfl hb

set_option maxHeartbeats 4000000 in
theorem kindOf_4 (t : List UInt8) (ht : t.length ≤ 400000) (a cap : Nat) (w : World) (hL : Lay w) (kn : Known w a) (h0 : nameB t = false) (h1 : numB t = false) (h2 : mnyB t = false) (h3 : sigB t = false) :
    Calls Tryd.prog 34 #[.slice (some ⟨a, 0, none⟩) 4 cap, .string ⟨t.toArray⟩] w (Ret (.int .i64 0) w) := by
  have H0 := Lib.hid h0
  clear h0
  have H1 := Lib.hid h1
  clear h1
  have H2 := Lib.hid h2
  clear h2
  have H3 := Lib.hid h3
  clear h3
  obtain ⟨S, hS⟩ : ∃ S, (⟨t.toArray⟩ : ByteArray) = S := ⟨_, rfl⟩
  have HS := Lib.hid hS
  rw [hS]
  clear hS
  have hb : Below w.heap.size w w := Below.refl _ _
  obtain ⟨c0, c1, c2, c3, c4, c5, c6, c7, cz⟩ := kn.cells
  go_enter Tryd.func34, Tryd.ntmps34
  go_wp2_with fail
  refine wp_loop_rounds 6 ?_
  rw [rounds_succ]
  go_wp2_with fail
  have hc := kind1_at t (by omega) (w.alloc (.cells #[.int .i64 1, .func (.func 39) #[] #[]] 65)) H0.out
  rw [HS.out] at hc
  refine hc.mono ?_
  clear hc
  rintro e w1 ⟨rfl, hx⟩
  replace kn := (kn.alloc _).below hx
  have o0 := (Own.new w #[.int .i64 1, .func (.func 39) #[] #[]] 65).below hx
  replace hx := ((Below.refl _ w).alloc (Nat.le_refl _) _).trans (hx.mono (by simp))
  replace hL := hL.below hx
  replace hb := hb.trans (hx.mono hb.size)
  clear hx c0 c1 c2 c3 c4 c5 c6 c7 cz
  obtain ⟨c0, c1, c2, c3, c4, c5, c6, c7, cz⟩ := kn.cells
  obtain ⟨d0, d1, f0, f1, dz⟩ := o0.two
  go_wp2_with fail
  clear o0 d0 d1 f0 f1 dz
  rw [rounds_succ]
  go_wp2_with fail
  have hc := isNumber_at t (by omega) (w1.alloc (.cells #[.int .i64 2, .func (.func 41) #[] #[]] 65)) H1.out
  rw [HS.out] at hc
  refine hc.mono ?_
  clear hc
  rintro e w2 ⟨rfl, hx⟩
  replace kn := (kn.alloc _).below hx
  have o1 := (Own.new w1 #[.int .i64 2, .func (.func 41) #[] #[]] 65).below hx
  replace hx := ((Below.refl _ w1).alloc (Nat.le_refl _) _).trans (hx.mono (by simp))
  replace hL := hL.below hx
  replace hb := hb.trans (hx.mono hb.size)
  clear hx c0 c1 c2 c3 c4 c5 c6 c7 cz
  obtain ⟨c0, c1, c2, c3, c4, c5, c6, c7, cz⟩ := kn.cells
  obtain ⟨d0, d1, f0, f1, dz⟩ := o1.two
  go_wp2_with fail
  clear o1 d0 d1 f0 f1 dz
  rw [rounds_succ]
  go_wp2_with fail
  have hc := kind2_at t (by omega) (w2.alloc (.cells #[.int .i64 3, .func (.func 42) #[] #[]] 65)) (hL.below ((Below.refl _ _).alloc (Nat.le_refl _) _)) H2.out
  rw [HS.out] at hc
  refine hc.mono ?_
  clear hc
  rintro e w3 ⟨rfl, hx⟩
  replace kn := (kn.alloc _).below hx
  have o2 := (Own.new w2 #[.int .i64 3, .func (.func 42) #[] #[]] 65).below hx
  replace hx := ((Below.refl _ w2).alloc (Nat.le_refl _) _).trans (hx.mono (by simp))
  replace hL := hL.below hx
  replace hb := hb.trans (hx.mono hb.size)
  clear hx c0 c1 c2 c3 c4 c5 c6 c7 cz
  obtain ⟨c0, c1, c2, c3, c4, c5, c6, c7, cz⟩ := kn.cells
  obtain ⟨d0, d1, f0, f1, dz⟩ := o2.two
  go_wp2_with fail
  clear o2 d0 d1 f0 f1 dz
  rw [rounds_succ]
  go_wp2_with fail
  have hc := kind3_at t (by omega) (w3.alloc (.cells #[.int .i64 4, .func (.func 45) #[] #[]] 65)) H3.out
  rw [HS.out] at hc
  refine hc.mono ?_
  clear hc
  rintro e w4 ⟨rfl, hx⟩
  replace kn := (kn.alloc _).below hx
  have o3 := (Own.new w3 #[.int .i64 4, .func (.func 45) #[] #[]] 65).below hx
  replace hx := ((Below.refl _ w3).alloc (Nat.le_refl _) _).trans (hx.mono (by simp))
  replace hL := hL.below hx
  replace hb := hb.trans (hx.mono hb.size)
  clear hx c0 c1 c2 c3 c4 c5 c6 c7 cz
  obtain ⟨c0, c1, c2, c3, c4, c5, c6, c7, cz⟩ := kn.cells
  obtain ⟨d0, d1, f0, f1, dz⟩ := o3.two
  go_wp2_with fail
  clear o3 d0 d1 f0 f1 dz
  rw [rounds_succ]
  go_wp2_with fail
  go_ret
  exact Ret.mk rfl hb

theorem kindOf_any (t : List UInt8) (ht : t.length ≤ 400000) (a cap : Nat) (w : World) (hL : Lay w) (kn : Known w a) :
    Calls Tryd.prog 34 #[.slice (some ⟨a, 0, none⟩) 4 cap, .string ⟨t.toArray⟩] w (Ret (.int .i64 (kindP t)) w) := by
  unfold kindP
  cases h0 : nameB t with
  | true => exact kindOf_0 t ht a cap w hL kn h0
  | false =>
  cases h1 : numB t with
  | true => exact kindOf_1 t ht a cap w hL kn h0 h1
  | false =>
  cases h2 : mnyB t with
  | true => exact kindOf_2 t ht a cap w hL kn h0 h1 h2
  | false =>
  cases h3 : sigB t with
  | true => exact kindOf_3 t ht a cap w hL kn h0 h1 h2 h3
  | false => exact kindOf_4 t ht a cap w hL kn h0 h1 h2 h3
end Go.Proofs.YtfnclecfldddeaaDoor
