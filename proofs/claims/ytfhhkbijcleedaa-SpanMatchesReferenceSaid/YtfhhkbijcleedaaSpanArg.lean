/-
  An argument that is a slice of spans: what it reads.
-/
import Derived.Test.YtfhhkbijcleedaaSpanMath
import Derived.Deep.SlicePairs
import Derived.SizedLaws
namespace Go.Proofs.Ytfhhkbijcleedaa
open Go.ChangeShapes Go.WideShapes Go.RowKit Go.Deep

theorem block_lt {w : World} {a : Addr} {v : Value} (h : w.cell? a = some v) : a.block < w.heap.size := by
  unfold World.cell? at h
  rcases Nat.lt_or_ge a.block w.heap.size with hl | hg
  · exact hl
  · rw [Array.getElem?_eq_none hg] at h; cases h

theorem spans_of_trod {H : Type} {enc : TypeId × Value → H} {W : World} {base : Nat} {held : Bool} {p : Option Addr} {n c : Nat} {d : DataW H} {ps : List MemPlace}
    (h : DataW.Trod enc Try.prog W base (fun _ => true) held 22 (.slice p n c) d ps) (hsz : ∀ (el sp : List (DataW H)), d = .slice el sp → (el.length + sp.length) * Try.prog.bytesOf 42 ≤ reachBytes) :
    ∃ l, Spans W (.slice p n c) l := by
  obtain ⟨fuel, hf⟩ := h
  have hb : Try.prog.bytesOf 42 = 16 := by kernel_rfl
  rw [hb] at hsz
  rcases open_slice_pairs Try.underlying22 Try.underlying42 (by kernel_rfl) rfl rfl (by kernel_rfl) (by kernel_rfl) hf with ⟨hcs, _⟩ | ⟨a, len, cap, m, k, V0, V1, D0, D1, P0, P1, hcs, hbl, hlc, hcm, hm, hx, hall⟩
  · simp [Value.cells] at hcs
    obtain ⟨rfl, rfl, rfl⟩ := hcs
    exact ⟨[], ⟨_, _, rfl⟩, fun _ _ _ _ i hi => by simp at hi, fun s hs => (by cases hs), by simp⟩
  · simp [Value.cells] at hcs
    obtain ⟨rfl, rfl, rfl⟩ := hcs
    simp only [if_true] at hm
    subst hm
    have hd : d = .slice ((List.range n).map fun i => .agg [D0 i, D1 i]) ((List.range (m - n)).map fun j => .agg [D0 (n + j), D1 (n + j)]) := congrArg Prod.fst hx
    have hlen := hsz _ _ hd
    simp only [List.length_map, List.length_range, reachBytes] at hlen
    have hint : ∀ i, i < n → ∃ x y : Int, V0 i = .int .i64 x ∧ V1 i = .int .i64 y ∧ I64 x ∧ I64 y := by
      intro i hi
      obtain ⟨_, _, g0, g1⟩ := hall i (by omega)
      obtain ⟨x, e0, _, wx⟩ := DataW.trod_int Try.underlying3 g0
      obtain ⟨y, e1, _, wy⟩ := DataW.trod_int Try.underlying3 g1
      simp only [Lit.wf, Bool.and_eq_true, decide_eq_true_eq] at wx wy
      exact ⟨x, y, by simpa using e0, by simpa using e1, wx, wy⟩
    let X : Nat → Sp := fun i => ((match V0 i with | .int _ x => x | _ => 0), (match V1 i with | .int _ x => x | _ => 0))
    have hX : ∀ i, i < n → V0 i = .int .i64 (X i).1 ∧ V1 i = .int .i64 (X i).2 ∧ I64 (X i).1 ∧ I64 (X i).2 := by
      intro i hi
      obtain ⟨x, y, e0, e1, wx, wy⟩ := hint i hi
      simp only [X, e0, e1]
      exact ⟨trivial, trivial, wx, wy⟩
    refine ⟨(List.range n).map X, ⟨some a, m, by simp⟩, fun ad n' cap' e i hi => ?_, fun s hs => ?_, by simp; omega⟩
    · cases e
      have hi' : i < n := by simpa using hi
      obtain ⟨g0, g1, _, _⟩ := hall i (by omega)
      obtain ⟨e0, e1, _, _⟩ := hX i hi'
      have hbk := block_lt g0
      rw [blk_add] at hbk
      refine ⟨a, rfl, hbk, ?_, ?_⟩
      · rw [g0, e0]; simp
      · rw [g1, e1]; simp
    · simp only [List.mem_map, List.mem_range] at hs
      obtain ⟨i, hi, rfl⟩ := hs
      exact ⟨(hX i hi).2.2.1, (hX i hi).2.2.2⟩

/-! ### what the laws call -/
def usb (a b : List Sp) : Bool := decide (a.length + b.length ≤ 60) && (valid a && valid b)
set_option maxHeartbeats 1000000 in
theorem usable_any (va vb : Value) (a b : List Sp) (w : World) (ha : Spans w va a) (hb0 : Spans w vb b) : Calls Try.prog 26 #[va, vb] w (Ret (.bool (usb a b)) w) := by
  have hv1 := refValid_any va a w ha
  have hla := ha.short
  have hlb := hb0.short
  obtain ⟨ada, capa, rfl⟩ := ha.shape
  obtain ⟨adb, capb, rfl⟩ := hb0.shape
  by_cases h60 : a.length + b.length ≤ 60
  · cases hva : valid a with
    | false =>
      rw [hva] at hv1
      have hu : usb a b = false := by simp [usb, hva]
      rw [hu]
      clear ha hb0
      go_enter Try.func26, Try.ntmps26
      go_wp2_with (go_at_call 12; refine hv1.mono ?_; rintro e w1 ⟨rfl, hx⟩)
      go_ret
      exact Ret.mk rfl hx
    | true =>
      rw [hva] at hv1
      have hu : usb a b = valid b := by simp [usb, hva, h60]
      rw [hu]
      go_enter Try.func26, Try.ntmps26
      go_wp2_with fail
      refine hv1.mono ?_
      rintro e w1 ⟨rfl, hx⟩
      have hv2 := refValid_any _ b w1 (hb0.below hx)
      clear ha hb0
      go_wp2_with fail
      refine hv2.mono ?_
      rintro e w2 ⟨rfl, hx2⟩
      replace hx2 := hx.trans (hx2.mono hx.size)
      go_wp2_with fail
      go_ret
      exact Ret.mk (by simp) hx2
  · have hu : usb a b = false := by simp [usb, h60]
    rw [hu]
    clear ha hb0
    go_enter Try.func26, Try.ntmps26
    go_wp2_with fail
    go_ret
    exact Ret.mk rfl (by (repeat (first | exact Below.refl _ _ | assumption | refine Below.drew ?_ | refine below_drewN ?_ _ | refine Below.setCell ?_ (by first | omega | (simp <;> omega)) _ | refine Below.alloc ?_ (by first | omega | (simp <;> omega)) _)))

/-- a set of at most k spans -/
structure Ok (a : List Sp) (k : Nat) : Prop where
  inc : okFrom (-1) a = true
  len : a.length ≤ k
theorem Ok.bd {a : List Sp} {k : Nat} (h : Ok a k) : Bd a := fun s hs => by
  have := okFrom_all a _ h.inc s hs; simp [wf] at this; omega
theorem Ok.val {a : List Sp} {k : Nat} (h : Ok a k) (hk : k ≤ 1000) : valid a = true := by
  have := h.len; simp [valid, h.inc]; omega
theorem usb_ok {a b : List Sp} (h : usb a b = true) : Ok a a.length ∧ Ok b b.length ∧ a.length + b.length ≤ 60 := by
  simp only [usb, Bool.and_eq_true, decide_eq_true_eq, valid] at h
  exact ⟨⟨h.2.1.2, Nat.le_refl _⟩, ⟨h.2.2.2, Nat.le_refl _⟩, h.1⟩
theorem Ok.cmb {a b : List Sp} {k m : Nat} (f : Bool → Bool → Bool) (hf : f false false = false) (ha : Ok a k) (hb : Ok b m) : Ok (combL f a b) (2 * k + 2 * m) :=
  ⟨(combL_ok f hf a b ha.bd hb.bd).1, by have := combL_len f a b; have := ha.len; have := hb.len; omega⟩
theorem Ok.hs {a b : List Sp} {k m : Nat} (f : Bool → Bool → Bool) (hf : f false false = false) (ha : Ok a k) (hb : Ok b m) (n : Int) : has (combL f a b) n = f (has a n) (has b n) := (combL_ok f hf a b ha.bd hb.bd).2 n
theorem Ok.ext {a b : List Sp} {k m : Nat} (ha : Ok a k) (hb : Ok b m) (h : ∀ n, has a n = has b n) : a = b := set_ext a b _ _ ha.inc hb.inc h
theorem comb_ok {a b : List Sp} {k m : Nat} (f : Bool → Bool → Bool) (ha : Ok a k) (hb : Ok b m) (hk : 2 * k + 2 * m ≤ 1000) : comb f a b = (combL f a b, 0) := by
  have h1 := combL_len f a b
  have h2 := ha.len
  have h3 := hb.len
  unfold comb
  rw [ha.val (by omega), hb.val (by omega), if_pos (by rfl), if_neg (by omega)]

abbrev UN (a b : List Sp) : List Sp := combL (· || ·) a b
abbrev ME (a b : List Sp) : List Sp := combL (· && ·) a b
abbrev LE (a b : List Sp) : List Sp := combL (fun x y => x && !y) a b
section
variable {va vb : Value} {a b : List Sp} {k m : Nat} {w : World} (ha : Spans w va a) (hb : Spans w vb b) (oa : Ok a k) (ob : Ok b m) (hk : 2 * k + 2 * m ≤ 1000)
include ha hb oa ob hk
theorem un_any : Calls Try.prog 13 #[va, vb] w fun e w' => ∃ v', e = .returned (.tuple #[v', .int .i64 0]) ∧ Spans w' v' (UN a b) ∧ Below w.heap.size w w' := by
  have h := union_any va vb a b w ha hb; rw [comb_ok _ oa ob hk] at h; exact h
theorem me_any : Calls Try.prog 16 #[va, vb] w fun e w' => ∃ v', e = .returned (.tuple #[v', .int .i64 0]) ∧ Spans w' v' (ME a b) ∧ Below w.heap.size w w' := by
  have h := meet_any va vb a b w ha hb; rw [comb_ok _ oa ob hk] at h; exact h
theorem le_any : Calls Try.prog 18 #[va, vb] w fun e w' => ∃ v', e = .returned (.tuple #[v', .int .i64 0]) ∧ Spans w' v' (LE a b) ∧ Below w.heap.size w w' := by
  have h := less_any va vb a b w ha hb; rw [comb_ok _ oa ob hk] at h; exact h
end
theorem okv_any {v : Value} {l : List Sp} {k : Nat} {w : World} (h : Spans w v l) (o : Ok l k) (hk : k ≤ 1000) : Calls Try.prog 11 #[v] w (Ret (.bool true) w) := by
  have := valid_any v l w h; rwa [o.val hk] at this
theorem okc_any {v : Value} {l : List Sp} {k : Nat} {w : World} (h : Spans w v l) (o : Ok l k) (hk : k ≤ 1000) : Calls Try.prog 20 #[v] w (Ret (.tuple #[.int .i64 (cnt l), .int .i64 0]) w) := by
  have := count_any v l w h; rwa [show cntF l = (cnt l, 0) by simp [cntF, o.val hk]] at this
end Go.Proofs.Ytfhhkbijcleedaa
