/-
  Two tokens compared; the reference's Same.
-/
import Derived.Test.YtfnclecfldddeaaDoorLexRTok
import Derived.Laws.StructEq
import Derived.Deep.QuietTactic
import Derived.BigQuiet
namespace Go.Proofs.YtfnclecfldddeaaDoor
open Go.RowKit Go.Shelf
set_option maxRecDepth 100000

theorem tok_held : Tryd.prog.stoodInHeld 36 = false := by kernel_rfl
theorem neq_tok (a b c d : Int) (x y : ByteArray) (w : World) : (binOp .neq 36 (.agg #[.int .i64 a, .int .i64 b, .string x]) (.agg #[.int .i64 c, .int .i64 d, .string y])).run Tryd.prog w = .ok (.bool (!(a == c && b == d && x.toList == y.toList))) w := by
  have hu : Tryd.prog.underlying 36 = some (.struct (Tryd.prog.fieldsOf 36)) := by kernel_rfl
  simp only [binOp]
  by_cases h1 : a = c <;> by_cases h2 : b = d <;> by_cases h3 : x.toList = y.toList <;> simp [Op.equal, Op.maxDepth, run_equalIn_struct _ _ _ _ _ hu tok_held, Op.eqFields, go_sem, h1, h2, h3]
theorem neq_rt (x y : RT) (w : World) : (binOp .neq 36 (.agg #[.int .i64 x.k, .int .i64 x.n, .string ⟨x.t.toArray⟩]) (.agg #[.int .i64 y.k, .int .i64 y.n, .string ⟨y.t.toArray⟩])).run Tryd.prog w = .ok (.bool (!decide (x = y))) w := by
  rw [neq_tok, Lib.toList_data, Lib.toList_data]
  congr 3
  rw [Bool.eq_iff_iff]
  obtain ⟨a, b, c⟩ := x
  obtain ⟨d, e, f⟩ := y
  simp [and_assoc]

set_option maxHeartbeats 4000000 in
theorem rsame_any (va vb : Value) (a b : List RT) (w : World) (ha : Toks w va a) (hb : Toks w vb b) : Calls Tryd.prog 12 #[va, vb] w (Ret (.bool (decide (a = b))) w) := by
  obtain ⟨ada, capa, rfl⟩ := ha.open
  obtain ⟨adb, capb, rfl⟩ := hb.open
  have hsa := ha.short
  have hsb := hb.short
  by_cases hl : a.length = b.length
  · have hl' : (((a.length : Nat) : Int) != ((b.length : Nat) : Int)) = false := by rw [bne_eq_false_iff_eq]; omega
    have hl2 : (a.length != b.length) = false := by rw [bne_eq_false_iff_eq]; exact hl
    have HL := Lib.hid hl
    clear hl
    go_enter Tryd.func12, Tryd.ntmps12
    go_wp2_with fail
    go_loopw [5] (fun i wr => ∃ k : Nat, k ≤ a.length ∧ i = .int .i64 k ∧ a.take k = b.take k ∧ Below w.heap.size w wr) (fun i _ => a.length - (intOf i).toNat)
    case atStart => exact ⟨0, Nat.zero_le _, rfl, rfl, Below.refl _ _⟩
    case round =>
      obtain ⟨k, hk, rfl, htk, hbr⟩ := hrel
      by_cases hka : k < a.length
      · have hkb : k < b.length := by rw [← HL.out]; exact hka
        obtain ⟨aa, rfl, c0, c1, c2, hab⟩ := ha.reads hbr (Nat.le_refl _) k hka
        obtain ⟨bb, rfl, d0, d1, d2, hbb⟩ := hb.reads hbr (Nat.le_refl _) k hkb
        have hne := fun w => neq_rt a[k] b[k] w
        have hstep : a[k] = b[k] → a.take (k + 1) = b.take (k + 1) := fun h => by
          rw [List.take_succ_eq_append_getElem hka, List.take_succ_eq_append_getElem hkb, htk, h]
        have hstop : a[k] ≠ b[k] → a ≠ b := fun h e => h (by subst e; rfl)
        have hST := Lib.hid hstep
        have hSP := Lib.hid hstop
        clear hstep hstop htk
        generalize a[k] = x at *
        generalize b[k] = y at *
        obtain ⟨xk, xn, xt⟩ := x
        obtain ⟨yk, yn, yt⟩ := y
        simp only at c0 c1 c2 d0 d1 d2 hne
        by_cases he : (⟨xk, xn, xt⟩ : RT) = ⟨yk, yn, yt⟩
        · have HST2 := Lib.hid (hST.out he)
          rw [show decide ((⟨xk, xn, xt⟩ : RT) = ⟨yk, yn, yt⟩) = true by simpa using he] at hne
          simp only [Bool.not_true] at hne
          clear he hST hSP
          go_wp2_with fail
          go_quiet (fail)
          go_wp2_with fail
          go_roundw
          case rel => exact ⟨k + 1, by omega, by go_num, HST2.out, belD hbr _⟩
          case measure => simp [intOf]; omega
        · have HSP2 : Hid (decide (a = b) = false) := Lib.hid (by rw [decide_eq_false_iff_not]; exact hSP.out he)
          rw [show decide ((⟨xk, xn, xt⟩ : RT) = ⟨yk, yn, yt⟩) = false by simpa using he] at hne
          simp only [Bool.not_false] at hne
          clear he hST hSP
          go_wp2_with fail
          go_quiet (fail)
          go_wp2_with fail
          go_ret
          exact Ret.mk (by rw [HSP2.out]; rfl) (belD hbr _)
      · have HE : Hid (decide (a = b) = true) := Lib.hid (by
          rw [List.take_of_length_le (by omega), List.take_of_length_le (by have := HL.out; omega)] at htk
          simpa using htk)
        have hka' : a.length ≤ k := by omega
        clear htk hka
        go_wp2_with fail
        go_ret
        exact Ret.mk (by rw [HE.out]; rfl) hbr
  · have hl' : (((a.length : Nat) : Int) != ((b.length : Nat) : Int)) = true := by rw [bne_iff_ne]; omega
    have hl2 : (a.length != b.length) = true := by rw [bne_iff_ne]; exact hl
    have HE : Hid (decide (a = b) = false) := Lib.hid (by rw [decide_eq_false_iff_not]; exact fun e => hl (by rw [e]))
    clear hl
    go_enter Tryd.func12, Tryd.ntmps12
    go_wp2_with fail
    go_ret
    exact Ret.mk (by rw [HE.out]; rfl) (Below.refl _ _)
end Go.Proofs.YtfnclecfldddeaaDoor
