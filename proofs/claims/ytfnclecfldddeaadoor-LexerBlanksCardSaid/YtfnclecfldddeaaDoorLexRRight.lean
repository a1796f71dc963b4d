/-
  The reference's Right.
-/
import Derived.Test.YtfnclecfldddeaaDoorLexSame
namespace Go.Proofs.YtfnclecfldddeaaDoor
open Go.RowKit Go.Shelf
set_option maxRecDepth 100000

theorem ladd_zero (a : Addr) : a.add 0 = a := by unfold Addr.add; split <;> simp_all
set_option maxHeartbeats 8000000 in
theorem rright_any (v : Value) (l : List RT) (w : World) (hT : Toks w v l) (ht : ∀ x ∈ l, x.t.length ≤ 1000000) : Calls Tryd.prog 15 #[v] w (Ret (.bool (canF l)) w) := by
  obtain ⟨ad, cap, rfl⟩ := hT.open
  have hsh := hT.short
  go_enter Tryd.func15, Tryd.ntmps15
  go_wp2_with fail
  go_loopw [3] (fun i wr => ∃ k : Nat, k ≤ l.length ∧ i = .int .i64 k ∧ 1 ≤ lineR l k ∧ rightR 1 l = rightR (lineR l k) (l.drop k) ∧ Below w.heap.size w wr) (fun i _ => l.length - (intOf i).toNat)
  case atStart => exact ⟨0, Nat.zero_le _, rfl, by simp [lineR], rfl, Below.refl _ _⟩
  case round =>
    obtain ⟨k, hk, rfl, hl1, hr, hbr⟩ := hrel
    have hHR := Lib.hid hr
    clear hr
    by_cases hkl : k < l.length
    · obtain ⟨a, rfl, c0, c1, c2, hab⟩ := hT.reads hbr (Nat.le_refl _) k hkl
      have htl := ht l[k] (List.getElem_mem hkl)
      have hls := line_succ hkl
      have hst := right_drop (L := lineR l k) hkl
      generalize l[k] = x at c0 c1 c2 htl hls hst
      obtain ⟨xk, xn, xt⟩ := x
      simp only at c0 c1 c2 htl hls hst
      have hkd := rkind_any xt htl
      obtain ⟨q, hq⟩ : ∃ q, kindF xt = q := ⟨_, rfl⟩
      rw [hq] at hst hkd
      have HLS := Lib.hid hls
      have HST := Lib.hid hst
      have HL1 := Lib.hid hl1
      clear hls hst hl1 hq
      by_cases hA : q = 0
      · have HF : Hid (canF l = false) := Lib.hid (by
          unfold canF; rw [hHR.out, HST.out]
          by_cases h0 : xk = 0
          · simp [h0]
          · have : decide (xk = ((q : Nat) : Int)) = false := by simp; omega
            rw [this]; simp)
        have hA' : (((q : Nat) : Int) == 0) = true := by rw [beq_iff_eq]; omega
        clear hA
        go_wp2_with fail
        refine (hkd _).mono ?_
        rintro e w' ⟨rfl, rfl⟩
        go_wp2_with fail
        go_quiet (fail)
        go_wp2_with fail
        go_ret
        exact Ret.mk (by rw [HF.out]; rfl) (belD (belB hbr _) _)
      have hA' : (((q : Nat) : Int) == 0) = false := by rw [beq_eq_false_iff_ne]; omega
      by_cases hB : (q : Int) = xk
      · have hB' : (((q : Nat) : Int) != xk) = false := by rw [bne_eq_false_iff_eq]; exact hB
        have HK : Hid ((decide (xk ≠ 0) && decide (xk = ((q : Nat) : Int))) = true) := Lib.hid (by simp; omega)
        by_cases hC : xn < 1
        · have HF : Hid (canF l = false) := Lib.hid (by
            unfold canF; rw [hHR.out, HST.out]
            have : decide (lineR l k ≤ xn) = false := by have := HL1.out; simp; omega
            rw [this]; simp)
          have hC' : decide (xn < 1) = true := by simpa using hC
          clear hC hA hB
          go_wp2_with fail
          refine (hkd _).mono ?_
          rintro e w' ⟨rfl, rfl⟩
          go_wp2_with fail
          go_quiet (fail)
          go_wp2_with fail
          go_ret
          exact Ret.mk (by rw [HF.out]; rfl) (belD (belB hbr _) _)
        have hC' : decide (xn < 1) = false := by simpa using hC
        cases k with
        | zero =>
          have hG : Hid (rightR 1 l = rightR (lineR l 1) (l.drop 1)) := Lib.hid (by
            rw [hHR.out, HST.out, HLS.out]
            have : decide (lineR l 0 ≤ xn) = true := by rw [decide_eq_true_eq]; show (1 : Int) ≤ xn; omega
            rw [this, Bool.true_and, HK.out, Bool.true_and])
          have h00 : decide (((0 : Nat) : Int) > 0) = false := rfl
          have h01 : decide ((0 : Int) < 0) = false := rfl
          have hn1 : 1 ≤ xn := by omega
          rw [Nat.zero_mul, ladd_zero] at c0 c1 c2
          clear hC hA hB
          go_wp2_with fail
          refine (hkd _).mono ?_
          rintro e w' ⟨rfl, rfl⟩
          go_wp2_with fail
          go_quiet (fail)
          go_wp2_with fail
          go_roundw
          case rel => exact ⟨1, by omega, rfl, by rw [HLS.out]; exact hn1, hG.out, belD (belB hbr _) _⟩
          case measure => simp [intOf]; omega
        | succ j =>
          obtain ⟨a', ha', p0, p1, p2, hpb⟩ := hT.reads hbr (Nat.le_refl _) j (by omega)
          cases ha'
          have hprev : lineR l (j + 1) = (l[j]'(by omega)).n := line_succ (by omega)
          generalize l[j]'(by omega) = y at p0 p1 p2 hprev
          obtain ⟨yk, yn, yt⟩ := y
          simp only at p0 p1 p2 hprev
          have HPV := Lib.hid hprev
          clear hprev
          have j1 : IntKind.i64.wrap ((j : Int) + 1 - 1) = (j : Int) := by rw [show (j : Int) + 1 - 1 = (j : Int) by omega]; exact IntWalk.i64_in _ (by omega)
          have j6 : IntKind.i64.wrap (j : Int) = (j : Int) := IntWalk.i64_in _ (by omega)
          have j2 : (0 : Int) ≤ (j : Int) := by omega
          have j3 : (j : Int) < (l.length : Int) := by omega
          have j4 : (j : Int).toNat = j := by omega
          have j5 : decide ((0 : Int) < (j : Int) + 1) = true := by rw [decide_eq_true_eq]; omega
          have j7 : (a.add (j * 3)).block < wr.heap.size := Nat.lt_of_lt_of_le hpb hbr.size
          by_cases hD : xn < yn
          · have HF : Hid (canF l = false) := Lib.hid (by
              unfold canF; rw [hHR.out, HST.out]
              have : decide (lineR l (j + 1) ≤ xn) = false := by rw [HPV.out]; simpa using hD
              rw [this]; simp)
            have hD' : decide (xn < yn) = true := by simpa using hD
            clear hC hA hB hD
            go_wp2_with fail
            refine (hkd _).mono ?_
            rintro e w' ⟨rfl, rfl⟩
            go_wp2_with fail
            go_quiet (fail)
            go_wp2_with fail
            go_ret
            exact Ret.mk (by rw [HF.out]; rfl) (belD (belB hbr _) _)
          · have hD' : decide (xn < yn) = false := by simpa using hD
            have hG : Hid (rightR 1 l = rightR (lineR l (j + 1 + 1)) (l.drop (j + 1 + 1))) := Lib.hid (by
              rw [hHR.out, HST.out, HLS.out]
              have : decide (lineR l (j + 1) ≤ xn) = true := by rw [HPV.out]; simp; omega
              rw [this, Bool.true_and, HK.out, Bool.true_and])
            have hn1 : 1 ≤ xn := by omega
            clear hC hA hB hD
            go_wp2_with fail
            refine (hkd _).mono ?_
            rintro e w' ⟨rfl, rfl⟩
            go_wp2_with fail
            go_quiet (fail)
            go_wp2_with fail
            go_roundw
            case rel => exact ⟨j + 1 + 1, by omega, by go_num, by rw [HLS.out]; exact hn1, hG.out, belD (belB hbr _) _⟩
            case measure => simp [intOf]; omega
      · have hB' : (((q : Nat) : Int) != xk) = true := by rw [bne_iff_ne]; exact hB
        have HF : Hid (canF l = false) := Lib.hid (by
          unfold canF; rw [hHR.out, HST.out]
          have : decide (xk = ((q : Nat) : Int)) = false := by simp; omega
          rw [this]; simp)
        clear hA hB
        go_wp2_with fail
        refine (hkd _).mono ?_
        rintro e w' ⟨rfl, rfl⟩
        go_wp2_with fail
        go_quiet (fail)
        go_wp2_with fail
        go_ret
        exact Ret.mk (by rw [HF.out]; rfl) (belD (belB hbr _) _)
    · have hk2 : k = l.length := by omega
      have HF : Hid (canF l = decide (l.length ≤ 5000)) := Lib.hid (by unfold canF; rw [hHR.out, hk2, List.drop_of_length_le (Nat.le_refl _)]; simp [rightR])
      have hle : l.length ≤ k := by omega
      clear hk2 hkl
      go_wp2_with fail
      go_ret
      exact Ret.mk (by rw [HF.out]; show Value.bool _ = Value.bool _; congr 1; rw [Bool.eq_iff_iff]; simp; try omega) hbr
end Go.Proofs.YtfnclecfldddeaaDoor
