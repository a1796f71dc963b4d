/-
  The walk of LexerBlanks.
-/
import Derived.Test.YtfnclecfldddeaaDoorLexCalls
namespace Go.Proofs.YtfnclecfldddeaaDoor
open Go.RowKit Go.Shelf
set_option maxRecDepth 100000

theorem flatI {v : Value} {l m : List RT} (h : l.map flatR = m) (w : World) (hT : Toks w v l) (hl : l.length ≤ 5000) : Calls Tryd.prog 16 #[v] w (fun e w' => ∃ u, e = .returned u ∧ Toks w' u m ∧ Below w.heap.size w w') := by
  subst h; exact flat_any v l w hT hl

set_option maxHeartbeats 1000000 in
theorem walkLB_long (s : List UInt8) (q : Int) (r : Bool) (w : World) (hL : Lay w) (_hq : 0 ≤ q ∧ q ≤ 255) (hl : 1000 < s.length) : Calls Tryd.prog 5 #[.string ⟨s.toArray⟩, .int .u8 q, .bool r] w (Ret (.bool true) w) := by
  have hsz : (⟨s.toArray⟩ : ByteArray).size = s.length := by simp [ByteArray.size]
  have hH : ∀ wk, Below w.heap.size w wk → Calls Tryd.prog 8 #[] wk (Ret (.bool true) wk) := fun wk h => lhead_any wk (hL.below h)
  have q0 : decide (1000 < (s.length : Int)) = true := by rw [decide_eq_true_iff]; omega
  clear hL
  go_enter Tryd.func5, Tryd.ntmps5
  go_wp2_with fail
  have hb0 : Below w.heap.size w w := Below.refl _ _
  refine (hH _ hb0).mono ?_
  rintro e w1 ⟨rfl, hc1⟩
  have hb1 := belT hb0 hc1
  clear hb0 hc1
  go_wp2_with fail
  go_ret
  exact Ret.mk (rfl) hb1

set_option maxHeartbeats 4000000 in
theorem walkLB_main (s : List UInt8) (q : Int) (r : Bool) (w : World) (hL : Lay w) (hq : 0 ≤ q ∧ q ≤ 255) (hl : ¬ 1000 < s.length) : Calls Tryd.prog 5 #[.string ⟨s.toArray⟩, .int .u8 q, .bool r] w (Ret (.bool true) w) := by
  have hsz : (⟨s.toArray⟩ : ByteArray).size = s.length := by simp [ByteArray.size]
  have hH : ∀ wk, Below w.heap.size w wk → Calls Tryd.prog 8 #[] wk (Ret (.bool true) wk) := fun wk h => lhead_any wk (hL.below h)
  have q0 : decide (1000 < (s.length : Int)) = false := by rw [decide_eq_false_iff_not]; omega
  obtain ⟨m, hm⟩ : ∃ m : Nat, m = (q % 4).toNat := ⟨_, rfl⟩
  have hrem : q.tmod 4 = (m : Int) := by rw [Int.tmod_eq_emod_of_nonneg hq.1]; omega
  have hm3 : m ≤ 3 := by omega
  have hcut : ∀ p n, (⟨s.toArray⟩ : ByteArray).extract p (p + n) = ⟨((s.drop p).take n).toArray⟩ := fun p n => by rw [bext, List.drop_take]; congr 3; omega
  have hs1 : s.length ≤ 1000 := by omega
  have hbl := blanks_long r hs1
  have hbw := blanks_wide hs1 hm3
  have hca := tok_count s
  have hcc := tok_count (longF r false s)
  obtain ⟨A, E, N, hA⟩ : ∃ (A : List RT) (E N : Nat), (tokP s).1.map Tok.rt = A ∧ (tokP s).2.1 = E ∧ (tokP s).2.2 = N := ⟨_, _, _, rfl, rfl, rfl⟩
  obtain ⟨C, M, hC⟩ : ∃ (C : List RT) (M : Nat), (tokP (longF r false s)).1.map Tok.rt = C ∧ (tokP (longF r false s)).2.1 = E ∧ (tokP (longF r false s)).2.2 = M := ⟨_, _, rfl, by rw [← hbl.1]; exact hA.2.1, rfl⟩
  have hAC : C.map flatR = A.map flatR := by rw [← hA.1, ← hC.1]; exact hbl.2.symm
  have hAl : A.length ≤ 5000 := by rw [← hA.1, List.length_map]; exact hca
  have hCl : C.length ≤ 5000 := by rw [← hC.1, List.length_map]; exact hcc
  have hTs : ∀ wk, Below w.heap.size w wk → Calls Tryd.prog 10 #[.string ⟨s.toArray⟩] wk (TokI A E N wk) := fun wk h => tokI hA wk (hL.below h)
  have hTw : ∀ wk, Below w.heap.size w wk → Calls Tryd.prog 10 #[.string ⟨(wideF m s).toArray⟩] wk (TokI A E N wk) := fun wk h => tokI (by rw [hbw]; exact hA) wk (hL.below h)
  have hTl : ∀ wk, Below w.heap.size w wk → Calls Tryd.prog 10 #[.string ⟨(longF r false s).toArray⟩] wk (TokI C E M wk) := fun wk h => tokI hC wk (hL.below h)
  generalize (⟨s.toArray⟩ : ByteArray) = S at *
  have hz2 : S.size ≤ 1000 := by omega
  have HZ := Lib.hid hsz
  have HCUT := Lib.hid hcut
  have HTW := Lib.hid hTw
  have HTL := Lib.hid hTl
  clear hL hA hC hbl hbw hca hcc hm hcut hTw hTl
  obtain ⟨hq0, hq1⟩ := hq
  go_enter Tryd.func5, Tryd.ntmps5
  go_wp2_with fail
  have hb0 : Below w.heap.size w w := Below.refl _ _
  refine (hH _ hb0).mono ?_
  rintro e w1 ⟨rfl, hc1⟩
  have hb1 := belT hb0 hc1
  clear hb0 hc1
  go_wp2_with fail
  go_loop [8, 9, 10, 11] (fun wd lg ins i => ∃ (k : Nat) (b : Bool) (Wd Lg : List UInt8), k ≤ s.length ∧ i = .int .i64 k ∧ ins = .bool b ∧ wd = .string ⟨Wd.toArray⟩ ∧ lg = .string ⟨Lg.toArray⟩ ∧ Wd.length ≤ 4 * k ∧ Lg.length ≤ 8 * k ∧ wideF m s = Wd ++ wideF m (s.drop k) ∧ longF r false s = Lg ++ longF r b (s.drop k)) (fun _ _ _ i => s.length - (intOf i).toNat)
  case atStart => exact ⟨0, false, [], [], Nat.zero_le _, rfl, rfl, rfl, rfl, by simp, by simp, rfl, rfl⟩
  case round =>
    obtain ⟨k, b, Wd, Lg, hk, rfl, rfl, rfl, rfl, hWk, hLk, hW, hG⟩ := hrel
    have HW := Lib.hid hW
    have HLo := Lib.hid hG
    have hWz := bsz Wd
    have hLz := bsz Lg
    clear hW hG
    by_cases hkl : k < s.length
    · have hlt : k < S.size := by rw [HZ.out]; exact hkl
      obtain ⟨c, hc⟩ : ∃ c, s[k]? = some c := ⟨_, List.getElem?_eq_getElem hkl⟩
      have hdc : s.drop k = c :: s.drop (k + 1) := by
        rw [List.drop_eq_getElem_cons hkl]
        rw [List.getElem?_eq_getElem hkl] at hc; rw [Option.some.inj hc]
      have hsl := HCUT.out k 1
      rw [hdc] at hsl
      have hsl2 : S.extract k (k + 1) = ⟨[c].toArray⟩ := hsl
      obtain ⟨V, hV⟩ : ∃ V, Wd ++ [c] = V := ⟨_, rfl⟩
      obtain ⟨Y, hY⟩ : ∃ Y, Lg ++ [c] = Y := ⟨_, rfl⟩
      have hcw := bapp Wd [c]
      have hcl := bapp Lg [c]
      rw [hV] at hcw
      rw [hY] at hcl
      have hVz : (⟨V.toArray⟩ : ByteArray).size = Wd.length + 1 := by rw [bsz, ← hV]; simp
      have hYl : Y.length = Lg.length + 1 := by rw [← hY]; simp
      have hVl : V.length = Wd.length + 1 := by rw [← hV]; simp
      have HV := Lib.hid hV
      have HY := Lib.hid hY
      have hnn : ((k : Int) + 1).toNat = k + 1 := by omega
      have hk1 : k + 1 ≤ S.size := by omega
      have HDC := Lib.hid hdc
      clear hdc hsl hc hV hY
      by_cases h35 : c = 35
      · subst h35
        cases b with
        | true =>
          have HNW : Hid (wideF m s = V ++ wideF m (s.drop (k + 1))) := Lib.hid (by rw [HW.out, HDC.out, wide_cons, if_neg (by decide), ← HV.out, List.append_assoc]; rfl)
          have HNL : Hid (longF r false s = Y ++ longF r true (s.drop (k + 1))) := Lib.hid (by rw [HLo.out, HDC.out, long_cons, if_pos (.inl (by decide)), ← HY.out, List.append_assoc]; rfl)
          go_wp2_with fail
          go_round
          case rel => exact ⟨k + 1, true, V, Y, by omega, by go_num, rfl, rfl, rfl, by omega, by omega, HNW.out, HNL.out⟩
          case measure => simp [intOf]; omega
        | false =>
          have HNW : Hid (wideF m s = V ++ wideF m (s.drop (k + 1))) := Lib.hid (by rw [HW.out, HDC.out, wide_cons, if_neg (by decide), ← HV.out, List.append_assoc]; rfl)
          have HNL : Hid (longF r false s = Y ++ longF r true (s.drop (k + 1))) := Lib.hid (by rw [HLo.out, HDC.out, long_cons, if_pos (.inl (by decide)), ← HY.out, List.append_assoc]; rfl)
          go_wp2_with fail
          go_round
          case rel => exact ⟨k + 1, true, V, Y, by omega, by go_num, rfl, rfl, rfl, by omega, by omega, HNW.out, HNL.out⟩
          case measure => simp [intOf]; omega
      by_cases hno : c ≠ 10 ∧ c ≠ 32
      · obtain ⟨h10, h32⟩ := hno
        have e35 : (c == 35) = false := by rw [beq_eq_false_iff_ne]; exact h35
        have e10 : (c == 10) = false := by rw [beq_eq_false_iff_ne]; exact h10
        have e32 : (c == 32) = false := by rw [beq_eq_false_iff_ne]; exact h32
        have hbb : ((b || c == 35) && c != 10) = b := by rw [bne, e35, e10]; simp
        have HNW : Hid (wideF m s = V ++ wideF m (s.drop (k + 1))) := Lib.hid (by rw [HW.out, HDC.out, wide_cons, if_neg (by simp [h10, h32]), ← HV.out, List.append_assoc]; rfl)
        have HNL : Hid (longF r false s = Y ++ longF r b (s.drop (k + 1))) := Lib.hid (by rw [HLo.out, HDC.out, long_cons, if_pos (.inl h32), hbb, ← HY.out, List.append_assoc]; rfl)
        clear h10 h32 h35 hbb
        cases b with
        | true =>
          go_wp2_with fail
          go_round
          case rel => exact ⟨k + 1, true, V, Y, by omega, by go_num, rfl, rfl, rfl, by omega, by omega, HNW.out, HNL.out⟩
          case measure => simp [intOf]; omega
        | false =>
          go_wp2_with fail
          go_round
          case rel => exact ⟨k + 1, false, V, Y, by omega, by go_num, rfl, rfl, rfl, by omega, by omega, HNW.out, HNL.out⟩
          case measure => simp [intOf]; omega
      by_cases h10 : c = 10
      · subst h10
        clear hno h35
        cases b with
        | true =>
          have HNW : Hid (wideF m s = (V ++ List.replicate m 32) ++ wideF m (s.drop (k + 1))) := Lib.hid (by rw [HW.out, HDC.out, wide_cons, if_pos (by decide), ← HV.out]; simp)
          have HNL : Hid (longF r false s = Y ++ longF r false (s.drop (k + 1))) := Lib.hid (by rw [HLo.out, HDC.out, long_cons, if_pos (.inl (by decide)), ← HY.out, List.append_assoc]; rfl)
          go_wp2_with fail
          go_loop [8, 59] (fun wd j => ∃ (jj : Nat) (Z : List UInt8), jj ≤ m ∧ j = .int .i64 jj ∧ wd = .string ⟨Z.toArray⟩ ∧ Z = V ++ List.replicate jj 32) (fun _ j => m - (intOf j).toNat)
          case atStart => exact ⟨0, V, Nat.zero_le _, rfl, rfl, by simp⟩
          case round =>
            obtain ⟨jj, Z, hj, rfl, rfl, hZ⟩ := hrel
            have hZl : Z.length = V.length + jj := by rw [hZ]; simp
            have hZz := bsz Z
            have HZe := Lib.hid hZ
            clear hZ
            by_cases hjm : jj < m
            · obtain ⟨Z2, hZ2⟩ : ∃ Z2, Z ++ [32] = Z2 := ⟨_, rfl⟩
              have hcz := bapp Z [32]
              rw [hZ2] at hcz
              have HZ2 : Hid (Z2 = V ++ List.replicate (jj + 1) 32) := Lib.hid (by rw [← hZ2, HZe.out, List.append_assoc]; congr 1; exact (List.replicate_succ' (n := jj) (a := (32 : UInt8))).symm)
              clear hZ2
              go_wp2_with fail
              go_round
              case rel => exact ⟨jj + 1, Z2, by omega, by go_num, rfl, HZ2.out⟩
              case measure => simp [intOf]; omega
            · obtain rfl : jj = m := by omega
              have HNW2 : Hid (wideF jj s = Z ++ wideF jj (s.drop (k + 1))) := Lib.hid (by rw [HNW.out, HZe.out])
              go_wp2_with fail
              go_round
              case rel =>
                first
                | exact ⟨k + 1, false, Z, Y, by omega, by go_num, rfl, rfl, rfl, by omega, by omega, HNW2.out, HNL.out⟩
                | (repeat apply Exists.intro); exact ⟨⟨k + 1, false, Z, Y, by omega, by go_num, rfl, rfl, rfl, by omega, by omega, HNW2.out, HNL.out⟩, rfl⟩
              case measure => simp [intOf]; omega
        | false =>
          have HNW : Hid (wideF m s = (V ++ List.replicate m 32) ++ wideF m (s.drop (k + 1))) := Lib.hid (by rw [HW.out, HDC.out, wide_cons, if_pos (by decide), ← HV.out]; simp)
          have HNL : Hid (longF r false s = Y ++ longF r false (s.drop (k + 1))) := Lib.hid (by rw [HLo.out, HDC.out, long_cons, if_pos (.inl (by decide)), ← HY.out, List.append_assoc]; rfl)
          go_wp2_with fail
          go_loop [8, 59] (fun wd j => ∃ (jj : Nat) (Z : List UInt8), jj ≤ m ∧ j = .int .i64 jj ∧ wd = .string ⟨Z.toArray⟩ ∧ Z = V ++ List.replicate jj 32) (fun _ j => m - (intOf j).toNat)
          case atStart => exact ⟨0, V, Nat.zero_le _, rfl, rfl, by simp⟩
          case round =>
            obtain ⟨jj, Z, hj, rfl, rfl, hZ⟩ := hrel
            have hZl : Z.length = V.length + jj := by rw [hZ]; simp
            have hZz := bsz Z
            have HZe := Lib.hid hZ
            clear hZ
            by_cases hjm : jj < m
            · obtain ⟨Z2, hZ2⟩ : ∃ Z2, Z ++ [32] = Z2 := ⟨_, rfl⟩
              have hcz := bapp Z [32]
              rw [hZ2] at hcz
              have HZ2 : Hid (Z2 = V ++ List.replicate (jj + 1) 32) := Lib.hid (by rw [← hZ2, HZe.out, List.append_assoc]; congr 1; exact (List.replicate_succ' (n := jj) (a := (32 : UInt8))).symm)
              clear hZ2
              go_wp2_with fail
              go_round
              case rel => exact ⟨jj + 1, Z2, by omega, by go_num, rfl, HZ2.out⟩
              case measure => simp [intOf]; omega
            · obtain rfl : jj = m := by omega
              have HNW2 : Hid (wideF jj s = Z ++ wideF jj (s.drop (k + 1))) := Lib.hid (by rw [HNW.out, HZe.out])
              go_wp2_with fail
              go_round
              case rel =>
                first
                | exact ⟨k + 1, false, Z, Y, by omega, by go_num, rfl, rfl, rfl, by omega, by omega, HNW2.out, HNL.out⟩
                | (repeat apply Exists.intro); exact ⟨⟨k + 1, false, Z, Y, by omega, by go_num, rfl, rfl, rfl, by omega, by omega, HNW2.out, HNL.out⟩, rfl⟩
              case measure => simp [intOf]; omega
      obtain rfl : c = 32 := by
        by_cases h32 : c = 32
        · exact h32
        · exact absurd ⟨h10, h32⟩ hno
      clear hno h35 h10
      cases b with
      | true =>
        have HNW : Hid (wideF m s = (V ++ List.replicate m 32) ++ wideF m (s.drop (k + 1))) := Lib.hid (by rw [HW.out, HDC.out, wide_cons, if_pos (by decide), ← HV.out]; simp)
        have HNL : Hid (longF r false s = Y ++ longF r true (s.drop (k + 1))) := Lib.hid (by rw [HLo.out, HDC.out, long_cons, if_pos (.inr (by decide)), ← HY.out, List.append_assoc]; rfl)
        go_wp2_with fail
        go_loop [8, 59] (fun wd j => ∃ (jj : Nat) (Z : List UInt8), jj ≤ m ∧ j = .int .i64 jj ∧ wd = .string ⟨Z.toArray⟩ ∧ Z = V ++ List.replicate jj 32) (fun _ j => m - (intOf j).toNat)
        case atStart => exact ⟨0, V, Nat.zero_le _, rfl, rfl, by simp⟩
        case round =>
          obtain ⟨jj, Z, hj, rfl, rfl, hZ⟩ := hrel
          have hZl : Z.length = V.length + jj := by rw [hZ]; simp
          have hZz := bsz Z
          have HZe := Lib.hid hZ
          clear hZ
          by_cases hjm : jj < m
          · obtain ⟨Z2, hZ2⟩ : ∃ Z2, Z ++ [32] = Z2 := ⟨_, rfl⟩
            have hcz := bapp Z [32]
            rw [hZ2] at hcz
            have HZ2 : Hid (Z2 = V ++ List.replicate (jj + 1) 32) := Lib.hid (by rw [← hZ2, HZe.out, List.append_assoc]; congr 1; exact (List.replicate_succ' (n := jj) (a := (32 : UInt8))).symm)
            clear hZ2
            go_wp2_with fail
            go_round
            case rel => exact ⟨jj + 1, Z2, by omega, by go_num, rfl, HZ2.out⟩
            case measure => simp [intOf]; omega
          · obtain rfl : jj = m := by omega
            have HNW2 : Hid (wideF jj s = Z ++ wideF jj (s.drop (k + 1))) := Lib.hid (by rw [HNW.out, HZe.out])
            go_wp2_with fail
            go_round
            case rel =>
              first
              | exact ⟨k + 1, true, Z, Y, by omega, by go_num, rfl, rfl, rfl, by omega, by omega, HNW2.out, HNL.out⟩
              | (repeat apply Exists.intro); exact ⟨⟨k + 1, true, Z, Y, by omega, by go_num, rfl, rfl, rfl, by omega, by omega, HNW2.out, HNL.out⟩, rfl⟩
            case measure => simp [intOf]; omega
      | false =>
        cases r with
        | true =>
          have HNW : Hid (wideF m s = (V ++ List.replicate m 32) ++ wideF m (s.drop (k + 1))) := Lib.hid (by rw [HW.out, HDC.out, wide_cons, if_pos (by decide), ← HV.out]; simp)
          obtain ⟨G, hG1⟩ : ∃ G, Lg ++ [32, 35, 32, 55, 46, 32, 59] = G := ⟨_, rfl⟩
          have hcg := bapp Lg [32, 35, 32, 55, 46, 32, 59]
          rw [hG1] at hcg
          have hGl : G.length = Lg.length + 7 := by rw [← hG1]; simp
          have hGz := bsz G
          obtain ⟨G2, hG2⟩ : ∃ G2, G ++ [10] = G2 := ⟨_, rfl⟩
          have hcg2 := bapp G [10]
          rw [hG2] at hcg2
          have hG2l : G2.length = G.length + 1 := by rw [← hG2]; simp
          have HNL : Hid (longF true false s = G2 ++ longF true false (s.drop (k + 1))) := Lib.hid (by rw [HLo.out, HDC.out, long_cons, if_neg (by decide), ← hG2, ← hG1, List.append_assoc, List.append_assoc]; rfl)
          clear hG1 hG2
          go_wp2_with fail
          go_loop [8, 59] (fun wd j => ∃ (jj : Nat) (Z : List UInt8), jj ≤ m ∧ j = .int .i64 jj ∧ wd = .string ⟨Z.toArray⟩ ∧ Z = V ++ List.replicate jj 32) (fun _ j => m - (intOf j).toNat)
          case atStart => exact ⟨0, V, Nat.zero_le _, rfl, rfl, by simp⟩
          case round =>
            obtain ⟨jj, Z, hj, rfl, rfl, hZ⟩ := hrel
            have hZl : Z.length = V.length + jj := by rw [hZ]; simp
            have hZz := bsz Z
            have HZe := Lib.hid hZ
            clear hZ
            by_cases hjm : jj < m
            · obtain ⟨Z2, hZ2⟩ : ∃ Z2, Z ++ [32] = Z2 := ⟨_, rfl⟩
              have hcz := bapp Z [32]
              rw [hZ2] at hcz
              have HZ2 : Hid (Z2 = V ++ List.replicate (jj + 1) 32) := Lib.hid (by rw [← hZ2, HZe.out, List.append_assoc]; congr 1; exact (List.replicate_succ' (n := jj) (a := (32 : UInt8))).symm)
              clear hZ2
              go_wp2_with fail
              go_round
              case rel => exact ⟨jj + 1, Z2, by omega, by go_num, rfl, HZ2.out⟩
              case measure => simp [intOf]; omega
            · obtain rfl : jj = m := by omega
              have HNW2 : Hid (wideF jj s = Z ++ wideF jj (s.drop (k + 1))) := Lib.hid (by rw [HNW.out, HZe.out])
              go_wp2_with fail
              go_round
              case rel =>
                first
                | exact ⟨k + 1, false, Z, G2, by omega, by go_num, rfl, rfl, rfl, by omega, by omega, HNW2.out, HNL.out⟩
                | (repeat apply Exists.intro); exact ⟨⟨k + 1, false, Z, G2, by omega, by go_num, rfl, rfl, rfl, by omega, by omega, HNW2.out, HNL.out⟩, rfl⟩
              case measure => simp [intOf]; omega
        | false =>
          have HNW : Hid (wideF m s = (V ++ List.replicate m 32) ++ wideF m (s.drop (k + 1))) := Lib.hid (by rw [HW.out, HDC.out, wide_cons, if_pos (by decide), ← HV.out]; simp)
          obtain ⟨G, hG1⟩ : ∃ G, Lg = G := ⟨_, rfl⟩
          rw [hG1] at hLz hLk hcl hYl HY HLo ⊢
          have hGl : G.length = G.length := rfl
          obtain ⟨G2, hG2⟩ : ∃ G2, G ++ [10] = G2 := ⟨_, rfl⟩
          have hcg2 := bapp G [10]
          rw [hG2] at hcg2
          have hG2l : G2.length = G.length + 1 := by rw [← hG2]; simp
          have HNL : Hid (longF false false s = G2 ++ longF false false (s.drop (k + 1))) := Lib.hid (by rw [HLo.out, HDC.out, long_cons, if_neg (by decide), ← hG2, List.append_assoc]; rfl)
          clear hG1 hG2
          go_wp2_with fail
          go_loop [8, 59] (fun wd j => ∃ (jj : Nat) (Z : List UInt8), jj ≤ m ∧ j = .int .i64 jj ∧ wd = .string ⟨Z.toArray⟩ ∧ Z = V ++ List.replicate jj 32) (fun _ j => m - (intOf j).toNat)
          case atStart => exact ⟨0, V, Nat.zero_le _, rfl, rfl, by simp⟩
          case round =>
            obtain ⟨jj, Z, hj, rfl, rfl, hZ⟩ := hrel
            have hZl : Z.length = V.length + jj := by rw [hZ]; simp
            have hZz := bsz Z
            have HZe := Lib.hid hZ
            clear hZ
            by_cases hjm : jj < m
            · obtain ⟨Z2, hZ2⟩ : ∃ Z2, Z ++ [32] = Z2 := ⟨_, rfl⟩
              have hcz := bapp Z [32]
              rw [hZ2] at hcz
              have HZ2 : Hid (Z2 = V ++ List.replicate (jj + 1) 32) := Lib.hid (by rw [← hZ2, HZe.out, List.append_assoc]; congr 1; exact (List.replicate_succ' (n := jj) (a := (32 : UInt8))).symm)
              clear hZ2
              go_wp2_with fail
              go_round
              case rel => exact ⟨jj + 1, Z2, by omega, by go_num, rfl, HZ2.out⟩
              case measure => simp [intOf]; omega
            · obtain rfl : jj = m := by omega
              have HNW2 : Hid (wideF jj s = Z ++ wideF jj (s.drop (k + 1))) := Lib.hid (by rw [HNW.out, HZe.out])
              go_wp2_with fail
              go_round
              case rel =>
                first
                | exact ⟨k + 1, false, Z, G2, by omega, by go_num, rfl, rfl, rfl, by omega, by omega, HNW2.out, HNL.out⟩
                | (repeat apply Exists.intro); exact ⟨⟨k + 1, false, Z, G2, by omega, by go_num, rfl, rfl, rfl, by omega, by omega, HNW2.out, HNL.out⟩, rfl⟩
              case measure => simp [intOf]; omega
    · have hle : s.length ≤ k := by omega
      have hWd : wideF m s = Wd := by rw [HW.out, List.drop_of_length_le hle]; simp [wideF]
      have hLg : longF r false s = Lg := by rw [HLo.out, List.drop_of_length_le hle]; simp [longF]
      have hTw := HTW.out
      have hTl := HTL.out
      rw [hWd] at hTw
      rw [hLg] at hTl
      clear hWd hLg HW HLo hkl
      go_wp2_with fail
      refine (hTs _ hb1).mono ?_
      rintro e w2 ⟨v2, rfl, ht2, ho2, hc2⟩
      have hb2 := belT hb1 hc2
      clear hb1 hc2
      go_wp2_with fail
      refine (hTw _ hb2).mono ?_
      rintro e w3 ⟨v3, rfl, ht3, ho3, hc3⟩
      replace ht2 := ht2.below hc3
      have hb3 := belT hb2 hc3
      clear hb2 hc3
      go_wp2_with fail
      refine (hTl _ hb3).mono ?_
      rintro e w4 ⟨v4, rfl, ht4, ho4, hc4⟩
      replace ht2 := ht2.below hc4
      replace ht3 := ht3.below hc4
      have hb4 := belT hb3 hc4
      clear hb3 hc4
      go_wp2_with fail
      refine (sameI rfl _ ht2 ht3).mono ?_
      rintro e w5 ⟨rfl, hc5⟩
      replace ht2 := ht2.below hc5
      replace ht3 := ht3.below hc5
      replace ht4 := ht4.below hc5
      have hb5 := belT hb4 hc5
      clear hb4 hc5
      go_wp2_with fail
      refine (flatI rfl _ ht2 hAl).mono ?_
      rintro e w6 ⟨v6, rfl, ht6, hc6⟩
      replace ht2 := ht2.below hc6
      replace ht3 := ht3.below hc6
      replace ht4 := ht4.below hc6
      have hb6 := belT hb5 hc6
      clear hb5 hc6
      go_wp2_with fail
      refine (flatI hAC _ ht4 hCl).mono ?_
      rintro e w7 ⟨v7, rfl, ht7, hc7⟩
      replace ht2 := ht2.below hc7
      replace ht3 := ht3.below hc7
      replace ht4 := ht4.below hc7
      replace ht6 := ht6.below hc7
      have hb7 := belT hb6 hc7
      clear hb6 hc7
      go_wp2_with fail
      refine (sameI rfl _ ht6 ht7).mono ?_
      rintro e w8 ⟨rfl, hc8⟩
      replace ht2 := ht2.below hc8
      replace ht3 := ht3.below hc8
      replace ht4 := ht4.below hc8
      replace ht6 := ht6.below hc8
      replace ht7 := ht7.below hc8
      have hb8 := belT hb7 hc8
      clear hb7 hc8
      go_wp2_with fail
      go_ret
      exact Ret.mk (by first | rfl | simp) hb8

theorem walkLexerBlanks (s : List UInt8) (q : Int) (r : Bool) (w : World) (hL : Lay w) (hq : 0 ≤ q ∧ q ≤ 255) : Calls Tryd.prog 5 #[.string ⟨s.toArray⟩, .int .u8 q, .bool r] w (Ret (.bool true) w) := by
  by_cases hl : 1000 < s.length
  · exact walkLB_long s q r w hL hq hl
  · exact walkLB_main s q r w hL hq hl
end Go.Proofs.YtfnclecfldddeaaDoor
