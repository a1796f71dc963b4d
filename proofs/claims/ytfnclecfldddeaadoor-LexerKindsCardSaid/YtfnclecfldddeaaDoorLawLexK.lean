/-
  The walk of LexerKinds.
-/
import Derived.Test.YtfnclecfldddeaaDoorLexCalls
import Derived.IntWalk
import Derived.Deep.QuietTactic
import Derived.BigQuiet
namespace Go.Proofs.YtfnclecfldddeaaDoor
open Go.RowKit Go.Shelf
set_option maxRecDepth 100000

theorem flat_step {l : List RT} {k : Nat} (hk : k < l.length) : (l.take (k + 1)).flatMap (·.t) = (l.take k).flatMap (·.t) ++ (l[k]).t := by
  rw [List.take_succ_eq_append_getElem hk, List.flatMap_append]; simp
theorem flat_len (l : List RT) (k : Nat) : ((l.take k).flatMap (·.t)).length ≤ (l.flatMap (·.t)).length := by
  conv => rhs; rw [← List.take_append_drop k l, List.flatMap_append, List.length_append]
  omega
theorem flat_rt (l : List Tok) : (l.map Tok.rt).flatMap (·.t) = l.flatMap (·.t) := by
  induction l with
  | nil => rfl
  | cons x r ih => rw [List.map_cons, List.flatMap_cons, List.flatMap_cons, ih]; rfl
theorem rest_in {c : UInt8} (r : List UInt8) {b : Bool} (h : ((b || c == 35) && c != 10) = true) : restF b (c :: r) = restF true r := by rw [restF, if_pos h]
theorem rest_no {c : UInt8} (r : List UInt8) {b : Bool} (h : ((b || c == 35) && c != 10) = false) (h2 : c = 32 ∨ c = 10) : restF b (c :: r) = restF false r := by rw [restF, if_neg (by rw [h]; simp), if_pos h2]; rfl
theorem rest_yes {c : UInt8} (r : List UInt8) {b : Bool} (h : ((b || c == 35) && c != 10) = false) (h2 : ¬ (c = 32 ∨ c = 10)) : restF b (c :: r) = c :: restF false r := by rw [restF, if_neg (by rw [h]; simp), if_neg h2]; rfl

set_option maxHeartbeats 1000000 in
theorem walkLK_long (s : List UInt8) (w : World) (hL : Lay w) (hl : 1000 < s.length) : Calls Tryd.prog 7 #[.string ⟨s.toArray⟩] w (Ret (.bool true) w) := by
  have hsz : (⟨s.toArray⟩ : ByteArray).size = s.length := by simp [ByteArray.size]
  have hH : ∀ wk, Below w.heap.size w wk → Calls Tryd.prog 8 #[] wk (Ret (.bool true) wk) := fun wk h => lhead_any wk (hL.below h)
  have q0 : decide (1000 < (s.length : Int)) = true := by rw [decide_eq_true_iff]; omega
  clear hL
  go_enter Tryd.func7, Tryd.ntmps7
  go_wp2_with fail
  have hb0 : Below w.heap.size w w := Below.refl _ _
  refine (hH _ hb0).mono ?_
  rintro e w1 ⟨rfl, hc1⟩
  have hb1 := belT hb0 hc1
  clear hb0 hc1
  go_wp2_with fail
  go_ret
  exact Ret.mk (rfl) hb1

set_option maxHeartbeats 2000000 in
theorem walkLK_bad (s : List UInt8) (w : World) (hL : Lay w) (hl : ¬ 1000 < s.length) (hE : (tokP s).2.1 ≠ 0) : Calls Tryd.prog 7 #[.string ⟨s.toArray⟩] w (Ret (.bool true) w) := by
  have hsz : (⟨s.toArray⟩ : ByteArray).size = s.length := by simp [ByteArray.size]
  have hH : ∀ wk, Below w.heap.size w wk → Calls Tryd.prog 8 #[] wk (Ret (.bool true) wk) := fun wk h => lhead_any wk (hL.below h)
  have q0 : decide (1000 < (s.length : Int)) = false := by rw [decide_eq_false_iff_not]; omega
  have hnl := nl_len s
  have hLn : ∀ wk, Calls Tryd.prog 17 #[.string ⟨s.toArray⟩] wk (Same (.int .i64 (nl s)) wk) := fun wk => lines_any s (by omega) wk
  obtain ⟨h8, h1, hn⟩ := kinds_bad (s := s) (by omega) hE
  obtain ⟨A, N, hA⟩ : ∃ (A : List RT) (N : Nat), (tokP s).1.map Tok.rt = A ∧ (tokP s).2.1 = 8 ∧ (tokP s).2.2 = N := ⟨_, _, rfl, h8, rfl⟩
  rw [hA.2.2] at h1 hn
  have hTs : ∀ wk, Below w.heap.size w wk → Calls Tryd.prog 10 #[.string ⟨s.toArray⟩] wk (TokI A 8 N wk) := fun wk h => tokI hA wk (hL.below h)
  obtain ⟨n, hnn⟩ : ∃ n, nl s = n := ⟨_, rfl⟩
  rw [hnn] at hLn hnl hn
  have p1 : decide ((N : Int) ≥ 1) = true := by rw [decide_eq_true_eq]; omega
  have p1' : decide ((1 : Int) ≤ (N : Int)) = true := by rw [decide_eq_true_eq]; omega
  have p2 : decide ((N : Int) ≤ (n : Int) + 1) = true := by rw [decide_eq_true_eq]; omega
  clear hL hA hE hnn h8
  go_enter Tryd.func7, Tryd.ntmps7
  go_wp2_with fail
  have hb0 : Below w.heap.size w w := Below.refl _ _
  refine (hH _ hb0).mono ?_
  rintro e w1 ⟨rfl, hc1⟩
  have hb1 := belT hb0 hc1
  clear hb0 hc1
  go_wp2_with fail
  refine (hTs _ hb1).mono ?_
  rintro e w2 ⟨v2, rfl, ht2, ho2, hc2⟩
  have hb2 := belT hb1 hc2
  clear hb1 hc2
  go_wp2_with fail
  refine (hLn _).mono ?_
  rintro e w3 ⟨rfl, rfl⟩
  have hb3 := hb2
  clear hb2
  go_wp2_with fail
  go_ret
  exact Ret.mk (by first | rfl | simp) hb3

set_option maxHeartbeats 4000000 in
theorem walkLK_main (s : List UInt8) (w : World) (hL : Lay w) (hl : ¬ 1000 < s.length) (hE : (tokP s).2.1 = 0) : Calls Tryd.prog 7 #[.string ⟨s.toArray⟩] w (Ret (.bool true) w) := by
  have hsz : (⟨s.toArray⟩ : ByteArray).size = s.length := by simp [ByteArray.size]
  have hH : ∀ wk, Below w.heap.size w wk → Calls Tryd.prog 8 #[] wk (Ret (.bool true) wk) := fun wk h => lhead_any wk (hL.below h)
  have q0 : decide (1000 < (s.length : Int)) = false := by rw [decide_eq_false_iff_not]; omega
  have hnl := nl_len s
  have hLn : ∀ wk, Calls Tryd.prog 17 #[.string ⟨s.toArray⟩] wk (Same (.int .i64 (nl s)) wk) := fun wk => lines_any s (by omega) wk
  obtain ⟨A, hA⟩ : ∃ (A : List RT), (tokP s).1.map Tok.rt = A ∧ (tokP s).2.1 = 0 ∧ (tokP s).2.2 = 0 := ⟨_, rfl, hE, (tok_zero hE).2.2.1⟩
  have hAl : A.length ≤ 5000 := by rw [← hA.1, List.length_map]; exact tok_count s
  have hAt : A.flatMap (·.t) = restF false s := by rw [← hA.1, flat_rt]; exact kinds_text hE
  have hRl := rest_len false s
  have hcan : canF A = true := by rw [← hA.1]; exact kinds_right hE
  have hts := tok_texts s
  rw [hA.1] at hts
  have hAx : ∀ x ∈ A, x.k = ((kindF x.t : Nat) : Int) ∧ x.n ≤ (nl s : Int) + 1 ∧ x.t.length ≤ 20000 := by
    intro x hx
    rw [← hA.1] at hx
    obtain ⟨y, hy, rfl⟩ := List.mem_map.1 hx
    have := tok_fine s y hy
    have e1 : y.rt.k = (y.k : Int) := rfl
    have e2 : y.rt.n = (y.n : Int) := rfl
    have e3 : y.rt.t = y.t := rfl
    rw [e1, e2, e3]
    exact ⟨by rw [← this.2.1], by omega, this.2.2.2.2⟩
  have hTs : ∀ wk, Below w.heap.size w wk → Calls Tryd.prog 10 #[.string ⟨s.toArray⟩] wk (TokI A 0 0 wk) := fun wk h => tokI hA wk (hL.below h)
  obtain ⟨n, hnn⟩ : ∃ n, nl s = n := ⟨_, rfl⟩
  rw [hnn] at hLn hnl hAx
  clear hL hA hE hnn
  go_enter Tryd.func7, Tryd.ntmps7
  go_wp2_with fail
  have hb0 : Below w.heap.size w w := Below.refl _ _
  refine (hH _ hb0).mono ?_
  rintro e w1 ⟨rfl, hc1⟩
  have hb1 := belT hb0 hc1
  clear hb0 hc1
  go_wp2_with fail
  refine (hTs _ hb1).mono ?_
  rintro e w2 ⟨v2, rfl, ht2, ho2, hc2⟩
  have hb2 := belT hb1 hc2
  clear hb1 hc2
  have hv2 := ht2
  obtain ⟨ad2, cap2, rfl⟩ := hv2.open
  go_wp2_with fail
  go_loopw [3, 7, 44] (fun up al i wr => ∃ k : Nat, k ≤ A.length ∧ i = .int .i64 k ∧ up = .bool true ∧ al = .string ⟨((A.take k).flatMap (·.t)).toArray⟩ ∧ Below w2.heap.size w2 wr) (fun _ _ i _ => A.length - (intOf i).toNat)
  case atStart => exact ⟨0, Nat.zero_le _, rfl, rfl, rfl, Below.refl _ _⟩
  case round =>
    obtain ⟨k, hk, rfl, rfl, rfl, hbr⟩ := hrel
    by_cases hkl : k < A.length
    · obtain ⟨a, rfl, c0, c1, c2, hab⟩ := hv2.reads hbr (Nat.le_refl _) k hkl
      have hst := flat_step hkl
      have hfl := flat_len A (k + 1)
      have hx := hAx A[k] (List.getElem_mem hkl)
      generalize A[k] = x at c0 c1 c2 hst hx
      obtain ⟨xk, xn, xt⟩ := x
      simp only at c0 c1 c2 hst hx
      obtain ⟨rfl, hx2, hx3⟩ := hx
      have hkd := rkind_any xt (by omega)
      have hcat := bapp ((A.take k).flatMap (·.t)) xt
      rw [← hst] at hcat
      have p2 : decide (xn ≤ (n : Int) + 1) = true := by rw [decide_eq_true_eq]; omega
      obtain ⟨q, hq⟩ : ∃ q, kindF xt = q := ⟨_, rfl⟩
      rw [hq] at c0 hkd
      have hPz := bsz ((A.take k).flatMap (·.t))
      have hXz := bsz xt
      generalize hP2 : (⟨((A.take (k + 1)).flatMap (·.t)).toArray⟩ : ByteArray) = PB2 at *
      have HP2 := Lib.hid hP2
      clear hP2
      generalize (⟨((A.take k).flatMap (·.t)).toArray⟩ : ByteArray) = PB at *
      generalize (⟨xt.toArray⟩ : ByteArray) = XB at *
      have hPs : PB.size ≤ 1000 := by have := flat_len A k; rw [hAt] at this; omega
      have hXs : XB.size ≤ 20000 := by omega
      have hn1 : IntKind.i64.wrap ((n : Int) + 1) = (n : Int) + 1 := IntWalk.i64_in _ (by omega)
      clear hst hq hfl hPz hXz
      go_wp2_with fail
      go_quiet ((first | (go_at_call 18; exact (hkd _).mono fun _ _ ⟨he, hw⟩ => ⟨he, _, hw.symm⟩) | (go_at_call 17; exact (hLn _).mono fun _ _ ⟨he, hw⟩ => ⟨he, _, hw.symm⟩)))
      go_wp2_with fail
      go_roundw
      case rel => exact ⟨k + 1, by omega, by go_num, rfl, by rw [← HP2.out], belD (belB hbr _) _⟩
      case measure => simp [intOf]; omega
    · have hke : k = A.length := by omega
      subst hke
      rw [List.take_length, hAt]
      have hT2 := hv2.below hbr
      have hbz := belT hb2 hbr
      have hget := bget s
      have hcut : ∀ p n, (⟨s.toArray⟩ : ByteArray).extract p (p + n) = ⟨((s.drop p).take n).toArray⟩ := fun p n => by rw [bext, List.drop_take]; congr 3; omega
      have hR0 : restF false s = [] ++ restF false (s.drop 0) := rfl
      generalize (⟨s.toArray⟩ : ByteArray) = S at *
      have hz2 : S.size ≤ 1000 := by omega
      have HZ := Lib.hid hsz
      have HG := Lib.hid hget
      have HCUT := Lib.hid hcut
      obtain ⟨R, hR⟩ : ∃ R, restF false s = R := ⟨_, rfl⟩
      rw [hR] at hR0 hRl ⊢
      have HR0 := Lib.hid hR0
      clear hR0 hR hAt hcut hget hsz hbr hTs hLn hAx hv2 ht2 hkl
      go_wp2_with fail
      go_loop [8, 11, 72] (fun rs ins i => ∃ (k : Nat) (b : Bool) (X : List UInt8), k ≤ s.length ∧ i = .int .i64 k ∧ ins = .bool b ∧ rs = .string ⟨X.toArray⟩ ∧ X.length ≤ k ∧ R = X ++ restF b (s.drop k)) (fun _ _ i => s.length - (intOf i).toNat)
      case atStart => exact ⟨0, false, [], Nat.zero_le _, rfl, rfl, rfl, Nat.zero_le _, HR0.out⟩
      case round =>
        obtain ⟨k, b, X, hk, rfl, rfl, rfl, hXk, hX⟩ := hrel
        have HX := Lib.hid hX
        have hXz := bsz X
        clear hX
        by_cases hkl : k < s.length
        · have hlt : k < S.size := by rw [HZ.out]; exact hkl
          obtain ⟨c, hc⟩ : ∃ c, s[k]? = some c := ⟨_, List.getElem?_eq_getElem hkl⟩
          have hel := HG.out k c hc hlt
          have hdc : s.drop k = c :: s.drop (k + 1) := by
            rw [List.drop_eq_getElem_cons hkl]
            rw [List.getElem?_eq_getElem hkl] at hc; rw [Option.some.inj hc]
          have hsl := HCUT.out k 1
          rw [hdc] at hsl
          have hsl2 : S.extract k (k + 1) = ⟨[c].toArray⟩ := hsl
          have hcat := bapp X [c]
          have hnn : ((k : Int) + 1).toNat = k + 1 := by omega
          have hk1 : k + 1 ≤ S.size := by omega
          have HDC := Lib.hid hdc
          clear hdc hsl hc
          cases b with
          | true =>
            by_cases h10 : c = 10
            · subst h10
              have e35 : (((10 : UInt8).toNat : Int) == 35) = false := rfl
              have e10 : (((10 : UInt8).toNat : Int) != 10) = false := rfl
              have e32 : (((10 : UInt8).toNat : Int) != 32) = true := rfl
              have HN : Hid (R = X ++ restF false (s.drop (k + 1))) := Lib.hid (by rw [HX.out, HDC.out, rest_no _ (by decide) (by decide)])
              clear  HX
              go_wp2_with fail
              go_round
              case rel => exact ⟨k + 1, false, X, by omega, by go_num, rfl, rfl, by (try simp only [List.length_append, List.length_cons, List.length_nil]); omega, HN.out⟩
              case measure => simp [intOf]; omega
            by_cases h35 : c = 35
            · subst h35
              have e35 : (((35 : UInt8).toNat : Int) == 35) = true := rfl
              have e10 : (((35 : UInt8).toNat : Int) != 10) = true := rfl
              have e32 : (((35 : UInt8).toNat : Int) != 32) = true := rfl
              have HN : Hid (R = X ++ restF true (s.drop (k + 1))) := Lib.hid (by rw [HX.out, HDC.out, rest_in _ (by decide)])
              clear h10 HX
              go_wp2_with fail
              go_round
              case rel => exact ⟨k + 1, true, X, by omega, by go_num, rfl, rfl, by (try simp only [List.length_append, List.length_cons, List.length_nil]); omega, HN.out⟩
              case measure => simp [intOf]; omega
            by_cases h32 : c = 32
            · subst h32
              have e35 : (((32 : UInt8).toNat : Int) == 35) = false := rfl
              have e10 : (((32 : UInt8).toNat : Int) != 10) = true := rfl
              have e32 : (((32 : UInt8).toNat : Int) != 32) = false := rfl
              have HN : Hid (R = X ++ restF true (s.drop (k + 1))) := Lib.hid (by rw [HX.out, HDC.out, rest_in _ (by decide)])
              clear h10 h35 HX
              go_wp2_with fail
              go_round
              case rel => exact ⟨k + 1, true, X, by omega, by go_num, rfl, rfl, by (try simp only [List.length_append, List.length_cons, List.length_nil]); omega, HN.out⟩
              case measure => simp [intOf]; omega
            have e35 : (((c.toNat : Nat) : Int) == 35) = false := by rw [beq_eq_false_iff_ne]; intro e; exact h35 (UInt8.toNat_inj.1 (by show c.toNat = 35; omega))
            have e10 : (((c.toNat : Nat) : Int) != 10) = true := by rw [bne_iff_ne]; intro e; exact h10 (UInt8.toNat_inj.1 (by show c.toNat = 10; omega))
            have e32 : (((c.toNat : Nat) : Int) != 32) = true := by rw [bne_iff_ne]; intro e; exact h32 (UInt8.toNat_inj.1 (by show c.toNat = 32; omega))
            have HN : Hid (R = X ++ restF true (s.drop (k + 1))) := Lib.hid (by rw [HX.out, HDC.out, rest_in _ (by simp [h10])])
            clear h10 h35 h32 HX
            go_wp2_with fail
            go_round
            case rel => exact ⟨k + 1, true, X, by omega, by go_num, rfl, rfl, by (try simp only [List.length_append, List.length_cons, List.length_nil]); omega, HN.out⟩
            case measure => simp [intOf]; omega
          | false =>
            by_cases h10 : c = 10
            · subst h10
              have e35 : (((10 : UInt8).toNat : Int) == 35) = false := rfl
              have e10 : (((10 : UInt8).toNat : Int) != 10) = false := rfl
              have e32 : (((10 : UInt8).toNat : Int) != 32) = true := rfl
              have HN : Hid (R = X ++ restF false (s.drop (k + 1))) := Lib.hid (by rw [HX.out, HDC.out, rest_no _ (by decide) (by decide)])
              clear  HX
              go_wp2_with fail
              go_round
              case rel => exact ⟨k + 1, false, X, by omega, by go_num, rfl, rfl, by (try simp only [List.length_append, List.length_cons, List.length_nil]); omega, HN.out⟩
              case measure => simp [intOf]; omega
            by_cases h35 : c = 35
            · subst h35
              have e35 : (((35 : UInt8).toNat : Int) == 35) = true := rfl
              have e10 : (((35 : UInt8).toNat : Int) != 10) = true := rfl
              have e32 : (((35 : UInt8).toNat : Int) != 32) = true := rfl
              have HN : Hid (R = X ++ restF true (s.drop (k + 1))) := Lib.hid (by rw [HX.out, HDC.out, rest_in _ (by decide)])
              clear h10 HX
              go_wp2_with fail
              go_round
              case rel => exact ⟨k + 1, true, X, by omega, by go_num, rfl, rfl, by (try simp only [List.length_append, List.length_cons, List.length_nil]); omega, HN.out⟩
              case measure => simp [intOf]; omega
            by_cases h32 : c = 32
            · subst h32
              have e35 : (((32 : UInt8).toNat : Int) == 35) = false := rfl
              have e10 : (((32 : UInt8).toNat : Int) != 10) = true := rfl
              have e32 : (((32 : UInt8).toNat : Int) != 32) = false := rfl
              have HN : Hid (R = X ++ restF false (s.drop (k + 1))) := Lib.hid (by rw [HX.out, HDC.out, rest_no _ (by decide) (by decide)])
              clear h10 h35 HX
              go_wp2_with fail
              go_round
              case rel => exact ⟨k + 1, false, X, by omega, by go_num, rfl, rfl, by (try simp only [List.length_append, List.length_cons, List.length_nil]); omega, HN.out⟩
              case measure => simp [intOf]; omega
            have e35 : (((c.toNat : Nat) : Int) == 35) = false := by rw [beq_eq_false_iff_ne]; intro e; exact h35 (UInt8.toNat_inj.1 (by show c.toNat = 35; omega))
            have e10 : (((c.toNat : Nat) : Int) != 10) = true := by rw [bne_iff_ne]; intro e; exact h10 (UInt8.toNat_inj.1 (by show c.toNat = 10; omega))
            have e32 : (((c.toNat : Nat) : Int) != 32) = true := by rw [bne_iff_ne]; intro e; exact h32 (UInt8.toNat_inj.1 (by show c.toNat = 32; omega))
            have HN : Hid (R = (X ++ [c]) ++ restF false (s.drop (k + 1))) := Lib.hid (by rw [HX.out, HDC.out, rest_yes _ (by simp [h35]) (by simp [h32, h10]), List.append_assoc]; rfl)
            clear h10 h35 h32 HX
            go_wp2_with fail
            go_round
            case rel => exact ⟨k + 1, false, (X ++ [c]), by omega, by go_num, rfl, rfl, by (try simp only [List.length_append, List.length_cons, List.length_nil]); omega, HN.out⟩
            case measure => simp [intOf]; omega
        · have hle : s.length ≤ k := by omega
          have hXR : R = X := by rw [HX.out, List.drop_of_length_le hle]; cases b <;> simp [restF]
          have hSp : decide (k < S.size) = false := by rw [HZ.out]; simp; omega
          subst hXR
          clear HX hle hkl
          go_wp2_with fail
          refine (rightI hcan _ hT2 hts).mono ?_
          rintro e w7 ⟨rfl, hc7⟩
          go_wp2_with fail
          go_ret
          exact Ret.mk (by first | rfl | simp) (belT hbz hc7)

theorem walkLexerKinds (s : List UInt8) (w : World) (hL : Lay w) : Calls Tryd.prog 7 #[.string ⟨s.toArray⟩] w (Ret (.bool true) w) := by
  by_cases hl : 1000 < s.length
  · exact walkLK_long s w hL hl
  · by_cases hE : (tokP s).2.1 = 0
    · exact walkLK_main s w hL hl hE
    · exact walkLK_bad s w hL hl hE
end Go.Proofs.YtfnclecfldddeaaDoor
