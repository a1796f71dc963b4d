/-
  The reference's Tokens.
-/
import Derived.Test.YtfnclecfldddeaaDoorLexRef3
namespace Go.Proofs.YtfnclecfldddeaaDoor
open Go.RowKit Go.Shelf
set_option maxRecDepth 100000

theorem app_cons (l : List Tok) (x : Tok) (y : List Tok × Nat × Nat) : appF l (consF x y) = appF (l ++ [x]) y := by
  unfold appF consF
  by_cases h : y.2.1 = 0
  · rw [if_pos h, if_pos rfl, if_pos h, List.append_assoc]; rfl
  · rw [if_neg h, if_neg h, if_neg h]
theorem app_err (l : List Tok) (e n : Nat) (h : e ≠ 0) : appF l ([], e, n) = ([], e, n) := by unfold appF; rw [if_neg h]
theorem app_end (l : List Tok) : appF l ([], 0, 0) = (l, 0, 0) := by unfold appF; rw [if_pos rfl, List.append_nil]
theorem dw_drop (p : UInt8 → Bool) : ∀ s : List UInt8, s.dropWhile p = s.drop (s.takeWhile p).length
  | [] => rfl
  | c :: r => by
    rw [List.dropWhile_cons, List.takeWhile_cons]
    by_cases h : p c = true
    · rw [if_pos h, if_pos h, List.length_cons, List.drop_succ_cons, dw_drop p r]
    · rw [if_neg h, if_neg h]; rfl
def feedB (c : UInt8) : Bool := c != 10
theorem take_drop (s : List UInt8) (p n : Nat) : (s.take (p + n)).drop p = (s.drop p).take n := by rw [List.drop_take]; congr 1; omega

set_option maxHeartbeats 8000000 in
theorem rtoks_main (s : List UInt8) (hs : s.length ≤ 20000) (w : World) : Calls Tryd.prog 11 #[.string ⟨s.toArray⟩] w (TokEnd s w) := by
  have hz := bsz s
  have hget := bget s
  have hcut : ∀ p n, (⟨s.toArray⟩ : ByteArray).extract p (p + n) = ⟨((s.drop p).take n).toArray⟩ := fun p n => by rw [bext, take_drop]
  have hsize := fun p hp w => rsize_any s (by omega) p hp w
  have htp : tokP s = toksF 1 0 s := by unfold tokP; rw [if_neg (by omega)]
  have hstart : toksF 1 0 s = appF [] (toksF 1 ([] : List Tok).length (s.drop 0)) := by rw [List.drop_zero]; exact (app_nil (by omega)).symm
  generalize (⟨s.toArray⟩ : ByteArray) = S at *
  have HZ := Lib.hid hz
  have hz2 : S.size ≤ 20000 := by omega
  have HG := Lib.hid hget
  have HCUT := Lib.hid hcut
  have HTP := Lib.hid htp
  have HS0 := Lib.hid hstart
  obtain ⟨i0, hi, hz0, hz1, hzz⟩ := info_parts Tryd.infoTok
  clear hz hget hcut htp hstart
  go_enter Tryd.func11, Tryd.ntmps11
  go_wp2_with fail
  go_loopw [5, 6, 7] (fun v lv pv wr => ∃ (p line : Nat) (out : List Tok), pv = .int .i64 p ∧ lv = .int .i64 line ∧ p ≤ s.length ∧ line ≤ p + 1 ∧ out.length ≤ 5000 ∧ wr.ownsRow w.heap.size 36 3 v out.length ((out.map Tok.rt).flatMap rtC) ∧ Below w.heap.size w wr ∧
      toksF 1 0 s = appF out (toksF line out.length (s.drop p))) (fun _ _ pv _ => s.length - (intOf pv).toNat)
  case atStart => exact ⟨0, 1, [], rfl, rfl, by omega, by omega, by simp, World.ownsRow_nil _ _ _ _, Below.refl _ _, HS0.out⟩
  case round =>
    obtain ⟨p, line, out, rfl, rfl, hp, hline, hout, hown, hb, hacc⟩ := hrel
    have hbs := hb.size
    by_cases hpl : p < s.length
    · have hlt : p < S.size := by rw [HZ.out]; exact hpl
      obtain ⟨c, hc⟩ : ∃ c, s[p]? = some c := ⟨_, List.getElem?_eq_getElem hpl⟩
      have hel := HG.out p c hc hlt
      have hdc : s.drop p = c :: s.drop (p + 1) := by
        rw [List.drop_eq_getElem_cons hpl]
        rw [List.getElem?_eq_getElem hpl] at hc; rw [Option.some.inj hc]
      have hsz := hsize p hpl
      have HDC := Lib.hid hdc
      have HACC := Lib.hid hacc
      clear hc hdc hacc
      by_cases h32 : c = 32
      · subst h32
        have e32 : (((32 : UInt8).toNat : Int) == 32) = true := rfl
        have HN : Hid (toksF 1 0 s = appF out (toksF line out.length (s.drop (p + 1)))) := Lib.hid (by rw [HACC.out, HDC.out, toks_blank])
        clear hsz
        go_wp2_with fail
        go_roundw
        case rel => exact ⟨p + 1, line, out, by go_num, rfl, by omega, by omega, hout, hown, hb, HN.out⟩
        case measure => simp [intOf]; omega
      have n32 : (((c.toNat : Nat) : Int) == 32) = false := by rw [beq_eq_false_iff_ne]; intro e; exact h32 (UInt8.toNat_inj.1 (by show c.toNat = 32; omega))
      by_cases h10 : c = 10
      · subst h10
        have e10 : (((10 : UInt8).toNat : Int) == 10) = true := rfl
        have HN : Hid (toksF 1 0 s = appF out (toksF (line + 1) out.length (s.drop (p + 1)))) := Lib.hid (by rw [HACC.out, HDC.out, toks_feed])
        clear hsz h32
        go_wp2_with fail
        go_roundw
        case rel => exact ⟨p + 1, line + 1, out, by go_num, by go_num, by omega, by omega, hout, hown, hb, HN.out⟩
        case measure => simp [intOf]; omega
      have n10 : (((c.toNat : Nat) : Int) == 10) = false := by rw [beq_eq_false_iff_ne]; intro e; exact h10 (UInt8.toNat_inj.1 (by show c.toNat = 10; omega))
      by_cases h35 : c = 35
      · subst h35
        have e35 : (((35 : UInt8).toNat : Int) == 35) = true := rfl
        have HN : Hid (toksF 1 0 s = appF out (toksF line out.length ((s.drop p).dropWhile feedB))) := Lib.hid (by
          rw [HACC.out]; conv => lhs; rw [HDC.out, toks_note]
          rw [HDC.out, List.dropWhile_cons, if_pos (by decide)]; rfl)
        clear hsz h32 h10
        go_wp2_with fail
        have hpos : 1 ≤ ((s.drop p).takeWhile feedB).length := by rw [HDC.out, List.takeWhile_cons, if_pos (by decide)]; simp
        go_loop [7] (fun at_ => ∃ j : Nat, p ≤ j ∧ j ≤ s.length ∧ at_ = .int .i64 j ∧ ((s.drop p).take (j - p)).all feedB = true) (fun at_ => s.length - (intOf at_).toNat)
        case atStart => exact ⟨p, Nat.le_refl _, hp, rfl, by simp⟩
        case round =>
          obtain ⟨j, hpj, hjl, rfl, hall⟩ := hrel
          by_cases hjlt : j < s.length
          · have hjS : j < S.size := by rw [HZ.out]; exact hjlt
            obtain ⟨d, hd⟩ : ∃ d, s[j]? = some d := ⟨_, List.getElem?_eq_getElem hjlt⟩
            have hel2 := HG.out j d hd hjS
            have hdl : j - p < (s.drop p).length := by rw [List.length_drop]; omega
            have hdd : (s.drop p)[j - p] = d := by
              have h1 : (s.drop p)[j - p]? = s[j]? := by rw [List.getElem?_drop]; congr 1; omega
              rw [hd, List.getElem?_eq_getElem hdl] at h1; exact Option.some.inj h1
            have HA := Lib.hid hall
            have HDd := Lib.hid hdd
            clear hall hdd hd
            by_cases hd10 : d = 10
            · subst hd10
              have e10 : (((10 : UInt8).toNat : Int) != 10) = false := rfl
              have hjp : ((s.drop p).takeWhile feedB).length = j - p := tw_stop HA.out hdl (by rw [HDd.out]; rfl)
              have HN2 : Hid (toksF 1 0 s = appF out (toksF line out.length (s.drop j))) := Lib.hid (by rw [HN.out, dw_drop, hjp, List.drop_drop]; congr 3; omega)
              have hjgt : p < j := by omega
              clear hjp hpos
              go_wp2_with fail
              go_roundw
              case rel =>
                first
                | exact ⟨j, line, out, rfl, rfl, by omega, by omega, hout, hown, hb, HN2.out⟩
                | (repeat apply Exists.intro); exact ⟨⟨j, line, out, rfl, rfl, by omega, by omega, hout, hown, hb, HN2.out⟩, rfl⟩
              case measure => simp [intOf]; omega
            · have n10 : (((d.toNat : Nat) : Int) != 10) = true := by rw [bne_iff_ne]; intro e; exact hd10 (UInt8.toNat_inj.1 (by show d.toNat = 10; omega))
              have hfd : feedB d = true := by simp [feedB, hd10]
              have HF := Lib.hid hfd
              clear hd10 hfd
              go_wp2_with fail
              go_round
              case rel =>
                refine ⟨j + 1, by omega, by omega, by go_num, ?_⟩
                rw [show j + 1 - p = (j - p) + 1 by omega]
                exact all_step HA.out hdl (by rw [HDd.out]; exact HF.out)
              case measure => simp [intOf]; omega
          · have hje : j = s.length := by omega
            have hjp : ((s.drop p).takeWhile feedB).length = j - p := by
              rw [List.take_of_length_le (by rw [List.length_drop]; omega)] at hall
              rw [tw_full hall, List.length_drop]; omega
            have HN2 : Hid (toksF 1 0 s = appF out (toksF line out.length (s.drop j))) := Lib.hid (by rw [HN.out, dw_drop, hjp, List.drop_drop]; congr 3; omega)
            have hjgt : p < j := by omega
            have hjS : decide (j < S.size) = false := by rw [HZ.out]; simp; omega
            have hjle : s.length ≤ j := by omega
            clear hjp hpos hall hje hjlt
            go_wp2_with fail
            go_roundw
            case rel =>
              first
              | exact ⟨j, line, out, rfl, rfl, by omega, by omega, hout, hown, hb, HN2.out⟩
              | (repeat apply Exists.intro); exact ⟨⟨j, line, out, rfl, rfl, by omega, by omega, hout, hown, hb, HN2.out⟩, rfl⟩
            case measure => simp [intOf]; omega
      have n35 : (((c.toNat : Nat) : Int) == 35) = false := by rw [beq_eq_false_iff_ne]; intro e; exact h35 (UInt8.toNat_inj.1 (by show c.toNat = 35; omega))
      have hqne : s.drop p ≠ [] := by rw [HDC.out]; simp
      have hql : (s.drop p).length = s.length - p := List.length_drop
      have hz1' := size_pos hqne
      have hzs := size_le _ hqne
      have hTe : toksF line out.length (s.drop p) = if kindF ((s.drop p).take (sizeF (s.drop p))) = 0 then ([], 8, line) else if out.length = 5000 then ([], 2, line) else
          consF ⟨kindF ((s.drop p).take (sizeF (s.drop p))), line, (s.drop p).take (sizeF (s.drop p))⟩ (toksF line (out.length + 1) ((s.drop p).drop (sizeF (s.drop p)))) := by
        rw [HDC.out]; exact toks_eq _ _ h32 h10 h35
      have hTl : ((s.drop p).take (sizeF (s.drop p))).length ≤ 20000 := by rw [List.length_take]; omega
      have hkd := rkind_any ((s.drop p).take (sizeF (s.drop p))) (by omega)
      have hct := HCUT.out p (sizeF (s.drop p))
      rw [List.drop_drop] at hTe
      obtain ⟨n, hn⟩ : ∃ n, sizeF (s.drop p) = n := ⟨_, rfl⟩
      rw [hn] at hsz hz1' hzs hTe hTl hkd hct
      obtain ⟨T, hT⟩ : ∃ T, (s.drop p).take n = T := ⟨_, rfl⟩
      rw [hT] at hTe hTl hkd hct
      obtain ⟨TB, hTB⟩ : ∃ TB, (⟨T.toArray⟩ : ByteArray) = TB := ⟨_, rfl⟩
      rw [hTB] at hkd hct
      have HTB := Lib.hid hTB
      have HTE := Lib.hid hTe
      have hpn : p + n ≤ S.size := by rw [HZ.out]; omega
      have hpn2 : p + n ≤ s.length := by omega
      have hnn : ((p : Int) + (n : Int)).toNat = p + n := by omega
      clear hTe hTB hT hn hqne h32 h10 h35 hql
      obtain ⟨ad, cap, rfl⟩ := lown_shape hown
      by_cases hk : kindF T = 0
      · have hk' : (((kindF T : Nat) : Int) == 0) = true := by rw [beq_iff_eq]; omega
        have HF : Hid (tokP s = ([], 8, line)) := Lib.hid (by rw [HTP.out, HACC.out, HTE.out, if_pos hk]; exact app_err _ _ _ (by omega))
        clear hk
        go_wp2_with fail
        refine (hsz _).mono ?_
        rintro e w2 ⟨rfl, rfl⟩
        go_wp2_with fail
        refine (hkd _).mono ?_
        rintro e w2 ⟨rfl, rfl⟩
        go_wp2_with fail
        go_ret3
        exact tok_end HF.out (World.ownsRow_nil _ _ _ _) hb
      · have hk' : (((kindF T : Nat) : Int) == 0) = false := by rw [beq_eq_false_iff_ne]; omega
        by_cases h5 : out.length = 5000
        · have h5' : (((out.length : Nat) : Int) == 5000) = true := by rw [beq_iff_eq]; omega
          have HF : Hid (tokP s = ([], 2, line)) := Lib.hid (by rw [HTP.out, HACC.out, HTE.out, if_neg hk, if_pos h5]; exact app_err _ _ _ (by omega))
          clear hk h5
          go_wp2_with fail
          refine (hsz _).mono ?_
          rintro e w2 ⟨rfl, rfl⟩
          go_wp2_with fail
          refine (hkd _).mono ?_
          rintro e w2 ⟨rfl, rfl⟩
          go_wp2_with fail
          go_ret3
          exact tok_end HF.out (World.ownsRow_nil _ _ _ _) hb
        · have h5' : (((out.length : Nat) : Int) == 5000) = false := by rw [beq_eq_false_iff_ne]; omega
          have hlt5 : out.length < 5000 := by omega
          have HF : Hid (toksF 1 0 s = appF (out ++ [⟨kindF T, line, T⟩]) (toksF line (out ++ [(⟨kindF T, line, T⟩ : Tok)]).length (s.drop (p + n)))) := Lib.hid (by
            rw [HACC.out, HTE.out, if_neg hk, if_neg h5, app_cons]; simp)
          clear hk h5
          go_wp2_with fail
          refine (hsz _).mono ?_
          rintro e w2 ⟨rfl, rfl⟩
          go_wp2_with fail
          refine (hkd _).mono ?_
          rintro e w2 ⟨rfl, rfl⟩
          go_wp2_with (at_builtin; refine wpList_append_own _ rfl _ _ 22 rfl w.heap.size 36 i0 (.agg #[.int .i64 0, .int .i64 0, .string ⟨#[]⟩]) 3 32 Tryd.underlying22 hi hz0 hz1 hzz rfl (by decide) _ _ _ rfl (hown.alloc _) ⟨wr.heap.size, 0, none⟩ 1 1 [.int .i64 (kindF T), .int .i64 line, .string TB] rfl rfl (by intro j u hj; match j, hj with | 0, hj => (simp at hj; subst hj; simp [Addr.add]) | 1, hj => (simp at hj; subst hj; simp [Addr.add]) | 2, hj => (simp at hj; subst hj; simp [Addr.add])) (by intro u hu; simp at hu; rcases hu with rfl | rfl | rfl <;> rfl) (by unfold maxLen; omega) (by omega) (by simp; omega) ?_; intro v' w1 hown' hgrow _)
          go_roundw
          case rel =>
            refine ⟨p + n, line, out ++ [⟨kindF T, line, T⟩], by go_num, rfl, by omega, by omega, by simp; omega, ?_, (hb.alloc hbs _).grown hgrow (by simp; omega) (fun k hk => (lown_row hown k hk).1), HF.out⟩
            have hl : (out ++ [(⟨kindF T, line, T⟩ : Tok)]).length = out.length + 1 := by simp
            have hf : ((out ++ [(⟨kindF T, line, T⟩ : Tok)]).map Tok.rt).flatMap rtC = (out.map Tok.rt).flatMap rtC ++ [.int .i64 (kindF T), .int .i64 line, .string TB] := by
              rw [← HTB.out]; simp [Tok.rt, rtC]
            rw [hl, hf]; exact hown'
          case measure => simp [intOf]; omega
    · have hpe : p = s.length := by omega
      have HF : Hid (tokP s = (out, 0, 0)) := Lib.hid (by rw [HTP.out, hacc, hpe, List.drop_of_length_le (Nat.le_refl _), toks_nil]; exact app_end _)
      have hSp : decide (p < S.size) = false := by rw [HZ.out]; simp; omega
      clear hacc hpe
      go_wp2_with fail
      go_ret3
      exact tok_end (e := 0) (n := 0) HF.out hown hb
set_option maxHeartbeats 1000000 in
theorem rtoks_far (s : List UInt8) (hs : 20000 < s.length) (w : World) : Calls Tryd.prog 11 #[.string ⟨s.toArray⟩] w (TokEnd s w) := by
  have hz := bsz s
  have HC : Hid (tokP s = ([], 2, 0)) := Lib.hid (by unfold tokP; rw [if_pos hs])
  generalize (⟨s.toArray⟩ : ByteArray) = S at *
  have hz' : decide ((S.size : Int) > 20000) = true := by rw [decide_eq_true_eq, hz]; omega
  have hz2 : decide (20000 < (S.size : Int)) = true := hz'
  clear hz hs
  go_enter Tryd.func11, Tryd.ntmps11
  go_wp2_with fail
  go_ret3
  exact tok_end (e := 2) (n := 0) HC.out (World.ownsRow_nil _ _ _ _) (Below.refl _ _)
theorem rtoks_any (s : List UInt8) (w : World) : Calls Tryd.prog 11 #[.string ⟨s.toArray⟩] w (TokEnd s w) := by
  by_cases h : 20000 < s.length
  · exact rtoks_far s h w
  · exact rtoks_main s (by omega) w
end Go.Proofs.YtfnclecfldddeaaDoor
