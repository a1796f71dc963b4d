/-
  The law PrinterRates: the texts of rates, one below the other, are read as these rates, or are too much.
-/
import Derived.Test.YtlkefcbkpohpgaaGreatDoorQph
import Derived.Test.YtlkefcbkpohpgaaGreatDoorPrnJn
import Derived.Deep.Cut
namespace Go.Proofs.YtlkefcbkpohpgaaGreatDoor
open Go.RowKit Go.Shelf
set_option maxRecDepth 100000
set_option linter.unusedVariables false
set_option linter.unusedSimpArgs false

set_option maxHeartbeats 1600000 in
theorem lawR_long (p : Option Addr) (n c : Nat) (w : World) (hP : PL w) (hl : 110 < n) : Calls Tryz.prog 7 #[.slice p n c] w (Ret (.bool true) w) := by
  have q0 : decide (110 < (n : Int)) = true := by rw [decide_eq_true_iff]; omega
  have q1 : decide (110 < n) = true := by rw [decide_eq_true_iff]; exact hl
  go_enter Tryz.func7, Tryz.ntmps7
  go_wp2_with fail
  refine (head_any w hP).mono ?_
  rintro e w1 ⟨rfl, hb⟩
  go_wp2_with fail
  go_ret
  exact Ret.mk rfl hb
set_option maxHeartbeats 6400000 in
theorem lawR_any (p : Option Addr) (n c : Nat) (w : World) (hP : PL w) (hL : Lay w) (hA : RatesAt w p n) : Calls Tryz.prog 7 #[.slice p n c] w (Ret (.bool true) w) := by
  by_cases hl : 110 < n
  · exact lawR_long p n c w hP hl
  have q0 : decide (110 < (n : Int)) = false := by rw [decide_eq_false_iff_not]; omega
  have q1 : decide (110 < n) = false := by rw [decide_eq_false_iff_not]; exact hl
  have hn : n ≤ 110 := by omega
  have hd := head_any w hP
  clear hl
  go_enter Tryz.func7, Tryz.ntmps7
  go_wp2_with fail
  refine hd.mono ?_
  rintro e w1 ⟨rfl, hb⟩
  clear hd
  go_wp2_with fail
  clear q0 q1
  go_loopw [4, 20] (fun z i wr => ∃ (k : Nat) (rs : List Rt), i = .int .i64 k ∧ k ≤ n ∧ rs.length = k ∧ (∀ r ∈ rs, goodR r) ∧ RTo w p rs ∧ Dg.OwnRow wr w.heap.size 9 z ((rs.map rtT).map vSj) ∧ Below w.heap.size w wr) (fun _ i _ => n - (intOf i).toNat)
  case atStart => exact ⟨0, [], rfl, Nat.zero_le _, rfl, by simp, rto_nil _ _, Dg.OwnRow.nil _ _ _, hb⟩
  case round =>
    as_aux_lemma =>
      obtain ⟨k, rs, rfl, hkl, hlen, hgood, hrto, hown, q2⟩ := hrel
      by_cases hk : k < n
      · obtain ⟨b, a0, a1, a2, a3, a4, a5, a6, a7, kn, kd, we, pe, ad1, cap1, ad2, cap2, rfl, hblk, t1, t2, hcl, hm⟩ := hA.at k hk
        obtain ⟨m0, m1, m2, m3, m4, m5, m6, m7, m8, m9, m10, m11, m12, m13, m14, m15⟩ := hm wr q2
        have hwk : IntKind.i64.wrap ((k : Int) + 1) = (k : Int) + 1 := IntWalk.i64_in _ (by omega)
        have hca := fun w2 (h : Below wr.heap.size wr w2) => can_any a0 a1 a2 a3 a4 a5 a6 a7 kn kd we pe ad1 ad2 cap1 cap2 w2 (t1.below (q2.trans (h.mono q2.size))) (t2.below (q2.trans (h.mono q2.size)))
        clear hm
        cases hcan : canR a0 a1 a2 a3 a4 a5 a6 a7 kn kd we pe with
        | false =>
          as_aux_lemma =>
            rw [hcan] at hca
            clear hA hrto hown hcl hgood hcan t1 t2
            go_wp2_with fail
            refine (hca _ (alB _ _)).mono ?_
            rintro e w2 ⟨rfl, hx⟩
            go_wp2_with fail
            go_ret
            exact Ret.mk rfl (q2.trans (((alB wr _).trans (hx.mono (alB wr _).size)).mono q2.size))
        | true =>
          as_aux_lemma =>
            rw [hcan] at hca
            obtain ⟨r, hgr, rfl, rfl, rfl, rfl, rfl, rfl, rfl, rfl, rfl, rfl, rfl, rfl⟩ := rt_of_can hcan
            have hR : RateV (fun _ => False) w r (rateC r (.slice ad1 r.when.ks.length cap1) (.slice ad2 r.price.ks.length cap2)) := ⟨ad1, cap1, ad2, cap2, rfl, t1, t2⟩
            have hrto2 := hrto.more hR (by rw [hlen]; exact hcl)
            have hgood2 : ∀ x ∈ rs ++ [r], goodR x := fun x hx => by
              rcases List.mem_append.1 hx with h | h
              · exact hgood x h
              · rw [List.mem_singleton.1 h]; exact hgr
            have hpr := fun w2 (h : Below wr.heap.size wr w2) => prate_any r.a0 r.a1 r.a2 r.a3 r.a4 r.a5 r.a6 r.a7 r.kn r.kd r.when r.price ad1 ad2 cap1 cap2 w2 (hP.below (q2.trans (h.mono q2.size))) (t1.below (q2.trans (h.mono q2.size))) (t2.below (q2.trans (h.mono q2.size)))
            simp only [rt_written hgr] at hpr
            have hlen2 : (rs ++ [r]).length = k + 1 := by simp [hlen]
            have hl1 : ((rs.map rtT).map vSj).length ≤ 200 := by simp; omega
            have hmp : ((rs ++ [r]).map rtT).map vSj = (rs.map rtT).map vSj ++ [vSj (rtT r)] := by simp
            have HR := Lib.hid hrto2
            have HG := Lib.hid hgood2
            have HL2 := Lib.hid hlen2
            have HMP := Lib.hid hmp
            clear hA hrto hcl hgood hcan hR hrto2 hgood2 hgr hlen2 hmp t1 t2
            generalize rtT r = T at hpr HMP
            generalize (rs.map rtT).map vSj = TS at hown hl1 HMP
            have o6 := Own.new wr #[.int .i64 (r.a0 : Nat), .int .i64 (r.a1 : Nat), .int .i64 (r.a2 : Nat), .int .i64 (r.a3 : Nat), .int .i64 (r.a4 : Nat), .int .i64 (r.a5 : Nat), .int .i64 (r.a6 : Nat), .int .i64 (r.a7 : Nat), .int .i64 r.kn, .int .i64 r.kd, .int .i64 r.when.o, .int .i64 r.when.n, .slice ad1 r.when.ks.length cap1, .int .i64 r.price.o, .int .i64 r.price.n, .slice ad2 r.price.ks.length cap2] 52
            have hb1 : Below wr.heap.size wr (wr.alloc (.cells #[.int .i64 (r.a0 : Nat), .int .i64 (r.a1 : Nat), .int .i64 (r.a2 : Nat), .int .i64 (r.a3 : Nat), .int .i64 (r.a4 : Nat), .int .i64 (r.a5 : Nat), .int .i64 (r.a6 : Nat), .int .i64 (r.a7 : Nat), .int .i64 r.kn, .int .i64 r.kd, .int .i64 r.when.o, .int .i64 r.when.n, .slice ad1 r.when.ks.length cap1, .int .i64 r.price.o, .int .i64 r.price.n, .slice ad2 r.price.ks.length cap2] 52)) := alB _ _
            go_wp2_with fail
            refine (hca _ hb1).mono ?_
            rintro e w2 ⟨rfl, hx⟩
            clear m0 m1 m2 m3 m4 m5 m6 m7 m8 m9 m10 m11 m12 m13 m14 m15 hca
            replace o6 := o6.below hx
            replace hb1 := hb1.trans (hx.mono hb1.size)
            obtain ⟨c0, c1, c2, c3, c4, c5, c6, c7, c8, c9, c10, c11, c12, c13, c14, c15, cz⟩ := own_16 o6
            clear hx
            go_wp2_with fail
            refine (hpr _ hb1).mono ?_
            rintro e w3 ⟨rfl, hx⟩
            clear c0 c1 c2 c3 c4 c5 c6 c7 c8 c9 c10 c11 c12 c13 c14 c15 cz hpr
            replace hb1 := hb1.trans (hx.mono hb1.size)
            have hown1 := Dg.own_below hown hb1
            have hb3 := q2.trans (hb1.mono q2.size)
            have q5 : w.heap.size ≤ w3.heap.size := hb3.size
            clear hx hown o6 q2
            go_wp2_with (at_builtin; refine Dg.app_row _ rfl _ _ 43 rfl w.heap.size 9 (.string ⟨#[]⟩) 16 Tryz.underlying43 infoStrj rfl (by decide) _ TS rfl (Dg.own_below hown1 ((Below.refl _ w3).alloc (Nat.le_refl _) _)) _ [vSj T] rfl (Dg.byte_row (Own.new _ #[vSj T] _)) (by intro u hu; simp at hu; subst hu; rfl) (by simp; omega) (by simp; omega) ?_; intro v3 w5 hown3 hx5; refine Hid.out ?_)
            have q6 : Below w.heap.size w w5 := by
              have a1 := (Below.refl w3.heap.size w3).alloc (Nat.le_refl _) (.cells #[vSj T] 9)
              exact hb3.trans ((a1.mono hb3.size).trans hx5)
            clear hx5 hown1 hb1 hb3
            refine Lib.hid ?_
            go_wp2_with fail
            go_roundw
            case rel => exact ⟨k + 1, rs ++ [r], by go_num, by omega, HL2.out, HG.out, HR.out, by rw [HMP.out]; exact hown3, q6⟩
            case measure => simp [intOf]; omega
      · as_aux_lemma =>
          obtain rfl : k = n := by omega
          subst hlen
          have hpb : rs = [] ∨ ∃ b, p = some b ∧ b.block < w.heap.size := by
            rcases Nat.eq_zero_or_pos rs.length with h0 | h0
            · exact .inl (List.length_eq_zero_iff.1 h0)
            · obtain ⟨b, _, _, _, _, _, _, _, _, _, _, _, _, _, _, _, _, h1, h2, -⟩ := hA.at 0 h0
              exact .inr ⟨b, h1, h2⟩
          have hrl : RSl w (.slice p rs.length c) rs := hrto.rsl (by omega) hpb
          have hjl := joinT_len rs hgood
          have hjn := joinS_any hown (by simp; omega) (by rw [join_is]; omega)
          rw [join_is] at hjn
          have hpj := fun w2 (h : Below w.heap.size w w2) => rates_law (joinT rs) w2 (hL.below h)
          have HJ : Hid (∀ ls e n, RP (joinT rs) ls e n → ((100 < rs.length ∨ 20000 < (joinT rs).length) → e = 2) ∧ (¬ 100 < rs.length → ¬ 20000 < (joinT rs).length → e = 2 → 5000 ≤ (joinT rs).length) ∧ (¬ 100 < rs.length → ¬ 20000 < (joinT rs).length → e ≠ 2 → e = 0 ∧ n = 0 ∧ ls = rs.map Rt.list)) := Lib.hid fun ls e n h => rates_joined hgood h
          have hsz : (⟨(joinT rs).toArray⟩ : ByteArray).size = (joinT rs).length := bsz8 _
          clear hA hrto hgood hpb hown hjl
          generalize (⟨(joinT rs).toArray⟩ : ByteArray) = S at hjn hpj hsz
          go_wp2_with fail
          refine hjn.mono ?_
          rintro e w3 ⟨rfl, hx⟩
          replace q2 := q2.trans (hx.mono q2.size)
          clear hx hjn
          go_wp2_with fail
          refine (hpj _ q2).mono ?_
          rintro e w4 ⟨rs2, ec, n2, v2, p2, rfl, -, r2, hx⟩
          replace q2 := q2.trans (hx.mono q2.size)
          clear hx hpj
          obtain ⟨j1, j2, j3⟩ := HJ.out _ _ _ p2
          clear p2 HJ
          by_cases h100 : 100 < rs.length
          · obtain rfl := j1 (.inl h100)
            have g0 : decide (100 < (rs.length : Int)) = true := by rw [decide_eq_true_iff]; omega
            have g1 : decide (100 < rs.length) = true := by rw [decide_eq_true_iff]; exact h100
            clear j1 j2 j3 h100
            go_wp2_with fail
            go_ret
            exact Ret.mk rfl q2
          have g0 : decide (100 < (rs.length : Int)) = false := by rw [decide_eq_false_iff_not]; omega
          have g1 : decide (100 < rs.length) = false := by rw [decide_eq_false_iff_not]; exact h100
          by_cases h20 : 20000 < (joinT rs).length
          · obtain rfl := j1 (.inr h20)
            have g2 : decide (20000 < ((joinT rs).length : Int)) = true := by rw [decide_eq_true_iff]; omega
            have g3 : decide (20000 < (joinT rs).length) = true := by rw [decide_eq_true_iff]; exact h20
            clear j1 j2 j3 h100 h20
            go_wp2_with fail
            go_ret
            exact Ret.mk rfl q2
          have g2 : decide (20000 < ((joinT rs).length : Int)) = false := by rw [decide_eq_false_iff_not]; omega
          have g3 : decide (20000 < (joinT rs).length) = false := by rw [decide_eq_false_iff_not]; exact h20
          by_cases he : ec = 2
          · have h5 := j2 h100 h20 he
            subst he
            have g4 : decide ((5000 : Int) ≤ ((joinT rs).length : Int)) = true := by rw [decide_eq_true_iff]; omega
            have g5 : decide (5000 ≤ (joinT rs).length) = true := by rw [decide_eq_true_iff]; exact h5
            clear j1 j2 j3 h100 h20 h5
            go_wp2_with fail
            go_ret
            exact Ret.mk rfl q2
          · obtain ⟨rfl, rfl, hls⟩ := j3 h100 h20 he
            obtain rfl := tl_inj hls
            have hsm := fun w5 (h : Below w4.heap.size w4 w5) => sameRates_any rs2 _ _ w5 ((hrl.below q2).below h) (r2.below h)
            obtain ⟨ad2, cap2, rfl⟩ := r2.shape
            clear j1 j2 j3 h100 h20 he hls
            go_wp2_with fail
            refine (hsm _ (Below.refl _ _)).mono ?_
            rintro e w5 ⟨rfl, hx⟩
            go_wp2_with fail
            go_ret
            exact Ret.mk rfl (q2.trans (hx.mono q2.size))
end Go.Proofs.YtlkefcbkpohpgaaGreatDoor
