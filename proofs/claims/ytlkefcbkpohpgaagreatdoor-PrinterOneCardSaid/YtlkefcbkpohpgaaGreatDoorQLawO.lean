/-
  The law PrinterOne: what is read can be written, and is read again.
-/
import Derived.Test.YtlkefcbkpohpgaaGreatDoorQph
import Derived.Test.YtlkefcbkpohpgaaGreatDoorQpo
import Derived.Test.YtlkefcbkpohpgaaGreatDoorQt
import Derived.Deep.Cut
import Derived.BigQuiet
namespace Go.Proofs.YtlkefcbkpohpgaaGreatDoor
open Go.RowKit Go.Shelf
set_option maxRecDepth 100000

set_option maxHeartbeats 1600000 in
theorem lawO_long (s : List UInt8) (w : World) (hP : PL w) (hl : 2000 < s.length) : Calls Tryz.prog 8 #[.string ⟨s.toArray⟩] w (Ret (.bool true) w) := by
  have hsz := bsz8 s
  have q0 : decide (2000 < (s.length : Int)) = true := by rw [decide_eq_true_iff]; omega
  have q1 : decide (2000 < s.length) = true := by rw [decide_eq_true_iff]; exact hl
  go_enter Tryz.func8, Tryz.ntmps8
  go_wp2_with fail
  refine (head_any w hP).mono ?_
  rintro e w1 ⟨rfl, hb⟩
  go_wp2_with fail
  go_ret
  exact Ret.mk rfl hb
theorem one_rt {w : World} {v : Value} {rs : List Rt} {x : Rt} (h : RSl w v rs) (he : rs.map Rt.list = [x.list]) : RSl w v [x] := by
  have : rs = [x] := tl_inj (by rw [he]; rfl)
  rw [← this]; exact h
theorem rp_err {s : List UInt8} {a : List (List Xp)} {e n : Nat} (h : RP s a e n) (he : e ≠ 0) : a = [] := by
  cases h with
  | lex => rfl
  | ok => exact absurd rfl he
  | err => rfl
set_option maxHeartbeats 6400000 in
theorem lawO_any (s : List UInt8) (w : World) (hP : PL w) (hL : Lay w) : Calls Tryz.prog 8 #[.string ⟨s.toArray⟩] w (Ret (.bool true) w) := by
  by_cases hl : 2000 < s.length
  · exact lawO_long s w hP hl
  have hsz := bsz8 s
  have q0 : decide (2000 < (s.length : Int)) = false := by rw [decide_eq_false_iff_not]; omega
  have q1 : decide (2000 < s.length) = false := by rw [decide_eq_false_iff_not]; exact hl
  have hR1 := fun w1 h => rates_law s w1 (hL.below (w1 := w1) h)
  have hE1 := fun w1 h => pexpr_any s w1 (hL.below (w1 := w1) h)
  have hd := head_any w hP
  clear hl
  generalize (⟨s.toArray⟩ : ByteArray) = S at *
  go_enter Tryz.func8, Tryz.ntmps8
  go_wp2_with fail
  refine hd.mono ?_
  rintro e w1 ⟨rfl, hb⟩
  go_wp2_with fail
  refine (hE1 _ hb).mono ?_
  rintro e w2 ⟨x, k, tv, hE, rfl, tx, hx⟩
  obtain ⟨ad, cap, rfl, -, -⟩ := tx.shape
  replace hb := hb.trans (hx.mono hb.size)
  clear hx hd hE1
  go_upto_if 32 with (fail)
  go_cut [3] from 6 (fun s3 wx => s3 = .bool true ∧ Below w.heap.size w wx)
  case first =>
    as_aux_lemma =>
      by_cases h0 : k = 0
      · subst h0
        have hv := hE.zero.2.2
        have hrd := txt_read hv
        have hp1 := fun w1 (hb1 : Below w2.heap.size w2 w1) => pprint_any x _ w1 (hP.below (hb.trans (hb1.mono hb.size))) (tx.below hb1)
        unfold exprP at hp1
        rw [if_pos hv] at hp1
        simp only at hp1
        have hpe := fun w1 (hb1 : Below w2.heap.size w2 w1) => pexpr_any (txtE x) w1 (hL.below (hb.trans (hb1.mono hb.size)))
        have hp2 := fun w1 (tv : Value) (R : Nat → Prop) (hb1 : Below w2.heap.size w2 w1) (ht : Tree R w1 x tv) => pprint_any x tv w1 (hP.below (hb.trans (hb1.mono hb.size))) ht
        unfold exprP at hp2
        rw [if_pos hv] at hp2
        simp only at hp2
        have hsm := fun w1 (tv : Value) (R : Nat → Prop) (hb1 : Below w2.heap.size w2 w1) (ht : Tree R w1 x tv) => same_self (tx.below hb1) ht
        have o4 := Own.new w2 #[.int .i64 x.o, .int .i64 x.n, .slice ad x.ks.length cap] 24
        have hb1 : Below w2.heap.size w2 (w2.alloc (.cells #[.int .i64 x.o, .int .i64 x.n, .slice ad x.ks.length cap] 24)) := alB _ _
        clear hE hR1 tx
        generalize txtE x = T1 at *
        generalize (⟨T1.toArray⟩ : ByteArray) = S1 at hp1 hp2 hpe
        go_wp2_with fail
        refine (hp1 _ hb1).mono ?_
        rintro e w3 ⟨rfl, hx⟩
        replace o4 := o4.below hx
        replace hb1 := hb1.trans (hx.mono hb1.size)
        obtain ⟨c0, c1, c2, -, -, -, cz⟩ := o4.three
        clear hx
        go_wp2_with fail
        refine (hpe _ hb1).mono ?_
        rintro e w4 ⟨y, k, tv, hE, rfl, ty, hx⟩
        obtain ⟨rfl, rfl⟩ := hE.det hrd
        obtain ⟨ad2, cap2, rfl, -, -⟩ := ty.shape
        clear c0 c1 c2 cz hE hrd hp1 hpe
        replace o4 := o4.below hx
        replace hb1 := hb1.trans (hx.mono hb1.size)
        obtain ⟨c0, c1, c2, -, -, -, cz⟩ := o4.three
        clear hx
        have ty1 := ty.alloc (.cells #[.int .i64 y.o, .int .i64 y.n, .slice ad2 y.ks.length cap2] 24)
        have o8 := Own.new w4 #[.int .i64 y.o, .int .i64 y.n, .slice ad2 y.ks.length cap2] 24
        go_wp2_with fail
        refine (hp2 _ _ _ (balloc hb1 _) ty1).mono ?_
        rintro e w5 ⟨rfl, hx⟩
        clear c0 c1 c2 cz hp2
        replace ty1 := ty1.below hx
        replace o4 := (o4.alloc _).below hx
        replace o8 := o8.below hx
        replace hb1 := (balloc hb1 _).trans (hx.mono (balloc hb1 _).size)
        obtain ⟨c0, c1, c2, -, -, -, cz⟩ := o4.three
        obtain ⟨d0, d1, d2, -, -, -, dz⟩ := o8.three
        clear hx
        go_wp2_with fail
        refine (hsm _ _ _ hb1 ty1).mono ?_
        rintro e w6 ⟨rfl, hx⟩
        go_wp2_with fail
        go_meet
        exact ⟨by simp, hb.trans ((hb1.trans (hx.mono hb1.size)).mono hb.size)⟩
      · have h1 : ((k : Int) == 0) = false := by rw [beq_eq_false_iff_ne]; omega
        have h2 : (k == 0) = false := by rw [beq_eq_false_iff_ne]; exact h0
        clear h0 hE hR1
        go_wp2_with fail
        go_meet
        exact ⟨rfl, balloc hb _⟩
  case rest =>
    as_aux_lemma =>
      obtain ⟨rfl, hb⟩ := hcut
      go_wp2_with fail
      refine (hR1 _ hb).mono ?_
      rintro e w4 ⟨rs, ec, n, v, p1, rfl, hl1, r1, hx⟩
      replace hb := hb.trans (hx.mono hb.size)
      clear hx hR1 tx hE
      obtain ⟨ad4, cap4, rfl⟩ := r1.shape
      by_cases h0 : ec = 0
      · subst h0
        have HG := Lib.hid (rp_good p1)
        have HL := Lib.hid hl1
        clear p1 hl1
        go_wp2_with fail
        go_loopw [3, 87] (fun a i wr => a = .bool true ∧ ∃ k : Nat, i = .int .i64 k ∧ k ≤ rs.length ∧ Below w4.heap.size w4 wr) (fun _ i _ => rs.length - (intOf i).toNat)
        case atStart => exact ⟨rfl, 0, rfl, Nat.zero_le _, Below.refl _ _⟩
        case round =>
          as_aux_lemma =>
            obtain ⟨rfl, k, rfl, hkl, q3⟩ := hrel
            by_cases hk : k < rs.length
            · obtain ⟨a, ad1, cap1, ad2, cap2, rfl, hab, hr, m0, m1, m2, m3, m4, m5, m6, m7, m8, m9, m10, m11, m12, m13, m14, m15⟩ := (r1.below q3).reads k hk
              have hwk : IntKind.i64.wrap ((k : Int) + 1) = (k : Int) + 1 := IntWalk.i64_in _ (by have := HL.out; omega)
              have hg := HG.out _ (List.getElem_mem hk)
              have hrd := (rt_read hg).1
              have hwr := rt_written hg
              have hbw : Below w.heap.size w wr := hb.trans (q3.mono hb.size)
              have hpr := fun w1 (h : Below wr.heap.size wr w1) (R : Nat → Prop) (t1 : Tree R w1 rs[k].when _) (t2 : Tree R w1 rs[k].price _) => prate_any rs[k].a0 rs[k].a1 rs[k].a2 rs[k].a3 rs[k].a4 rs[k].a5 rs[k].a6 rs[k].a7 rs[k].kn rs[k].kd rs[k].when rs[k].price ad1 ad2 cap1 cap2 w1 (hP.below (hbw.trans (h.mono hbw.size))) t1 t2
              simp only [hwr] at hpr
              have hbk := fun w1 (h : Below wr.heap.size wr w1) => rates_law (rtT rs[k]) w1 (hL.below (hbw.trans (h.mono hbw.size)))
              have hsr := fun w2 (c : List Value) (h : Below wr.heap.size wr w2) (hc : RateV (fun _ => False) w2 rs[k] c) => sameRate_any rs[k] c _ w2 hc (RateV.go (Q := fun _ => False) (R := fun _ => False) h.size (fun i hi hq => ⟨h.block i hi, hq⟩) hr)
              obtain ⟨t1, t2⟩ : Tree (fun _ => False) wr rs[k].when (.agg #[.int .i64 rs[k].when.o, .int .i64 rs[k].when.n, .slice ad1 rs[k].when.ks.length cap1]) ∧ Tree (fun _ => False) wr rs[k].price (.agg #[.int .i64 rs[k].price.o, .int .i64 rs[k].price.n, .slice ad2 rs[k].price.ks.length cap2]) := by
                obtain ⟨_, _, _, _, he, t1, t2⟩ := hr
                unfold rateC at he
                simp only [List.cons.injEq, Value.slice.injEq, true_and, and_true] at he
                obtain ⟨⟨rfl, rfl⟩, ⟨rfl, rfl⟩⟩ := he
                exact ⟨t1, t2⟩
              clear hwr hg hr
              generalize rtT rs[k] = T at *
              generalize (⟨T.toArray⟩ : ByteArray) = S2 at hpr hbk
              generalize rs[k] = x at *
              unfold rateC at hsr
              have o15 := Own.new wr #[.int .i64 (x.a0 : Nat), .int .i64 (x.a1 : Nat), .int .i64 (x.a2 : Nat), .int .i64 (x.a3 : Nat), .int .i64 (x.a4 : Nat), .int .i64 (x.a5 : Nat), .int .i64 (x.a6 : Nat), .int .i64 (x.a7 : Nat), .int .i64 x.kn, .int .i64 x.kd, .int .i64 x.when.o, .int .i64 x.when.n, .slice ad1 x.when.ks.length cap1, .int .i64 x.price.o, .int .i64 x.price.n, .slice ad2 x.price.ks.length cap2] 52
              have hb1 : Below wr.heap.size wr (wr.alloc (.cells #[.int .i64 (x.a0 : Nat), .int .i64 (x.a1 : Nat), .int .i64 (x.a2 : Nat), .int .i64 (x.a3 : Nat), .int .i64 (x.a4 : Nat), .int .i64 (x.a5 : Nat), .int .i64 (x.a6 : Nat), .int .i64 (x.a7 : Nat), .int .i64 x.kn, .int .i64 x.kd, .int .i64 x.when.o, .int .i64 x.when.n, .slice ad1 x.when.ks.length cap1, .int .i64 x.price.o, .int .i64 x.price.n, .slice ad2 x.price.ks.length cap2] 52)) := alB _ _
              go_wp2_with fail
              refine (hpr _ hb1 _ (t1.below hb1) (t2.below hb1)).mono ?_
              rintro e w5 ⟨rfl, hx⟩
              clear hpr m0 m1 m2 m3 m4 m5 m6 m7 m8 m9 m10 m11 m12 m13 m14 m15
              replace o15 := o15.below hx
              replace hb1 := hb1.trans (hx.mono hb1.size)
              clear hx
              go_wp2_with fail
              refine (hbk _ hb1).mono ?_
              rintro e w6 ⟨ss, ec2, n2, v2, p2, rfl, -, r2, hx⟩
              obtain ⟨e1, rfl, -⟩ := p2.det hrd
              have r3 := one_rt r2 e1
              replace o15 := o15.below hx
              replace hb1 := hb1.trans (hx.mono hb1.size)
              clear hx hbk hrd p2 e1 r2
              obtain ⟨ad5, cap5, rfl⟩ := r3.shape
              obtain ⟨b, bd1, bap1, bd2, bap2, rfl, hbb, hs, n0, n1, n2, n3, n4, n5, n6, n7, n8, n9, n10, n11, n12, n13, n14, n15⟩ := r3.reads 0 (by simp)
              have hz0 : b.add 0 = b := by rcases b with ⟨x, y, z⟩; cases z <;> rfl
              simp only [Nat.zero_mul, hz0, List.getElem_cons_zero] at hbb hs n0 n1 n2 n3 n4 n5 n6 n7 n8 n9 n10 n11 n12 n13 n14 n15
              obtain ⟨c0, c1, c2, c3, c4, c5, c6, c7, c8, c9, c10, c11, c12, c13, c14, c15, cz⟩ := own_16 o15
              have hcall := fun w2 (h : Below w6.heap.size w6 w2) => hsr w2 _ (hb1.trans (h.mono hb1.size)) (RateV.go (Q := fun _ => False) (R := fun _ => False) h.size (fun i hi hq => ⟨h.block i hi, hq⟩) hs)
              unfold rateC at hcall
              clear hsr hs t1 t2 o15 r3
              have N0 : ∀ g : Grow w6, (up w6 g).cell? b = _ := fun g => (g.below.cell (p := b) hbb).trans n0
              have N1 : ∀ g : Grow w6, (up w6 g).cell? { block := b.block, off := b.off + 1 } = _ := fun g => (g.below.cell (p := { block := b.block, off := b.off + 1 }) hbb).trans n1
              have N2 : ∀ g : Grow w6, (up w6 g).cell? { block := b.block, off := b.off + 2 } = _ := fun g => (g.below.cell (p := { block := b.block, off := b.off + 2 }) hbb).trans n2
              have N3 : ∀ g : Grow w6, (up w6 g).cell? { block := b.block, off := b.off + 3 } = _ := fun g => (g.below.cell (p := { block := b.block, off := b.off + 3 }) hbb).trans n3
              have N4 : ∀ g : Grow w6, (up w6 g).cell? { block := b.block, off := b.off + 4 } = _ := fun g => (g.below.cell (p := { block := b.block, off := b.off + 4 }) hbb).trans n4
              have N5 : ∀ g : Grow w6, (up w6 g).cell? { block := b.block, off := b.off + 5 } = _ := fun g => (g.below.cell (p := { block := b.block, off := b.off + 5 }) hbb).trans n5
              have N6 : ∀ g : Grow w6, (up w6 g).cell? { block := b.block, off := b.off + 6 } = _ := fun g => (g.below.cell (p := { block := b.block, off := b.off + 6 }) hbb).trans n6
              have N7 : ∀ g : Grow w6, (up w6 g).cell? { block := b.block, off := b.off + 7 } = _ := fun g => (g.below.cell (p := { block := b.block, off := b.off + 7 }) hbb).trans n7
              have N8 : ∀ g : Grow w6, (up w6 g).cell? { block := b.block, off := b.off + 8 } = _ := fun g => (g.below.cell (p := { block := b.block, off := b.off + 8 }) hbb).trans n8
              have N9 : ∀ g : Grow w6, (up w6 g).cell? { block := b.block, off := b.off + 9 } = _ := fun g => (g.below.cell (p := { block := b.block, off := b.off + 9 }) hbb).trans n9
              have N10 : ∀ g : Grow w6, (up w6 g).cell? { block := b.block, off := b.off + 10 } = _ := fun g => (g.below.cell (p := { block := b.block, off := b.off + 10 }) hbb).trans n10
              have N11 : ∀ g : Grow w6, (up w6 g).cell? { block := b.block, off := b.off + 11 } = _ := fun g => (g.below.cell (p := { block := b.block, off := b.off + 11 }) hbb).trans n11
              have N12 : ∀ g : Grow w6, (up w6 g).cell? { block := b.block, off := b.off + 12 } = _ := fun g => (g.below.cell (p := { block := b.block, off := b.off + 12 }) hbb).trans n12
              have N13 : ∀ g : Grow w6, (up w6 g).cell? { block := b.block, off := b.off + 13 } = _ := fun g => (g.below.cell (p := { block := b.block, off := b.off + 13 }) hbb).trans n13
              have N14 : ∀ g : Grow w6, (up w6 g).cell? { block := b.block, off := b.off + 14 } = _ := fun g => (g.below.cell (p := { block := b.block, off := b.off + 14 }) hbb).trans n14
              have N15 : ∀ g : Grow w6, (up w6 g).cell? { block := b.block, off := b.off + 15 } = _ := fun g => (g.below.cell (p := { block := b.block, off := b.off + 15 }) hbb).trans n15
              clear n0 n1 n2 n3 n4 n5 n6 n7 n8 n9 n10 n11 n12 n13 n14 n15
              go_wp2_with fail
              as_aux_lemma =>
                refine wp_region_up (by kernel_rfl) (by kernel_rfl) ?_
                repeat (go_big_quiet_step ((go_at_call 29; exact Ret.up (hcall _ (up_below _ _)))))
                refine wpQuiet_nil ?_
                rintro w7 ⟨g, rfl⟩
                have q4 : Below w4.heap.size w4 (up w6 g) := q3.trans ((hb1.trans ((up_below _ g).mono hb1.size)).mono q3.size)
                clear hcall N0 N1 N2 N3 N4 N5 N6 N7 N8 N9 N10 N11 N12 N13 N14 N15 c0 c1 c2 c3 c4 c5 c6 c7 c8 c9 c10 c11 c12 c13 c14 c15
                generalize up w6 g = w7 at q4 ⊢
                go_wp2_with fail
                go_roundw
                case rel => exact ⟨rfl, k + 1, by go_num, by omega, q4⟩
                case measure => simp [intOf]; omega
            · go_wp2_with fail
              go_ret
              exact Ret.mk rfl (hb.trans (q3.mono hb.size))
      · have hrs : rs = [] := List.map_eq_nil_iff.1 (rp_err p1 h0)
        subst hrs
        have h1 : ((ec : Int) != 0) = true := by rw [bne_iff_ne]; omega
        have h2 : (ec != 0) = true := by rw [bne_iff_ne]; exact h0
        clear h0 p1 hl1
        go_wp2_with fail
        go_ret
        exact Ret.mk rfl hb
end Go.Proofs.YtlkefcbkpohpgaaGreatDoor
