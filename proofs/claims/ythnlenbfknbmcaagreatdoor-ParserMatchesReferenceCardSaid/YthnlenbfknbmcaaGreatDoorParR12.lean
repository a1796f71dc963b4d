/-
  The reference's Rates.
-/
import Derived.Test.YthnlenbfknbmcaaGreatDoorParR10
import Derived.Test.YthnlenbfknbmcaaGreatDoorParR11
import Derived.Test.YthnlenbfknbmcaaGreatDoorQr
import Derived.Test.YthnlenbfknbmcaaGreatDoorQt
import Derived.Test.YthnlenbfknbmcaaGreatDoorLoad
import Derived.Deep.DeepCutAuto
namespace Go.Proofs.YthnlenbfknbmcaaGreatDoor
open Go.RowKit Go.Shelf
set_option maxRecDepth 100000
set_option linter.unusedVariables false
set_option linter.unusedSimpArgs false
/-- a reading that begins with a word -/
theorem lit_ok {w : List UInt8} {is : List Item} {ts r : List Tok} {l : List Xp} (h : G (.seq (.lit w :: is)) ts (.ok l r)) : isT w ts = true ∧ r.length < ts.length := by
  obtain ⟨f, hf⟩ := h
  cases f with
  | zero => cases hf
  | succ f =>
    simp only [run, stepP] at hf
    split at hf
    · next hq =>
      refine ⟨hq, ?_⟩
      have h1 := (run_suf f _ _ _ hf).length_le
      cases ts with
      | nil => simp [isT] at hq
      | cons x r2 =>
        simp only [Res.rest, List.tail_cons] at h1
        simp only [List.length_cons]
        omega
    · cases hf
theorem ownG {w w' : World} {B : Nat} {xs : List Value} {row : Option Nat} (h : Own w B xs) (hg : w.grownBy w' row) (hn : ∀ r, row = some r → r ≠ B) : Own w' B xs := by
  have hk : w'.heap[B]? = w.heap[B]? := hg.block B h.lt (fun e => hn B e.symm rfl)
  exact ⟨fun i v hi => (World.cell?_of_block (a := ⟨B, i, none⟩) hk).trans (h.cell i v hi), fun i v hi => (World.frozen?_of_block (a := ⟨B, i, none⟩) hk).trans (h.fro i v hi), Nat.lt_of_lt_of_le h.lt hg.size⟩
theorem belG {B : Nat} {a w w' : World} {row : Option Nat} (h : Below B a w) (hg : w.grownBy w' row) (hn : ∀ r, row = some r → B ≤ r) (hs : B ≤ w.heap.size) : Below B a w' := by
  refine ⟨hg.os.trans h.os, hg.tape.trans h.tape, hg.output.trans h.output, Nat.le_trans h.size hg.size, fun k hk => (hg.block k (by omega) (fun e => ?_)).trans (h.block k hk)⟩
  have := hn k e.symm
  omega
set_option maxHeartbeats 6400000 in
theorem rRates8_any (s : List UInt8) (w : World) : Calls Tryz.prog 14 #[.string ⟨s.toArray⟩] w (RL s w) := by
  have ht := rtok_any s w
  obtain ⟨i0, hi, hz0, hz1, hzz⟩ : ∃ i, Tryz.prog.info? 52 = some i ∧ i.zero = some (.agg #[.int .i64 0, .int .i64 0, .int .i64 0, .int .i64 0, .int .i64 0, .int .i64 0, .int .i64 0, .int .i64 0, .int .i64 0, .int .i64 0, .int .i64 0, .int .i64 0, .slice none 0 0, .int .i64 0, .int .i64 0, .slice none 0 0]) ∧ i.size = 16 ∧ i.bytes = 160 := by
    have := Tryz.infoRate
    cases hq : Tryz.prog.info? 52 with
    | none => rw [hq] at this; simp at this
    | some i => rw [hq] at this; simp at this; exact ⟨i, rfl, this.1, this.2.1, this.2.2⟩
  go_enter Tryz.func14, Tryz.ntmps14
  go_wp2_with fail
  refine ht.mono ?_
  rintro e w1 ⟨v1, rfl, hv1, -, hb⟩
  clear ht
  by_cases h0 : (tokP s).2.1 = 0
  · have h0b : (((tokP s).2.1 : Int) != 0) = false := by simpa using (by omega : ((tokP s).2.1 : Int) = 0)
    have hcnt := tok_count s
    obtain ⟨ad, cap, hvv⟩ := hv1.open
    rw [List.length_map] at hvv
    subst hvv
    have hE := renv_of h0 hv1
    have hRP : ∀ a, RR 0 (tokP s).1 a → RP s (match a with | .ok ls => ls | .err _ _ => []) (match a with | .ok _ => 0 | .err k _ => k) (match a with | .ok _ => 0 | .err _ q => lineAt (tokP s).1 q) := fun a h => by
      cases a with
      | ok ls => exact .ok h0 h
      | err k q => exact .err h0 h
    have h0H := Lib.hid h0
    replace hRP := Lib.hid hRP
    clear hv1 h0
    have hz2 : (tokP s).2.2 = 0 := (tok_zero h0H.out).2.2.1
    generalize (tokP s).2.2 = ln0 at *
    clear hz2
    generalize hTL : (tokP s).1 = L at *
    replace hTL := Lib.hid hTL
    go_wp2_with fail
    have op := Own.new w1 #[.slice ad L.length cap, .int .i64 (0 : Nat), .bool false] 67
    go_loopw [8] (fun lv wr => ∃ (rs : List Rt) (cells : List Value) (j : Nat), rs.length ≤ 100 ∧ wr.ownsRow (w1.heap.size + 1) 52 16 lv rs.length cells ∧ RatesC (Qv (w1.heap.size + 1) lv) wr rs cells ∧ (∀ a, RR rs.length (L.drop j) a → RR 0 L (a.pre (rs.map Rt.list))) ∧ j ≤ L.length ∧ Own wr w1.heap.size [.slice ad L.length cap, .int .i64 (j : Nat), .bool false] ∧ Below w1.heap.size w1 wr) (fun _ wr => L.length - readI w1.heap.size wr)
    case atStart => exact ⟨[], [], 0, by simp, World.ownsRow_nil _ _ _ _, rfl, fun a h => by cases a <;> exact h, Nat.zero_le _, op, balloc (Below.refl _ _) _⟩
    case round =>
      obtain ⟨rs, cells, j, hrs, hown, hrc, hpre, hle, op, hw⟩ := hrel
      have HS := Lib.hid hpre
      clear hpre
      have hmz := readI_own op
      have hP := op.lt
      by_cases hj : j = L.length
      · have HG := Lib.hid (HS.out (.ok []) (by rw [hj, List.drop_length]; exact .nil))
        have hjb : decide ((j : Int) < (L.length : Int)) = false := by simp; omega
        clear HS hmz
        obtain ⟨p0, p1, p2, p3, p4, p5, p6⟩ := op.three
        go_wp2_with fail
        go_ret3
        have HQ := hRP.out _ HG.out
        simp only [RRes.pre, List.append_nil] at HQ
        exact ⟨rs, 0, 0, _, HQ, rfl, hrs, rsl_own hown hrc (by omega), hb.trans (hw.mono hb.size)⟩
      · have hjl : j < L.length := by omega
        have hjb : decide ((j : Int) < (L.length : Int)) = true := by simp; omega
        have hne : L.drop j ≠ [] := by intro h; have := congrArg List.length h; rw [List.length_drop] at this; simp at this; omega
        have hL0 : L ≠ [] := by intro h; rw [h] at hjl; simp at hjl
        have hI := ris_any hE wRate j false _ hw
        rw [Bool.not_false, Bool.true_and] at hI
        have hLn := fun q w2 (h : Below w1.heap.size w1 w2) => rline_any hE q hL0 w2 h
        have hRt := fun w2 (h : Below w1.heap.size w1 w2) => rrate_any hE j hle w2 h
        obtain ⟨p0, p1, p2, p3, p4, p5, p6⟩ := op.three
        go_wp2_with fail
        refine hI.mono ?_
        rintro e w2 ⟨rfl, hx⟩
        replace hown := lown_below hown hx
        replace hrc := hrc.below hx
        replace hw := hw.trans (hx.mono hw.size)
        replace op := op.below hx
        clear hx hI p0 p1 p2 p3 p4 p5 p6
        obtain ⟨p0, p1, p2, p3, p4, p5, p6⟩ := op.three
        obtain ⟨vad, vcap, hlv⟩ : ∃ vad vcap, u8 = .slice vad rs.length vcap := by
          obtain ⟨_, ⟨e, h0⟩ | ⟨g, cap0, cur, e, _⟩⟩ := hown
          · exact ⟨none, 0, by rw [e, h0]⟩
          · exact ⟨_, _, e⟩
        subst hlv
        by_cases hbg : isT wRate (L.drop j) = true ∧ rs.length = 100
        · have HG := Lib.hid (HS.out _ (.lim (ts := L.drop j) hbg.1 hbg.2))
          have hq1 := hbg.1
          have h1 : (((rs.length : Nat) : Int) == 100) = true := by rw [beq_iff_eq]; omega
          have h2 : (rs.length == 100) = true := by rw [beq_iff_eq]; exact hbg.2
          clear hrc HS hmz hRt hbg
          simp only [hq1]
          go_wp2_with fail
          refine (hLn j _ hw).mono ?_
          rintro e w3 ⟨rfl, hx⟩
          go_wp2_with fail
          go_ret3
          have HQ := hRP.out _ HG.out
          exact ⟨[], 2, _, _, HQ, by rw [← hTL.out]; rfl, by simp, ⟨none, 0, [], rfl, by simp, rfl, .inl rfl⟩, hb.trans ((hw.trans (hx.mono hw.size)).mono hb.size)⟩
        · obtain ⟨qb, hqb⟩ : ∃ q, isT wRate (L.drop j) = q := ⟨_, rfl⟩
          rw [hqb]
          have hgo : qb = false ∨ (rs.length : Int) ≠ 100 := by cases qb with
            | false => exact .inl rfl
            | true => exact .inr fun h => hbg ⟨hqb, by omega⟩
          have HNL := Lib.hid hbg
          clear hqb hbg
          have hcont : ∀ (PP : Prop), (qb = false → PP) → ((((rs.length : Nat) : Int) == 100) = false → (rs.length == 100) = false → PP) → PP := fun PP h1 h2 => by
            rcases hgo with h | h
            · exact h1 h
            · exact h2 (by rw [beq_eq_false_iff_ne]; exact h) (by rw [beq_eq_false_iff_ne]; omega)
          clear hgo
          go_upto_region 9 with (fail)
          go_cut [42] (fun c wx => c = .bool false ∧ wx = w2)
          case first =>
            refine hcont _ (fun h => ?_) (fun h1 h2 => ?_)
            · subst h
              go_wp2_with fail
              go_meet
              exact ⟨rfl, rfl⟩
            · cases qb
              all_goals (
                go_wp2_with fail
                go_meet
                exact ⟨rfl, rfl⟩)
          case rest =>
            obtain ⟨rfl, hwc⟩ := hcut
            rw [hwc]
            clear hwc hcont
            have hvb : ∀ r, (Value.slice vad rs.length vcap).ownBlock = some r → w1.heap.size + 1 ≤ r ∧ r < w2.heap.size := fun r h => by
              obtain ⟨h1, cur, hc⟩ := lown_row hown r h
              exact ⟨h1, (Array.getElem?_eq_some_iff.1 hc).1⟩
            have hP2 := op.lt
            go_wp2_with fail
            refine (hRt w2 hw).mono ?_
            rintro e w3 ⟨rt, jq, d, c16, rfl, ⟨bd1, bap1, bd2, bap2, rfl, t1, t2⟩, hx, l1, l2, hbad, hok⟩
            unfold rateC
            have y2 := hw.size
            have y3 := hx.size
            replace hown := lown_below hown hx
            replace hrc := hrc.below hx
            replace hw := hw.trans (hx.mono hw.size)
            replace op := op.below hx
            clear hx hRt p0 p1 p2 p3 p4 p5 p6
            obtain ⟨w4, hw4⟩ : ∃ x, x = (w3.alloc (.cells #[.slice ad L.length cap, .int .i64 (jq : Nat), .bool d] 67)).alloc (.cells #[.int .i64 (rt.a0 : Nat), .int .i64 (rt.a1 : Nat), .int .i64 (rt.a2 : Nat), .int .i64 (rt.a3 : Nat), .int .i64 (rt.a4 : Nat), .int .i64 (rt.a5 : Nat), .int .i64 (rt.a6 : Nat), .int .i64 (rt.a7 : Nat), .int .i64 rt.kn, .int .i64 rt.kd, .int .i64 rt.when.o, .int .i64 rt.when.n, .slice bd1 rt.when.ks.length bap1, .int .i64 rt.price.o, .int .i64 rt.price.n, .slice bd2 rt.price.ks.length bap2] 52) := ⟨_, rfl⟩
            have o12 := (Own.new w3 #[.slice ad L.length cap, .int .i64 (jq : Nat), .bool d] 67).alloc (.cells #[.int .i64 (rt.a0 : Nat), .int .i64 (rt.a1 : Nat), .int .i64 (rt.a2 : Nat), .int .i64 (rt.a3 : Nat), .int .i64 (rt.a4 : Nat), .int .i64 (rt.a5 : Nat), .int .i64 (rt.a6 : Nat), .int .i64 (rt.a7 : Nat), .int .i64 rt.kn, .int .i64 rt.kd, .int .i64 rt.when.o, .int .i64 rt.when.n, .slice bd1 rt.when.ks.length bap1, .int .i64 rt.price.o, .int .i64 rt.price.n, .slice bd2 rt.price.ks.length bap2] 52)
            have o13 := Own.new (w3.alloc (.cells #[.slice ad L.length cap, .int .i64 (jq : Nat), .bool d] 67)) #[.int .i64 (rt.a0 : Nat), .int .i64 (rt.a1 : Nat), .int .i64 (rt.a2 : Nat), .int .i64 (rt.a3 : Nat), .int .i64 (rt.a4 : Nat), .int .i64 (rt.a5 : Nat), .int .i64 (rt.a6 : Nat), .int .i64 (rt.a7 : Nat), .int .i64 rt.kn, .int .i64 rt.kd, .int .i64 rt.when.o, .int .i64 rt.when.n, .slice bd1 rt.when.ks.length bap1, .int .i64 rt.price.o, .int .i64 rt.price.n, .slice bd2 rt.price.ks.length bap2] 52
            have h34 : Below w3.heap.size w3 w4 := by rw [hw4]; exact balloc (balloc (Below.refl _ _) _) _
            rw [← hw4] at o12 o13
            rw [alloc_size] at o13
            go_upto_region 12 with (fail)
            try unfold pv
            rw [← hw4]
            clear hw4
            replace hown := lown_below hown h34
            replace hrc := hrc.below h34
            replace hw := hw.trans (h34.mono hw.size)
            replace op := op.below h34
            replace t1 := t1.below h34
            replace t2 := t2.below h34
            have y4 := h34.size
            have z13 := o13.lt
            obtain ⟨p0, p1, p2, p3, p4, p5, p6⟩ := o12.three
            cases d with
            | true =>
              have HQ := hRP.out _ (HS.out _ (.syn hne HNL.out (hbad rfl)))
              clear hrc hown t1 t2 hmz hbad hok
              go_wp2_with fail
              refine (hLn jq _ hw).mono ?_
              rintro e w5 ⟨rfl, hx⟩
              go_wp2_with fail
              go_ret3
              exact ⟨[], 8, _, _, HQ, by rw [← hTL.out]; rfl, by simp, ⟨none, 0, [], rfl, by simp, rfl, .inl rfl⟩, hb.trans ((hw.trans (hx.mono hw.size)).mono hb.size)⟩
            | false =>
              have hG := hok rfl
              clear hok hbad
              obtain ⟨hq1, hlt⟩ := lit_ok hG
              rw [List.length_drop, List.length_drop] at hlt
              have hjq : j < jq := by omega
              have h100 : rs.length ≠ 100 := fun h => HNL.out ⟨hq1, h⟩
              clear hlt hq1
              have HGG := Lib.hid hG
              clear hG
              have q10 := o13.cell 10 _ rfl
              have q11 := o13.cell 11 _ rfl
              have q12 := o13.cell 12 _ rfl
              have q13 := o13.cell 13 _ rfl
              have q14 := o13.cell 14 _ rfl
              have q15 := o13.cell 15 _ rfl
              have qz := o13.lt
              have hv1 := rvalid8_any rt.when _ _ t1
              have hv2 := fun w5 (h : Below w4.heap.size w4 w5) => rvalid8_any rt.price _ w5 (t2.below h)
              have HW : Hid (validR rt.list = (validF rt.when && validF rt.price)) := Lib.hid rfl
              generalize validF rt.when = va at *
              generalize validF rt.price = vb at *
              go_wp2_with fail
              refine hv1.mono ?_
              rintro e w5 ⟨rfl, hx⟩
              replace hv2 := hv2 w5 hx
              clear q10 q11 q12 q13 q14 q15 qz
              replace hown := lown_below hown hx
              replace hrc := hrc.below hx
              replace op := op.below hx
              replace t1 := t1.below hx
              replace t2 := t2.below hx
              replace o12 := o12.below hx
              replace o13 := o13.below hx
              replace hw := hw.trans (hx.mono hw.size)
              have y5 := hx.size
              clear hx hv1
              clear p0 p1 p2 p3 p4 p5 p6
              have q10 := o13.cell 10 _ rfl
              have q11 := o13.cell 11 _ rfl
              have q12 := o13.cell 12 _ rfl
              have q13 := o13.cell 13 _ rfl
              have q14 := o13.cell 14 _ rfl
              have q15 := o13.cell 15 _ rfl
              have qz := o13.lt
              go_wp2_with fail
              refine hv2.mono ?_
              rintro e w6 ⟨rfl, hx⟩
              clear q10 q11 q12 q13 q14 q15 qz
              replace hown := lown_below hown hx
              replace hrc := hrc.below hx
              replace op := op.below hx
              replace t1 := t1.below hx
              replace t2 := t2.below hx
              replace o12 := o12.below hx
              replace o13 := o13.below hx
              replace hw := hw.trans (hx.mono hw.size)
              have y6 := hx.size
              clear hx hv2
              by_cases hvv : (va && vb) = true
              · skip
                have hva : va = true := by cases va <;> simp_all
                have hvb2 : vb = true := by cases vb <;> simp_all
                subst hva hvb2
                have HN : Hid (∀ a, RR (rs.length + 1) (L.drop jq) a → RR 0 L (a.pre ((rs ++ [rt]).map Rt.list))) := Lib.hid fun a h => by
                  have := HS.out _ (RR.step hne HNL.out HGG.out (by rw [HW.out]; rfl) h)
                  rw [RRes.pre_pre] at this
                  rw [List.map_append]
                  exact this
                have hr := Lib.hid o13.rangeL
                have on := Own.new w6 #[.int .i64 (rt.a0 : Nat), .int .i64 (rt.a1 : Nat), .int .i64 (rt.a2 : Nat), .int .i64 (rt.a3 : Nat), .int .i64 (rt.a4 : Nat), .int .i64 (rt.a5 : Nat), .int .i64 (rt.a6 : Nat), .int .i64 (rt.a7 : Nat), .int .i64 rt.kn, .int .i64 rt.kd, .int .i64 rt.when.o, .int .i64 rt.when.n, .slice bd1 rt.when.ks.length bap1, .int .i64 rt.price.o, .int .i64 rt.price.n, .slice bd2 rt.price.ks.length bap2] 52
                have hal := alB w6 (.cells #[.int .i64 (rt.a0 : Nat), .int .i64 (rt.a1 : Nat), .int .i64 (rt.a2 : Nat), .int .i64 (rt.a3 : Nat), .int .i64 (rt.a4 : Nat), .int .i64 (rt.a5 : Nat), .int .i64 (rt.a6 : Nat), .int .i64 (rt.a7 : Nat), .int .i64 rt.kn, .int .i64 rt.kd, .int .i64 rt.when.o, .int .i64 rt.when.n, .slice bd1 rt.when.ks.length bap1, .int .i64 rt.price.o, .int .i64 rt.price.n, .slice bd2 rt.price.ks.length bap2] 52)
                replace hown := lown_below hown hal
                replace hrc := hrc.below hal
                replace t1 := t1.below hal
                replace t2 := t2.below hal
                replace hw := hw.trans (hal.mono hw.size)
                have op7 := op.below hal
                have o127 := o12.below hal
                have y7 := hal.size
                rw [alloc_size] at y7
                go_upto_region 19 with (first | refine wpList_load_atL (by kernel_rfl) 52 _ rfl _ rfl _ _ hr.out Tryz.underlying52 rfl Tryz.sizeRateL ?_ | (at_builtin; refine wpList_append_at rfl _ _ 31 rfl (w1.heap.size + 1) 52 i0 (.agg #[.int .i64 0, .int .i64 0, .int .i64 0, .int .i64 0, .int .i64 0, .int .i64 0, .int .i64 0, .int .i64 0, .int .i64 0, .int .i64 0, .int .i64 0, .int .i64 0, .slice none 0 0, .int .i64 0, .int .i64 0, .slice none 0 0]) 16 160 Tryz.underlying31 hi hz0 hz1 hzz rfl (by decide) (.slice vad rs.length vcap) _ cells rfl hown ⟨w6.heap.size, 0, none⟩ 1 1 [.int .i64 (rt.a0 : Nat), .int .i64 (rt.a1 : Nat), .int .i64 (rt.a2 : Nat), .int .i64 (rt.a3 : Nat), .int .i64 (rt.a4 : Nat), .int .i64 (rt.a5 : Nat), .int .i64 (rt.a6 : Nat), .int .i64 (rt.a7 : Nat), .int .i64 rt.kn, .int .i64 rt.kd, .int .i64 rt.when.o, .int .i64 rt.when.n, .slice bd1 rt.when.ks.length bap1, .int .i64 rt.price.o, .int .i64 rt.price.n, .slice bd2 rt.price.ks.length bap2] rfl rfl on.rangeL (by intro u hu; simp only [List.mem_cons, List.not_mem_nil, or_false] at hu; rcases hu with rfl | rfl | rfl | rfl | rfl | rfl | rfl | rfl | rfl | rfl | rfl | rfl | rfl | rfl | rfl | rfl <;> rfl) (by decide) (by unfold maxLen; omega) (by omega) (by rw [alloc_size]; omega) ?_; intro v8 w8 hown8 hgrow hwh))
                have hrow : ∀ r, (Value.slice vad rs.length vcap).ownBlock = some r → w1.heap.size + 1 ≤ r := fun r h => (hvb r h).1
                have hR : RatesC (Qv (w1.heap.size + 1) v8) w8 (rs ++ [rt]) (cells ++ [.int .i64 (rt.a0 : Nat), .int .i64 (rt.a1 : Nat), .int .i64 (rt.a2 : Nat), .int .i64 (rt.a3 : Nat), .int .i64 (rt.a4 : Nat), .int .i64 (rt.a5 : Nat), .int .i64 (rt.a6 : Nat), .int .i64 (rt.a7 : Nat), .int .i64 rt.kn, .int .i64 rt.kd, .int .i64 rt.when.o, .int .i64 rt.when.n, .slice bd1 rt.when.ks.length bap1, .int .i64 rt.price.o, .int .i64 rt.price.n, .slice bd2 rt.price.ks.length bap2]) := by
                  have hstep : ∀ k, k < (w6.alloc (.cells #[.int .i64 (rt.a0 : Nat), .int .i64 (rt.a1 : Nat), .int .i64 (rt.a2 : Nat), .int .i64 (rt.a3 : Nat), .int .i64 (rt.a4 : Nat), .int .i64 (rt.a5 : Nat), .int .i64 (rt.a6 : Nat), .int .i64 (rt.a7 : Nat), .int .i64 rt.kn, .int .i64 rt.kd, .int .i64 rt.when.o, .int .i64 rt.when.n, .slice bd1 rt.when.ks.length bap1, .int .i64 rt.price.o, .int .i64 rt.price.n, .slice bd2 rt.price.ks.length bap2] 52)).heap.size → ¬ Qv (w1.heap.size + 1) (Value.slice vad rs.length vcap) k → w8.heap[k]? = (w6.alloc (.cells #[.int .i64 (rt.a0 : Nat), .int .i64 (rt.a1 : Nat), .int .i64 (rt.a2 : Nat), .int .i64 (rt.a3 : Nat), .int .i64 (rt.a4 : Nat), .int .i64 (rt.a5 : Nat), .int .i64 (rt.a6 : Nat), .int .i64 (rt.a7 : Nat), .int .i64 rt.kn, .int .i64 rt.kd, .int .i64 rt.when.o, .int .i64 rt.when.n, .slice bd1 rt.when.ks.length bap1, .int .i64 rt.price.o, .int .i64 rt.price.n, .slice bd2 rt.price.ks.length bap2] 52)).heap[k]? ∧ ¬ Qv (w1.heap.size + 1) v8 k := by
                    intro k hk hq
                    refine ⟨hgrow.block k hk (by intro e; exact hq (.inr e.symm)), ?_⟩
                    rintro (h | h)
                    · exact hq (.inl h)
                    · rcases hwh k h with h2 | h2
                      · exact hq (.inr h2)
                      · (try rw [alloc_size] at hk)
                        (try rw [alloc_size] at h2)
                        omega
                  have hbars : ∀ k, k < (w6.alloc (.cells #[.int .i64 (rt.a0 : Nat), .int .i64 (rt.a1 : Nat), .int .i64 (rt.a2 : Nat), .int .i64 (rt.a3 : Nat), .int .i64 (rt.a4 : Nat), .int .i64 (rt.a5 : Nat), .int .i64 (rt.a6 : Nat), .int .i64 (rt.a7 : Nat), .int .i64 rt.kn, .int .i64 rt.kd, .int .i64 rt.when.o, .int .i64 rt.when.n, .slice bd1 rt.when.ks.length bap1, .int .i64 rt.price.o, .int .i64 rt.price.n, .slice bd2 rt.price.ks.length bap2] 52)).heap.size → Qv (w1.heap.size + 1) (Value.slice vad rs.length vcap) k → Lo w2.heap.size k := fun k _ h => by
                    show k < w2.heap.size
                    rcases h with h | h
                    · omega
                    · exact (hvb k h).2
                  exact RatesC.snoc ⟨bd1, bap1, bd2, bap2, rfl, Tree.go hgrow.size hstep (t1.bars hbars), Tree.go hgrow.size hstep (t2.bars hbars)⟩ (hrc.go hgrow.size hstep)
                have op8 := ownG op7 hgrow (fun r hr => by have := hrow r hr; omega)
                have o128 := ownG o127 hgrow (fun r hr => by have := (hvb r hr).2; omega)
                have hw8 := belG hw hgrow (fun r hr => by have := hrow r hr; omega) (by rw [alloc_size]; omega)
                have hl : (rs ++ [rt]).length = rs.length + 1 := by simp
                have y8 := hgrow.size
                obtain ⟨p0, p1, p2, p3, p4, p5, p6⟩ := op8.three
                obtain ⟨q0, q1, q2, q3, q4, q5, q6⟩ := o128.three
                clear hrc hown t1 t2 op o12 o13 on hr hal HS HW HGG
                go_wp2_with fail
                have hk := (((Kept.refl (some w1.heap.size) w8).set (b := ⟨w1.heap.size, 0, none⟩) (.inl rfl) (.slice ad L.length cap)).set (b := ⟨w1.heap.size, 1, none⟩) (.inl rfl) (.int .i64 (jq : Nat))).set (b := ⟨w1.heap.size, 2, none⟩) (.inl rfl) (.bool false)
                have hownF := owns_kept hown8 hk (Nat.lt_succ_self _)
                have hRF := hR.keep hk (Nat.lt_succ_self _)
                have opF := op8.put3 (.slice ad L.length cap) (.int .i64 (jq : Nat)) (.bool false)
                have hwF := bset3 hw8 (Nat.le_refl _) (.slice ad L.length cap) (.int .i64 (jq : Nat)) (.bool false)
                have hmF := readI_own opF
                clear hown8 hR op8 hw8 o128
                go_roundw
                case rel => exact ⟨rs ++ [rt], cells ++ [.int .i64 (rt.a0 : Nat), .int .i64 (rt.a1 : Nat), .int .i64 (rt.a2 : Nat), .int .i64 (rt.a3 : Nat), .int .i64 (rt.a4 : Nat), .int .i64 (rt.a5 : Nat), .int .i64 (rt.a6 : Nat), .int .i64 (rt.a7 : Nat), .int .i64 rt.kn, .int .i64 rt.kd, .int .i64 rt.when.o, .int .i64 rt.when.n, .slice bd1 rt.when.ks.length bap1, .int .i64 rt.price.o, .int .i64 rt.price.n, .slice bd2 rt.price.ks.length bap2], jq, by omega, by rw [hl]; exact hownF, hRF, by rw [hl]; exact HN.out, l2, opF, hwF⟩
                case measure => first | (rw [hmz]; unfold set3 at hmF; rw [hmF]; omega) | (simp only [hmz]; omega)
              · have HQ := hRP.out _ (HS.out _ (.arg hne HNL.out HGG.out (by rw [HW.out]; simpa using hvv)))
                clear hrc hown t1 t2 hmz HGG HW HS
                have hnb : (!va || !vb) = true := by cases va <;> cases vb <;> simp_all
                have hsp : va = false ∨ (va = true ∧ vb = false) := by cases va <;> cases vb <;> simp_all
                clear hvv hnb
                rcases hsp with rfl | ⟨rfl, rfl⟩
                all_goals (
                  go_wp2_with fail
                  refine (hLn j _ hw).mono ?_
                  rintro e w7 ⟨rfl, hx⟩
                  go_wp2_with fail
                  go_ret3
                  exact ⟨[], 1, _, _, HQ, by rw [← hTL.out]; rfl, by simp, ⟨none, 0, [], rfl, by simp, rfl, .inl rfl⟩, hb.trans ((hw.trans (hx.mono hw.size)).mono hb.size)⟩)
  · have h0' : (((tokP s).2.1 : Int) != 0) = true := by rw [bne_iff_ne]; omega
    have h1 : ((tokP s).2.1 != 0) = true := by rw [bne_iff_ne]; exact h0
    have HE : Hid (RP s (([] : List Rt).map Rt.list) (tokP s).2.1 (tokP s).2.2) := Lib.hid (.lex h0)
    generalize (tokP s).2.1 = k at *
    generalize (tokP s).2.2 = n at *
    clear h0 hv1
    go_wp2_with fail
    go_ret3
    exact ⟨[], k, n, _, HE.out, rfl, by simp, ⟨none, 0, [], rfl, by simp, rfl, .inl rfl⟩, hb⟩
end Go.Proofs.YthnlenbfknbmcaaGreatDoor
