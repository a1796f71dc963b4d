/-
  The walk of TypesTogether.
-/
import Derived.Test.YtbkcpcjdpfndpaaTypTog
import Derived.Test.YtbkcpcjdpfndpaaLawTypM
import Derived.Deep.DeepCutAuto
namespace Go.Proofs.Ytbkcpcjdpfndpaa
open Go.RowKit Go.Shelf
set_option maxRecDepth 100000
set_option linter.unusedVariables false
set_option linter.unusedSimpArgs false

set_option maxHeartbeats 6400000 in
theorem lawTT_any (hHd : HeadT) {l : List Rg} {v0 : Value} {w : World} (m0 : RgS w v0 l) (n : Nat) (hn : n ≤ 255) : Calls Try.prog 7 #[v0, .int .u8 (n : Nat)] w (Ret (.bool true) w) := by
  have hmm := @run_makeMap Try.prog
  obtain ⟨ad, cap, cells, rfl, hl, hx⟩ := id m0
  clear hx
  have hH := hHd w
  go_enter Try.func7, Try.ntmps7
  go_wp2_with fail
  refine hH.mono ?_
  rintro e w1 ⟨rfl, hx⟩
  replace m0 := m0.below hx
  have hb := hx
  clear hx hH hHd
  have h1 := few_any l _ _ m0
  go_wp2_with fail
  cases hq : fewR l with
  | false =>
    rw [hq] at h1
    refine h1.mono ?_
    rintro e w2 ⟨rfl, hx⟩
    replace hb := hb.trans (hx.mono hb.size)
    clear h1 hq hx
    go_wp2_with fail
    go_ret
    exact Ret.mk rfl hb
  | true =>
    rw [hq] at h1
    refine h1.mono ?_
    rintro e w2 ⟨rfl, hx⟩
    replace hb := hb.trans (hx.mono hb.size)
    replace m0 := m0.below hx
    have h105 := few_len hq
    clear h1 hq hx
    by_cases hk0 : l.length = 0
    · have q1 : ((l.length : Int) == 0) = true := by rw [beq_iff_eq]; omega
      go_wp2_with fail
      go_ret
      exact Ret.mk rfl hb
    have q1 : ((l.length : Int) == 0) = false := by rw [beq_eq_false_iff_ne]; omega
    have hkn : n % l.length < l.length := Nat.mod_lt _ (by omega)
    have hrm : Int.tmod (n : Int) (l.length : Int) = ((n % l.length : Nat) : Int) := by rw [Int.tmod_eq_emod_of_nonneg (by omega)]; rfl
    generalize n % l.length = K at hkn hrm
    obtain ⟨A, hA⟩ : ∃ A, decide ((l.length : Int) ≤ 100) = A := ⟨_, rfl⟩
    have HA : Hid (A = decide (l.length ≤ 100)) := Lib.hid (by rw [← hA, decide_eq_decide]; omega)
    have mb := mapB_new w2
    have hb2 := alT w2 (.map #[] 0)
    go_wp2_with fail
    go_loopw [7, 8, 10, 36] (fun vl vb va i wr => ∃ (j : Nat) (cl cb : List Value) (ks : List Int) (al : Bool), i = .int .i64 j ∧ j ≤ l.length ∧ va = .bool al ∧ al = allF A l j ∧ wr.ownsRow (w2.heap.size + 1) 30 16 vl (lessL l K j).length cl ∧ RgC (fun _ => False) w2 (lessL l K j) cl ∧ wr.ownsRow (w2.heap.size + 1) 30 16 vb (l.reverse.take j).length cb ∧ RgC (fun _ => False) w2 (l.reverse.take j) cb ∧ (∀ r, vl.ownBlock = some r → vb.ownBlock ≠ some r) ∧ MapB wr w2.heap.size ks ∧ (∀ a, a ∈ ks ↔ a ∈ (l.take j).map Rg.a0) ∧ Below w2.heap.size w2 wr) (fun _ _ _ i _ => l.length - (intOf i).toNat)
    case atStart => exact ⟨0, [], [], [], A, rfl, Nat.zero_le _, rfl, (allF_zero A l).symm, ⟨by simp [lessL], .inl ⟨rfl, by simp [lessL]⟩⟩, by simp [lessL, RgC], ⟨by simp, .inl ⟨rfl, by simp⟩⟩, by simp [RgC], (by intro r h; cases h), mb, by simp, hb2⟩
    case round =>
      clear mb hb2 hA hrm q1 hmm
      obtain ⟨j, cl, cb, ks, al, rfl, hjl, rfl, hal, hol, hcl, hob, hcb, hne, hm, hks, hq⟩ := hrel
      obtain ⟨i0, hi, hz0, hz1, hzz⟩ := info_parts Try.infoRateT
      by_cases hj : j < l.length
      · skip
        have hjj : l.length - 1 - j < l.length := by omega
        obtain ⟨a, ad1, cap1, ad2, cap2, rfl, hab, hrv, hat⟩ := m0.row j hj
        obtain ⟨a2, bd1, bap1, bd2, bap2, ea, hab2, hrv2, hat2⟩ := m0.row (l.length - 1 - j) hjj
        cases ea
        have hwk : IntKind.i64.wrap ((j : Int) + 1) = (j : Int) + 1 := IntWalk.i64_in _ (by omega)
        have hl1 := less_len l K j
        have hl2 : (l.reverse.take j).length = j := by rw [List.length_take, List.length_reverse]; omega
        have HB1 := Lib.hid (back_succ hj)
        have HL1 : Hid (j ≠ K → lessL l K (j + 1) = lessL l K j ++ [l[j]]) := Lib.hid (less_succ hj)
        have HL2 : Hid (j = K → lessL l K (j + 1) = lessL l K j) := Lib.hid (fun h => by subst h; exact less_skip hj)
        have HAL : Hid (allF A l (j + 1) = (al && rateB l[j] && !decide (l[j].a0 ∈ ks))) := Lib.hid (by rw [hal]; exact allF_succ hj hks)
        have HKS : Hid (∀ b, b ∈ addB ks l[j].a0 ↔ b ∈ (l.take (j + 1)).map Rg.a0) := Lib.hid (fun b => by rw [mem_addB, take_map hj, List.mem_append, hks, List.mem_singleton])
        clear hal hks
        generalize l[l.length - 1 - j] = s at *
        generalize l[j] = r at *
        have hw1 : IntKind.i64.wrap ((l.length : Int) - 1) = (l.length : Int) - 1 := IntWalk.i64_in _ (by omega)
        have hw2 : IntKind.i64.wrap ((l.length : Int) - 1 - (j : Int)) = ((l.length - 1 - j : Nat) : Int) := by rw [IntWalk.i64_in _ (by omega)]; omega
        have hw3 : (l.length : Int) - 1 - (j : Int) = ((l.length - 1 - j : Nat) : Int) := by omega
        generalize l.length - 1 - j = jj at *
        have ho1 := Lib.hid (rgC_one r ad1 ad2 r.when.ks.length r.price.ks.length cap1 cap2)
        have ho2 := Lib.hid (rgC_one s bd1 bd2 s.when.ks.length s.price.ks.length bap1 bap2)
        have hr1 := Lib.hid (range_below hat hq hab)
        unfold rgC at ho1 ho2 hr1
        have hrl := town_row hol
        have hrb := town_row hob
        have hqs := hq.size
        have hml := hm.lt
        go_upto_region 10 with (fail)
        go_cut [11] (fun s11 wx => s11 = .int .i64 j ∧ wx = wr)
        case first =>
          go_wp2_with fail
          go_meet
          exact ⟨rfl, rfl⟩
        case rest =>
          obtain ⟨rfl, hwc⟩ := hcut
          rw [hwc]
          clear hwc
          go_step
          go_step
          go_cut [7] (fun s7 wx => ∃ cl1, wx.ownsRow (w2.heap.size + 1) 30 16 s7 (lessL l K (j + 1)).length cl1 ∧ RgC (fun _ => False) w2 (lessL l K (j + 1)) cl1 ∧ wx.ownsRow (w2.heap.size + 1) 30 16 u8 (l.reverse.take j).length cb ∧ (∀ r, s7.ownBlock = some r → u8.ownBlock ≠ some r) ∧ MapB wx w2.heap.size ks ∧ Below w2.heap.size w2 wx)
          case first =>
            by_cases hjK : j = K
            · have e1 : ((j : Int) != (K : Int)) = false := by rw [bne_eq_false_iff_eq]; omega
              have H := HL2.out hjK
              clear hjK
              go_wp2_with fail
              go_meet
              exact ⟨cl, by rw [H]; exact hol, by rw [H]; exact hcl, hob, hne, hm, hq⟩
            · have e1 : ((j : Int) != (K : Int)) = true := by rw [bne_iff_ne]; omega
              have H := HL1.out hjK
              clear hjK
              go_wp2_with (first | refine wpList_load_atT rfl 30 _ rfl _ rfl _ _ hr1.out Try.underlying30 rfl Try.sizeRateT ?_ | (at_builtin; refine wpList_append_atT rfl _ _ 31 rfl (w2.heap.size + 1) 30 i0 (.agg #[.int .i64 0, .int .i64 0, .int .i64 0, .int .i64 0, .int .i64 0, .int .i64 0, .int .i64 0, .int .i64 0, .int .i64 0, .int .i64 0, .int .i64 0, .int .i64 0, .slice none 0 0, .int .i64 0, .int .i64 0, .slice none 0 0]) 16 160 Try.underlying31 hi hz0 hz1 hzz rfl (by decide) u7 _ cl rfl (town_below hol (alT _ _)) ⟨wr.heap.size, 0, none⟩ 1 1 [.int .i64 r.a0, .int .i64 r.a1, .int .i64 r.a2, .int .i64 r.a3, .int .i64 r.a4, .int .i64 r.a5, .int .i64 r.a6, .int .i64 r.a7, .int .i64 r.kn, .int .i64 r.kd, .int .i64 r.when.o, .int .i64 r.when.n, .slice ad1 r.when.ks.length cap1, .int .i64 r.price.o, .int .i64 r.price.n, .slice ad2 r.price.ks.length cap2] rfl rfl (Own.rangeT (own_newR wr [.int .i64 r.a0, .int .i64 r.a1, .int .i64 r.a2, .int .i64 r.a3, .int .i64 r.a4, .int .i64 r.a5, .int .i64 r.a6, .int .i64 r.a7, .int .i64 r.kn, .int .i64 r.kd, .int .i64 r.when.o, .int .i64 r.when.n, .slice ad1 r.when.ks.length cap1, .int .i64 r.price.o, .int .i64 r.price.n, .slice ad2 r.price.ks.length cap2] 30)) ho1.out (by decide) (by unfold maxLen; omega) (by omega) (by simp; omega) ?_; intro v3 w3 hown3 hgrow3 hwh3))
              go_meet
              simp only [World.size_alloc] at hwh3
              refine ⟨_, by rw [H, List.length_append]; exact hown3, by rw [H]; exact RgC.snoc hrv hcl, town_grown (town_below hob (alT _ _)) hgrow3 (fun r hr h => hne r h hr), ?_, (hm.below (alT _ _)).grown hgrow3 (fun r hr => by have := (hrl r hr).1; omega), below_grownT (hq.alloc hqs _) hgrow3 (fun r hr => by have := (hrl r hr).1; omega) (by rw [World.size_alloc]; omega)⟩
              intro b hb3 hb4
              rcases hwh3 b hb3 with h | h
              · exact hne b h hb4
              · have := (hrb b hb4).2; omega
          case rest =>
            clear hcl hol hob hne hm hq hrl hrb hqs hml hr1 HL1 HL2
            obtain ⟨cl1, hol, hcl, hob, hne, hm, hq⟩ := hcut
            skip
            have hs1 := Lib.hid (range_below hat2 hq hab2)
            unfold rgC at hs1
            have hrl := town_row hol
            have hrb := town_row hob
            have hqs := hq.size
            have hml := hm.lt
            go_upto_region 14 with (first | refine wpList_load_atT rfl 30 _ rfl _ rfl _ _ hs1.out Try.underlying30 rfl Try.sizeRateT ?_ | (at_builtin; refine wpList_append_atT rfl _ _ 31 rfl (w2.heap.size + 1) 30 i0 (.agg #[.int .i64 0, .int .i64 0, .int .i64 0, .int .i64 0, .int .i64 0, .int .i64 0, .int .i64 0, .int .i64 0, .int .i64 0, .int .i64 0, .int .i64 0, .int .i64 0, .slice none 0 0, .int .i64 0, .int .i64 0, .slice none 0 0]) 16 160 Try.underlying31 hi hz0 hz1 hzz rfl (by decide) u8 _ cb rfl (town_below hob (alT _ _)) ⟨wc.heap.size, 0, none⟩ 1 1 [.int .i64 s.a0, .int .i64 s.a1, .int .i64 s.a2, .int .i64 s.a3, .int .i64 s.a4, .int .i64 s.a5, .int .i64 s.a6, .int .i64 s.a7, .int .i64 s.kn, .int .i64 s.kd, .int .i64 s.when.o, .int .i64 s.when.n, .slice bd1 s.when.ks.length bap1, .int .i64 s.price.o, .int .i64 s.price.n, .slice bd2 s.price.ks.length bap2] rfl rfl (Own.rangeT (own_newR wc [.int .i64 s.a0, .int .i64 s.a1, .int .i64 s.a2, .int .i64 s.a3, .int .i64 s.a4, .int .i64 s.a5, .int .i64 s.a6, .int .i64 s.a7, .int .i64 s.kn, .int .i64 s.kd, .int .i64 s.when.o, .int .i64 s.when.n, .slice bd1 s.when.ks.length bap1, .int .i64 s.price.o, .int .i64 s.price.n, .slice bd2 s.price.ks.length bap2] 30)) ho2.out (by decide) (by unfold maxLen; omega) (by omega) (by simp; omega) ?_; intro v4 w4 hob4 hgrow4 hwh4))
            simp only [World.size_alloc] at hwh4
            have hol4 := town_grown (town_below hol (alT _ _)) hgrow4 (fun r hr h => hne r hr h)
            have hne4 : ∀ b, (u7).ownBlock = some b → v4.ownBlock ≠ some b := by
              intro b hb3 hb4
              rcases hwh4 b hb4 with h | h
              · exact hne b hb3 h
              · have := (hrl b hb3).2; omega
            have hm4 := (hm.below (alT _ _)).grown hgrow4 (fun r hr => by have := (hrb r hr).1; omega)
            have hq4 := below_grownT (hq.alloc hqs _) hgrow4 (fun r hr => by have := (hrb r hr).1; omega) (by rw [World.size_alloc]; omega)
            have hcb4 := RgC.snoc hrv2 hcb
            rw [← HB1.out] at hcb4
            have hob5 : w4.ownsRow (w2.heap.size + 1) 30 16 v4 (l.reverse.take (j + 1)).length (cb ++ [.int .i64 s.a0, .int .i64 s.a1, .int .i64 s.a2, .int .i64 s.a3, .int .i64 s.a4, .int .i64 s.a5, .int .i64 s.a6, .int .i64 s.a7, .int .i64 s.kn, .int .i64 s.kd, .int .i64 s.when.o, .int .i64 s.when.n, .slice bd1 s.when.ks.length bap1, .int .i64 s.price.o, .int .i64 s.price.n, .slice bd2 s.price.ks.length bap2]) := by rw [HB1.out, List.length_append]; exact hob4
            clear hol hob hne hm hq hrl hrb hqs hml hs1 hob4 hgrow4 hwh4 hcb hrv2 hat2 hab2 ho2 HB1 hw1 hw2 hw3
            have hr1 := Lib.hid (range_below hat hq4 hab)
            have h1 := trateG (hrv.below hq4) w4 (Below.refl _ _)
            unfold rgC at hr1 h1
            generalize rateB r = rb at *
            generalize rateE r = re at *
            go_wp2_with (first | refine wpList_load_atT rfl 30 _ rfl _ rfl _ _ hr1.out Try.underlying30 rfl Try.sizeRateT ?_)
            refine h1.mono ?_
            rintro e w5 ⟨rfl, hx⟩
            replace hol4 := town_below hol4 hx
            replace hob5 := town_below hob5 hx
            replace hm4 := hm4.below hx
            replace hq4 := hq4.trans (hx.mono hq4.size)
            clear hx h1 hr1
            have c0 := range_below hat hq4 hab 0 _ rfl
            rw [add_addT, Nat.add_zero] at c0
            have hlk := look_B hm4 r.a0
            generalize decide (r.a0 ∈ ks) = dk at *
            go_upto_region 15 with (fail)
            go_cut [10] (fun s10 wx => s10 = .bool (al && rb && !dk) ∧ wx = w5)
            case first =>
              cases al <;> cases rb
              all_goals (
                go_wp2_with fail
                go_meet
                exact ⟨by simp, rfl⟩)
            case rest =>
              obtain ⟨rfl, hwc⟩ := hcut
              rw [hwc]
              clear hwc
              clear hlk
              obtain ⟨w6, hput, hm6, hk6⟩ := put_B hm4 r.a0
              have hol6 := town_kept hol4 hk6 (fun r hr => by have := (town_row hol4 r hr).1; omega)
              have hob6 := town_kept hob5 hk6 (fun r hr => by have := (town_row hob5 r hr).1; omega)
              have hq6 := hq4.trans (hk6.below (Nat.le_refl _) hq4.size)
              clear hm4 hk6
              go_wp2_with fail
              go_roundw
              case rel => exact ⟨j + 1, cl1, _, _, _, by go_num, by omega, rfl, HAL.out.symm, hol6, hcl, hob6, hcb4, hne4, hm6, HKS.out, hq6⟩
              case measure => simp [intOf]; omega
      · have hjE : j = l.length := by omega
        subst hjE
        rw [less_end] at hol hcl
        rw [back_end] at hob hcb
        have hV : al = validG l := by rw [hal, HA.out]; exact allF_end l
        clear hal hks hm HA
        have hrl := town_row hol
        have hrb := town_row hob
        have h1 := tvalid_any l _ _ (m0.below hq)
        have hvb := validG_back l
        rw [← hV] at h1 hvb
        have HV := Lib.hid hV
        clear hV
        go_wp2_with fail
        refine h1.mono ?_
        rintro e w5 ⟨rfl, hx⟩
        replace hol := town_below hol hx
        replace hob := town_below hob hx
        replace hq := hq.trans (hx.mono hq.size)
        clear hx h1
        have h1 := tvalid_any l.reverse _ _ (rgs_own hob (hcb.below hq) (by rw [List.length_reverse]; exact hl))
        rw [hvb] at h1
        clear hvb
        have hvv : (al != al) = false := by simp
        go_wp2_with fail
        refine h1.mono ?_
        rintro e w6 ⟨rfl, hx⟩
        replace hol := town_below hol hx
        replace hob := town_below hob hx
        replace hq := hq.trans (hx.mono hq.size)
        clear hx h1
        cases al with
        | false =>
          go_wp2_with fail
          go_ret
          exact Ret.mk rfl (hb.trans (hq.mono hb.size))
        | true =>
          have hlE : (l.eraseIdx K).length ≤ 9223372036854775807 := by have := List.length_eraseIdx_le l K; omega
          have h1 := tvalid_any (l.eraseIdx K) _ _ (rgs_own hol (hcl.below hq) hlE)
          rw [validG_less HV.out.symm] at h1
          go_wp2_with fail
          refine h1.mono ?_
          rintro e w7 ⟨rfl, hx⟩
          replace hob := town_below hob hx
          replace hq := hq.trans (hx.mono hq.size)
          clear hx h1 hol hcl hrl hlE hne
          obtain ⟨a, ad1, cap1, ad2, cap2, rfl, hab, hrv, hat⟩ := m0.row K hkn
          have hmem : l[K] ∈ l.reverse := by rw [List.mem_reverse]; exact List.getElem_mem hkn
          have htw := validG_twice hmem
          clear hmem
          generalize l[K] = r at *
          have ho1 := Lib.hid (rgC_one r ad1 ad2 r.when.ks.length r.price.ks.length cap1 cap2)
          have hr1 := Lib.hid (range_below hat hq hab)
          unfold rgC at ho1 hr1
          have hrl2 : l.reverse.length = l.length := List.length_reverse
          have hqs := hq.size
          go_wp2_with (first | refine wpList_load_atG (by kernel_rfl) 30 _ rfl _ rfl _ _ hr1.out Try.underlying30 rfl Try.sizeRateT ?_ | (at_builtin; refine wpList_append_atG (by kernel_rfl) _ _ 31 rfl (w2.heap.size + 1) 30 i0 (.agg #[.int .i64 0, .int .i64 0, .int .i64 0, .int .i64 0, .int .i64 0, .int .i64 0, .int .i64 0, .int .i64 0, .int .i64 0, .int .i64 0, .int .i64 0, .int .i64 0, .slice none 0 0, .int .i64 0, .int .i64 0, .slice none 0 0]) 16 160 Try.underlying31 hi hz0 hz1 hzz rfl (by decide) u8 _ cb rfl (town_below hob (alT _ _)) ⟨w7.heap.size, 0, none⟩ 1 1 [.int .i64 r.a0, .int .i64 r.a1, .int .i64 r.a2, .int .i64 r.a3, .int .i64 r.a4, .int .i64 r.a5, .int .i64 r.a6, .int .i64 r.a7, .int .i64 r.kn, .int .i64 r.kd, .int .i64 r.when.o, .int .i64 r.when.n, .slice ad1 r.when.ks.length cap1, .int .i64 r.price.o, .int .i64 r.price.n, .slice ad2 r.price.ks.length cap2] rfl rfl (Own.rangeT (own_newR w7 [.int .i64 r.a0, .int .i64 r.a1, .int .i64 r.a2, .int .i64 r.a3, .int .i64 r.a4, .int .i64 r.a5, .int .i64 r.a6, .int .i64 r.a7, .int .i64 r.kn, .int .i64 r.kd, .int .i64 r.when.o, .int .i64 r.when.n, .slice ad1 r.when.ks.length cap1, .int .i64 r.price.o, .int .i64 r.price.n, .slice ad2 r.price.ks.length cap2] 30)) ho1.out (by decide) (by unfold maxLen; omega) (by omega) (by rw [World.size_alloc]; omega) ?_; intro v8 w8 hown8 hgrow8 hwh8))
          have hq8 := below_grownT (hq.alloc hqs _) hgrow8 (fun r hr => by have := (hrb r hr).1; omega) (by rw [World.size_alloc]; omega)
          have hc8 := RgC.snoc hrv hcb
          have h1 := tvalid_any (l.reverse ++ [r]) _ _ (rgs_own (by rw [List.length_append]; exact hown8) (hc8.below hq8) (by rw [List.length_append, hrl2]; simp; omega))
          rw [htw] at h1
          refine h1.mono ?_
          rintro e w9 ⟨rfl, hx⟩
          replace hq8 := hq8.trans (hx.mono hq8.size)
          clear hx h1
          go_wp2_with fail
          go_ret
          exact Ret.mk rfl (hb.trans (hq8.mono hb.size))
end Go.Proofs.Ytbkcpcjdpfndpaa
