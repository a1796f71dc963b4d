/-
  Rates that can be used together, at the program and at the reference.
-/
import Derived.Test.YtbkcpcjdpfndpaaTypMapB
namespace Go.Proofs.Ytbkcpcjdpfndpaa
open Go.RowKit Go.Shelf
set_option maxRecDepth 100000
set_option linter.unusedVariables false

theorem trateG {r : Rg} {ad1 : Option Addr} {cap1 : Nat} {ad2 : Option Addr} {cap2 : Nat} {w : World} (h : RgV (fun _ => False) w r (rgC r (.slice ad1 r.when.ks.length cap1) (.slice ad2 r.price.ks.length cap2))) (w1 : World) (hb : Below w.heap.size w w1) : Calls Try.prog 13 #[.agg (rgC r (.slice ad1 r.when.ks.length cap1) (.slice ad2 r.price.ks.length cap2)).toArray] w1 (Ret (.tuple #[.bool (rateB r), .int .i64 (rateE r)]) w1) := by
  obtain ⟨_, _, _, _, hc, t1, t2⟩ := h
  unfold rgC at hc
  simp only [List.cons.injEq, Value.slice.injEq, and_true, true_and] at hc
  obtain ⟨⟨rfl, rfl⟩, rfl, rfl⟩ := hc
  exact trate_any r.a0 r.a1 r.a2 r.a3 r.a4 r.a5 r.a6 r.a7 r.kn r.kd r.when r.price _ _ _ _ w1 (t1.below hb) (t2.below hb)
theorem rrateG {r : Rg} {ad1 : Option Addr} {cap1 : Nat} {ad2 : Option Addr} {cap2 : Nat} {w : World} (h : RgV (fun _ => False) w r (rgC r (.slice ad1 r.when.ks.length cap1) (.slice ad2 r.price.ks.length cap2))) (w1 : World) (hb : Below w.heap.size w w1) : Calls Try.prog 14 #[.agg (rgC r (.slice ad1 r.when.ks.length cap1) (.slice ad2 r.price.ks.length cap2)).toArray] w1 (Ret (.tuple #[.bool (rateB r), .int .i64 (rateE r)]) w1) := by
  obtain ⟨_, _, _, _, hc, t1, t2⟩ := h
  unfold rgC at hc
  simp only [List.cons.injEq, Value.slice.injEq, and_true, true_and] at hc
  obtain ⟨⟨rfl, rfl⟩, rfl, rfl⟩ := hc
  exact rrate10_any r.a0 r.a1 r.a2 r.a3 r.a4 r.a5 r.a6 r.a7 r.kn r.kd r.when r.price _ _ _ _ w1 (t1.below hb) (t2.below hb)
/-- as far as a loop has come -/
theorem validG_long {l : List Rg} (h : 100 < l.length) : validG l = false := by
  rw [Bool.eq_false_iff]; intro hv; have := (validG_iff.1 hv).1; omega
theorem validG_bad {l : List Rg} {k : Nat} (hk : k < l.length) (h : rateB l[k] = false) : validG l = false := by
  rw [Bool.eq_false_iff]; intro hv; have := (validG_iff.1 hv).2.1 _ (List.getElem_mem hk); rw [h] at this; cases this
theorem take_map {l : List Rg} {k : Nat} (hk : k < l.length) : (l.take (k + 1)).map Rg.a0 = (l.take k).map Rg.a0 ++ [l[k].a0] := by
  rw [List.take_succ_eq_append_getElem hk, List.map_append]; rfl
theorem validG_dup {l : List Rg} {k : Nat} (hk : k < l.length) (h : l[k].a0 ∈ (l.take k).map Rg.a0) : validG l = false := by
  rw [Bool.eq_false_iff]
  intro hv
  have h1 := (validG_iff.1 hv).2.2
  have h2 : ((l.take (k + 1)).map Rg.a0).Nodup := h1.sublist ((List.take_sublist _ _).map _)
  rw [take_map hk, List.nodup_append] at h2
  exact h2.2.2 _ h _ (by simp) rfl
theorem nodup_more {l : List Rg} {k : Nat} (hk : k < l.length) (h : ((l.take k).map Rg.a0).Nodup) (hn : l[k].a0 ∉ (l.take k).map Rg.a0) : ((l.take (k + 1)).map Rg.a0).Nodup := by
  rw [take_map hk, List.nodup_append]
  refine ⟨h, by simp, fun a ha b hb => ?_⟩
  rw [List.mem_singleton.1 hb]
  rintro rfl
  exact hn ha
theorem validG_all {l : List Rg} (h1 : l.length ≤ 100) (h2 : ∀ j (hj : j < l.length), rateB l[j] = true) (h3 : (l.map Rg.a0).Nodup) : validG l = true :=
  validG_iff.2 ⟨h1, fun r hr => by obtain ⟨j, hj, rfl⟩ := List.mem_iff_getElem.1 hr; exact h2 j hj, h3⟩
set_option maxHeartbeats 6400000 in
theorem tvalid_any (l : List Rg) (v : Value) (w : World) (hv : RgS w v l) : Calls Try.prog 15 #[v] w (Ret (.bool (validG l)) w) := by
  have hmm := @run_makeMap Try.prog
  obtain ⟨ad, cap, cells, rfl, hl, hx⟩ := id hv
  clear hx
  obtain ⟨F, hF⟩ : ∃ F, validG l = F := ⟨_, rfl⟩
  rw [hF]
  by_cases h100 : 100 < l.length
  · have e1 : decide ((l.length : Int) > 100) = true := by simp; omega
    have HZ : Hid (F = false) := Lib.hid (by rw [← hF]; exact validG_long h100)
    clear hF h100
    go_enter Try.func15, Try.ntmps15
    go_wp2_with fail
    go_ret
    exact Ret.mk (by rw [HZ.out]; rfl) (Below.refl _ _)
  · have e1 : decide ((l.length : Int) > 100) = false := by simp; omega
    have e2 : decide (100 < (l.length : Int)) = false := by simp; omega
    have HF := Lib.hid hF
    clear hF
    have mb := mapB_new w
    have hb1 : Below w.heap.size w (w.alloc (.map #[] 0)) := by (repeat (first | exact Below.refl _ _ | assumption | refine Below.drew ?_ | refine below_drewN ?_ _ | refine Below.setCell ?_ (by first | omega | (simp <;> omega)) _ | refine Below.alloc ?_ (by first | omega | (simp <;> omega)) _))
    go_enter Try.func15, Try.ntmps15
    go_wp2_with fail
    go_loopw [14] (fun i wr => ∃ k : Nat, i = .int .i64 k ∧ k ≤ l.length ∧ (∀ j (hj : j < l.length), j < k → rateB l[j] = true) ∧ ((l.take k).map Rg.a0).Nodup ∧ MapB wr w.heap.size ((l.take k).map Rg.a0) ∧ Below w.heap.size w wr) (fun i _ => l.length - (intOf i).toNat)
    case atStart => exact ⟨0, rfl, Nat.zero_le _, fun j _ hj => absurd hj (Nat.not_lt_zero _), by simp, by simpa using mb, hb1⟩
    case round =>
      clear mb hb1
      obtain ⟨k, rfl, hkl, hall, hnd, hm, q⟩ := hrel
      have HA := Lib.hid hall
      have HND := Lib.hid hnd
      clear hall hnd
      have hmlt := hm.lt
      by_cases hk : k < l.length
      · obtain ⟨a, ad1, cap1, ad2, cap2, rfl, hab, hrv, m0, m1, m2, m3, m4, m5, m6, m7, m8, m9, m10, m11, m12, m13, m14, m15⟩ := (hv.below q).reads k hk
        have hwk : IntKind.i64.wrap ((k : Int) + 1) = (k : Int) + 1 := IntWalk.i64_in _ (by omega)
        have h1 := fun w1 (h : Below wr.heap.size wr w1) => trateG hrv w1 h
        unfold rgC at h1
        have HB : Hid (rateB l[k] = false → F = false) := Lib.hid fun h => by rw [← HF.out]; exact validG_bad hk h
        have HD : Hid (l[k].a0 ∈ (l.take k).map Rg.a0 → F = false) := Lib.hid fun h => by rw [← HF.out]; exact validG_dup hk h
        have HS : Hid (rateB l[k] = true → ∀ j (hj : j < l.length), j < k + 1 → rateB l[j] = true) := Lib.hid (fun g j hj hjk => by
          by_cases e : j = k
          · subst e; exact g
          · exact HA.out j hj (by omega))
        have HN2 : Hid (l[k].a0 ∉ (l.take k).map Rg.a0 → ((l.take (k + 1)).map Rg.a0).Nodup) := Lib.hid fun h => nodup_more hk HND.out h
        have HTM : Hid (l[k].a0 ∉ (l.take k).map Rg.a0 → addB ((l.take k).map Rg.a0) l[k].a0 = (l.take (k + 1)).map Rg.a0) := Lib.hid fun h => by unfold addB; rw [if_neg h, take_map hk]
        clear hrv
        generalize hks : (l.take k).map Rg.a0 = ks at *
        generalize rateB l[k] = x1 at *
        generalize rateE l[k] = e0 at *
        generalize l[k] = r at *
        have HKS := Lib.hid hks
        clear hks
        have ob := Own.new wr #[.int .i64 r.a0, .int .i64 r.a1, .int .i64 r.a2, .int .i64 r.a3, .int .i64 r.a4, .int .i64 r.a5, .int .i64 r.a6, .int .i64 r.a7, .int .i64 r.kn, .int .i64 r.kd, .int .i64 r.when.o, .int .i64 r.when.n, .slice ad1 r.when.ks.length cap1, .int .i64 r.price.o, .int .i64 r.price.n, .slice ad2 r.price.ks.length cap2] 30
        cases x1 with
        | false =>
          have HZ : Hid (F = false) := Lib.hid (HB.out rfl)
          clear HB HD HS HN2 HTM
          go_wp2_with fail
          refine (h1 _ (by (repeat (first | exact Below.refl _ _ | assumption | refine Below.drew ?_ | refine below_drewN ?_ _ | refine Below.setCell ?_ (by first | omega | (simp <;> omega)) _ | refine Below.alloc ?_ (by first | omega | (simp <;> omega)) _)))).mono ?_
          rintro e w2 ⟨rfl, hb2⟩
          have q2 : Below w.heap.size w w2 := q.trans ((Below.trans (by (repeat (first | exact Below.refl _ _ | assumption | refine Below.drew ?_ | refine below_drewN ?_ _ | refine Below.setCell ?_ (by first | omega | (simp <;> omega)) _ | refine Below.alloc ?_ (by first | omega | (simp <;> omega)) _))) (hb2.mono (by simp)) : Below wr.heap.size wr w2).mono q.size)
          go_wp2_with fail
          go_ret
          exact Ret.mk (by rw [HZ.out]; rfl) q2
        | true =>
          replace HS := Lib.hid (HS.out rfl)
          clear HB
          go_wp2_with fail
          refine (h1 _ (by (repeat (first | exact Below.refl _ _ | assumption | refine Below.drew ?_ | refine below_drewN ?_ _ | refine Below.setCell ?_ (by first | omega | (simp <;> omega)) _ | refine Below.alloc ?_ (by first | omega | (simp <;> omega)) _)))).mono ?_
          rintro e w2 ⟨rfl, hb2⟩
          have hb3 : Below wr.heap.size wr w2 := Below.trans (by (repeat (first | exact Below.refl _ _ | assumption | refine Below.drew ?_ | refine below_drewN ?_ _ | refine Below.setCell ?_ (by first | omega | (simp <;> omega)) _ | refine Below.alloc ?_ (by first | omega | (simp <;> omega)) _))) (hb2.mono (by simp))
          have q2 : Below w.heap.size w w2 := q.trans (hb3.mono q.size)
          have c0 := (ob.below hb2).cell 0 _ rfl
          have hz2 := (ob.below hb2).lt
          have hm2 := hm.below hb3
          have hlk := look_B hm2 r.a0
          clear m0 m1 m2 m3 m4 m5 m6 m7 m8 m9 m10 m11 m12 m13 m14 m15 h1 hb2 ob hm
          by_cases hin : r.a0 ∈ ks
          · have HZ : Hid (F = false) := Lib.hid (HD.out hin)
            rw [show decide (r.a0 ∈ ks) = true by simpa using hin] at hlk
            clear hin HD HN2 HTM
            go_wp2_with fail
            go_ret
            exact Ret.mk (by rw [HZ.out]; rfl) q2
          · rw [show decide (r.a0 ∈ ks) = false by simpa using hin] at hlk
            obtain ⟨w3, hput, hm3, hk3⟩ := put_B hm2 r.a0
            have HN3 := Lib.hid (HN2.out hin)
            have HT3 := Lib.hid (HTM.out hin)
            have q3 : Below w.heap.size w w3 := q2.trans (hk3.below (Nat.le_refl _) q2.size)
            clear hin HD HN2 HTM
            go_wp2_with fail
            go_roundw
            case rel => exact ⟨k + 1, by go_num, by omega, HS.out, HN3.out, by rw [← HT3.out]; exact hm3, q3⟩
            case measure => simp [intOf]; omega
      · have hkE : k = l.length := by omega
        subst hkE
        rw [List.take_length] at *
        have HZ : Hid (F = true) := Lib.hid (by rw [← HF.out]; exact validG_all (by omega) (fun j hj => HA.out j hj hj) HND.out)
        go_wp2_with fail
        go_ret
        exact Ret.mk (by rw [HZ.out]; rfl) q
set_option maxHeartbeats 6400000 in
theorem rvalid10_any (l : List Rg) (v : Value) (w : World) (hv : RgS w v l) : Calls Try.prog 16 #[v] w (Ret (.bool (validG l)) w) := by
  obtain ⟨ad, cap, cells, rfl, hl, hx⟩ := id hv
  clear hx
  obtain ⟨F, hF⟩ : ∃ F, validG l = F := ⟨_, rfl⟩
  rw [hF]
  by_cases h100 : 100 < l.length
  · have e1 : decide ((l.length : Int) > 100) = true := by simp; omega
    have HZ : Hid (F = false) := Lib.hid (by rw [← hF]; exact validG_long h100)
    clear hF h100
    go_enter Try.func16, Try.ntmps16
    go_wp2_with fail
    go_ret
    exact Ret.mk (by rw [HZ.out]; rfl) (Below.refl _ _)
  · have e1 : decide ((l.length : Int) > 100) = false := by simp; omega
    have e2 : decide (100 < (l.length : Int)) = false := by simp; omega
    have HF := Lib.hid hF
    clear hF
    go_enter Try.func16, Try.ntmps16
    go_wp2_with fail
    go_loopw [3] (fun i wr => ∃ k : Nat, i = .int .i64 k ∧ k ≤ l.length ∧ (∀ j (hj : j < l.length), j < k → rateB l[j] = true) ∧ ((l.take k).map Rg.a0).Nodup ∧ Below w.heap.size w wr) (fun i _ => l.length - (intOf i).toNat)
    case atStart => exact ⟨0, rfl, Nat.zero_le _, fun j _ hj => absurd hj (Nat.not_lt_zero _), by simp, Below.refl _ _⟩
    case round =>
      obtain ⟨k, rfl, hkl, hall, hnd, q⟩ := hrel
      have HA := Lib.hid hall
      have HND := Lib.hid hnd
      clear hall hnd
      by_cases hk : k < l.length
      · obtain ⟨a, ad1, cap1, ad2, cap2, rfl, hab, hrv, m0, m1, m2, m3, m4, m5, m6, m7, m8, m9, m10, m11, m12, m13, m14, m15⟩ := (hv.below q).reads k hk
        have hwk : IntKind.i64.wrap ((k : Int) + 1) = (k : Int) + 1 := IntWalk.i64_in _ (by omega)
        have h1 := rrateG hrv wr (Below.refl _ _)
        unfold rgC at h1
        have HB : Hid (rateB l[k] = false → F = false) := Lib.hid fun h => by rw [← HF.out]; exact validG_bad hk h
        have HD : Hid (l[k].a0 ∈ (l.take k).map Rg.a0 → F = false) := Lib.hid fun h => by rw [← HF.out]; exact validG_dup hk h
        have HS : Hid (rateB l[k] = true → ∀ j (hj : j < l.length), j < k + 1 → rateB l[j] = true) := Lib.hid (fun g j hj hjk => by
          by_cases e : j = k
          · subst e; exact g
          · exact HA.out j hj (by omega))
        have HN2 : Hid (l[k].a0 ∉ (l.take k).map Rg.a0 → ((l.take (k + 1)).map Rg.a0).Nodup) := Lib.hid fun h => nodup_more hk HND.out h
        clear hrv
        generalize hx1 : rateB l[k] = x1 at *
        generalize rateE l[k] = e0 at *
        have HRR : Hid (∀ j (hj : j < l.length), j < k → l[k].a0 = l[j].a0 → l[k].a0 ∈ (l.take k).map Rg.a0) := Lib.hid (fun j hj hjk he => by
          rw [he]
          exact List.mem_map_of_mem (by rw [List.mem_take_iff_getElem]; exact ⟨j, by omega, rfl⟩))
        have HNI : Hid ((∀ j (hj : j < l.length), j < k → l[k].a0 ≠ l[j].a0) → l[k].a0 ∉ (l.take k).map Rg.a0) := Lib.hid (fun h hm => by
          obtain ⟨r, hr, he⟩ := List.mem_map.1 hm
          rw [List.mem_take_iff_getElem] at hr
          obtain ⟨j, hj, rfl⟩ := hr
          exact h j (by omega) (by omega) he.symm)
        clear hx1
        generalize hrk : l[k] = r at *
        have HRK := Lib.hid hrk
        clear hrk
        cases x1 with
        | false =>
          have HZ : Hid (F = false) := Lib.hid (HB.out rfl)
          clear HB HD HS HN2 HRR HNI
          go_wp2_with fail
          refine h1.mono ?_
          rintro e w2 ⟨rfl, hb2⟩
          go_wp2_with fail
          go_ret
          exact Ret.mk (by rw [HZ.out]; rfl) (q.trans (hb2.mono q.size))
        | true =>
          replace HS := Lib.hid (HS.out rfl)
          clear HB
          go_wp2_with fail
          refine h1.mono ?_
          rintro e w2 ⟨rfl, hb2⟩
          have q2 : Below w.heap.size w w2 := q.trans (hb2.mono q.size)
          clear m0 m1 m2 m3 m4 m5 m6 m7 m8 m9 m10 m11 m12 m13 m14 m15 h1 hb2 hab
          obtain ⟨wo, rfl⟩ : ∃ wo, wo = wr := ⟨_, rfl⟩
          go_wp2_with fail
          go_loopw [6] (fun i wr => ∃ m : Nat, i = .int .i64 m ∧ m ≤ k ∧ (∀ j (hj : j < l.length), j < m → r.a0 ≠ l[j].a0) ∧ Below w.heap.size w wr) (fun i _ => k - (intOf i).toNat)
          case atStart => exact ⟨0, rfl, Nat.zero_le _, fun j _ hj => absurd hj (Nat.not_lt_zero _), q2⟩
          case round =>
            obtain ⟨m, rfl, hmk, hne, qq⟩ := hrel
            have HNE := Lib.hid hne
            clear hne
            by_cases hm2 : m < k
            · obtain ⟨a2, bd1, bap1, bd2, bap2, ea, hab2, -, n0, -⟩ := (hv.below qq).reads m (by omega)
              cases ea
              obtain ⟨a3, bd3, bap3, bd4, bap4, ea, hab3, -, p0, -⟩ := (hv.below qq).reads k hk
              cases ea
              rw [HRK.out] at p0
              have hwm : IntKind.i64.wrap ((m : Int) + 1) = (m : Int) + 1 := IntWalk.i64_in _ (by omega)
              have HR2 : Hid (r.a0 = l[m].a0 → F = false) := Lib.hid fun h => HD.out (HRR.out m (by omega) hm2 h)
              have HN4 : Hid (r.a0 ≠ l[m].a0 → ∀ j (hj : j < l.length), j < m + 1 → r.a0 ≠ l[j].a0) := Lib.hid (fun g j hj hjm => by
                by_cases e : j = m
                · subst e; exact g
                · exact HNE.out j hj (by omega))
              generalize l[m] = s at *
              by_cases hq : s.a0 = r.a0
              · have HZ : Hid (F = false) := Lib.hid (HR2.out hq.symm)
                have eq1 : (s.a0 == r.a0) = true := by rw [beq_iff_eq]; exact hq
                clear hq HR2 HN4
                go_wp2_with fail
                go_region
                all_goals (
                  go_wp2_with fail
                  go_ret
                  exact Ret.mk (by rw [HZ.out]; rfl) (by first | exact qq | exact qq.drew))
              · have HG := Lib.hid (HN4.out fun h => hq h.symm)
                have eq1 : (s.a0 == r.a0) = false := by rw [beq_eq_false_iff_ne]; exact hq
                clear hq HR2 HN4
                go_wp2_with fail
                go_region
                all_goals (
                  go_wp2_with fail
                  go_roundw
                  case rel => exact ⟨m + 1, by go_num, by omega, HG.out, by first | exact qq | exact qq.drew⟩
                  case measure => simp [intOf]; omega)
            · have HNN := Lib.hid (HN2.out (HNI.out fun j hj hjk => HNE.out j hj (by omega)))
              go_wp2_with fail
              go_roundw
              case rel => exact ⟨k + 1, by go_num, by omega, HS.out, HNN.out, qq⟩
              case measure => simp [intOf]; omega
      · have hkE : k = l.length := by omega
        subst hkE
        have HZ : Hid (F = true) := Lib.hid (by
          have := HND.out
          rw [List.take_length] at this
          rw [← HF.out]; exact validG_all (by omega) (fun j hj => HA.out j hj hj) this)
        go_wp2_with fail
        go_ret
        exact Ret.mk (by rw [HZ.out]; rfl) q
end Go.Proofs.Ytbkcpcjdpfndpaa
