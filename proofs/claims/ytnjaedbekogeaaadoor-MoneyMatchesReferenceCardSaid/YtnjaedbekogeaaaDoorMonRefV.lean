/-
  The walk of the reference's Valid.
-/
import Derived.Test.YtnjaedbekogeaaaDoorMonConv
namespace Go.Proofs.YtnjaedbekogeaaaDoor
open Go.RowKit
set_option maxRecDepth 100000

theorem Exs.readsA {w : World} {a : Addr} {l : List Ex} {cap : Nat} (h : Exs w (.slice (some a) l.length cap) l) {wr : World} {B : Nat} (hb : Below B w wr) (hB : w.heap.size ≤ B) (k : Nat) (hk : k < l.length) :
    wr.cell? (a.add (k * 4)) = some (.int .i64 (l[k]).f) ∧ wr.cell? { block := (a.add (k * 4)).block, off := (a.add (k * 4)).off + 1 } = some (.int .i64 (l[k]).t) ∧
    wr.cell? { block := (a.add (k * 4)).block, off := (a.add (k * 4)).off + 2 } = some (.int .i64 (l[k]).n) ∧ wr.cell? { block := (a.add (k * 4)).block, off := (a.add (k * 4)).off + 3 } = some (.int .i64 (l[k]).d) := by
  obtain ⟨a', e, h1⟩ := h.reads hb hB k hk
  cases e; exact h1

set_option maxHeartbeats 4000000 in
theorem rvalid6_any (v : Value) (l : List Ex) (w : World) (h : Exs w v l) : Calls Tryd.prog 13 #[v] w (Ret (.bool (vldX l)) w) := by
  obtain ⟨ad, cap, rfl, hc⟩ := h.open
  have hlen := h.short
  clear hc
  go_enter Tryd.func13, Tryd.ntmps13
  go_wp2_with fail
  go_loopw [3] (fun i wr => ∃ k : Nat, k ≤ l.length ∧ k ≤ 30 ∧ i = .int .i64 k ∧ okEx [] l = okEx (l.take k) (l.drop k) ∧ Below w.heap.size w wr)
    (fun i _ => l.length - (intOf i).toNat)
  case atStart => exact ⟨0, by omega, by omega, rfl, by simp, Below.refl _ _⟩
  case round =>
    obtain ⟨k, hk, hk30, rfl, hv, hb⟩ := hrel
    by_cases hkl : k < l.length
    · obtain ⟨a, rfl, hr0, hr1, hr2, hr3⟩ := h.reads hb (Nat.le_refl _) k hkl
      rw [xdrop_cons hkl] at hv
      have htk := take_snoc hkl
      have q0 : decide ((k : Int) < l.length) = true := by simp; omega
      generalize l[k] = x at hr0 hr1 hr2 hr3 hv htk
      obtain ⟨f, t, n, d⟩ := x
      simp only at hr0 hr1 hr2 hr3
      have hn1 : Below wr.heap.size wr (wr.alloc (.cells #[.int .i64 f, .int .i64 t, .int .i64 n, .int .i64 d] 53)) := (Below.refl _ _).alloc (Nat.le_refl _) _
      have oX := Own.new wr #[.int .i64 f, .int .i64 t, .int .i64 n, .int .i64 d] 53
      cases h1 : cur f with
      | false =>
        have hvf : Hid (vldX l = false) := Lib.hid (by have : okEx [] l = false := (by rw [hv, okEx]; simp [exB, h1]); simp [vldX, this])
        have H1 := Lib.hid h1
        clear h1 hv
        go_wp2_with fail
        refine (rCurrency_at _ _ H1.out).mono ?_
        rintro e w' ⟨rfl, rfl⟩
        go_wp2_with fail
        go_ret
        exact Ret.mk (by rw [hvf.out]; rfl) (hb.trans (hn1.mono hb.size))
      | true =>
      cases h2 : cur t with
      | false =>
        have hvf : Hid (vldX l = false) := Lib.hid (by have : okEx [] l = false := (by rw [hv, okEx]; simp [exB, h2]); simp [vldX, this])
        have H1 := Lib.hid h1
        have H2 := Lib.hid h2
        clear h1 h2 hv
        go_wp2_with fail
        refine (rCurrency_at _ _ H1.out).mono ?_
        rintro e w' ⟨rfl, rfl⟩
        go_wp2_with fail
        refine (rCurrency_at _ _ H2.out).mono ?_
        rintro e w' ⟨rfl, rfl⟩
        go_wp2_with fail
        go_ret
        exact Ret.mk (by rw [hvf.out]; rfl) (hb.trans (hn1.mono hb.size))
      | true =>
      by_cases h3 : f = t
      · subst h3
        have hvf : Hid (vldX l = false) := Lib.hid (by have : okEx [] l = false := (by rw [hv, okEx]; simp [exB]); simp [vldX, this])
        have h3' : (f == f) = true := by simp
        have H1 := Lib.hid h1
        have H2 := Lib.hid h2
        clear h1 h2 hv
        go_wp2_with fail
        refine (rCurrency_at _ _ H1.out).mono ?_
        rintro e w' ⟨rfl, rfl⟩
        go_wp2_with fail
        refine (rCurrency_at _ _ H2.out).mono ?_
        rintro e w' ⟨rfl, rfl⟩
        go_wp2_with fail
        go_ret
        exact Ret.mk (by rw [hvf.out]; rfl) (hb.trans (hn1.mono hb.size))
      have h3' : (f == t) = false := by simpa using h3
      cases h4 : vldB n d with
      | false =>
        have hvf : Hid (vldX l = false) := Lib.hid (by have : okEx [] l = false := (by rw [hv, okEx]; simp [exB, h4]); simp [vldX, this])
        have H1 := Lib.hid h1
        have H2 := Lib.hid h2
        have H4 := Lib.hid h4
        clear h1 h2 h4 hv
        go_wp2_with fail
        refine (rCurrency_at _ _ H1.out).mono ?_
        rintro e w' ⟨rfl, rfl⟩
        go_wp2_with fail
        refine (rCurrency_at _ _ H2.out).mono ?_
        rintro e w' ⟨rfl, rfl⟩
        go_wp2_with fail
        refine (r_valid_at _ _ _ H4.out).mono ?_
        rintro e w2 ⟨rfl, hx⟩
        go_wp2_with fail
        go_ret
        exact Ret.mk (by rw [hvf.out]; rfl) ((hb.trans (hn1.mono hb.size)).trans (hx.mono (by have := hb.size; simp; omega)))
      | true =>
      by_cases h5 : n ≤ 0
      · have hvf : Hid (vldX l = false) := Lib.hid (by have : okEx [] l = false := (by rw [hv, okEx]; simp [exB]; omega); simp [vldX, this])
        have h5' : decide (n ≤ 0) = true := by simpa using h5
        have H1 := Lib.hid h1
        have H2 := Lib.hid h2
        have H4 := Lib.hid h4
        clear h1 h2 h4 hv
        go_wp2_with fail
        refine (rCurrency_at _ _ H1.out).mono ?_
        rintro e w' ⟨rfl, rfl⟩
        go_wp2_with fail
        refine (rCurrency_at _ _ H2.out).mono ?_
        rintro e w' ⟨rfl, rfl⟩
        go_wp2_with fail
        refine (r_valid_at _ _ _ H4.out).mono ?_
        rintro e w2 ⟨rfl, hx⟩
        replace oX := oX.below hx
        have hb2 := (hb.trans (hn1.mono hb.size)).trans (hx.mono (by have := hb.size; simp; omega))
        obtain ⟨x0, x1, x2, x3, g0, g1, g2, g3, zX⟩ := oX.four
        go_wp2_with fail
        go_ret
        exact Ret.mk (by rw [hvf.out]; rfl) hb2
      · skip
        have h5' : decide (n ≤ 0) = false := by simpa using h5
        have HE : Hid (exB ⟨f, t, n, d⟩ = true) := Lib.hid (by simp [exB, h1, h2, h3, h4]; omega)
        have H1 := Lib.hid h1
        have H2 := Lib.hid h2
        have H4 := Lib.hid h4
        replace hv := Lib.hid hv
        replace htk := Lib.hid htk
        clear h1 h2 h4 hlen
        go_wp2_with fail
        refine (rCurrency_at _ _ H1.out).mono ?_
        rintro e w' ⟨rfl, rfl⟩
        go_wp2_with fail
        refine (rCurrency_at _ _ H2.out).mono ?_
        rintro e w' ⟨rfl, rfl⟩
        go_wp2_with fail
        refine (r_valid_at _ _ _ H4.out).mono ?_
        rintro e w2 ⟨rfl, hx⟩
        replace oX := oX.below hx
        have hb2 := (hb.trans (hn1.mono hb.size)).trans (hx.mono (by have := hb.size; simp; omega))
        obtain ⟨x0, x1, x2, x3, g0, g1, g2, g3, zX⟩ := oX.four
        have hbs := hb2.size
        clear hr0 hr1 hr2 hr3 hn1 hx
        go_wp2_with fail
        go_loopw [5] (fun i wr => ∃ j : Nat, j ≤ k ∧ i = .int .i64 j ∧ (l.take j).any (keyB f t) = false ∧ Below w2.heap.size w2 wr)
          (fun i _ => k - (intOf i).toNat)
        case atStart => exact ⟨0, by omega, rfl, rfl, Below.refl _ _⟩
        case round =>
          obtain ⟨j, hj, rfl, hnone, hb3⟩ := hrel
          have hb4 := hb2.trans (hb3.mono hb2.size)
          have oY := oX.below hb3
          obtain ⟨y0, y1, y2, y3, f0, f1, f2, f3, zY⟩ := oY.four
          by_cases hjk : j < k
          · have q1 : decide ((j : Int) < k) = true := by simp; omega
            have hjl : j < l.length := by omega
            have hu := fun g : Grow wr => h.readsA (hb4.trans ((up_below wr g).mono hb4.size)) (Nat.le_refl _) j hjl
            have u0 := fun g => (hu g).1
            have u1 := fun g => (hu g).2.1
            have hstep := List.take_succ_eq_append_getElem hjl
            clear hu
            generalize l[j] = y at u0 u1 hstep
            obtain ⟨yf, yt, yn, yd⟩ := y
            simp only at u0 u1
            replace hstep := Lib.hid hstep
            clear x0 x1 x2 x3 g0 g1 g2 g3 y2 y3 f0 f1 f2 f3
            by_cases e1 : yf = f
            · have q2 : (yf == f) = true := by simpa using e1
              by_cases e2 : yt = t
              · have q3 : (yt == t) = true := by simpa using e2
                have hvf : Hid (vldX l = false) := Lib.hid (by
                  have hin : (l.take k).any (keyB f t) = true := by
                    rw [List.any_eq_true]
                    refine ⟨⟨yf, yt, yn, yd⟩, ?_, by simp [keyB, e1, e2]⟩
                    have : (⟨yf, yt, yn, yd⟩ : Ex) ∈ l.take (j + 1) := by rw [hstep.out]; simp
                    exact List.take_subset_take_left l (by omega) this
                  have : okEx [] l = false := by rw [hv.out, okEx, hin]; simp
                  simp [vldX, this])
                clear e1 e2
                go_wp2_with fail
                refine wp_region_up (by kernel_rfl) (by kernel_rfl) ?_
                repeat (go_big_quiet_step (fail))
                refine wpQuiet_nil ?_
                rintro w5 ⟨g, rfl⟩
                have hx5 := up_below wr g
                go_wp2_with fail
                go_ret
                exact Ret.mk (by rw [hvf.out]; rfl) (hb4.trans (hx5.mono hb4.size))
              · have q3 : (yt == t) = false := by simpa using e2
                have hne : (l.take (j + 1)).any (keyB f t) = false := by rw [hstep.out, List.any_append, hnone]; simp [keyB, e2]
                clear e1 e2
                go_wp2_with fail
                refine wp_region_up (by kernel_rfl) (by kernel_rfl) ?_
                repeat (go_big_quiet_step (fail))
                refine wpQuiet_nil ?_
                rintro w5 ⟨g, rfl⟩
                have hx5 := up_below wr g
                go_wp2_with fail
                go_roundw
                case rel => exact ⟨j + 1, by omega, by go_num, hne, hb3.trans (hx5.mono hb3.size)⟩
                case measure => simp [intOf]; omega
            · have q2 : (yf == f) = false := by simpa using e1
              have hne : (l.take (j + 1)).any (keyB f t) = false := by rw [hstep.out, List.any_append, hnone]; simp [keyB, e1]
              clear e1
              go_wp2_with fail
              refine wp_region_up (by kernel_rfl) (by kernel_rfl) ?_
              repeat (go_big_quiet_step (fail))
              refine wpQuiet_nil ?_
              rintro w5 ⟨g, rfl⟩
              have hx5 := up_below wr g
              go_wp2_with fail
              go_roundw
              case rel => exact ⟨j + 1, by omega, by go_num, hne, hb3.trans (hx5.mono hb3.size)⟩
              case measure => simp [intOf]; omega
          · obtain rfl : j = k := by omega
            have q1 : decide ((j : Int) < j) = false := by simp
            by_cases h30 : j = 30
            · have q4 : decide ((j : Int) ≥ 30) = true := by simp; omega
              go_wp2_with fail
              go_ret
              exact Ret.mk (by simp [vldX]; omega) hb4
            · have q4 : decide ((j : Int) ≥ 30) = false := by simp; omega
              have hvf : okEx [] l = okEx (l.take (j + 1)) (l.drop (j + 1)) := by rw [hv.out, okEx, hnone, HE.out, htk.out]; rfl
              go_wp2_with fail
              go_roundw
              case rel => exact ⟨j + 1, by omega, by omega, by go_num, hvf, hb4⟩
              case measure => simp [intOf]; omega
    · have e1 : k = l.length := by omega
      subst e1
      have q0 : decide ((l.length : Int) < l.length) = false := by simp
      go_wp2_with fail
      go_ret
      exact Ret.mk (by rw [vldX, hv]; simp [okEx]; omega) hb
end Go.Proofs.YtnjaedbekogeaaaDoor
