/-
  The reference: bytes, integers, lists of integers compared.
-/
import Derived.Test.YtpgnlmhkigpjgaaCodFrm
import Derived.Laws.BytesArg
import Derived.Laws.StructEq
namespace Go.Proofs.Ytpgnlmhkigpjgaa
open Go.RowKit

def bsOf (l : List UInt8) : ByteArray := ⟨l.toArray⟩
theorem run_str (v : Value) (l : List UInt8) (w : World) (h : Bytes w v l) : (convert 23 9 v).run Try.prog w = .ok (.string (bsOf l)) w := by
  have hs : Try.prog.underlying 23 = some (.slice 5) := by kernel_rfl
  have he : Try.prog.underlying 5 = some (.int .u8) := by kernel_rfl
  have hd : Try.prog.underlying 9 = some .string := by kernel_rfl
  obtain ⟨ad, cap, hv⟩ := h.shape
  rw [List.length_map] at hv
  subst hv
  cases ad with
  | none =>
    obtain ⟨h0, h1⟩ := h.bare _ _ rfl
    rw [List.length_eq_zero_iff] at h0
    subst h0
    rw [run_convert_bytes_nil w _ _ hs he _ _ _ hd]
    rfl
  | some a =>
    have hl : (loadCells a l.length).run Try.prog w = .ok ((l.map fun x => (x.toNat : Int)).map (Value.int .u8)).toArray w := by
      have := run_loadCells_list (P := Try.prog) w a (l.map vB) (fun j v hj => by
        obtain ⟨hl, rfl⟩ := List.getElem?_eq_some_iff.1 hj
        obtain ⟨a', e', _, hc⟩ := h.cells _ _ _ rfl j hl
        cases e'; exact hc)
      rw [List.length_map] at this
      rw [this, List.map_map]
      rfl
    rw [run_convert_bytes_string w _ _ _ _ _ _ hs he hd, run_bytesToString w _ _ _ _ hl, foldl_push_bytes]
    congr 2
    rw [List.map_map]
    have : l.map ((fun n : Int => UInt8.ofNat n.toNat) ∘ fun x => (x.toNat : Int)) = l := by
      rw [show ((fun n : Int => UInt8.ofNat n.toNat) ∘ fun x : UInt8 => (x.toNat : Int)) = id by funext x; simp]
      exact List.map_id l
    rw [this]
    simp [bsOf, ByteArray.empty, ByteArray.emptyWithCapacity]
    rfl
theorem eql_str (a b : List UInt8) : ((bsOf a).toList == (bsOf b).toList) = decide (a = b) := by
  unfold bsOf
  rw [ByteArray.toList_mk, ByteArray.toList_mk, Bool.eq_iff_iff, decide_eq_true_iff, beq_iff_eq]
set_option maxRecDepth 100000 in
theorem sameBytes_any (v u : Value) (a b : List UInt8) (w : World) (h : Bytes w v a) (k : Bytes w u b) : Calls Try.prog 12 #[v, u] w (Ret (.bool (decide (a = b))) w) := by
  have h1 := run_str v a w h
  have h2 := run_str u b w k
  have h3 := eql_str a b
  go_enter Try.func12, Try.ntmps12
  go_wp2_with fail
  go_ret
  exact Ret.mk rfl (Below.refl _ _)
set_option maxRecDepth 100000 in
theorem sameInts_any (v u : Value) (a b : List Int) (w : World) (h : Ints w v a) (k : Ints w u b) : Calls Try.prog 17 #[v, u] w (Ret (.bool (decide (a = b))) w) := by
  have hla := h.1.short
  have hlb := k.1.short
  obtain ⟨ad, cap, hv⟩ := h.1.shape
  have hca := h.1.cells _ _ _ hv
  rw [List.length_map] at hv
  subst hv
  obtain ⟨ad2, cap2, hu⟩ := k.1.shape
  have hcb := k.1.cells _ _ _ hu
  rw [List.length_map] at hu
  subst hu
  simp only [List.length_map] at hca hcb hla hlb
  by_cases hl : a.length = b.length
  · have q0 : ((a.length : Int) == b.length) = true := by simp; omega
    go_enter Try.func17, Try.ntmps17
    go_wp2_with fail
    go_loopw [5] (fun i wr => ∃ n : Nat, n ≤ a.length ∧ i = .int .i64 (n : Int) ∧ Below w.heap.size w wr ∧ a.take n = b.take n) (fun i _ => a.length - (intOf i).toNat)
    case atStart => exact ⟨0, by omega, rfl, Below.refl _ _, rfl⟩
    case round =>
      obtain ⟨n, hn, rfl, hb, heq⟩ := hrel
      have hbs := hb.size
      by_cases hna : n < a.length
      · have hnb : n < b.length := by omega
        obtain ⟨p, rfl, hp0, hc⟩ := hca n hna
        obtain ⟨p2, rfl, hp2, hc2⟩ := hcb n hnb
        rw [List.getElem_map] at hc hc2
        have u1 : ∀ g : Grow wr, (up wr g).cell? (p.add n) = some (.int .i64 a[n]) := fun g => ((hb.trans ((up_below wr g).mono hbs)).cell (p := p.add n) (by rw [blk_add]; exact hp0)).trans hc
        have u2 : ∀ g : Grow wr, (up wr g).cell? (p2.add n) = some (.int .i64 b[n]) := fun g => ((hb.trans ((up_below wr g).mono hbs)).cell (p := p2.add n) (by rw [blk_add]; exact hp2)).trans hc2
        clear hc hc2
        have q1 : decide ((n : Int) < a.length) = true := by simp; omega
        by_cases hx : a[n] = b[n]
        · have q2 : ((a[n] : Int) == b[n]) = true := by simp [hx]
          have hnext : a.take (n + 1) = b.take (n + 1) := by rw [List.take_succ_eq_append_getElem hna, List.take_succ_eq_append_getElem hnb, heq, hx]
          generalize a[n] = x at *
          generalize b[n] = y at *
          clear hx
          go_wp2_with fail
          refine wp_region_up (by kernel_rfl) (by kernel_rfl) ?_
          repeat (go_big_quiet_step (fail))
          refine wpQuiet_nil ?_
          rintro w2 ⟨g, rfl⟩
          have hx2 := up_below wr g
          go_wp2_with fail
          go_roundw
          case rel => exact ⟨n + 1, by omega, by go_num, hb.trans (hx2.mono hbs), hnext⟩
          case measure => simp [intOf]; omega
        · have q2 : ((a[n] : Int) == b[n]) = false := by simp [hx]
          have hne : decide (a = b) = false := by
            rw [decide_eq_false_iff_not]
            intro e
            subst e
            exact hx rfl
          replace hne := Lib.hid hne
          generalize a[n] = x at *
          generalize b[n] = y at *
          clear hx
          go_wp2_with fail
          refine wp_region_up (by kernel_rfl) (by kernel_rfl) ?_
          repeat (go_big_quiet_step (fail))
          refine wpQuiet_nil ?_
          rintro w2 ⟨g, rfl⟩
          have hx2 := up_below wr g
          go_wp2_with fail
          go_ret
          rw [hne.out]
          exact Ret.mk rfl (hb.trans (hx2.mono hbs))
      · have q1 : decide ((n : Int) < a.length) = false := by simp; omega
        have he : decide (a = b) = true := by
          rw [decide_eq_true_iff]
          rw [List.take_of_length_le (by omega), List.take_of_length_le (by omega)] at heq
          exact heq
        replace he := Lib.hid he
        go_wp2_with fail
        go_ret
        rw [he.out]
        exact Ret.mk rfl hb
  · have q0 : ((a.length : Int) == b.length) = false := by simp; omega
    have hne : decide (a = b) = false := by
      rw [decide_eq_false_iff_not]
      rintro rfl
      exact hl rfl
    rw [hne]
    go_enter Try.func17, Try.ntmps17
    go_wp2_with fail
    go_ret
    exact Ret.mk rfl (Below.refl _ _)
set_option maxRecDepth 100000 in
theorem sameLists_any (v u : Value) (a b : List (List Int)) (w : World) (h : Lists w v a) (k : Lists w u b) : Calls Try.prog 20 #[v, u] w (Ret (.bool (decide (a = b))) w) := by
  obtain ⟨vs, hr, hvl, hvi⟩ := h
  obtain ⟨us, kr, hul, hui⟩ := k
  have hla := hr.short
  have hlb := kr.short
  obtain ⟨ad, cap, hv⟩ := hr.shape
  have hca := hr.cells _ _ _ hv
  rw [hvl] at hv hla
  subst hv
  obtain ⟨ad2, cap2, hu⟩ := kr.shape
  have hcb := kr.cells _ _ _ hu
  rw [hul] at hu hlb
  subst hu
  by_cases hl : a.length = b.length
  · have q0 : ((a.length : Int) == b.length) = true := by simp; omega
    go_enter Try.func20, Try.ntmps20
    go_wp2_with fail
    go_loopw [5] (fun i wr => ∃ n : Nat, n ≤ a.length ∧ i = .int .i64 (n : Int) ∧ Below w.heap.size w wr ∧ a.take n = b.take n) (fun i _ => a.length - (intOf i).toNat)
    case atStart => exact ⟨0, by omega, rfl, Below.refl _ _, rfl⟩
    case round =>
      obtain ⟨n, hn, rfl, hb, heq⟩ := hrel
      have hbs := hb.size
      by_cases hna : n < a.length
      · have hnb : n < b.length := by omega
        obtain ⟨p, rfl, hp0, hc⟩ := hca n (by omega)
        obtain ⟨p2, rfl, hp2, hc2⟩ := hcb n (by omega)
        have i1 := hvi n (by omega) hna
        have i2 := hui n (by omega) hnb
        have q1 : decide ((n : Int) < a.length) = true := by simp; omega
        have hsm := fun (g : Grow wr) => sameInts_any _ _ _ _ (up wr g) (i1.below (hb.trans ((up_below wr g).mono hbs))) (i2.below (hb.trans ((up_below wr g).mono hbs)))
        obtain ⟨ad3, cap3, e3⟩ := i1.1.shape
        obtain ⟨ad4, cap4, e4⟩ := i2.1.shape
        simp only [e3, List.length_map] at hc hsm
        simp only [e4, List.length_map] at hc2 hsm
        have u1 : ∀ g : Grow wr, (up wr g).cell? (p.add n) = some (.slice ad3 a[n].length cap3) := fun g => ((hb.trans ((up_below wr g).mono hbs)).cell (p := p.add n) (by rw [blk_add]; exact hp0)).trans hc
        have u2 : ∀ g : Grow wr, (up wr g).cell? (p2.add n) = some (.slice ad4 b[n].length cap4) := fun g => ((hb.trans ((up_below wr g).mono hbs)).cell (p := p2.add n) (by rw [blk_add]; exact hp2)).trans hc2
        clear hc hc2
        by_cases hx : a[n] = b[n]
        · have hnext : a.take (n + 1) = b.take (n + 1) := by rw [List.take_succ_eq_append_getElem hna, List.take_succ_eq_append_getElem hnb, heq, hx]
          simp only [decide_eq_true hx] at hsm
          clear e3 e4 i1 i2 hx heq
          generalize a[n].length = la at *
          generalize b[n].length = lb at *
          go_wp2_with fail
          refine wp_region_up (by kernel_rfl) (by kernel_rfl) ?_
          repeat (go_big_quiet_step (first | (go_at_call 17; exact Ret.up (hsm _))))
          refine wpQuiet_nil ?_
          rintro w2 ⟨g, rfl⟩
          have hx2 := up_below wr g
          go_wp2_with fail
          go_roundw
          case rel => exact ⟨n + 1, by omega, by go_num, hb.trans (hx2.mono hbs), hnext⟩
          case measure => simp [intOf]; omega
        · have hne : decide (a = b) = false := by
            rw [decide_eq_false_iff_not]
            intro e
            subst e
            exact hx rfl
          simp only [decide_eq_false hx] at hsm
          replace hne := Lib.hid hne
          clear e3 e4 i1 i2 hx heq
          generalize a[n].length = la at *
          generalize b[n].length = lb at *
          go_wp2_with fail
          refine wp_region_up (by kernel_rfl) (by kernel_rfl) ?_
          repeat (go_big_quiet_step (first | (go_at_call 17; exact Ret.up (hsm _))))
          refine wpQuiet_nil ?_
          rintro w2 ⟨g, rfl⟩
          have hx2 := up_below wr g
          go_wp2_with fail
          go_ret
          rw [hne.out]
          exact Ret.mk rfl (hb.trans (hx2.mono hbs))
      · have q1 : decide ((n : Int) < a.length) = false := by simp; omega
        have he : decide (a = b) = true := by
          rw [decide_eq_true_iff]
          rw [List.take_of_length_le (by omega), List.take_of_length_le (by omega)] at heq
          exact heq
        replace he := Lib.hid he
        go_wp2_with fail
        go_ret
        rw [he.out]
        exact Ret.mk rfl hb
  · have q0 : ((a.length : Int) == b.length) = false := by simp; omega
    have hne : decide (a = b) = false := by
      rw [decide_eq_false_iff_not]
      rintro rfl
      exact hl rfl
    rw [hne]
    go_enter Try.func20, Try.ntmps20
    go_wp2_with fail
    go_ret
    exact Ret.mk rfl (Below.refl _ _)
end Go.Proofs.Ytpgnlmhkigpjgaa
