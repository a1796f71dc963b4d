/-
  The reference's Join.
-/
import Derived.Test.YtfnclecfldddeaaDoorLexRRight
import Derived.Lib.AppendStr
import Derived.Lib.BufferRead
namespace Go.Proofs.YtfnclecfldddeaaDoor
open Go.RowKit Go.Shelf
set_option maxRecDepth 100000

def refL (i : Nat) (line : Int) (acc : List UInt8) : List RT → List UInt8 × Nat
  | [] => if 20000 < acc.length then ([], 2) else (acc, 0)
  | x :: r => if 20001 < x.n ∨ 20000 < acc.length then ([], 2) else refL (i + 1) x.n (acc ++ (if 0 < i ∧ x.n = line then [32] else List.replicate (x.n - line).toNat 10) ++ x.t) r
theorem ref_far {i : Nat} {line : Int} {acc : List UInt8} (h : 20000 < acc.length) : ∀ l, refL i line acc l = ([], 2)
  | [] => by rw [refL, if_pos h]
  | x :: r => by rw [refL, if_pos (.inr h)]
theorem kind_len {t : List UInt8} (h : kindF t ≠ 0) : 1 ≤ t.length := by
  cases t with
  | nil => exact absurd rfl h
  | cons c r => simp
theorem ref_join : ∀ (l : List RT) (i : Nat) (line : Int) (acc : List UInt8), acc.length ≤ 20000 → 1 ≤ line → line - 1 ≤ acc.length → rightR line l = true → refL i line acc l = joinL i line acc l
  | [], i, line, acc, h, _, _, _ => by rw [refL, joinL, if_neg (by omega)]
  | x :: r, i, line, acc, h, h1, h2, hr => by
    simp only [rightR, Bool.and_eq_true, decide_eq_true_eq] at hr
    obtain ⟨⟨⟨r1, r2⟩, r3⟩, r4⟩ := hr
    have ht : 1 ≤ x.t.length := kind_len (by omega)
    rw [refL, joinL]
    by_cases hn : 20001 < x.n
    · rw [if_pos (.inl hn), if_pos]
      unfold gapT
      by_cases hg : x.n - line = 0 ∧ 0 < i
      · omega
      · rw [if_neg hg, List.length_replicate]; omega
    · have hg : gapT i (x.n - line) = if 0 < i ∧ x.n = line then [32] else List.replicate (x.n - line).toNat 10 := by
        unfold gapT
        by_cases hb : 0 < i ∧ x.n = line
        · rw [if_pos hb, if_pos ⟨by omega, hb.1⟩]
        · rw [if_neg hb, if_neg (fun h => hb ⟨h.2, by omega⟩), show min (x.n - line).toNat 20000 = (x.n - line).toNat by omega]
      rw [if_neg (by omega), ← hg]
      by_cases hov : 20000 < acc.length + (gapT i (x.n - line)).length + x.t.length
      · rw [if_pos hov, ref_far (by simp only [List.length_append]; omega)]
      · rw [if_neg hov]
        refine ref_join r (i + 1) x.n _ (by simp only [List.length_append]; omega) (by omega) ?_ r4
        simp only [List.length_append]
        rw [hg]
        by_cases hb : 0 < i ∧ x.n = line
        · rw [if_pos hb]; simp; omega
        · rw [if_neg hb, List.length_replicate]; omega
theorem refL_drop {i : Nat} {line : Int} {acc : List UInt8} {l : List RT} {k : Nat} (hk : k < l.length) : refL i line acc (l.drop k) =
    if 20001 < (l[k]).n ∨ 20000 < acc.length then ([], 2) else refL (i + 1) (l[k]).n (acc ++ (if 0 < i ∧ (l[k]).n = line then [32] else List.replicate ((l[k]).n - line).toNat 10) ++ (l[k]).t) (l.drop (k + 1)) := by
  rw [List.drop_eq_getElem_cons hk]; rfl
/-- an owned row of bytes -/
def RB (w : World) (base : Nat) (v : Value) (l : List UInt8) : Prop := w.ownsRow base 5 1 v l.length (Lib.byteCells l)
theorem rb_next {w1 : World} {base : Nat} {v' : Value} {l m : List UInt8} {n : Nat} {news : List Value} (h : w1.ownsRow base 5 1 v' n (Lib.byteCells l ++ news)) (hn : n = l.length + m.length) (hm : news = Lib.byteCells m) : RB w1 base v' (l ++ m) := by
  unfold RB
  rw [List.length_append, Lib.byteCells_append, ← hn, ← hm]; exact h
theorem Tryd.infoU8 : (Tryd.prog.info? 5).map (fun i => (i.zero, i.size, i.bytes)) = some (some (.int .u8 0), 1, 1) := by kernel_rfl
theorem run_text {w : World} {base : Nat} {v : Value} {l : List UInt8} (h : RB w base v l) : (convert 44 9 v).run Tryd.prog w = .ok (.string ⟨l.toArray⟩) w := by
  have hs : Tryd.prog.underlying 44 = some (.slice 5) := Tryd.underlying44
  have he : Tryd.prog.underlying 5 = some (.int .u8) := Tryd.underlying5
  have hd : Tryd.prog.underlying 9 = some .string := Tryd.underlying9
  obtain ⟨_, ⟨rfl, h0⟩ | ⟨g, cap, cur, rfl, _, hh, _, _, _, hct⟩⟩ := h
  · have hl : l = [] := by simpa using h0
    subst hl
    exact Lib.run_convert_nil_bytes w _ _ _ _ hs he hd
  · exact run_convert_bytes_back w _ _ _ _ _ l hs he hd (Lib.bytes_of_row hh (by simpa using hct))
theorem grown_tok {W W' : World} {B m k : Nat} {c : Array Value} {u : Value} {xs : List Value} (hk : W.heap[k]? = some (.cells c 36 (0, 0))) (hg : W.grownBy W' u.ownBlock) (ho : W.ownsRow B 5 1 u m xs) : W'.heap[k]? = some (.cells c 36 (0, 0)) :=
  (hg.block k (Array.getElem?_eq_some_iff.1 hk).1 (fun e => by
    obtain ⟨_, cur, hc⟩ := lown_row ho k e.symm
    rw [hk] at hc; cases hc)).trans hk
theorem rep_one (j : Nat) (acc : List UInt8) : acc ++ List.replicate j 10 ++ [10] = acc ++ List.replicate (j + 1) 10 := by
  rw [List.append_assoc]; congr 1; exact (List.replicate_succ' (n := j) (a := (10 : UInt8))).symm

set_option maxHeartbeats 8000000 in
theorem rjoin_any (v : Value) (l : List RT) (w : World) (hT : Toks w v l) (ht : ∀ x ∈ l, x.t.length ≤ 400000) : Calls Tryd.prog 14 #[v] w (Ret (.tuple #[.string ⟨(joinP l).1.toArray⟩, .int .i64 (joinP l).2]) w) := by
  obtain ⟨ad, cap, rfl⟩ := hT.open
  have hsh := hT.short
  have hcan := rright_any _ l w hT (fun x hx => by have := ht x hx; omega)
  cases hc : canF l with
  | false =>
    have HJ : Hid (joinP l = ([], 1)) := Lib.hid (by unfold joinP; rw [if_neg (by rw [hc]; simp)])
    rw [hc] at hcan
    clear hc
    go_enter Tryd.func14, Tryd.ntmps14
    go_wp2_with fail
    refine hcan.mono ?_
    rintro e w1 ⟨rfl, hb⟩
    go_wp2_with fail
    go_ret2
    exact Ret.mk (by rw [HJ.out]; rfl) hb
  | true =>
    have hri : rightR 1 l = true := by unfold canF at hc; rw [Bool.and_eq_true] at hc; exact hc.2
    have hle : l.length ≤ 5000 := by unfold canF at hc; rw [Bool.and_eq_true] at hc; simpa using hc.1
    have HJ : Hid (joinP l = refL 0 1 [] l) := Lib.hid (by unfold joinP; rw [if_pos hc, ref_join l 0 1 [] (by simp) (by omega) (by simp) hri])
    rw [hc] at hcan
    have HRI := Lib.hid hri
    clear hc hri
    obtain ⟨i0, hi, hz0, hz1, hzz⟩ := info_parts Tryd.infoU8
    go_enter Tryd.func14, Tryd.ntmps14
    go_wp2_with fail
    refine hcan.mono ?_
    rintro e w1 ⟨rfl, hb⟩
    have hT1 := hT.below hb
    clear hcan hT
    go_wp2_with fail
    have hbz := hb.size
    go_loopw [5, 6, 7] (fun v line i wr => ∃ (k : Nat) (acc : List UInt8), k ≤ l.length ∧ i = .int .i64 k ∧ line = .int .i64 (lineR l k) ∧ 1 ≤ lineR l k ∧ rightR (lineR l k) (l.drop k) = true ∧ refL 0 1 [] l = refL k (lineR l k) acc (l.drop k) ∧ acc.length ≤ 500000 ∧ RB wr w1.heap.size v acc ∧ Below w1.heap.size w1 wr) (fun _ _ i _ => l.length - (intOf i).toNat)
    case atStart => exact ⟨0, [], Nat.zero_le _, rfl, rfl, by simp [lineR], HRI.out, rfl, by simp, World.ownsRow_nil _ _ _ _, Below.refl _ _⟩
    case round =>
      obtain ⟨k, acc, hk, rfl, rfl, hl1, hrr, hjj, hacc, hrow, hbr⟩ := hrel
      obtain ⟨wo, rfl⟩ : ∃ wo, wo = wr := ⟨_, rfl⟩
      obtain ⟨p, cap2, hv⟩ : ∃ p cap, u5 = .slice p acc.length cap := lown_shape hrow
      subst hv
      obtain ⟨A, hAd⟩ : ∃ A, acc.length = A := ⟨_, rfl⟩
      have hrow' : wo.ownsRow w1.heap.size 5 1 (.slice p A cap2) A (Lib.byteCells acc) := by rw [← hAd]; exact hrow
      rw [hAd] at hacc hrow ⊢
      have HA := Lib.hid hAd
      clear hAd
      by_cases hkl : k < l.length
      · obtain ⟨a, rfl, c0, c1, c2, hab⟩ := hT1.reads hbr (Nat.le_refl _) k hkl
        have htl := ht l[k] (List.getElem_mem hkl)
        have hin := hT1.ints l[k] (List.getElem_mem hkl)
        have hls := line_succ hkl
        have hst := refL_drop (i := k) (line := lineR l k) (acc := acc) hkl
        have hrl := right_lo (by rw [← List.drop_eq_getElem_cons hkl]; exact hrr)
        generalize l[k] = x at c0 c1 c2 hin htl hls hst hrl
        obtain ⟨xk, xn, xt⟩ := x
        simp only at c0 c1 c2 hin htl hls hst hrl
        obtain ⟨L, hLd⟩ : ∃ L, lineR l k = L := ⟨_, rfl⟩
        rw [hLd] at hst hjj hrl hl1 ⊢
        obtain ⟨hrl1, hrl2⟩ := hrl
        have HLS := Lib.hid hls
        have HST := Lib.hid hst
        have HJJ := Lib.hid hjj
        have HRL := Lib.hid hrl2
        clear hls hst hjj hrr hLd hrl2 hin
        by_cases h1 : 20001 < xn
        · have h1' : decide (20001 < xn) = true := by simpa using h1
          have HF : Hid (joinP l = ([], 2)) := Lib.hid (by rw [HJ.out, HJJ.out, HST.out, if_pos (.inl h1)])
          clear h1
          go_wp2_with fail
          go_ret2
          exact Ret.mk (by rw [HF.out]; rfl) (hb.trans ((belB hbr _).mono hb.size))
        have h1' : decide (20001 < xn) = false := by simpa using h1
        by_cases h2 : 20000 < A
        · have h2' : decide (20000 < (A : Int)) = true := by simp; omega
          have HF : Hid (joinP l = ([], 2)) := Lib.hid (by rw [HJ.out, HJJ.out, HST.out, if_pos (.inr (by rw [HA.out]; exact h2))])
          clear h2
          go_wp2_with fail
          go_ret2
          exact Ret.mk (by rw [HF.out]; rfl) (hb.trans ((belB hbr _).mono hb.size))
        have h2' : decide (20000 < (A : Int)) = false := by simp; omega
        have hA2 : A ≤ 20000 := by omega
        have hxn : xn ≤ 20001 := by omega
        have HST2 : Hid (refL k L acc (l.drop k) = refL (k + 1) xn (acc ++ (if 0 < k ∧ xn = L then [32] else List.replicate (xn - L).toNat 10) ++ xt) (l.drop (k + 1))) := Lib.hid (by rw [HST.out, if_neg (by rw [HA.out]; omega)])
        clear HST h1 h2
        have hXz := bsz xt
        obtain ⟨XB, hXB⟩ : ∃ XB, (⟨xt.toArray⟩ : ByteArray) = XB := ⟨_, rfl⟩
        rw [hXB] at c2 hXz
        have hxs : Lib.strCells XB = Lib.byteCells xt := by rw [← hXB]; rfl
        have HXS := Lib.hid hxs
        have hXl : XB.size ≤ 400000 := by omega
        have HXZ := Lib.hid hXz
        clear hXB hxs hXz
        have hh0 := World.alloc_heap_new wo (.cells #[.int .i64 xk, .int .i64 xn, .string XB] 36)
        by_cases hbl : 0 < k ∧ xn = L
        · obtain ⟨hk0, rfl⟩ := hbl
          have hk0' : decide (0 < k) = true := by simpa using hk0
          have HG : Hid (refL k xn acc (l.drop k) = refL (k + 1) xn (acc ++ [32] ++ List.replicate 0 10 ++ xt) (l.drop (k + 1))) := Lib.hid (by rw [HST2.out, if_pos ⟨hk0, rfl⟩]; simp)
          clear HST2
          go_wp2_with (at_builtin; refine wpList_append_own _ rfl _ _ 44 rfl w1.heap.size 5 i0 (.int .u8 0) 1 1 Tryd.underlying44 hi hz0 hz1 hzz rfl (by decide) _ _ _ rfl ((hrow'.alloc _).alloc _) ⟨wo.heap.size + 1, 0, none⟩ 1 1 [.int .u8 32] rfl rfl (by intro j u hj; match j, hj with | 0, hj => (simp at hj; subst hj; simp [Addr.add])) (by intro u hu; simp at hu; rcases hu with rfl; rfl) (by unfold maxLen; omega) (by omega) (by have := hbr.size; simp; omega) ?_; intro v3 w3 hown3 hgrow3 _; obtain ⟨p3, cap3, rfl⟩ := lown_shape hown3; have hh3 := grown_tok (blk_alloc hh0 _) hgrow3 ((hrow'.alloc _).alloc _); obtain ⟨d0, d1, d2, dz⟩ := blk3 hh3)
          have hrow3 : RB w3 w1.heap.size (.slice p3 (A + 1) cap3) (acc ++ [32]) := rb_next hown3 (by rw [HA.out]; rfl) rfl
          have hb3 : Below w1.heap.size w1 w3 := (belB (belB hbr _) _).grown hgrow3 (by have := hbr.size; simp; omega) (fun q hq => (lown_row hrow' q hq).1)
          have hA3 : (acc ++ [32]).length = A + 1 := by rw [List.length_append, HA.out]; rfl
          have HA3 := Lib.hid hA3
          clear hA3 hown3 hgrow3
          obtain ⟨J, hJ⟩ : ∃ J : Nat, J = 0 := ⟨_, rfl⟩
          have hJ1 : xn ≤ xn + (J : Int) := by omega
          have hJ2 : xn + (J : Int) ≤ xn := by omega
          have HG2 : Hid (refL k xn acc (l.drop k) = refL (k + 1) xn (acc ++ [32] ++ List.replicate J 10 ++ xt) (l.drop (k + 1))) := Lib.hid (by rw [HG.out, hJ])
          have hJL : J ≤ 20001 := by omega
          obtain ⟨acc3, hac3⟩ : ∃ acc3, acc3 = acc ++ [32] := ⟨_, rfl⟩
          rw [← hac3] at hrow3 HA3 HG2
          clear HG hac3 hJ
          go_loopw [5, 6] (fun v line wr => ∃ (j : Nat), j ≤ J ∧ line = .int .i64 (xn + (j : Int)) ∧ RB wr w1.heap.size v (acc3 ++ List.replicate j 10) ∧ wr.heap[wo.heap.size]? = some (.cells #[.int .i64 xk, .int .i64 xn, .string XB] 36 (0, 0)) ∧ Below w1.heap.size w1 wr) (fun _ line _ => (xn - intOf line).toNat)
          case atStart => exact ⟨0, Nat.zero_le _, by simp, by simpa using hrow3, hh3, hb3⟩
          case round =>
            obtain ⟨j, hj, rfl, hrq, hhq, hbq⟩ := hrel
            obtain ⟨p4, cap4, hv4⟩ : ∃ p cap, u5 = .slice p (acc3 ++ List.replicate j 10).length cap := lown_shape hrq
            subst hv4
            have hlen : (acc3 ++ List.replicate j 10).length = (A + 1) + j := by rw [List.length_append, HA3.out, List.length_replicate]
            have HLN := Lib.hid hlen
            have hrq' : wr.ownsRow w1.heap.size 5 1 (.slice p4 ((A + 1) + j) cap4) ((A + 1) + j) (Lib.byteCells (acc3 ++ List.replicate j 10)) := by rw [← hlen]; exact hrq
            rw [hlen] at hrq ⊢
            clear hlen d0 d1 d2 dz hrow3 hh3 hb3
            obtain ⟨d0, d1, d2, dz⟩ := blk3 hhq
            have hbqz := hbq.size
            by_cases hjl : j < J
            · exact absurd hjl (by omega)
            · obtain rfl : j = J := by omega
              have hlt : decide (xn + (j : Int) < xn) = false := by rw [decide_eq_false_iff_not]; omega
              go_wp2_with (at_builtin; refine Lib.wpList_append_own_string _ rfl _ _ 44 9 rfl w1.heap.size 5 i0 Tryd.underlying44 Tryd.underlying9 hi hz0 hz1 hzz _ _ _ rfl hrq' XB rfl (by unfold maxLen; omega) (by omega) (by omega) ?_; intro v6 w6 hown6 hgrow6 _)
              go_roundw
              case rel =>
                have hrow6 : RB w6 w1.heap.size v6 (acc3 ++ List.replicate j 10 ++ xt) := rb_next hown6 (by rw [HLN.out, HXZ.out]) HXS.out
                have hacc6 : (acc3 ++ List.replicate j 10 ++ xt).length ≤ 500000 := by rw [List.length_append, HLN.out]; omega
                first
                | exact ⟨k + 1, acc3 ++ List.replicate j 10 ++ xt, by omega, by go_num, by rw [HLS.out]; congr 1; omega, by rw [HLS.out]; omega, by rw [HLS.out]; exact HRL.out, by rw [HJJ.out, HG2.out, HLS.out], hacc6, hrow6, hbq.grown hgrow6 (by omega) (fun q hq => (lown_row hrq' q hq).1)⟩
                | ((repeat apply Exists.intro); exact ⟨⟨k + 1, acc3 ++ List.replicate j 10 ++ xt, by omega, by go_num, by rw [HLS.out]; congr 1; omega, by rw [HLS.out]; omega, by rw [HLS.out]; exact HRL.out, by rw [HJJ.out, HG2.out, HLS.out], hacc6, hrow6, hbq.grown hgrow6 (by omega) (fun q hq => (lown_row hrq' q hq).1)⟩, rfl⟩)
              case measure => simp [intOf]; omega
        · have HG : Hid (refL k L acc (l.drop k) = refL (k + 1) xn (acc ++ List.replicate (xn - L).toNat 10 ++ xt) (l.drop (k + 1))) := Lib.hid (by rw [HST2.out, if_neg hbl])
          have hor : (k = 0) ∨ (0 < k ∧ xn ≠ L) := by
            by_cases h : 0 < k
            · exact .inr ⟨h, fun e => hbl ⟨h, e⟩⟩
            · exact .inl (by omega)
          clear HST2 hbl
          obtain ⟨w3, hw3⟩ : ∃ w3, wo.alloc (.cells #[.int .i64 xk, .int .i64 xn, .string XB] 36) = w3 := ⟨_, rfl⟩
          have hh3 := hh0
          rw [hw3] at hh3
          have hrow3 : RB w3 w1.heap.size (.slice p A cap2) acc := by rw [← hw3]; exact hrow.alloc _
          have hb3 : Below w1.heap.size w1 w3 := by rw [← hw3]; exact belB hbr _
          obtain ⟨d0, d1, d2, dz⟩ := blk3 hh3
          obtain ⟨J, hJ⟩ : ∃ J : Nat, J = (xn - L).toNat := ⟨_, rfl⟩
          have hJ1 : xn ≤ L + (J : Int) := by omega
          have hJ2 : L + (J : Int) ≤ xn := by omega
          have HG2 : Hid (refL k L acc (l.drop k) = refL (k + 1) xn (acc ++ List.replicate J 10 ++ xt) (l.drop (k + 1))) := Lib.hid (by rw [HG.out, hJ])
          have hJL : J ≤ 20001 := by omega
          have hA3l : A ≤ 20001 := by omega
          have HA3 := HA
          clear HG hJ hh0
          rcases hor with hor | ⟨hk0, hne⟩
          · have hk0' : decide (0 < k) = false := by simp; omega
            clear hor
            go_wp2_with fail
            go_loopw [5, 6] (fun v line wr => ∃ (j : Nat), j ≤ J ∧ line = .int .i64 (L + (j : Int)) ∧ RB wr w1.heap.size v (acc ++ List.replicate j 10) ∧ wr.heap[wo.heap.size]? = some (.cells #[.int .i64 xk, .int .i64 xn, .string XB] 36 (0, 0)) ∧ Below w1.heap.size w1 wr) (fun _ line _ => (xn - intOf line).toNat)
            case atStart => exact ⟨0, Nat.zero_le _, by simp, by simpa using hrow3, hh3, hb3⟩
            case round =>
              obtain ⟨j, hj, rfl, hrq, hhq, hbq⟩ := hrel
              obtain ⟨p4, cap4, hv4⟩ : ∃ p cap, u5 = .slice p (acc ++ List.replicate j 10).length cap := lown_shape hrq
              subst hv4
              have hlen : (acc ++ List.replicate j 10).length = A + j := by rw [List.length_append, HA3.out, List.length_replicate]
              have HLN := Lib.hid hlen
              have hrq' : wr.ownsRow w1.heap.size 5 1 (.slice p4 (A + j) cap4) (A + j) (Lib.byteCells (acc ++ List.replicate j 10)) := by rw [← hlen]; exact hrq
              rw [hlen] at hrq ⊢
              clear hlen d0 d1 d2 dz hrow3 hh3 hb3
              obtain ⟨d0, d1, d2, dz⟩ := blk3 hhq
              have hbqz := hbq.size
              by_cases hjl : j < J
              · have hlt : decide (L + (j : Int) < xn) = true := by rw [decide_eq_true_eq]; omega
                go_wp2_with (at_builtin; refine wpList_append_own _ rfl _ _ 44 rfl w1.heap.size 5 i0 (.int .u8 0) 1 1 Tryd.underlying44 hi hz0 hz1 hzz rfl (by decide) _ _ _ rfl (hrq'.alloc _) ⟨wr.heap.size, 0, none⟩ 1 1 [.int .u8 10] rfl rfl (by intro j u hj; match j, hj with | 0, hj => (simp at hj; subst hj; simp [Addr.add])) (by intro u hu; simp at hu; rcases hu with rfl; rfl) (by unfold maxLen; omega) (by omega) (by simp; omega) ?_; intro v5 w5 hown5 hgrow5 _)
                go_roundw
                case rel =>
                  refine ⟨j + 1, by omega, by congr 1; push_cast; omega, ?_, grown_tok (blk_alloc hhq _) hgrow5 (hrq'.alloc _), (belB hbq _).grown hgrow5 (by simp; omega) (fun q hq => (lown_row hrq' q hq).1)⟩
                  rw [← rep_one]
                  exact rb_next hown5 (by rw [HLN.out]; rfl) rfl
                case measure => simp [intOf]; omega
              · obtain rfl : j = J := by omega
                have hlt : decide (L + (j : Int) < xn) = false := by rw [decide_eq_false_iff_not]; omega
                go_wp2_with (at_builtin; refine Lib.wpList_append_own_string _ rfl _ _ 44 9 rfl w1.heap.size 5 i0 Tryd.underlying44 Tryd.underlying9 hi hz0 hz1 hzz _ _ _ rfl hrq' XB rfl (by unfold maxLen; omega) (by omega) (by omega) ?_; intro v6 w6 hown6 hgrow6 _)
                go_roundw
                case rel =>
                  have hrow6 : RB w6 w1.heap.size v6 (acc ++ List.replicate j 10 ++ xt) := rb_next hown6 (by rw [HLN.out, HXZ.out]) HXS.out
                  have hacc6 : (acc ++ List.replicate j 10 ++ xt).length ≤ 500000 := by rw [List.length_append, HLN.out]; omega
                  first
                  | exact ⟨k + 1, acc ++ List.replicate j 10 ++ xt, by omega, by go_num, by rw [HLS.out]; congr 1; omega, by rw [HLS.out]; omega, by rw [HLS.out]; exact HRL.out, by rw [HJJ.out, HG2.out, HLS.out], hacc6, hrow6, hbq.grown hgrow6 (by omega) (fun q hq => (lown_row hrq' q hq).1)⟩
                  | ((repeat apply Exists.intro); exact ⟨⟨k + 1, acc ++ List.replicate j 10 ++ xt, by omega, by go_num, by rw [HLS.out]; congr 1; omega, by rw [HLS.out]; omega, by rw [HLS.out]; exact HRL.out, by rw [HJJ.out, HG2.out, HLS.out], hacc6, hrow6, hbq.grown hgrow6 (by omega) (fun q hq => (lown_row hrq' q hq).1)⟩, rfl⟩)
                case measure => simp [intOf]; omega
          · have hk0' : decide (0 < k) = true := by simpa using hk0
            have hne' : (xn == L) = false := by simpa using hne
            clear hne
            go_wp2_with fail
            go_loopw [5, 6] (fun v line wr => ∃ (j : Nat), j ≤ J ∧ line = .int .i64 (L + (j : Int)) ∧ RB wr w1.heap.size v (acc ++ List.replicate j 10) ∧ wr.heap[wo.heap.size]? = some (.cells #[.int .i64 xk, .int .i64 xn, .string XB] 36 (0, 0)) ∧ Below w1.heap.size w1 wr) (fun _ line _ => (xn - intOf line).toNat)
            case atStart => exact ⟨0, Nat.zero_le _, by simp, by simpa using hrow3, hh3, hb3⟩
            case round =>
              obtain ⟨j, hj, rfl, hrq, hhq, hbq⟩ := hrel
              obtain ⟨p4, cap4, hv4⟩ : ∃ p cap, u5 = .slice p (acc ++ List.replicate j 10).length cap := lown_shape hrq
              subst hv4
              have hlen : (acc ++ List.replicate j 10).length = A + j := by rw [List.length_append, HA3.out, List.length_replicate]
              have HLN := Lib.hid hlen
              have hrq' : wr.ownsRow w1.heap.size 5 1 (.slice p4 (A + j) cap4) (A + j) (Lib.byteCells (acc ++ List.replicate j 10)) := by rw [← hlen]; exact hrq
              rw [hlen] at hrq ⊢
              clear hlen d0 d1 d2 dz hrow3 hh3 hb3
              obtain ⟨d0, d1, d2, dz⟩ := blk3 hhq
              have hbqz := hbq.size
              by_cases hjl : j < J
              · have hlt : decide (L + (j : Int) < xn) = true := by rw [decide_eq_true_eq]; omega
                go_wp2_with (at_builtin; refine wpList_append_own _ rfl _ _ 44 rfl w1.heap.size 5 i0 (.int .u8 0) 1 1 Tryd.underlying44 hi hz0 hz1 hzz rfl (by decide) _ _ _ rfl (hrq'.alloc _) ⟨wr.heap.size, 0, none⟩ 1 1 [.int .u8 10] rfl rfl (by intro j u hj; match j, hj with | 0, hj => (simp at hj; subst hj; simp [Addr.add])) (by intro u hu; simp at hu; rcases hu with rfl; rfl) (by unfold maxLen; omega) (by omega) (by simp; omega) ?_; intro v5 w5 hown5 hgrow5 _)
                go_roundw
                case rel =>
                  refine ⟨j + 1, by omega, by congr 1; push_cast; omega, ?_, grown_tok (blk_alloc hhq _) hgrow5 (hrq'.alloc _), (belB hbq _).grown hgrow5 (by simp; omega) (fun q hq => (lown_row hrq' q hq).1)⟩
                  rw [← rep_one]
                  exact rb_next hown5 (by rw [HLN.out]; rfl) rfl
                case measure => simp [intOf]; omega
              · obtain rfl : j = J := by omega
                have hlt : decide (L + (j : Int) < xn) = false := by rw [decide_eq_false_iff_not]; omega
                go_wp2_with (at_builtin; refine Lib.wpList_append_own_string _ rfl _ _ 44 9 rfl w1.heap.size 5 i0 Tryd.underlying44 Tryd.underlying9 hi hz0 hz1 hzz _ _ _ rfl hrq' XB rfl (by unfold maxLen; omega) (by omega) (by omega) ?_; intro v6 w6 hown6 hgrow6 _)
                go_roundw
                case rel =>
                  have hrow6 : RB w6 w1.heap.size v6 (acc ++ List.replicate j 10 ++ xt) := rb_next hown6 (by rw [HLN.out, HXZ.out]) HXS.out
                  have hacc6 : (acc ++ List.replicate j 10 ++ xt).length ≤ 500000 := by rw [List.length_append, HLN.out]; omega
                  first
                  | exact ⟨k + 1, acc ++ List.replicate j 10 ++ xt, by omega, by go_num, by rw [HLS.out]; congr 1; omega, by rw [HLS.out]; omega, by rw [HLS.out]; exact HRL.out, by rw [HJJ.out, HG2.out, HLS.out], hacc6, hrow6, hbq.grown hgrow6 (by omega) (fun q hq => (lown_row hrq' q hq).1)⟩
                  | ((repeat apply Exists.intro); exact ⟨⟨k + 1, acc ++ List.replicate j 10 ++ xt, by omega, by go_num, by rw [HLS.out]; congr 1; omega, by rw [HLS.out]; omega, by rw [HLS.out]; exact HRL.out, by rw [HJJ.out, HG2.out, HLS.out], hacc6, hrow6, hbq.grown hgrow6 (by omega) (fun q hq => (lown_row hrq' q hq).1)⟩, rfl⟩)
                case measure => simp [intOf]; omega
      · have hk2 : k = l.length := by omega
        have hlk : l.length ≤ k := by omega
        have HF0 : Hid (joinP l = if 20000 < A then ([], 2) else (acc, 0)) := Lib.hid (by rw [HJ.out, hjj, hk2, List.drop_of_length_le (Nat.le_refl _), refL, HA.out])
        have htx := run_text hrow
        clear hjj hrr hk2 hkl
        by_cases h2 : 20000 < A
        · have h2' : decide (20000 < (A : Int)) = true := by simp; omega
          have HF : Hid (joinP l = ([], 2)) := Lib.hid (by rw [HF0.out, if_pos h2])
          clear h2
          go_wp2_with fail
          go_ret2
          exact Ret.mk (by rw [HF.out]; rfl) (hb.trans (hbr.mono hb.size))
        · have h2' : decide (20000 < (A : Int)) = false := by simp; omega
          have HF : Hid (joinP l = (acc, 0)) := Lib.hid (by rw [HF0.out, if_neg h2])
          clear h2
          go_wp2_with fail
          go_ret2
          exact Ret.mk (by rw [HF.out]; rfl) (hb.trans (hbr.mono hb.size))
end Go.Proofs.YtfnclecfldddeaaDoor
