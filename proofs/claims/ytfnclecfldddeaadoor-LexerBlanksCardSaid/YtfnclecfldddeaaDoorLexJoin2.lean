/-
  The walk of Join.
-/
import Derived.Test.YtfnclecfldddeaaDoorLexJoin
import Derived.IntWalk
import Derived.Deep.RegionHeld3
namespace Go.Proofs.YtfnclecfldddeaaDoor
open Go.RowKit Go.Shelf
set_option maxRecDepth 100000

def joinL (i : Nat) (line : Int) (acc : List UInt8) : List RT → List UInt8 × Nat
  | [] => (acc, 0)
  | x :: r => if 20000 < acc.length + (gapT i (x.n - line)).length + x.t.length then ([], 2) else joinL (i + 1) x.n (acc ++ gapT i (x.n - line) ++ x.t) r
def joinP (l : List RT) : List UInt8 × Nat := if canF l = true then joinL 0 1 [] l else ([], 1)
theorem joinL_drop {i : Nat} {line : Int} {acc : List UInt8} {l : List RT} {k : Nat} (hk : k < l.length) : joinL i line acc (l.drop k) =
    if 20000 < acc.length + (gapT i ((l[k]).n - line)).length + (l[k]).t.length then ([], 2) else joinL (i + 1) (l[k]).n (acc ++ gapT i ((l[k]).n - line) ++ (l[k]).t) (l.drop (k + 1)) := by
  rw [List.drop_eq_getElem_cons hk]; rfl
theorem bld_below {B b : Nat} {l : List UInt8} {w w1 : World} (h : Bld B b l w) (hb : Below w.heap.size w w1) : Bld B b l w1 := by
  have key : ∀ p, Lib.BuilderAtF 46 5 B b p (Lib.byteCells l) w → Lib.BuilderAtF 46 5 B b p (Lib.byteCells l) w1 := by
    rintro p ⟨hB, v, hbk, ⟨h0, h1⟩, hne⟩
    refine ⟨hB, v, (hb.block _ (Array.getElem?_eq_some_iff.1 hbk).1).trans hbk, ⟨h0, ?_⟩, hne⟩
    rcases h1 with h1 | ⟨g, cap, cur, fz, hv, hg, hh, hr⟩
    · exact .inl h1
    · exact .inr ⟨g, cap, cur, fz, hv, hg, (hb.block _ (Array.getElem?_eq_some_iff.1 hh).1).trans hh, hr⟩
  rcases h with h | h
  · exact .inl (key _ h)
  · exact .inr (key _ h)
theorem bld_lt {B b : Nat} {l : List UInt8} {w : World} (h : Bld B b l w) : b < w.heap.size := by
  rcases h with ⟨_, v, hbk, _⟩ | ⟨_, v, hbk, _⟩ <;> exact (Array.getElem?_eq_some_iff.1 hbk).1
theorem gap_len (i : Nat) (n : Int) : (gapT i n).length ≤ 20000 := by
  unfold gapT; split <;> simp; omega
theorem right_lo {L : Int} {x : RT} {l : List RT} (h : rightR L (x :: l) = true) : L ≤ x.n ∧ rightR x.n l = true := by
  simp only [rightR, Bool.and_eq_true, decide_eq_true_eq] at h
  exact ⟨h.1.1.1, h.2⟩

set_option maxHeartbeats 4000000 in
theorem join_any (v : Value) (l : List RT) (w : World) (hT : Toks w v l) (ht : ∀ x ∈ l, x.t.length ≤ 400000) (hL : Lay w) : Calls Tryd.prog 13 #[v] w (Ret (.tuple #[.string ⟨(joinP l).1.toArray⟩, .int .i64 (joinP l).2]) w) := by
  obtain ⟨ad, cap, rfl⟩ := hT.open
  have hsh := hT.short
  have hcan := canJoin_any _ l w hT ht hL
  cases hc : canF l with
  | false =>
    have HJ : Hid (joinP l = ([], 1)) := Lib.hid (by unfold joinP; rw [if_neg (by rw [hc]; simp)])
    rw [hc] at hcan
    clear hc
    go_enter Tryd.func13, Tryd.ntmps13
    go_wp2_with fail
    refine hcan.mono ?_
    rintro e w1 ⟨rfl, hb⟩
    go_wp2_with fail
    go_ret2
    exact Ret.mk (by rw [HJ.out]; rfl) hb
  | true =>
    have HJ : Hid (joinP l = joinL 0 1 [] l) := Lib.hid (by unfold joinP; rw [if_pos hc])
    have hri : rightR 1 l = true := by unfold canF at hc; rw [Bool.and_eq_true] at hc; exact hc.2
    have hle : l.length ≤ 5000 := by unfold canF at hc; rw [Bool.and_eq_true] at hc; simpa using hc.1
    rw [hc] at hcan
    have HRI := Lib.hid hri
    clear hc hri
    go_enter Tryd.func13, Tryd.ntmps13
    go_wp2_with fail
    refine hcan.mono ?_
    rintro e w1 ⟨rfl, hb⟩
    have hT1 := hT.below hb
    have hL1 := hL.below hb
    clear hcan hT hL
    go_wp2_with fail
    have hbz := hb.size
    go_loopw [5, 14] (fun line i wr => ∃ (k : Nat) (acc : List UInt8), k ≤ l.length ∧ i = .int .i64 k ∧ line = .int .i64 (lineR l k) ∧ 1 ≤ lineR l k ∧ rightR (lineR l k) (l.drop k) = true ∧ joinL 0 1 [] l = joinL k (lineR l k) acc (l.drop k) ∧ acc.length ≤ 20000 ∧ Bld w1.heap.size w1.heap.size acc wr ∧ Below w1.heap.size w1 wr) (fun _ i _ => l.length - (intOf i).toNat)
    case atStart => exact ⟨0, [], Nat.zero_le _, rfl, rfl, by simp [lineR], HRI.out, rfl, by simp, Lib.IsBuilderF.of (Lib.fresh_isBuilder _ _ w1), belR _ _⟩
    case round =>
      obtain ⟨k, acc, hk, rfl, rfl, hl1, hrr, hjj, hacc, hbd, hbr⟩ := hrel
      by_cases hkl : k < l.length
      · obtain ⟨a, rfl, c0, c1, c2, hab⟩ := hT1.reads hbr (Nat.le_refl _) k hkl
        have hin := hT1.ints l[k] (List.getElem_mem hkl)
        have htl := ht l[k] (List.getElem_mem hkl)
        have hls := line_succ hkl
        have hst := joinL_drop (i := k) (line := lineR l k) (acc := acc) hkl
        have hrl := right_lo (by rw [← List.drop_eq_getElem_cons hkl]; exact hrr)
        generalize l[k] = x at c0 c1 c2 hin htl hls hst hrl
        obtain ⟨xk, xn, xt⟩ := x
        simp only at c0 c1 c2 hin htl hls hst hrl
        obtain ⟨L, hLd⟩ : ∃ L, lineR l k = L := ⟨_, rfl⟩
        rw [hLd] at hst hjj hrl hl1 ⊢
        obtain ⟨hrl1, hrl2⟩ := hrl
        have hi1 := hin.2.1.2
        have hg := between_any k (xn - L) (by omega) (by omega)
        have hgl := gap_len k (xn - L)
        obtain ⟨G, hG⟩ : ∃ G, gapT k (xn - L) = G := ⟨_, rfl⟩
        rw [hG] at hst hg hgl
        have hGz := bsz G
        have hXz := bsz xt
        obtain ⟨GB, hGB⟩ : ∃ GB, (⟨G.toArray⟩ : ByteArray) = GB := ⟨_, rfl⟩
        obtain ⟨XB, hXB⟩ : ∃ XB, (⟨xt.toArray⟩ : ByteArray) = XB := ⟨_, rfl⟩
        have HLS := Lib.hid hls
        have HST := Lib.hid hst
        have HJJ := Lib.hid hjj
        have HRL := Lib.hid hrl2
        have HGB := Lib.hid hGB
        have HXB := Lib.hid hXB
        rw [hGB] at hg hGz
        rw [hXB] at c2 hXz
        clear hls hst hjj hrr hLd hrl2 hG hGB hXB hin
        obtain ⟨A, hAd⟩ : ∃ A, acc.length = A := ⟨_, rfl⟩
        obtain ⟨g, hgd⟩ : ∃ g, G.length = g := ⟨_, rfl⟩
        obtain ⟨t, htd⟩ : ∃ t, xt.length = t := ⟨_, rfl⟩
        rw [hAd] at hacc
        rw [hgd] at hgl hGz
        rw [htd] at htl hXz
        have HA := Lib.hid hAd
        have Hg := Lib.hid hgd
        have Ht := Lib.hid htd
        clear hAd hgd htd
        go_wp2_with fail
        refine (hg _).mono ?_
        rintro e w2 ⟨rfl, hx2⟩
        have ho := (Own.new wr #[.int .i64 xk, .int .i64 xn, .string XB] 36).below hx2
        have hh7 := (hx2.block wr.heap.size (by simp)).trans (World.alloc_heap_new wr _)
        replace hx2 : Below wr.heap.size wr w2 := (belR wr _).trans (hx2.mono (by simp))
        have hbd2 := bld_below hbd hx2
        have hbr2 : Below w1.heap.size w1 w2 := hbr.trans (hx2.mono hbr.size)
        have hblt := bld_lt hbd
        clear hg hx2 hbd
        obtain ⟨d0, d1, d2, f0, f1, f2, dz⟩ := ho.three
        have hk2 : ∀ w', Below w2.heap.size w2 w' → Below w2.heap.size w2 w' ∧ w'.cell? ⟨wr.heap.size, 2, none⟩ = some (.string XB) := fun w' h => ⟨h, (h.cell (p := ⟨wr.heap.size, 2, none⟩) dz).trans d2⟩
        have hLen : ∀ w', Below w2.heap.size w2 w' → Calls Tryd.prog 23 #[.pointer (some ⟨w1.heap.size, 0, none⟩)] w' (Same (.int .i64 A) w') := fun w' h => by
          have := blen_any _ _ acc w' (bld_below hbd2 h)
          rw [HA.out] at this; exact this
        have hw1 : IntKind.i64.wrap ((A : Int) + (g : Int)) = (A : Int) + (g : Int) := IntWalk.i64_in _ (by omega)
        have hw2 : IntKind.i64.wrap ((A : Int) + (g : Int) + (t : Int)) = (A : Int) + (g : Int) + (t : Int) := IntWalk.i64_in _ (by omega)
        by_cases hov : 20000 < A + g + t
        · have hov' : decide (20000 < (A : Int) + (g : Int) + (t : Int)) = true := by simp; omega
          have HR2 : Hid (joinP l = ([], 2)) := Lib.hid (by rw [HJ.out, HJJ.out, HST.out, HA.out, Hg.out, Ht.out, if_pos hov])
          clear hov
          go_wp2_with fail
          go_region_held3 (fun w' => Below w2.heap.size w2 w' ∧ w'.cell? ⟨wr.heap.size, 2, none⟩ = some (.string XB)) (exact hk2 _ (by first | exact Below.refl _ _ | assumption | exact Below.drew (by assumption) | exact Below.drew (Below.refl _ _)))
            (first | (go_at_call 23; refine (hLen _ (And.left (by assumption))).mono ?_; rintro e wA ⟨rfl, rfl⟩))
          go_wp2_with fail
          go_ret2
          exact Ret.mk (by rw [HR2.out]; rfl) (hb.trans ((hbr2.mono hb.size).drew))
        · have hov' : decide (20000 < (A : Int) + (g : Int) + (t : Int)) = false := by simp; omega
          have hAgt : A + g + t ≤ 20000 := by omega
          have HR2 : Hid (joinL 0 1 [] l = joinL (k + 1) xn (acc ++ G ++ xt) (l.drop (k + 1))) := Lib.hid (by rw [HJJ.out, HST.out, HA.out, Hg.out, Ht.out, if_neg hov])
          clear hov
          go_wp2_with fail
          go_region_held3 (fun w' => Below w2.heap.size w2 w' ∧ w'.cell? ⟨wr.heap.size, 2, none⟩ = some (.string XB)) (exact hk2 _ (by first | exact Below.refl _ _ | assumption | exact Below.drew (by assumption) | exact Below.drew (Below.refl _ _)))
            (first | (go_at_call 23; refine (hLen _ (And.left (by assumption))).mono ?_; rintro e wA ⟨rfl, rfl⟩))
          have hbd3 : Bld w1.heap.size w1.heap.size acc w2.drew := bld_below hbd2 (Below.refl _ _).drew
          have hbr3 : Below w1.heap.size w1 w2.drew := hbr2.drew
          have hh3 : w2.drew.heap[wr.heap.size]? = some (.cells #[.int .i64 xk, .int .i64 xn, .string XB] 36 (0, 0)) := hh7
          generalize w2.drew = w3 at *
          have hA2 : acc.length ≤ 20000 := by rw [HA.out]; omega
          have hG2 : G.length ≤ 20000 := by rw [Hg.out]; omega
          have hX2 : xt.length ≤ 20000 := by rw [Ht.out]; omega
          have hAG : (acc ++ G).length ≤ 40000 := by rw [List.length_append]; omega
          have hAGX : (acc ++ G ++ xt).length ≤ 20000 := by rw [List.length_append, List.length_append, HA.out, Hg.out, Ht.out]; omega
          have hwr1 := bwrite_any w1.heap.size w1.heap.size acc G w3 hbd3 (by omega) (by omega) hbr3.size
          rw [HGB.out] at hwr1
          clear hk2 hLen hbd2 hbr2 hh7 d0 d1 d2 f0 f1 f2 dz hbd3 ho
          go_wp2_with fail
          refine hwr1.mono ?_
          rintro e w4 ⟨rfl, hbd4, hx4, hk4⟩
          have hh4 := hk4 _ _ hh3 (by intro e; have := Option.some.inj e; omega) (fun c fz e => by cases e)
          obtain ⟨d0, d1, d2, dz⟩ := blk3 hh4
          have hbr4 := hbr3.trans hx4
          have hwr2 := bwrite_any w1.heap.size w1.heap.size (acc ++ G) xt w4 hbd4 (by omega) (by omega) hbr4.size
          rw [HXB.out] at hwr2
          clear hwr1 hbr3 hx4 hk4 hh3 hbd4
          go_wp2_with fail
          refine hwr2.mono ?_
          rintro e w5 ⟨rfl, hbd5, hx5, hk5⟩
          have hh5 := hk5 _ _ hh4 (by intro e; have := Option.some.inj e; omega) (fun c fz e => by cases e)
          have hbr5 := hbr4.trans hx5
          clear d0 d1 d2 dz
          obtain ⟨d0, d1, d2, dz⟩ := blk3 hh5
          clear hwr2 hbr4 hx5 hk5 hh4
          go_wp2_with fail
          go_roundw
          case rel => exact ⟨k + 1, acc ++ G ++ xt, by omega, by go_num, by rw [HLS.out], by rw [HLS.out]; omega, by rw [HLS.out]; exact HRL.out, by rw [HR2.out, HLS.out], hAGX, hbd5, hbr5⟩
          case measure => simp [intOf]; omega
      · have hk2 : k = l.length := by omega
        subst hk2
        have HR2 : Hid (joinP l = (acc, 0)) := Lib.hid (by rw [HJ.out, hjj, List.drop_of_length_le (Nat.le_refl _)]; rfl)
        have hstr := bstring_any _ _ _ _ hbd hbr.size
        clear hjj hrr
        go_wp2_with fail
        refine hstr.mono ?_
        rintro e w2 ⟨rfl, _, hx, _⟩
        go_wp2_with fail
        go_ret2
        exact Ret.mk (by rw [HR2.out]; rfl) ((hb.trans (hbr.mono hb.size)).trans (hx.mono hb.size))
end Go.Proofs.YtfnclecfldddeaaDoor
