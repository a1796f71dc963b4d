/-
  A region that draws its order: its head reads and calls functions that leave a world of a class, its tail (allocations, stores) comes in one forced order behind all of the head. One walk of the text serves every order.
  The words for the head and the tail are the library's own (StillTail); the class of worlds is Quiet's.
-/
import Derived.Test.YtlkefcbkpohpgaaGreatDoorQa
import Derived.StillTail
import Derived.Test.YtlkefcbkpohpgaaGreatDoorQpe
import Derived.Test.YtlkefcbkpohpgaaGreatDoorQh
namespace Go.Proofs.YtlkefcbkpohpgaaGreatDoor
open Go.RowKit

section
variable {P : Program} {ops : Array Oper} {md : Region.Mode} {C : World → Prop}

/-- The first n operations, in whatever order; then L. -/
def headQ (P : Program) (md : Region.Mode) (ops : Array Oper) (C : World → Prop) (n : Nat) (L : Array Bool → Act → Prop) : Nat → Array Bool → Act → Prop
  | 0, done, a => L done a
  | f + 1, done, a => Region.ready md ops done ≠ [] ∧ ∀ i ∈ Region.ready md ops done, i < n ∧ qOp P ops C i (headQ P md ops C n L f (done.setIfInBounds i true)) a

theorem headQ_any {n g : Nat} {L : Array Bool → Act → Prop} {Q' : Exit → Act → World → Prop} (hL : ∀ done a w, C w → L done a → wpAny P md ops Q' g done a w) (f : Nat) :
    ∀ (done : Array Bool) (a : Act) (w : World), C w → headQ P md ops C n L f done a → wpAny P md ops Q' (f + g) done a w := by
  induction f with
  | zero => intro done a w hw h; rw [Nat.zero_add]; exact hL _ _ _ hw h
  | succ f ih =>
    intro done a w hw h
    rw [Nat.succ_add_eq_add_succ, Nat.add_succ]
    exact ⟨fun h0 => absurd h0 h.1, fun i hi => wpOp_of_qOp hw (fun a' w' hw' h' => ih _ a' w' hw' h') (h.2 i hi).2⟩

theorem headQ_take {n i : Nat} {oi : Oper} {v : Value} {L : Array Bool → Act → Prop} (hi : ops[i]? = some oi) (hsel : ∀ (j : Nat) (o : Oper) cs b, ops[j]? = some o → o.op ≠ .select cs b)
    (hs : Region.sinkB md ops n = true) (hc : Region.chainB md ops n = true) (hn : n < ops.size) (hin : i < n) (hdone : ∀ done a, L done a → ∀ j ∈ Region.ready md ops done, n ≤ j) (f : Nat) :
    ∀ (done : Array Bool) (a : Act), HeadInv md ops n done →
      (∀ j oj, ops[j]? = some oj → j ≠ i → done.getD j true = false → (∀ e ∈ oj.after, Region.binds md e = true → e.on ≠ i) → oi.apart ops oj = true) →
      i ∈ Region.ready md ops done → YieldsIn P ops C oi v a →
      headQ P md ops C n L f (done.setIfInBounds i true) (a.put oi.dst v) → headQ P md ops C n L (f + 1) done a := by
  induction f with
  | zero =>
    intro done a inv _ hr hy H
    refine ⟨fun h => (by rw [h] at hr; cases hr), fun j hj => ?_⟩
    have hjn : j < n := Nat.lt_of_not_le fun h => tail_waits hs hc hn inv _ i rfl hin (mem_ready.1 hr).1 j h hj
    by_cases hji : j = i
    · subst hji; exact ⟨hjn, hy.qOp hi H⟩
    · have := hdone _ _ H j (ready_mono hj hji); omega
  | succ f ih =>
    intro done a inv hfree hr hy H
    have hun := (mem_ready.1 hr).1
    refine ⟨fun h => (by rw [h] at hr; cases hr), fun j hj => ?_⟩
    have hjn : j < n := Nat.lt_of_not_le fun h => tail_waits hs hc hn inv _ i rfl hin hun j h hj
    refine ⟨hjn, ?_⟩
    by_cases hji : j = i
    · subst hji; exact hy.qOp hi H
    · obtain ⟨hjun, oj, hoj, hall⟩ := mem_ready.1 hj
      have hnot : ∀ e ∈ oj.after, Region.binds md e = true → e.on ≠ i := fun e he hb heq => by
        have h1 := hall e he hb
        rw [heq, getD_both hun] at h1
        cases h1
      have h2 := qOp_put hoj (hfree j oj hoj hji hjun hnot) (fun cs b => hsel i oi cs b hi) (fun cs b => hsel j oj cs b hoj) hy (H.2 j (ready_mono hj hji)).2
      have hfree' : ∀ k ok, ops[k]? = some ok → k ≠ i → (done.setIfInBounds j true).getD k true = false → (∀ e ∈ ok.after, Region.binds md e = true → e.on ≠ i) → oi.apart ops ok = true := fun k ok hk hki hu hno => by
        refine hfree k ok hk hki ?_ hno
        by_cases hjk : j = k
        · subst hjk; exact hjun
        · rw [getD_set_ne true hjk] at hu; exact hu
      refine qOp_mono (fun a' h3 => ih (done.setIfInBounds j true) a' (inv.set hj hjn) hfree' (ready_mono hr (Ne.symm hji)) h3.1 ?_) h2
      rw [Array.setIfInBounds_comm _ _ hji]
      exact h3.2

theorem headQ_text {n g : Nat} {Lq : Act → Prop} (hsel : Region.noSelect ops = true) (hs : Region.sinkB md ops n = true) (hc : Region.chainB md ops n = true) (hn : n < ops.size) (l : List Oper) :
    ∀ (k : Nat) (done : Array Bool) (a : Act), (∀ j, j < l.length → l[j]? = ops[k + j]?) → k + l.length = n → HeadInv md ops n done →
    Region.lexHead md ops g l.length k done = true → wpQuiet P ops C Lq l a → headQ P md ops C n (fun d a' => Region.seqB md ops g n d = true ∧ Lq a') l.length done a := by
  induction l with
  | nil =>
    intro k done a _ hk _ hB h
    obtain rfl : k = n := by simpa using hk
    exact ⟨by simpa [Region.lexHead] using hB, h⟩
  | cons o l ih =>
    intro k done a hl hk inv hB h
    have h0 : ops[k]? = some o := by simpa using (hl 0 (by simp)).symm
    simp only [List.length_cons, Region.lexHead, Bool.and_eq_true] at hB hk
    obtain ⟨⟨hr, hf⟩, hB'⟩ := hB
    have hr' : k ∈ Region.ready md ops done := by simpa using hr
    have hst : qOp P ops C k (wpQuiet P ops C Lq l) a := by unfold qOp; simp only [h0]; exact h
    obtain ⟨v, hy, hK⟩ := yieldsIn_of_qOp h0 hst
    exact headQ_take h0 (Region.noSelect_spec hsel) hs hc hn (by omega) (fun d a' hL => seqB_ready hL.1) l.length done a inv (Region.free_spec h0 hf) hr' hy
      (ih (k + 1) _ _ (fun j hj => by have := hl (j + 1) (by simp; omega); simpa [Nat.add_assoc, Nat.add_comm 1 j] using this) (by omega) (inv.set hr' (by omega)) hB' hK)

/-- The whole region: a head of n operations, walked once, then the tail in the order of the text, from every world of the class. -/
theorem wp_region_head {id : Nat} {Q : Exit → Act → World → Prop} {a : Act} {w : World} {l : List Oper} (n : Nat) (hm : P.follows .mixedOrders = true) (hB : Region.lexTailB .any l.toArray n = true) (hC : C { w with drawn := w.drawn + 1 })
    (h : wpQuiet P l.toArray C (fun a' => ∀ w', C w' → wpList P l.toArray Q (l.drop n) a' w') (l.take n) a) : (Code.region id l.toArray true).wp P Q a w := by
  simp only [Region.lexTailB, Bool.and_eq_true, decide_eq_true_eq] at hB
  obtain ⟨⟨⟨⟨hsel, hn⟩, hs⟩, hc⟩, hlex⟩ := hB
  have hn' : n < l.length := by simpa using hn
  have htl : (l.take n).length = n := by simp; omega
  have hdl : (l.drop n).length = l.toArray.size - n := by simp
  have inv0 : HeadInv .any l.toArray n (Array.replicate l.toArray.size false) :=
    ⟨by simp, fun j oj _ hl => (by rw [getD_replicate_false] at hl; cases hl), fun t _ ht => getD_in (by simpa using ht) (getD_replicate_false _ _)⟩
  have H := headQ_text (md := .any) (g := l.toArray.size - n) hsel hs hc hn (l.take n) 0 _ a (fun j hj => by rw [htl] at hj; simp [hj]) (by simpa using htl) inv0 (by rw [htl]; exact hlex) h
  refine wp_region_any hm ?_
  have h2 := headQ_any (Q' := Q) (g := l.toArray.size - n) (fun d a' w' hw' hL => by
    have h3 := wpAny_of_seq (md := .any) (Q' := Q) (l.drop n) n d a' w' (fun j => by simp [List.getElem?_drop]) (by rw [hdl]; exact hL.1) (hL.2 w' hw')
    rwa [hdl] at h3) _ _ _ _ hC H
  rw [htl, show n + (l.toArray.size - n) = l.toArray.size by omega] at h2
  exact h2

/-- The same at the class of worlds that have grown. -/
theorem wp_region_uptail {id : Nat} {Q : Exit → Act → World → Prop} {a : Act} {w : World} {l : List Oper} (n : Nat) (hm : P.follows .mixedOrders = true) (hB : Region.lexTailB .any l.toArray n = true)
    (h : wpQuiet P l.toArray (fun w' => ∃ g : Grow w, w' = up w g) (fun a' => ∀ w', (∃ g : Grow w, w' = up w g) → wpList P l.toArray Q (l.drop n) a' w') (l.take n) a) : (Code.region id l.toArray true).wp P Q a w :=
  wp_region_head n hm hB (up_of (Below.refl _ _).drew) h
end
end Go.Proofs.YtlkefcbkpohpgaaGreatDoor
namespace Go.Proofs.YtlkefcbkpohpgaaGreatDoor
open Go.RowKit Go.Shelf
set_option maxRecDepth 100000

theorem all_take {xs : List Int} {k : Nat} (hk : k < xs.length) (h : (xs.take k).all nineB = true) (h2 : nineB xs[k] = true) : (xs.take (k + 1)).all nineB = true := by
  rw [List.take_succ_eq_append_getElem hk, List.all_append, h, List.all_cons, h2]; rfl
theorem all_no {xs : List Int} {k : Nat} (hk : k < xs.length) (h2 : nineB xs[k] = false) : xs.all nineB = false := by
  rw [List.all_eq_false]
  exact ⟨_, List.getElem_mem hk, by rw [h2]; simp⟩
set_option maxHeartbeats 1000000 in
theorem say_any (xs : List Int) (C cap : Nat) (w : World) (h : Own w C (xs.map (Value.int .i64 ·))) (hl : xs.length ≤ 100) : Calls Tryz.prog 56 #[.slice (some ⟨C, 0, none⟩) xs.length cap] w (Same (.bool (xs.all nineB)) w) := by
  go_enter Tryz.func56, Tryz.ntmps56
  go_wp2_with fail
  go_loopw [4, 7] (fun _ i wr => ∃ k : Nat, i = .int .i64 k ∧ k ≤ xs.length ∧ (xs.take k).all nineB = true ∧ wr = w) (fun _ i _ => xs.length - (intOf i).toNat)
  case atStart => exact ⟨0, rfl, Nat.zero_le _, rfl, rfl⟩
  case round =>
    obtain ⟨k, rfl, hk, hall, rfl⟩ := hrel
    by_cases hks : k < xs.length
    · have hc := h.cell k (.int .i64 xs[k]) (by simp [hks])
      have hwk : IntKind.i64.wrap ((k : Int) + 1) = (k : Int) + 1 := IntWalk.i64_in _ (by omega)
      by_cases hb : nineB xs[k] = true
      · have h3 := all_take hks hall hb
        have hb2 : 0 ≤ xs[k] ∧ xs[k] ≤ 999999999 := by simpa [nineB] using hb
        generalize xs[k] = x at hc hb2
        have t1 : decide (x < 0) = false := decide_eq_false (by omega)
        have t2 : decide (999999999 < x) = false := decide_eq_false (by omega)
        have H3 := Lib.hid h3
        clear h3 hall hb hb2
        go_wp2_with fail
        go_roundw
        case rel => exact ⟨k + 1, by go_num, by omega, H3.out, trivial⟩
        case measure => simp [intOf]; omega
      · have h3 := all_no hks (by simpa using hb)
        have hb2 : ¬ (0 ≤ xs[k] ∧ xs[k] ≤ 999999999) := by simpa [nineB] using hb
        rw [h3]
        generalize xs[k] = x at hc hb2
        by_cases h4 : x < 0
        · have t1 : decide (x < 0) = true := decide_eq_true h4
          clear hall hb hb2 h3
          go_wp2_with fail
          go_ret
          exact ⟨rfl, rfl⟩
        · have t1 : decide (x < 0) = false := decide_eq_false h4
          have t2 : decide (999999999 < x) = true := decide_eq_true (by omega)
          clear hall hb hb2 h3
          go_wp2_with fail
          go_ret
          exact ⟨rfl, rfl⟩
    · have hke : k = xs.length := by omega
      subst hke
      rw [List.take_length] at hall
      have HA := Lib.hid hall
      clear hall
      go_wp2_with fail
      go_ret
      exact ⟨by rw [HA.out]; rfl, rfl⟩
/-- parts behind what there is, with a blank between each two -/
def joinW : List UInt8 → List (List UInt8) → List UInt8
  | l, [] => l
  | l, p :: r => joinW ((if l.isEmpty = true then l else l ++ [32]) ++ p) r
theorem joinW_len : ∀ (ss : List (List UInt8)) (l : List UInt8), l.length ≤ (joinW l ss).length
  | [], l => Nat.le_refl _
  | p :: r, l => by
    have := joinW_len r ((if l.isEmpty = true then l else l ++ [32]) ++ p)
    unfold joinW
    split at this <;> simp_all <;> omega
set_option maxHeartbeats 1000000 in
theorem join9_any (B b : Nat) (ss : List (List UInt8)) (C cap : Nat) (l : List UInt8) (w : World) (hw : Wld B b l w) (hBw : B ≤ w.heap.size) (hC : w.heap[C]? = some (.cells (ss.map fun s => Value.string ⟨s.toArray⟩).toArray 9 (0, 0))) (hCb : C ≠ b) (hs : ss.length ≤ 100)
    (hl : (joinW l ss).length ≤ 1000000) : Calls Tryz.prog 58 #[.pointer (some ⟨b, 0, none⟩), .slice (some ⟨C, 0, none⟩) ss.length cap] w (WEnd B b (joinW l ss) (.tuple #[]) w) := by
  go_enter Tryz.func58, Tryz.ntmps58
  go_wp2_with fail
  go_loopw [5, 8] (fun _ i wr => ∃ (k : Nat) (acc : List UInt8), i = .int .i64 k ∧ k ≤ ss.length ∧ joinW acc (ss.drop k) = joinW l ss ∧ Wld B b acc wr ∧ Below B w wr ∧ Lib.OthersKept 5 (some b) w wr) (fun _ i _ => ss.length - (intOf i).toNat)
  case atStart => exact ⟨0, l, rfl, Nat.zero_le _, rfl, hw, Below.refl _ _, Lib.OthersKept.refl _ _ _⟩
  case round =>
    obtain ⟨k, acc, rfl, hk, hj, hwr, hbr, hor⟩ := hrel
    by_cases hks : k < ss.length
    · have hC2 := hor C _ hC (by simpa using hCb) (fun c f e => by cases e)
      have hc : wr.cell? ⟨C, k, none⟩ = some (.string ⟨(ss[k]).toArray⟩) := by rw [Lib.cell_of_heap hC2]; simp [hks]
      have hwk : IntKind.i64.wrap ((k : Int) + 1) = (k : Int) + 1 := IntWalk.i64_in _ (by omega)
      rw [List.drop_eq_getElem_cons hks] at hj
      have hlen := joinW_len (ss.drop (k + 1)) ((if acc.isEmpty = true then acc else acc ++ [32]) ++ ss[k])
      have hj2 : joinW ((if acc.isEmpty = true then acc else acc ++ [32]) ++ ss[k]) (ss.drop (k + 1)) = joinW l ss := hj
      rw [hj2] at hlen
      generalize ss[k] = p at hc hj2 hlen
      clear hj hC2
      have hbz := hbr.size
      cases acc with
      | nil =>
        have e0 : (if (([] : List UInt8)).isEmpty = true then ([] : List UInt8) else [] ++ [32]) ++ p = p := rfl
        rw [e0] at hj2 hlen
        have hwrite := wwrite_any B b [] p wr hwr (by simp) (by omega) (by omega)
        have HJ := Lib.hid hj2
        clear hj2 e0
        go_wp2_with fail
        refine (wlen_any B b [] wr hwr).mono ?_
        rintro e w1 ⟨rfl, rfl⟩
        go_wp2_with fail
        refine hwrite.mono ?_
        rintro e w2 ⟨rfl, h2, hb2, ho2⟩
        go_wp2_with fail
        go_roundw
        case rel => exact ⟨k + 1, p, by go_num, by omega, HJ.out, h2, hbr.trans hb2, hor.trans ho2⟩
        case measure => simp [intOf]; omega
      | cons c0 r0 =>
        have e0 : (if (c0 :: r0).isEmpty = true then (c0 :: r0) else (c0 :: r0) ++ [32]) ++ p = (c0 :: r0) ++ [32] ++ p := rfl
        rw [e0] at hj2 hlen
        have hgt : decide ((0 : Int) < ((c0 :: r0).length : Int)) = true := by simp
        have hln : (c0 :: r0).length ≠ 0 := by simp
        generalize c0 :: r0 = acc at *
        simp only [List.length_append, List.length_cons, List.length_nil] at hlen
        have HJ := Lib.hid hj2
        clear hj2 e0
        go_wp2_with fail
        refine (wlen_any B b acc wr hwr).mono ?_
        rintro e w1 ⟨rfl, rfl⟩
        go_wp2_with fail
        refine (wbyte_any B b acc 32 wr hwr (by omega) (by omega)).mono ?_
        rintro e w2 ⟨rfl, h2, hb2, ho2⟩
        have hc2 : w2.cell? ⟨C, k, none⟩ = wr.cell? ⟨C, k, none⟩ := World.cell?_of_block (w := wr) (by
          have h5 := hor C _ hC (by simpa using hCb) (fun c f e => by cases e)
          rw [ho2 C _ h5 (by simpa using hCb) (fun c f e => by cases e), h5])
        have hz2 := hb2.size
        clear hc hc2
        go_wp2_with fail
        refine (wwrite_any B b (acc ++ [32]) p w2 h2 (by simp; omega) (by omega) (by omega)).mono ?_
        rintro e w3 ⟨rfl, h3, hb3, ho3⟩
        go_wp2_with fail
        go_roundw
        case rel => exact ⟨k + 1, acc ++ [32] ++ p, by go_num, by omega, HJ.out, h3, (hbr.trans hb2).trans hb3, (hor.trans ho2).trans ho3⟩
        case measure => simp [intOf]; omega
    · have hke : k = ss.length := by omega
      subst hke
      rw [List.drop_length] at hj
      have HJ := Lib.hid hj
      clear hj
      go_wp2_with fail
      go_end0
      exact ⟨rfl, by rw [← HJ.out]; exact hwr, hbr, hor⟩
set_option maxHeartbeats 1000000 in
theorem pct_any (kn kd : Int) (w : World) : Calls Tryz.prog 55 #[.agg #[.int .i64 kn, .int .i64 kd]] w (Ret (.tuple #[.int .i64 (pctF kn kd).1, .bool (pctF kn kd).2]) w) := by
  have hm := fun w1 => mul_any kn kd 100 1 w1
  unfold resV ratV at hm
  unfold pctF
  generalize mulF kn kd 100 1 = m at hm ⊢
  obtain ⟨x, y, z⟩ := m
  simp only at hm ⊢
  have hsz : ∀ (a o : Obj) (w1 : World), Below w.heap.size (w.alloc a) w1 → Below w.heap.size w (w1.alloc o) := fun a o w1 h => (((Below.refl _ w).alloc (Nat.le_refl _) _).trans h).alloc (by have := h.size; simp at this; omega) _
  by_cases hz : z = 0
  · subst hz
    have e1 : (decide ((0 : Int) = 0) && decide (y = 1)) = (y == 1) := by simp; rfl
    rw [e1]
    go_enter Tryz.func55, Tryz.ntmps55
    go_wp2_with fail
    refine (hm _).mono ?_
    rintro e w2 ⟨rfl, hx⟩
    go_wp2_with fail
    go_region
    all_goals
      go_wp2_with fail
      go_ret2
      exact Ret.mk rfl (hsz _ _ _ (hx.mono (by simp))).drew
  · have e1 : (decide (z = 0) && decide (y = 1)) = false := by simp [hz]
    rw [e1]
    have t1 : (z == 0) = false := by simpa using hz
    go_enter Tryz.func55, Tryz.ntmps55
    go_wp2_with fail
    refine (hm _).mono ?_
    rintro e w2 ⟨rfl, hx⟩
    go_wp2_with fail
    go_region
    all_goals
      go_wp2_with fail
      go_ret2
      exact Ret.mk rfl (hsz _ _ _ (hx.mono (by simp))).drew
end Go.Proofs.YtlkefcbkpohpgaaGreatDoor
