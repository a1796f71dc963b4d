/-
  span.Most.
-/
import Derived.Test.YtfhhkbijcleedaaSpanMake
namespace Go.Proofs.Ytfhhkbijcleedaa
open Go.RowKit Go.Shelf
attribute [local go_sem] Oper.semAt_some

def mostStep (acc : Int × Int) (x : Sp × (Int × Int)) : Int × Int := if acc.2 < x.2.1 then (x.1.1, x.2.1) else acc
def mostL (l : List Sp) : Int × Int := (piecesL l []).foldl mostStep (0, 0)
def mostF (l : List Sp) : (Int × Int) × Int := if l.length ≤ 3000 ∧ (l.all wf) = true then (mostL l, 0) else ((0, 0), 1)

def InvM (w : World) (B2 B3 : Nat) (r : Int × Int) (W : World) : Prop :=
  W.heap[B2]? = some (.cells #[.int .i64 r.1] 3 (0, 0)) ∧ W.heap[B3]? = some (.cells #[.int .i64 r.2] 3 (0, 0)) ∧ Below w.heap.size w W
theorem InvM.abide {w : World} {B2 B3 B : Nat} (hB : w.heap.size ≤ B) (G : List (Sp × (Int × Int)) → Int × Int) : Abide (keepI 50) B (fun pre W => InvM w B2 B3 (G pre) W) := by
  rintro s W W' ⟨h1, h2, h4⟩ ht
  exact ⟨ht.2 _ _ h1 rfl, ht.2 _ _ h2 rfl, h4.trans (ht.1.mono hB)⟩
theorem all_drop (l : List Sp) (k : Nat) (h : k < l.length) : (l.drop k).all wf = (wf l[k] && (l.drop (k + 1)).all wf) := by rw [drop_cons h]; rfl

theorem two_store {w W : World} {B2 B3 B : Nat} {x y u v : Value} (h1 : W.heap[B2]? = some (.cells #[x] 3 (0, 0))) (h2 : W.heap[B3]? = some (.cells #[y] 3 (0, 0))) (hne : B2 ≠ B3) (hx : Below w.heap.size w W) (hB2 : w.heap.size ≤ B2) (hB3 : w.heap.size ≤ B3) :
    KeepsFrom B W ((W.setCell ⟨B2, 0, none⟩ u).setCell ⟨B3, 0, none⟩ v) ∧ Kp W ((W.setCell ⟨B2, 0, none⟩ u).setCell ⟨B3, 0, none⟩ v) ∧
    ((W.setCell ⟨B2, 0, none⟩ u).setCell ⟨B3, 0, none⟩ v).heap[B2]? = some (.cells #[u] 3 (0, 0)) ∧ ((W.setCell ⟨B2, 0, none⟩ u).setCell ⟨B3, 0, none⟩ v).heap[B3]? = some (.cells #[v] 3 (0, 0)) ∧ Below w.heap.size w ((W.setCell ⟨B2, 0, none⟩ u).setCell ⟨B3, 0, none⟩ v) := by
  have hoth : ∀ (i : Nat) (o : Obj), i ≠ B2 → i ≠ B3 → W.heap[i]? = some o → ((W.setCell ⟨B2, 0, none⟩ u).setCell ⟨B3, 0, none⟩ v).heap[i]? = some o := fun i o n2 n3 ho =>
    (Below.heap_setCell _ ⟨B3, 0, none⟩ v i n3).trans ((Below.heap_setCell W ⟨B2, 0, none⟩ u i n2).trans ho)
  have h3 : (W.setCell ⟨B2, 0, none⟩ u).heap[B3]? = some (.cells #[y] 3 (0, 0)) := (Below.heap_setCell W ⟨B2, 0, none⟩ u B3 (by simpa using hne.symm)).trans h2
  refine ⟨⟨by simp, fun i o _ hi ho => hoth i o (fun e => ?_) (fun e => ?_) hi⟩, ⟨by simp, fun i xs t fr hi n1 => hoth i _ (fun e => ?_) (fun e => ?_) hi⟩, ?_, one_setCell h3, ((hx.setCell hB2 u).setCell hB3 v)⟩
  · subst e; rw [h1] at hi; cases hi; cases ho
  · subst e; rw [h2] at hi; cases hi; cases ho
  · subst e; rw [h1] at hi; cases hi; simp at n1
  · subst e; rw [h2] at hi; cases hi; simp at n1
  · exact (Below.heap_setCell _ ⟨B3, 0, none⟩ v B2 (by simpa using hne)).trans (one_setCell h1)

theorem res_most {tmps : Array Value} {W : World} {B2 B3 : Nat} {x y z : Value} (t2 : tmps.getD 2 undef = .pointer (some ⟨B2, 0, none⟩)) (t3 : tmps.getD 3 undef = .pointer (some ⟨B3, 0, none⟩)) (t4 : tmps.getD 4 undef = z)
    (h2 : W.heap[B2]? = some (.cells #[x] 3 (0, 0))) (h3 : W.heap[B3]? = some (.cells #[y] 3 (0, 0))) : (results Try.f22 tmps).run Try.prog W = .ok (.tuple #[x, y, z]) W := by
  have c2 := cell_of_one h2
  have c3 := cell_of_one h3
  simp only [Array.getD_eq_getD_getElem?] at t2 t3 t4
  simp [results, Try.results22, go_sem, t2, t3, t4, c2, c3]

set_option maxHeartbeats 4000000 in
theorem most_any (vl : Value) (l : List Sp) (w : World) (hl : Spans w vl l) :
    Calls Try.prog 22 #[vl] w fun e w' => e = .returned (.tuple #[.int .i64 (mostF l).1.1, .int .i64 (mostF l).1.2, .int .i64 (mostF l).2]) ∧ Below w.heap.size w w' := by
  obtain ⟨ad, cap, rfl, hc⟩ := hl.open
  have hsh := hl.short
  refine (callsIn_wide (n := 9)).1 ?_
  refine callsIn_of_wp_marks Try.func22 rfl trivial ?_ rfl
  simp only [Try.ntmps22, List.size_toArray, List.length_cons, List.length_nil, Nat.reduceAdd, Nat.reduceSub, Array.replicate_succ, Array.replicate_zero, List.push_toArray, List.append_toArray, List.nil_append, List.cons_append]
  have hn2 := blk_alloc (blk_new w (.cells #[.int .i64 0] 3)) (.cells #[.int .i64 0] 3)
  have hn3 := blk_new (w.alloc (.cells #[.int .i64 0] 3)) (.cells #[.int .i64 0] 3)
  rw [World.size_alloc] at hn3
  have hb0 : Below w.heap.size w ((w.alloc (.cells #[.int .i64 0] 3)).alloc (.cells #[.int .i64 0] 3)) := ((Below.refl _ w).alloc (Nat.le_refl _) _).alloc (by simp) _
  by_cases hbig : 3000 < l.length
  · have hF : mostF l = ((0, 0), 1) := by unfold mostF; rw [if_neg (by omega)]
    gi_wp2
    exact ⟨_, res_most rfl rfl rfl hn2 hn3, by rw [hF]; rfl, hb0⟩
  · gi_wp2
    obtain ⟨W0, hW0⟩ : ∃ W0, (w.alloc (.cells #[.int .i64 0] 3)).alloc (.cells #[.int .i64 0] 3) = W0 := ⟨_, rfl⟩
    rw [hW0] at hn2 hn3 hb0 ⊢
    clear hW0
    gi_loopw [14] (fun i wr => ∃ k : Nat, k ≤ l.length ∧ i = .int .i64 k ∧ l.all wf = (l.drop k).all wf ∧ wr.heap[w.heap.size]? = some (.cells #[.int .i64 0] 3 (0, 0)) ∧ wr.heap[w.heap.size + 1]? = some (.cells #[.int .i64 0] 3 (0, 0)) ∧ Below w.heap.size w wr)
      (fun i _ => l.length - (intOf i).toNat)
    case atStart => exact ⟨0, by omega, rfl, rfl, hn2, hn3, hb0⟩
    case round =>
      obtain ⟨k, hk, rfl, hv, h2, h3, hb⟩ := hrel
      by_cases hkl : k < l.length
      · obtain ⟨a, rfl, hab, hc0, hc1⟩ := hc k hkl
        have hr0 := (hb.cell (p := a.add (k * 2)) (by rw [blk_add]; exact hab)).trans hc0
        have hr1 := (hb.cell (p := a.add (k * 2 + 1)) (by rw [blk_add]; exact hab)).trans hc1
        rw [add_succ] at hr1
        rw [all_drop _ _ hkl] at hv
        generalize l[k] = s at hr0 hr1 hv
        have hn : Below wr.heap.size wr (wr.alloc (.cells #[.int .i64 s.1, .int .i64 s.2] 42)) := (Below.refl _ _).alloc (Nat.le_refl _) _
        have hw := wellFormed_any s (wr.alloc (.cells #[.int .i64 s.1, .int .i64 s.2] 42))
        have h2' := (hn.block _ (Array.getElem?_eq_some_iff.1 h2).1).trans h2
        have h3' := (hn.block _ (Array.getElem?_eq_some_iff.1 h3).1).trans h3
        gi_wp2
        refine ⟨trivial, ?_⟩
        refine (callsIn_wide.2 hw).mono ?_
        rintro e w2 ⟨rfl, hx⟩
        clear hw
        replace h2' := (hx.block _ (Array.getElem?_eq_some_iff.1 h2').1).trans h2'
        replace h3' := (hx.block _ (Array.getElem?_eq_some_iff.1 h3').1).trans h3'
        replace hb := (hb.trans (hn.mono hb.size)).trans (hx.mono (by have := hb.size; simp; omega))
        have f2 := free_of_one h2'
        have f3 := free_of_one h3'
        have e2 := cell_of_one h2'
        have e3 := cell_of_one h3'
        clear hx hn h2 h3 hr0 hr1
        cases hws : wf s with
        | true =>
          rw [hws, Bool.true_and] at hv
          gi_wp2
          exact ⟨⟨k + 1, by omega, by go_num, hv, h2', h3', hb⟩, by simp [intOf]; omega⟩
        | false =>
          rw [hws, Bool.false_and] at hv
          have hF : mostF l = ((0, 0), 1) := by unfold mostF; rw [if_neg (by rw [hv]; simp)]
          obtain ⟨_, _, q2, q3, qb⟩ := two_store (B := 0) (u := .int .i64 0) (v := .int .i64 0) h2' h3' (by omega) hb (Nat.le_refl _) (by omega)
          gi_wp2
          exact ⟨_, res_most rfl rfl rfl q2 q3, by rw [hF]; rfl, qb⟩
      · rw [List.drop_eq_nil_of_le (by omega)] at hv
        have hF : mostF l = (mostL l, 0) := by unfold mostF; rw [if_pos ⟨by omega, hv⟩]
        have hpc := pieces_any ad none l.length cap 0 0 wr
        gi_wp2
        refine ⟨trivial, ?_⟩
        refine (callsIn_wide.2 hpc).mono ?_
        rintro e w3 ⟨rfl, hOa, hOb, hx3⟩
        clear hpc
        replace h2 := (hx3.block _ (Array.getElem?_eq_some_iff.1 h2).1).trans h2
        replace h3 := (hx3.block _ (Array.getElem?_eq_some_iff.1 h3).1).trans h3
        have hb3 : Below w.heap.size w w3 := hb.trans (hx3.mono hb.size)
        have hl3 := hl.below hb3
        have hnil : Spans w3 (.slice none 0 0) [] := ⟨⟨_, _, rfl⟩, fun _ _ _ _ i hi => by simp at hi, fun s hs => (by cases hs), by simp⟩
        gi_wp2
        refine range_gives (T := 50) (Kp := Kp) (xs := piecesL l []) (encs := encP) rfl (by omega) rfl trivial (enters_of Try.func40 (by kernel_rfl) rfl)
          (pieces1_gives _ _ _ _ l [] _ w3 (by omega) hl3 hnil (by simp; omega) hOa hOb) ?kt ?kb (Below.refl _ _) (fun _ => rfl)
          (fun pre W => InvM w w.heap.size (w.heap.size + 1) (pre.foldl mostStep (0, 0)) W) (InvM.abide hb3.size _) ?start ?round ?done
        case kt => exact fun h1 h2 => ⟨Nat.le_trans h1.1 h2.1, fun i xs t fr hi n1 => h2.2 i xs t fr (h1.2 i xs t fr hi n1) n1⟩
        case kb =>
          refine fun W l o o' hl ho => ⟨by simp, fun i xs t fr hi _ => ?_⟩
          rw [World.putObj_heap_other (fun e => ?_)]
          · exact hi
          · subst e; rw [hl] at hi; cases hi; cases ho
        case start => exact ⟨h2, h3, hb3⟩
        case round =>
          rintro lp pre x W hwl ⟨g2, g3, g4⟩ hlen
          obtain ⟨⟨x0, x1⟩, c0, c1⟩ := x
          simp only [encP]
          have hsn : (pre ++ [((x0, x1), (c0, c1))]).foldl mostStep (0, 0) = mostStep (pre.foldl mostStep (0, 0)) ((x0, x1), (c0, c1)) := by rw [List.foldl_append]; rfl
          simp only [mostStep] at hsn
          generalize List.foldl mostStep (0, 0) pre = acc at g2 g3 hsn
          have hgl2 : w.heap.size + 1 < W.heap.size := (Array.getElem?_eq_some_iff.1 g3).1
          have n1 : ¬ w.heap.size = W.heap.size + 1 := by omega
          have n2 : ¬ W.heap.size + 1 = w.heap.size := by omega
          have n3 : ¬ w.heap.size = W.heap.size := by omega
          have n4 : ¬ W.heap.size = w.heap.size := by omega
          have n5 : ¬ w.heap.size + 1 = W.heap.size := by omega
          have n6 : ¬ W.heap.size = w.heap.size + 1 := by omega
          gi_wp2
          have hA : Below W.heap.size W ((W.alloc (.cells #[.int .i64 x0, .int .i64 x1] 42)).alloc (.cells #[.int .i64 c0, .int .i64 c1] 50)) := ((Below.refl _ W).alloc (Nat.le_refl _) _).alloc (by simp) _
          have hn1 := blk_alloc (blk_new W (.cells #[.int .i64 x0, .int .i64 x1] 42)) (.cells #[.int .i64 c0, .int .i64 c1] 50)
          have hn4 := blk_new (W.alloc (.cells #[.int .i64 x0, .int .i64 x1] 42)) (.cells #[.int .i64 c0, .int .i64 c1] 50)
          rw [World.size_alloc] at hn4
          refine ⟨KeepsFrom.of_below hA, Kp.of_below hA, fun W2 ht _ hcl => ?_⟩
          replace hn1 := hcl _ _ hn1 rfl
          replace hn4 := hcl _ _ hn4 rfl
          replace g2 := hcl _ _ ((hA.block _ (Array.getElem?_eq_some_iff.1 g2).1).trans g2) rfl
          replace g3 := hcl _ _ ((hA.block _ (Array.getElem?_eq_some_iff.1 g3).1).trans g3) rfl
          replace g4 : Below w.heap.size w W2 := (g4.trans (hA.mono g4.size)).trans (ht.1.mono hb3.size)
          clear hA ht hcl h2 h3
          obtain ⟨a0, a1, _, _, _⟩ := blk2 hn1
          obtain ⟨d0, d1, _, _, _⟩ := blk2 hn4
          have b2 := cell_of_one g2
          have b3 := cell_of_one g3
          have b2f := free_of_one g2
          have b3f := free_of_one g3
          obtain ⟨m0, m1⟩ := acc
          simp only at b2 b3 g2 g3 hsn
          by_cases hm : m1 < c0
          · rw [if_pos hm] at hsn
            rw [hsn]
            have hts := two_store (B := w3.heap.size) (u := .int .i64 x0) (v := .int .i64 c0) g2 g3 (by omega) g4 (Nat.le_refl _) (by omega)
            gi_wp2
            clear hl hl3 hnil hOa hOb hc
            have hmx : Try.prog.follows .mixedOrders = true := by kernel_rfl
            gi_region_o
            all_goals gi_wp2
            all_goals exact ⟨⟨hts.1.size, hts.1.same⟩, hts.2.1, hts.2.2.1, hts.2.2.2.1, hts.2.2.2.2.drew⟩
          · rw [if_neg hm] at hsn
            rw [hsn]
            gi_wp2
            exact ⟨KeepsFrom.of_below (Below.refl _ _), Kp.of_below (Below.refl _ _), g2, g3, g4⟩
        case done =>
          rintro D W hD ⟨g2, g3, g4⟩ hdf
          have b2 := cell_of_one g2
          have b3 := cell_of_one g3
          have b2f := free_of_one g2
          have b3f := free_of_one g3
          gi_wp2
          clear hl hl3 hnil hOa hOb hc
          gi_region
          have hd2 : ((W.setCell ⟨w.heap.size, 0, none⟩ (.int .i64 (mostL l).1)).setCell ⟨w.heap.size + 1, 0, none⟩ (.int .i64 (mostL l).2)).drew.heap[D]? = some (.deferred (some [])) := by
            have hs3 := hb3.size
            have hws : w.heap.size + 1 < w3.heap.size := (Array.getElem?_eq_some_iff.1 h3).1
            exact (Below.heap_setCell _ ⟨w.heap.size + 1, 0, none⟩ _ D (by simp; omega)).trans ((Below.heap_setCell W ⟨w.heap.size, 0, none⟩ _ D (by simp; omega)).trans hdf)
          obtain ⟨_, _, q2, q3, qb⟩ := two_store (B := 0) (u := .int .i64 (mostL l).1) (v := .int .i64 (mostL l).2) g2 g3 (by omega) g4 (Nat.le_refl _) (by omega)
          gi_wp2
          refine ⟨by simp, .inl ⟨_, _, rfl, run_takeDeferred hd2, ?_⟩⟩
          have hne : ∀ i, i < w3.heap.size → i ≠ D := fun i hi e => by omega
          have hws : w.heap.size + 1 < w3.heap.size := (Array.getElem?_eq_some_iff.1 h3).1
          exact ⟨_, res_most rfl rfl rfl ((World.putObj_heap_other (hne _ (by omega))).trans q2) ((World.putObj_heap_other (hne _ hws)).trans q3), by rw [hF]; rfl, qb.drew.trans (Turn.putObj (T := 50) (Nat.le_trans hb3.size hD) hd2 rfl).1⟩
end Go.Proofs.Ytfhhkbijcleedaa
