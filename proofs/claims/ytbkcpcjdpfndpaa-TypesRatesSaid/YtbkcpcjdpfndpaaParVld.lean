/-
  Valid, at the program: a closure that counts.
-/
import Derived.Test.YtbkcpcjdpfndpaaParNode
import Derived.Test.YtbkcpcjdpfndpaaParTree
namespace Go.Proofs.Ytbkcpcjdpfndpaa
open Go.RowKit Go.Shelf
set_option maxRecDepth 100000

def vldV (N V : Nat) : Value := .func (.func 30) #[] #[.pointer (some ⟨N, 0, none⟩), .pointer (some ⟨V, 0, none⟩)]
/-- well-formed from here on: behind n nodes, at depth d -/
def okAt (e : Xp) (n d : Nat) : Prop := okE e = true ∧ n + cntE e ≤ 200 ∧ d + depE e ≤ 31
def VEnd (N : Nat) (e : Xp) (n d : Nat) (w : World) (x : Ending) (w' : World) : Prop :=
  ∃ (b : Bool) (n' : Nat), x = .returned (.bool b) ∧ (b = true ↔ okAt e n d) ∧ (b = true → n' = n + cntE e) ∧ Kept (some N) w w' ∧ Own w' N [.int .i64 (n' : Nat)]
theorem Own.set1 {w : World} {B : Nat} {x : Value} (h : Own w B [x]) (v : Value) : Own (w.setCell ⟨B, 0, none⟩ v) B [v] := h.setAt v (by simp)
theorem tree_in {Q : Nat → Prop} {N : Nat} {w w' : World} {o n : Int} {kids : List Xp} {v : Value} (h : Tree Q w (.mk o n kids) v) (hk : Kept (some N) w w') (hq : Q N) : Tree Q w' (.mk o n kids) v := h.keep hk hq
set_option maxHeartbeats 3200000 in
theorem vld_any (Q : Nat → Prop) (N V : Nat) (hQ : Q N) (hNV : N ≠ V) : ∀ (e : Xp) (n d : Nat) (v : Value) (w : World), n ≤ 200 → d ≤ 31 → Tree Q w e v → Own w N [.int .i64 (n : Nat)] → Own w V [vldV N V] →
    Calls Try.prog 30 #[v, .int .i64 (d : Nat), .pointer (some ⟨N, 0, none⟩), .pointer (some ⟨V, 0, none⟩)] w (VEnd N e n d w) := by
  intro e
  induction e using Xp.ind with
  | h o nn kids ih =>
  intro n d v w hn hd ht hN hV
  obtain ⟨ad, cap, rfl, hlen, hks⟩ := ht.shape
  simp only [Xp.o, Xp.n, Xp.ks] at *
  have zN := hN.lt
  have zV := hV.lt
  have hw1 : IntKind.i64.wrap ((n : Int) + 1) = (n : Int) + 1 := IntWalk.i64_in _ (by omega)
  have hw2 : IntKind.i64.wrap ((d : Int) + 1) = (d : Int) + 1 := IntWalk.i64_in _ (by omega)
  have o1 := hN.alloc (.cells #[.int .i64 o, .int .i64 nn, .slice ad kids.length cap] 24)
  obtain ⟨a0, a1, -⟩ := hN.one
  have b0 : w.cell? ⟨V, 0, none⟩ = some (vldV N V) := hV.cell 0 _ rfl
  have hcnt : cntE (.mk o nn kids) = 1 + cntL kids := cntE_mk _ _ _
  have hdep : depE (.mk o nn kids) = 1 + depL kids := depE_mk _ _ _
  have hok : okE (.mk o nn kids) = (nodeB o nn kids.length && okL kids) := okE_mk _ _ _
  by_cases hA : n + 1 > 200
  · have hA' : decide ((n : Int) + 1 > 200) = true := by simp; omega
    have HF : Hid (¬ okAt (.mk o nn kids) n d) := Lib.hid (by rintro ⟨_, h, _⟩; omega)
    clear ih hks ht hcnt hdep hok hA
    go_enter Try.func30, Try.ntmps30
    go_wp2_with fail
    go_ret
    exact ⟨false, n + 1, rfl, by simp [HF.out], by simp, ((Kept.refl _ _).set (p := N) (b := ⟨N, 0, none⟩) (.inl rfl) _).alloc _, (hN.set1 _).alloc _⟩
  have hA' : decide ((n : Int) + 1 > 200) = false := by simp; omega
  have hA2 : decide (200 < (n : Int) + 1) = false := by simp; omega
  by_cases hB : d > 30
  · have hB' : decide ((d : Int) > 30) = true := by simp; omega
    have hB2 : decide (30 < d) = true := by simp; omega
    have HF : Hid (¬ okAt (.mk o nn kids) n d) := Lib.hid (by rintro ⟨_, _, h⟩; omega)
    clear ih hks ht hcnt hdep hok hA hB
    go_enter Try.func30, Try.ntmps30
    go_wp2_with fail
    go_ret
    exact ⟨false, n + 1, rfl, by simp [HF.out], by simp, ((Kept.refl _ _).set (p := N) (b := ⟨N, 0, none⟩) (.inl rfl) _).alloc _, (hN.set1 _).alloc _⟩
  have hB' : decide ((d : Int) > 30) = false := by simp; omega
  have hB2 : decide (30 < d) = false := by simp; omega
  have hnd := fun w => pnode_any o nn ad kids.length cap w
  cases hC : nodeB o nn kids.length with
  | false =>
    have HF : Hid (¬ okAt (.mk o nn kids) n d) := Lib.hid (by rintro ⟨h, _, _⟩; rw [hok, hC] at h; cases h)
    rw [hC] at hnd
    clear ih hks ht hcnt hdep hok hA hB hC
    go_enter Try.func30, Try.ntmps30
    go_wp2_with fail
    refine (hnd _).mono ?_
    rintro e w1 ⟨rfl, hb⟩
    go_wp2_with fail
    go_ret
    exact ⟨false, n + 1, rfl, by simp [HF.out], by simp, (((Kept.refl _ _).set (p := N) (b := ⟨N, 0, none⟩) (.inl rfl) _).alloc _).later hb, ((hN.set1 _).alloc _).below hb⟩
  | true =>
    rw [hC] at hnd
    have hIH : ∀ (k : Nat) (hk : k < kids.length) (n2 : Nat) (v2 : Value) (w2 : World), n2 ≤ 200 → Tree Q w2 kids[k] v2 → Own w2 N [.int .i64 (n2 : Nat)] → Own w2 V [vldV N V] →
        Calls Try.prog 30 #[v2, .int .i64 ((d : Int) + 1), .pointer (some ⟨N, 0, none⟩), .pointer (some ⟨V, 0, none⟩)] w2 (VEnd N kids[k] n2 (d + 1) w2) :=
      fun k hk n2 v2 w2 h1 h2 h3 h4 => ih kids[k] (List.getElem_mem hk) n2 (d + 1) v2 w2 h1 (by omega) h2 h3 h4
    clear ih
    have hC2 := hC
    go_enter Try.func30, Try.ntmps30
    go_wp2_with fail
    refine (hnd _).mono ?_
    rintro e w1 ⟨rfl, hb⟩
    have o2 := (Own.at (w.setCell ⟨N, 0, none⟩ (.int .i64 ((n : Int) + 1))) #[.int .i64 o, .int .i64 nn, .slice ad kids.length cap] 24 w.heap.size (by simp)).below hb
    have o3 := ((hN.set1 (.int .i64 ((n : Int) + 1))).alloc (.cells #[.int .i64 o, .int .i64 nn, .slice ad kids.length cap] 24)).below hb
    have o4 := ((hV.setCell (p := ⟨N, 0, none⟩) hNV (.int .i64 ((n : Int) + 1))).alloc (.cells #[.int .i64 o, .int .i64 nn, .slice ad kids.length cap] 24)).below hb
    have k1 := (((Kept.refl (some N) w).set (p := N) (b := ⟨N, 0, none⟩) (.inl rfl) (.int .i64 ((n : Int) + 1))).alloc (.cells #[.int .i64 o, .int .i64 nn, .slice ad kids.length cap] 24)).later hb
    obtain ⟨c0, c1, c2, -, -, -, zc⟩ := o2.three
    clear hnd hb hC a0 a1 b0 o1
    go_wp2_with fail
    clear c0 c1 c2
    go_loopw [25] (fun i wr => ∃ k : Nat, i = .int .i64 k ∧ k ≤ kids.length ∧ okL (kids.take k) = true ∧ n + 1 + cntL (kids.take k) ≤ 200 ∧ d + 1 + depL (kids.take k) ≤ 31 ∧ Own wr N [.int .i64 ((n + 1 + cntL (kids.take k) : Nat) : Int)] ∧ Own wr V [vldV N V] ∧ Kept (some N) w wr) (fun i _ => kids.length - (intOf i).toNat)
    case atStart => exact ⟨0, rfl, Nat.zero_le _, by simp [okL], by simp [cntL]; omega, by simp [depL]; omega, by simpa [cntL] using o3, o4, k1⟩
    case round =>
      obtain ⟨k, rfl, hkl, r1, r2, r3, q3, q4, q1⟩ := hrel
      by_cases hk : k < kids.length
      · obtain ⟨c1, c2⟩ := cnt_at hk
        obtain ⟨d1, d2⟩ := dep_at hk
        have e1 := ok_at hk
        have t1 := ht.keep q1 hQ
        obtain ⟨ad', cap', hv', -, ts⟩ := t1.shape
        have hadd : ad' = ad := by simp [Xp.o, Xp.n, Xp.ks] at hv'; exact hv'.1.symm
        subst hadd
        obtain ⟨a, ad2, cap2, rfl, m0, m1, m2, tk, hab⟩ := ts.reads k hk
        simp only [Xp.ks] at m0 m1 m2 tk
        have hb0 := q4.cell 0 _ rfl
        unfold vldV at hb0
        have zV2 := q4.lt
        have zN2 := q3.lt
        have hmem := List.getElem_mem hk
        have hcl : ((k : Int) < (kids.length : Int)) := by omega
        have hwk : IntKind.i64.wrap ((k : Int) + 1) = (k : Int) + 1 := IntWalk.i64_in _ (by omega)
        have hcall := hIH k hk (n + 1 + cntL (kids.take k)) _ (wr.alloc (.cells #[.int .i64 (kids[k]).o, .int .i64 (kids[k]).n, .slice ad2 (kids[k]).ks.length cap2] 24)) (by omega) (tk.alloc _) (q3.alloc _) (q4.alloc _)
        have HA : Hid (okAt kids[k] (n + 1 + cntL (kids.take k)) (d + 1) → okL (kids.take (k + 1)) = true ∧ n + 1 + cntL (kids.take (k + 1)) ≤ 200 ∧ d + 1 + depL (kids.take (k + 1)) ≤ 31) := Lib.hid (by
          rintro ⟨h1, h2, h3⟩
          exact ⟨by rw [e1, r1, h1]; rfl, by omega, by omega⟩)
        have HB : Hid (okAt (.mk o nn kids) n d → okAt kids[k] (n + 1 + cntL (kids.take k)) (d + 1)) := Lib.hid (by
          rintro ⟨h1, h2, h3⟩
          rw [hok, Bool.and_eq_true] at h1
          exact ⟨okL_mem h1.2 _ hmem, by omega, by omega⟩)
        have HC : Hid (n + 1 + cntL (kids.take k) + cntE kids[k] = n + 1 + cntL (kids.take (k + 1))) := Lib.hid (by omega)
        generalize kids[k] = x at *
        generalize cntL (kids.take k) = c at *
        clear c1 c2 d1 d2 e1 hmem r1 r2 r3 hv' t1 ts hcnt hdep hok
        go_wp2_with fail
        refine hcall.mono ?_
        rintro e w2 ⟨b, n', rfl, h1, h2, kk, oN⟩
        cases b with
        | true =>
          obtain ⟨g1, g2, g3⟩ := HA.out (h1.1 rfl)
          have hn' := h2 rfl
          clear h1 h2
          go_wp2_with fail
          rw [HC.out] at hn'
          subst hn'
          go_roundw
          case rel => exact ⟨k + 1, by go_num, by omega, g1, g2, g3, oN, kk.own (q4.alloc _) (by simp; omega), (q1.alloc _).trans kk⟩
          case measure => simp [intOf]; omega
        | false =>
          have HF : Hid (¬ okAt (.mk o nn kids) n d) := Lib.hid (fun h => by have := h1.2 (HB.out h); cases this)
          go_wp2_with fail
          go_ret
          exact ⟨false, n', rfl, by simp [HF.out], by simp, (q1.alloc _).trans kk, oN⟩
      · have hkE : k = kids.length := by omega
        subst hkE
        rw [List.take_length] at *
        have HT : Hid (okAt (.mk o nn kids) n d) := Lib.hid ⟨by rw [hok, r1, Bool.and_true]; exact hC2, by omega, by omega⟩
        have HC : Hid (n + 1 + cntL kids = n + cntE (.mk o nn kids)) := Lib.hid (by omega)
        clear hcnt hdep hok r1 r2 r3
        go_wp2_with fail
        go_ret
        exact ⟨true, _, rfl, by simp [HT.out], fun _ => HC.out, q1, q3⟩
set_option maxHeartbeats 800000 in
/-- the program's Valid -/
theorem pvalid_any {Q : Nat → Prop} (e : Xp) (v : Value) (w : World) (ht : Tree Q w e v) : Calls Try.prog 23 #[v] w (Ret (.bool (validF e)) w) := by
  have hmf : ∀ (fn : Fn) (first cap : Array Value) (w : World), (Instr.makeFunc fn first cap).run Try.prog w = .ok (.func fn first cap) w := fun _ _ _ _ => rfl
  obtain ⟨ad, cap, rfl, -, -⟩ := ht.shape
  go_enter Try.func23, Try.ntmps23
  go_wp2_with fail
  have hv := vld_any (fun k => w.heap.size ≤ k) (w.heap.size + 1) (w.heap.size + 1 + 1) (by simp) (by omega) e 0 1 _ (((w.alloc (.cells #[.int .i64 e.o, .int .i64 e.n, .slice ad e.ks.length cap] 24)).alloc (.cells #[.int .i64 0] 3)).alloc (.cells #[vldV (w.heap.size + 1) (w.heap.size + 1 + 1)] 54)) (by omega) (by omega)
    ((((ht.bars (R := fun k => w.heap.size ≤ k) fun u hu (h : w.heap.size ≤ u) => by omega).alloc _).alloc _).alloc _)
    ((Own.at (w.alloc _) #[.int .i64 0] _ (w.heap.size + 1) (by simp)).alloc _) (Own.at ((w.alloc _).alloc _) #[vldV (w.heap.size + 1) (w.heap.size + 1 + 1)] _ (w.heap.size + 1 + 1) (by simp))
  refine hv.mono ?_
  rintro x w1 ⟨b, n', rfl, hb, -, hk, -⟩
  go_wp2_with fail
  go_ret
  refine Ret.mk (congrArg Value.bool ?_) ?_
  · rw [Bool.eq_iff_iff, hb]
    unfold okAt validF
    simp only [Bool.and_eq_true, decide_eq_true_eq]
    exact ⟨fun ⟨h1, h2, h3⟩ => ⟨⟨h1, by omega⟩, by omega⟩, fun ⟨⟨h1, h2⟩, h3⟩ => ⟨h1, by omega, by omega⟩⟩
  · exact Below.trans (by (repeat (first | exact Below.refl _ _ | assumption | refine Below.drew ?_ | refine below_drewN ?_ _ | refine Below.setCell ?_ (by first | omega | (simp <;> omega)) _ | refine Below.alloc ?_ (by first | omega | (simp <;> omega)) _))) (hk.below (B := w.heap.size) (by omega) (by simp; omega))
end Go.Proofs.Ytbkcpcjdpfndpaa
