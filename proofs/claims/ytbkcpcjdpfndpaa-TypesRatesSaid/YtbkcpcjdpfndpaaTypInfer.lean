/-
  The type of an expression, at the program: a recursion that may panic.
-/
import Derived.Test.YtbkcpcjdpfndpaaTypMap
namespace Go.Proofs.Ytbkcpcjdpfndpaa
open Go.RowKit
set_option maxRecDepth 100000

theorem Try.infoIntT : (Try.prog.info? 3).map (fun i => (i.zero, i.size, i.bytes)) = some (some (.int .i64 0), 1, 8) := by kernel_rfl
theorem typL_take {l : List Xp} {k : Nat} (hk : k < l.length) : typL (l.take (k + 1)) = typL (l.take k) ++ [typE l[k]] := by
  rw [typL_map, typL_map, List.take_succ_eq_append_getElem hk, List.map_append]; rfl
set_option maxHeartbeats 3200000 in
theorem infer_any (Q : Nat → Prop) (m : Nat) : ∀ (e : Xp) (v : Value) (w : World), okE e = true → MapRl w m → Tree Q w e v → Calls Try.prog 33 #[.map (some m), v] w (TyEnd (typE e) w) := by
  intro e
  induction e using Xp.ind with
  | h o nn kids ih =>
  intro v w hok hm ht
  obtain ⟨ad, cap, rfl, hlen, hks⟩ := ht.shape
  simp only [Xp.o, Xp.n, Xp.ks] at *
  rw [okE_mk, Bool.and_eq_true] at hok
  obtain ⟨hnode, hokl⟩ := hok
  have hk3 := kids_le hnode
  have hty := typE_mk o nn kids
  have hpar := @typ_parts o nn kids
  obtain ⟨T, hT⟩ : ∃ T, typE (.mk o nn kids) = T := ⟨_, rfl⟩
  rw [hT] at hty hpar ⊢
  have HZ : Hid (∀ e ∈ kids, typE e = 0 → T = 0) := Lib.hid (fun e he h0 => by
    apply Classical.byContradiction
    intro hn
    exact hpar hn e he h0)
  have HE : Hid ((∀ t ∈ typL kids, t ≠ 0) → ruleF o ((typL kids).getD 0 0) ((typL kids).getD 1 0) ((typL kids).getD 2 0) = T) := Lib.hid (fun h => by
    rw [hty, if_pos]
    rw [List.all_eq_true]
    exact fun t ht => by simpa using h t ht)
  clear hpar hty hT
  have hIH : ∀ (k : Nat) (hk : k < kids.length) (v2 : Value) (w2 : World), MapRl w2 m → Tree Q w2 kids[k] v2 → Calls Try.prog 33 #[.map (some m), v2] w2 (TyEnd (typE kids[k]) w2) := fun k hk v2 w2 h1 h2 =>
    ih kids[k] (List.getElem_mem hk) v2 w2 (okL_mem hokl _ (List.getElem_mem hk)) h1 h2
  clear ih
  obtain ⟨i0, hi, hz0, hz1, hzz⟩ := info_parts Try.infoIntT
  have o2 := Own.new w #[.int .i64 o, .int .i64 nn, .slice ad kids.length cap] 24
  have hb1 : Below w.heap.size w (w.alloc (.cells #[.int .i64 o, .int .i64 nn, .slice ad kids.length cap] 24)) := by (repeat (first | exact Below.refl _ _ | assumption | refine Below.drew ?_ | refine below_drewN ?_ _ | refine Below.setCell ?_ (by first | omega | (simp <;> omega)) _ | refine Below.alloc ?_ (by first | omega | (simp <;> omega)) _))
  go_enter Try.func33, Try.ntmps33
  go_wp2_with fail
  go_loopw [5, 11] (fun kv i wr => ∃ k : Nat, i = .int .i64 k ∧ k ≤ kids.length ∧ (∀ t ∈ typL (kids.take k), t ≠ 0) ∧ wr.ownsRow (w.heap.size + 1) 3 1 kv k ((typL (kids.take k)).map tyV) ∧ Own wr w.heap.size [.int .i64 o, .int .i64 nn, .slice ad kids.length cap] ∧ Below w.heap.size w wr) (fun _ i _ => kids.length - (intOf i).toNat)
  case atStart => exact ⟨0, rfl, Nat.zero_le _, by simp [typL], ⟨by simp [typL], .inl ⟨rfl, rfl⟩⟩, o2, hb1⟩
  case round =>
    obtain ⟨k, rfl, hkl, hnz, hown, q1, q2⟩ := hrel
    obtain ⟨u0, u1, u2, -, -, -, uz⟩ := q1.three
    by_cases hk : k < kids.length
    · have t1 := ht.below q2
      have m1 := hm.below q2
      obtain ⟨ad', cap', hv', -, ts⟩ := t1.shape
      have hadd : ad' = ad := by simp [Xp.o, Xp.n, Xp.ks] at hv'; exact hv'.1.symm
      subst hadd
      obtain ⟨a, ad2, cap2, rfl, n0, n1, n2, tk, hab⟩ := ts.reads k hk
      simp only [Xp.ks] at n0 n1 n2 tk
      have hwk : IntKind.i64.wrap ((k : Int) + 1) = (k : Int) + 1 := IntWalk.i64_in _ (by omega)
      have hcall := fun w2 (h : Below wr.heap.size wr w2) => hIH k hk _ w2 (m1.below h) (tk.below h)
      have hty := typL_take hk
      have hmem := List.getElem_mem hk
      have HZ2 : Hid (typE kids[k] = 0 → T = 0) := Lib.hid (HZ.out _ hmem)
      have HN := Lib.hid hnz
      have HTY := Lib.hid hty
      clear hnz hty hmem t1 ts hv'
      generalize kids[k] = x at *
      generalize typE x = tx at *
      go_wp2_with fail
      refine (hcall _ (by (repeat (first | exact Below.refl _ _ | assumption | refine Below.drew ?_ | refine below_drewN ?_ _ | refine Below.setCell ?_ (by first | omega | (simp <;> omega)) _ | refine Below.alloc ?_ (by first | omega | (simp <;> omega)) _)))).mono ?_
      rintro e w2 (⟨h1, rfl, h2⟩ | ⟨h1, rfl, h2⟩)
      · have H1 := Lib.hid h1
        have hb2 : Below wr.heap.size wr w2 := Below.trans (by (repeat (first | exact Below.refl _ _ | assumption | refine Below.drew ?_ | refine below_drewN ?_ _ | refine Below.setCell ?_ (by first | omega | (simp <;> omega)) _ | refine Below.alloc ?_ (by first | omega | (simp <;> omega)) _))) (h2.mono (by simp))
        have q3 := q2.trans (hb2.mono q2.size)
        replace q1 := q1.below hb2
        replace hown := town_below hown hb2
        obtain ⟨p0, c0, rfl⟩ := town_shape hown
        have hz2 := q1.lt
        clear h1 h2 hb2 u0 u1 u2
        go_wp2_with (at_builtin; refine wpList_append_own _ rfl _ _ 63 rfl (w.heap.size + 1) 3 i0 (.int .i64 0) 1 8 Try.underlying63 hi hz0 hz1 hzz rfl (by decide) _ _ _ rfl (town_below hown (Below.alloc (Below.refl _ _) (Nat.le_refl _) _)) ⟨w2.heap.size, 0, none⟩ 1 1 [.int .i64 (tx : Nat)] rfl rfl (by intro j u hj; match j, hj with | 0, hj => (simp at hj; subst hj; simp [Addr.add])) (by intro u hu; simp at hu; rcases hu with rfl; rfl) (by unfold maxLen; omega) (by omega) (by simp; omega) ?_; intro v3 w3 hown3 hgrow3 _)
        go_roundw
        case rel => 
          refine ⟨k + 1, by go_num, by omega, ?_, ?_, ?_, ?_⟩
          · rw [HTY.out]
            intro t ht2
            rcases List.mem_append.1 ht2 with h | h
            · exact HN.out t h
            · rw [List.mem_singleton.1 h]; exact H1.out
          · rw [HTY.out, List.map_append]; exact hown3
          · refine (q1.alloc _).grownT hgrow3 ?_
            intro r hr
            have := (town_row hown r hr).1
            omega
          · refine below_grownT (q3.alloc q3.size _) hgrow3 ?_ ?_
            · intro r hr
              have := (town_row hown r hr).1
              omega
            · simp; omega
        case measure => simp [intOf]; omega
      · have HF := Lib.hid (HZ2.out h1)
        have q3 := q2.trans ((Below.trans (by (repeat (first | exact Below.refl _ _ | assumption | refine Below.drew ?_ | refine below_drewN ?_ _ | refine Below.setCell ?_ (by first | omega | (simp <;> omega)) _ | refine Below.alloc ?_ (by first | omega | (simp <;> omega)) _))) (h2.mono (by simp)) : Below wr.heap.size wr w2).mono q2.size)
        clear h1 h2
        go_wp2_with fail
        exact bodyPost_panic rfl (.inr ⟨HF.out, rfl, q3⟩)
    · have hkE : k = kids.length := by omega
      subst hkE
      rw [List.take_length] at *
      have m1 := hm.below q2
      have hle : (typL kids).length = kids.length := typL_len kids
      have hkv : KV wr _ (typL kids) := kv_own (base := w.heap.size + 1) (by rw [hle]; exact hown)
      have h3 : ∀ t ∈ typL kids, t ≤ 3 := fun t ht => by
        rw [typL_map, List.mem_map] at ht
        obtain ⟨e, _, rfl⟩ := ht
        exact typE_le e
      obtain ⟨f, hlk, hcall, hf⟩ := rule_any (by rw [hle]; exact hnode) hnz h3 m1 hkv
      rw [HE.out hnz] at hcall
      obtain ⟨p0, c0, rfl⟩ := town_shape hown
      clear hkv hnz h3 hown hle hlen hks ht hm m1 hIH hnode hokl
      rcases hf with rfl | rfl | rfl | rfl | rfl | rfl | rfl | rfl
      all_goals (
        go_wp2_with fail
        refine hcall.mono ?_
        rintro e w2 (⟨h1, rfl, h2⟩ | ⟨h1, rfl, h2⟩)
        · have H1 := Lib.hid h1
          clear h1
          go_wp2_with fail
          go_ret
          exact .inl ⟨H1.out, rfl, q2.trans (h2.mono q2.size)⟩
        · have H1 := Lib.hid h1
          clear h1
          go_wp2_with fail
          exact bodyPost_panic rfl (.inr ⟨H1.out, rfl, q2.trans (h2.mono q2.size)⟩))
end Go.Proofs.Ytbkcpcjdpfndpaa
