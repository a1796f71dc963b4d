/-
  The type of an expression, at the reference.
-/
import Derived.Test.YtbkcpcjdpfndpaaTypInfer
import Derived.Test.YtbkcpcjdpfndpaaParSize
namespace Go.Proofs.Ytbkcpcjdpfndpaa
open Go.RowKit Go.Shelf
set_option maxRecDepth 100000

theorem own_set3a {w : World} {B : Nat} {x y z : Value} (h : Own w B [x, y, z]) (k : Nat) (hk : k < 3) (v : Value) : Own (w.setCell ⟨B, k, none⟩ v) B ([x, y, z].set k v) := h.setAt v (by simpa using hk)
theorem getD_take_set {l : List Xp} {k : Nat} (hk : k < l.length) (h3 : k < 3) : [tyV ((typL (l.take k)).getD 0 0), tyV ((typL (l.take k)).getD 1 0), tyV ((typL (l.take k)).getD 2 0)].set k (tyV (typE l[k])) = [tyV ((typL (l.take (k + 1))).getD 0 0), tyV ((typL (l.take (k + 1))).getD 1 0), tyV ((typL (l.take (k + 1))).getD 2 0)] := by
  rw [typL_take hk]
  have hl : (typL (l.take k)).length = k := by rw [typL_len, List.length_take]; omega
  generalize typL (l.take k) = m at *
  subst hl
  match m, h3 with
  | [], _ => rfl
  | [a], _ => rfl
  | [a, b], _ => rfl
set_option maxHeartbeats 12800000 in
theorem rtype_any (Q : Nat → Prop) : ∀ (e : Xp) (v : Value) (w : World), okE e = true → Tree Q w e v → Calls Try.prog 25 #[v] w (Ret (.int .i64 (typE e : Nat)) w) := by
  intro e
  induction e using Xp.ind with
  | h o nn kids ih =>
  intro v w hok ht
  obtain ⟨ad, cap, rfl, hlen, hks⟩ := ht.shape
  simp only [Xp.o, Xp.n, Xp.ks] at *
  rw [okE_mk, Bool.and_eq_true] at hok
  obtain ⟨hnode, hokl⟩ := hok
  have hk3 := kids_le hnode
  have hty := typE_mk o nn kids
  have hpar := @typ_parts o nn kids
  obtain ⟨T, hT⟩ : ∃ T, typE (.mk o nn kids) = T := ⟨_, rfl⟩
  rw [hT] at hty hpar ⊢
  have HZ : Hid (∀ e ∈ kids, typE e = 0 → T = 0) := Lib.hid (fun e he h0 => by
    apply Classical.byContradiction
    intro hn
    exact hpar hn e he h0)
  have HE : Hid ((∀ t ∈ typL kids, t ≠ 0) → ruleF o ((typL kids).getD 0 0) ((typL kids).getD 1 0) ((typL kids).getD 2 0) = T) := Lib.hid (fun h => by
    rw [hty, if_pos]
    rw [List.all_eq_true]
    exact fun t ht => by simpa using h t ht)
  clear hpar hty hT
  have hIH : ∀ (k : Nat) (hk : k < kids.length) (v2 : Value) (w2 : World), Tree Q w2 kids[k] v2 → Calls Try.prog 25 #[v2] w2 (Ret (.int .i64 (typE kids[k] : Nat)) w2) := fun k hk v2 w2 h2 =>
    ih kids[k] (List.getElem_mem hk) v2 w2 (okL_mem hokl _ (List.getElem_mem hk)) h2
  clear ih
  have o2 := (Own.new w #[.int .i64 o, .int .i64 nn, .slice ad kids.length cap] 24).alloc (.cells #[.int .i64 0, .int .i64 0, .int .i64 0] 59)
  have o3 : Own ((w.alloc (.cells #[.int .i64 o, .int .i64 nn, .slice ad kids.length cap] 24)).alloc (.cells #[.int .i64 0, .int .i64 0, .int .i64 0] 59)) (w.heap.size + 1) [.int .i64 0, .int .i64 0, .int .i64 0] := Own.at (w.alloc (.cells #[.int .i64 o, .int .i64 nn, .slice ad kids.length cap] 24)) #[.int .i64 0, .int .i64 0, .int .i64 0] 59 (w.heap.size + 1) (by simp)
  have hb1 : Below w.heap.size w ((w.alloc (.cells #[.int .i64 o, .int .i64 nn, .slice ad kids.length cap] 24)).alloc (.cells #[.int .i64 0, .int .i64 0, .int .i64 0] 59)) := by (repeat (first | exact Below.refl _ _ | assumption | refine Below.drew ?_ | refine below_drewN ?_ _ | refine Below.setCell ?_ (by first | omega | (simp <;> omega)) _ | refine Below.alloc ?_ (by first | omega | (simp <;> omega)) _))
  have hno := hnode
  go_enter Try.func25, Try.ntmps25
  go_wp2_with fail
  go_loopw [4] (fun i wr => ∃ k : Nat, i = .int .i64 k ∧ k ≤ kids.length ∧ (∀ t ∈ typL (kids.take k), t ≠ 0) ∧ Own wr w.heap.size [.int .i64 o, .int .i64 nn, .slice ad kids.length cap] ∧ Own wr (w.heap.size + 1) [tyV ((typL (kids.take k)).getD 0 0), tyV ((typL (kids.take k)).getD 1 0), tyV ((typL (kids.take k)).getD 2 0)] ∧ Below w.heap.size w wr) (fun i _ => kids.length - (intOf i).toNat)
  case atStart => exact ⟨0, rfl, Nat.zero_le _, by simp [typL], o2, by simpa [typL, tyV] using o3, hb1⟩
  case round =>
    clear o2 o3 hb1
    obtain ⟨k, rfl, hkl, hnz, q1, q3, q2⟩ := hrel
    obtain ⟨u0, u1, u2, -, -, -, uz⟩ := q1.three
    by_cases hk : k < kids.length
    · have t1 := ht.below q2
      obtain ⟨ad', cap', hv', -, ts⟩ := t1.shape
      have hadd : ad' = ad := by simp [Xp.o, Xp.n, Xp.ks] at hv'; exact hv'.1.symm
      subst hadd
      obtain ⟨a, ad2, cap2, rfl, n0, n1, n2, tk, hab⟩ := ts.reads k hk
      simp only [Xp.ks] at n0 n1 n2 tk
      have hk2 : k < 3 := by omega
      have hwk : IntKind.i64.wrap ((k : Int) + 1) = (k : Int) + 1 := IntWalk.i64_in _ (by omega)
      have hcall := hIH k hk _ wr tk
      have hty := typL_take hk
      have hmem := List.getElem_mem hk
      have HG := Lib.hid (getD_take_set hk hk2)
      have HZ2 : Hid (typE kids[k] = 0 → T = 0) := Lib.hid (HZ.out _ hmem)
      have HN := Lib.hid hnz
      have HTY := Lib.hid hty
      clear hnz hty hmem t1 ts hv' tk hno hnode hokl hIH ht hks hlen
      generalize kids[k] = x at *
      generalize typE x = tx at *
      go_wp2_with fail
      refine hcall.mono ?_
      rintro e w2 ⟨rfl, hx⟩
      replace q1 := q1.below hx
      replace q3 := q3.below hx
      replace q2 := q2.trans (hx.mono q2.size)
      clear hx hcall u0 u1 u2 n0 n1 n2
      obtain ⟨_, _, _, f0, f1, f2, fz⟩ := q3.three
      have hfr : w2.frozen? ⟨w.heap.size + 1, k, none⟩ = false := by
        match k, hk2 with
        | 0, _ => exact f0
        | 1, _ => exact f1
        | 2, _ => exact f2
      have hcl : ∃ u, w2.cell? ⟨w.heap.size + 1, k, none⟩ = some u := by
        match k, hk2 with
        | 0, _ => exact ⟨_, q3.cell 0 _ rfl⟩
        | 1, _ => exact ⟨_, q3.cell 1 _ rfl⟩
        | 2, _ => exact ⟨_, q3.cell 2 _ rfl⟩
      obtain ⟨uo, hcl⟩ := hcl
      have q4 := own_set3a q3 k hk2 (tyV tx)
      rw [HG.out] at q4
      have hrd : (w2.setCell ⟨w.heap.size + 1, k, none⟩ (.int .i64 (tx : Nat))).cell? ⟨w.heap.size + 1, k, none⟩ = some (.int .i64 (tx : Nat)) := World.cell?_setCell_same _ _ _ hcl
      have q5 := q1.setCell (p := ⟨w.heap.size + 1, k, none⟩) (by simp) (tyV tx)
      have hb2 : Below w.heap.size w (w2.setCell ⟨w.heap.size + 1, k, none⟩ (tyV tx)) := q2.setCell (by simp) _
      clear f0 f1 f2
      by_cases hx0 : tx = 0
      · have HF := Lib.hid (HZ2.out hx0)
        subst hx0
        clear q4 q5 q1 q3 HN HTY HG
        go_wp2_with fail
        go_ret
        exact Ret.mk (by rw [HF.out]; rfl) hb2
      · have e1 : ((tx : Int) == 0) = false := by rw [beq_eq_false_iff_ne]; omega
        have e2 : (tx == 0) = false := by rw [beq_eq_false_iff_ne]; exact hx0
        have H1 := Lib.hid hx0
        clear hx0
        go_wp2_with fail
        go_roundw
        case rel => exact ⟨k + 1, by go_num, by omega, by
          rw [HTY.out]
          intro t ht2
          rcases List.mem_append.1 ht2 with h | h
          · exact HN.out t h
          · rw [List.mem_singleton.1 h]; exact H1.out, q5, q4, hb2⟩
        case measure => simp [intOf]; omega
    · have hkE : k = kids.length := by omega
      subst hkE
      rw [List.take_length] at *
      have h3 : ∀ t ∈ typL kids, t ≤ 3 := fun t ht => by
        rw [typL_map, List.mem_map] at ht
        obtain ⟨e, _, rfl⟩ := ht
        exact typE_le e
      have hl := typL_len kids
      have HR := HE.out hnz
      have hA : (typL kids).getD 0 0 ≤ 3 := getD_le h3 0
      have hB : (typL kids).getD 1 0 ≤ 3 := getD_le h3 1
      have hC : (typL kids).getD 2 0 ≤ 3 := getD_le h3 2
      have hA0 : 1 ≤ kids.length → (typL kids).getD 0 0 ≠ 0 := fun h => by
        rw [List.getD_eq_getElem?_getD, List.getElem?_eq_getElem (by omega)]
        exact hnz _ (List.getElem_mem _)
      have hB0 : 2 ≤ kids.length → (typL kids).getD 1 0 ≠ 0 := fun h => by
        rw [List.getD_eq_getElem?_getD, List.getElem?_eq_getElem (by omega)]
        exact hnz _ (List.getElem_mem _)
      generalize (typL kids).getD 0 0 = a at *
      generalize (typL kids).getD 1 0 = b at *
      generalize (typL kids).getD 2 0 = c at *
      unfold tyV at q3
      obtain ⟨d0, d1, d2, -, -, -, dz⟩ := q3.three
      clear hnz h3 hl HE HZ hIH ht hks hlen q1 q3 hokl hnode
      have hoc : o = 1 ∨ o = 2 ∨ o = 3 ∨ (o = 15 ∧ 1 ≤ kids.length) ∨ (2 ≤ kids.length ∧ (o = 10 ∨ o = 4 ∨ o = 5 ∨ o = 6 ∨ o = 7 ∨ o = 8 ∨ o = 9 ∨ o = 11 ∨ o = 12 ∨ o = 13 ∨ o = 14)) := by
        unfold nodeB at hno
        by_cases o1 : o = 1
        · exact .inl o1
        by_cases o2 : o = 2
        · exact .inr (.inl o2)
        by_cases o3 : o = 3
        · exact .inr (.inr (.inl o3))
        by_cases o15 : o = 15
        · rw [if_neg o1, if_neg o2, if_neg o3, if_pos o15] at hno; simp only [Bool.and_eq_true, decide_eq_true_eq] at hno; exact .inr (.inr (.inr (.inl ⟨o15, by omega⟩)))
        by_cases o10 : o = 10
        · rw [if_neg o1, if_neg o2, if_neg o3, if_neg o15, if_pos o10] at hno; simp only [Bool.and_eq_true, decide_eq_true_eq] at hno; exact .inr (.inr (.inr (.inr ⟨by omega, .inl o10⟩)))
        · rw [if_neg o1, if_neg o2, if_neg o3, if_neg o15, if_neg o10] at hno; simp only [Bool.and_eq_true, decide_eq_true_eq] at hno; exact .inr (.inr (.inr (.inr ⟨by omega, by omega⟩)))
      clear hno
      rcases hoc with rfl | rfl | rfl | ⟨rfl, hl1⟩ | ⟨hl2, rfl | rfl | rfl | rfl | rfl | rfl | rfl | rfl | rfl | rfl | rfl⟩
      · skip
        have HV : Hid (T = 1) := Lib.hid (by rw [← HR]; rfl)
        clear HR
        go_wp2_with fail
        go_ret
        exact Ret.mk (by rw [HV.out]; rfl) q2
      · skip
        have HV : Hid (T = 2) := Lib.hid (by rw [← HR]; rfl)
        clear HR
        go_wp2_with fail
        go_ret
        exact Ret.mk (by rw [HV.out]; rfl) q2
      · skip
        have HV : Hid (T = 1) := Lib.hid (by rw [← HR]; rfl)
        clear HR
        go_wp2_with fail
        go_ret
        exact Ret.mk (by rw [HV.out]; rfl) q2
      · skip
        replace hA0 := hA0 (by omega)
        by_cases p0 : a = 3
        · have e0a : ((a : Int) == 3) = true := by rw [beq_iff_eq]; omega
          have e0b : (a == 3) = true := by rw [beq_iff_eq]; omega
          have e0c : ((a : Int) != 3) = false := by unfold bne; rw [e0a]; rfl
          have e0d : (a != 3) = false := by unfold bne; rw [e0b]; rfl
          have HV : Hid (T = 3) := Lib.hid (by rw [← HR, show ruleF 15 a b c = (if a = 3 then 3 else 0) from rfl, if_pos p0])
          clear HR p0
          go_wp2_with fail
          go_ret
          exact Ret.mk (by rw [HV.out]; rfl) q2
        · have e0a : ((a : Int) == 3) = false := by rw [beq_eq_false_iff_ne]; omega
          have e0b : (a == 3) = false := by rw [beq_eq_false_iff_ne]; omega
          have e0c : ((a : Int) != 3) = true := by unfold bne; rw [e0a]; rfl
          have e0d : (a != 3) = true := by unfold bne; rw [e0b]; rfl
          have HV : Hid (T = 0) := Lib.hid (by rw [← HR, show ruleF 15 a b c = (if a = 3 then 3 else 0) from rfl, if_neg p0])
          clear HR p0
          go_wp2_with fail
          go_ret
          exact Ret.mk (by rw [HV.out]; rfl) q2
      · skip
        replace hA0 := hA0 (by omega)
        replace hB0 := hB0 (by omega)
        by_cases p0 : a = 3
        · have e0a : ((a : Int) == 3) = true := by rw [beq_iff_eq]; omega
          have e0b : (a == 3) = true := by rw [beq_iff_eq]; omega
          have e0c : ((a : Int) != 3) = false := by unfold bne; rw [e0a]; rfl
          have e0d : (a != 3) = false := by unfold bne; rw [e0b]; rfl
          by_cases p1 : b = c
          · have e1a : ((b : Int) == (c : Int)) = true := by rw [beq_iff_eq]; omega
            have e1b : (b == c) = true := by rw [beq_iff_eq]; omega
            have e1c : ((b : Int) != (c : Int)) = false := by unfold bne; rw [e1a]; rfl
            have e1d : (b != c) = false := by unfold bne; rw [e1b]; rfl
            have HV : Hid (T = b) := Lib.hid (by rw [← HR, show ruleF 10 a b c = (if a = 3 ∧ b = c then b else 0) from rfl, if_pos ⟨p0, p1⟩])
            clear HR p0 p1
            go_wp2_with fail
            go_ret
            exact Ret.mk (by rw [HV.out]; rfl) q2
          · have e1a : ((b : Int) == (c : Int)) = false := by rw [beq_eq_false_iff_ne]; omega
            have e1b : (b == c) = false := by rw [beq_eq_false_iff_ne]; omega
            have e1c : ((b : Int) != (c : Int)) = true := by unfold bne; rw [e1a]; rfl
            have e1d : (b != c) = true := by unfold bne; rw [e1b]; rfl
            have HV : Hid (T = 0) := Lib.hid (by rw [← HR, show ruleF 10 a b c = (if a = 3 ∧ b = c then b else 0) from rfl, if_neg (fun h => p1 h.2)])
            clear HR p0 p1
            go_wp2_with fail
            go_ret
            exact Ret.mk (by rw [HV.out]; rfl) q2
        · have e0a : ((a : Int) == 3) = false := by rw [beq_eq_false_iff_ne]; omega
          have e0b : (a == 3) = false := by rw [beq_eq_false_iff_ne]; omega
          have e0c : ((a : Int) != 3) = true := by unfold bne; rw [e0a]; rfl
          have e0d : (a != 3) = true := by unfold bne; rw [e0b]; rfl
          have HV : Hid (T = 0) := Lib.hid (by rw [← HR, show ruleF 10 a b c = (if a = 3 ∧ b = c then b else 0) from rfl, if_neg (fun h => p0 h.1)])
          clear HR p0
          go_wp2_with fail
          go_ret
          exact Ret.mk (by rw [HV.out]; rfl) q2
      · skip
        replace hA0 := hA0 (by omega)
        replace hB0 := hB0 (by omega)
        by_cases p0 : a = b
        · have e0a : ((a : Int) == (b : Int)) = true := by rw [beq_iff_eq]; omega
          have e0b : (a == b) = true := by rw [beq_iff_eq]; omega
          have e0c : ((a : Int) != (b : Int)) = false := by unfold bne; rw [e0a]; rfl
          have e0d : (a != b) = false := by unfold bne; rw [e0b]; rfl
          by_cases p1 : a = 3
          · have e1a : ((a : Int) == 3) = true := by rw [beq_iff_eq]; omega
            have e1b : (a == 3) = true := by rw [beq_iff_eq]; omega
            have e1c : ((a : Int) != 3) = false := by unfold bne; rw [e1a]; rfl
            have e1d : (a != 3) = false := by unfold bne; rw [e1b]; rfl
            have HV : Hid (T = 0) := Lib.hid (by rw [← HR, show ruleF 4 a b c = (if a = b ∧ a ≠ 3 then a else 0) from rfl, if_neg (fun h => h.2 p1)])
            clear HR p0 p1
            go_wp2_with fail
            go_ret
            exact Ret.mk (by rw [HV.out]; rfl) q2
          · have e1a : ((a : Int) == 3) = false := by rw [beq_eq_false_iff_ne]; omega
            have e1b : (a == 3) = false := by rw [beq_eq_false_iff_ne]; omega
            have e1c : ((a : Int) != 3) = true := by unfold bne; rw [e1a]; rfl
            have e1d : (a != 3) = true := by unfold bne; rw [e1b]; rfl
            have HV : Hid (T = a) := Lib.hid (by rw [← HR, show ruleF 4 a b c = (if a = b ∧ a ≠ 3 then a else 0) from rfl, if_pos ⟨p0, p1⟩])
            clear HR p0 p1
            go_wp2_with fail
            go_ret
            exact Ret.mk (by rw [HV.out]; rfl) q2
        · have e0a : ((a : Int) == (b : Int)) = false := by rw [beq_eq_false_iff_ne]; omega
          have e0b : (a == b) = false := by rw [beq_eq_false_iff_ne]; omega
          have e0c : ((a : Int) != (b : Int)) = true := by unfold bne; rw [e0a]; rfl
          have e0d : (a != b) = true := by unfold bne; rw [e0b]; rfl
          have HV : Hid (T = 0) := Lib.hid (by rw [← HR, show ruleF 4 a b c = (if a = b ∧ a ≠ 3 then a else 0) from rfl, if_neg (fun h => p0 h.1)])
          clear HR p0
          go_wp2_with fail
          go_ret
          exact Ret.mk (by rw [HV.out]; rfl) q2
      · skip
        replace hA0 := hA0 (by omega)
        replace hB0 := hB0 (by omega)
        by_cases p0 : a = b
        · have e0a : ((a : Int) == (b : Int)) = true := by rw [beq_iff_eq]; omega
          have e0b : (a == b) = true := by rw [beq_iff_eq]; omega
          have e0c : ((a : Int) != (b : Int)) = false := by unfold bne; rw [e0a]; rfl
          have e0d : (a != b) = false := by unfold bne; rw [e0b]; rfl
          by_cases p1 : a = 3
          · have e1a : ((a : Int) == 3) = true := by rw [beq_iff_eq]; omega
            have e1b : (a == 3) = true := by rw [beq_iff_eq]; omega
            have e1c : ((a : Int) != 3) = false := by unfold bne; rw [e1a]; rfl
            have e1d : (a != 3) = false := by unfold bne; rw [e1b]; rfl
            have HV : Hid (T = 0) := Lib.hid (by rw [← HR, show ruleF 5 a b c = (if a = b ∧ a ≠ 3 then a else 0) from rfl, if_neg (fun h => h.2 p1)])
            clear HR p0 p1
            go_wp2_with fail
            go_ret
            exact Ret.mk (by rw [HV.out]; rfl) q2
          · have e1a : ((a : Int) == 3) = false := by rw [beq_eq_false_iff_ne]; omega
            have e1b : (a == 3) = false := by rw [beq_eq_false_iff_ne]; omega
            have e1c : ((a : Int) != 3) = true := by unfold bne; rw [e1a]; rfl
            have e1d : (a != 3) = true := by unfold bne; rw [e1b]; rfl
            have HV : Hid (T = a) := Lib.hid (by rw [← HR, show ruleF 5 a b c = (if a = b ∧ a ≠ 3 then a else 0) from rfl, if_pos ⟨p0, p1⟩])
            clear HR p0 p1
            go_wp2_with fail
            go_ret
            exact Ret.mk (by rw [HV.out]; rfl) q2
        · have e0a : ((a : Int) == (b : Int)) = false := by rw [beq_eq_false_iff_ne]; omega
          have e0b : (a == b) = false := by rw [beq_eq_false_iff_ne]; omega
          have e0c : ((a : Int) != (b : Int)) = true := by unfold bne; rw [e0a]; rfl
          have e0d : (a != b) = true := by unfold bne; rw [e0b]; rfl
          have HV : Hid (T = 0) := Lib.hid (by rw [← HR, show ruleF 5 a b c = (if a = b ∧ a ≠ 3 then a else 0) from rfl, if_neg (fun h => p0 h.1)])
          clear HR p0
          go_wp2_with fail
          go_ret
          exact Ret.mk (by rw [HV.out]; rfl) q2
      · skip
        replace hA0 := hA0 (by omega)
        replace hB0 := hB0 (by omega)
        have ha3 : a = 1 ∨ a = 2 ∨ a = 3 := by omega
        have hb3 : b = 1 ∨ b = 2 ∨ b = 3 := by omega
        clear hA hB hA0 hB0
        rcases ha3 with rfl | rfl | rfl <;> rcases hb3 with rfl | rfl | rfl
        · have HV : Hid (T = 1) := Lib.hid (by rw [← HR]; rfl)
          clear HR
          go_wp2_with fail
          go_ret
          exact Ret.mk (by rw [HV.out]; rfl) q2
        · have HV : Hid (T = 2) := Lib.hid (by rw [← HR]; rfl)
          clear HR
          go_wp2_with fail
          go_ret
          exact Ret.mk (by rw [HV.out]; rfl) q2
        · have HV : Hid (T = 0) := Lib.hid (by rw [← HR]; rfl)
          clear HR
          go_wp2_with fail
          go_ret
          exact Ret.mk (by rw [HV.out]; rfl) q2
        · have HV : Hid (T = 2) := Lib.hid (by rw [← HR]; rfl)
          clear HR
          go_wp2_with fail
          go_ret
          exact Ret.mk (by rw [HV.out]; rfl) q2
        · have HV : Hid (T = 0) := Lib.hid (by rw [← HR]; rfl)
          clear HR
          go_wp2_with fail
          go_ret
          exact Ret.mk (by rw [HV.out]; rfl) q2
        · have HV : Hid (T = 0) := Lib.hid (by rw [← HR]; rfl)
          clear HR
          go_wp2_with fail
          go_ret
          exact Ret.mk (by rw [HV.out]; rfl) q2
        · have HV : Hid (T = 0) := Lib.hid (by rw [← HR]; rfl)
          clear HR
          go_wp2_with fail
          go_ret
          exact Ret.mk (by rw [HV.out]; rfl) q2
        · have HV : Hid (T = 0) := Lib.hid (by rw [← HR]; rfl)
          clear HR
          go_wp2_with fail
          go_ret
          exact Ret.mk (by rw [HV.out]; rfl) q2
        · have HV : Hid (T = 0) := Lib.hid (by rw [← HR]; rfl)
          clear HR
          go_wp2_with fail
          go_ret
          exact Ret.mk (by rw [HV.out]; rfl) q2
      · skip
        replace hA0 := hA0 (by omega)
        replace hB0 := hB0 (by omega)
        by_cases p0 : b = 1
        · have e0a : ((b : Int) == 1) = true := by rw [beq_iff_eq]; omega
          have e0b : (b == 1) = true := by rw [beq_iff_eq]; omega
          have e0c : ((b : Int) != 1) = false := by unfold bne; rw [e0a]; rfl
          have e0d : (b != 1) = false := by unfold bne; rw [e0b]; rfl
          by_cases p1 : a = 3
          · have e1a : ((a : Int) == 3) = true := by rw [beq_iff_eq]; omega
            have e1b : (a == 3) = true := by rw [beq_iff_eq]; omega
            have e1c : ((a : Int) != 3) = false := by unfold bne; rw [e1a]; rfl
            have e1d : (a != 3) = false := by unfold bne; rw [e1b]; rfl
            have HV : Hid (T = 0) := Lib.hid (by rw [← HR, show ruleF 7 a b c = (if b = 1 ∧ a ≠ 3 then a else 0) from rfl, if_neg (fun h => h.2 p1)])
            clear HR p0 p1
            go_wp2_with fail
            go_ret
            exact Ret.mk (by rw [HV.out]; rfl) q2
          · have e1a : ((a : Int) == 3) = false := by rw [beq_eq_false_iff_ne]; omega
            have e1b : (a == 3) = false := by rw [beq_eq_false_iff_ne]; omega
            have e1c : ((a : Int) != 3) = true := by unfold bne; rw [e1a]; rfl
            have e1d : (a != 3) = true := by unfold bne; rw [e1b]; rfl
            have HV : Hid (T = a) := Lib.hid (by rw [← HR, show ruleF 7 a b c = (if b = 1 ∧ a ≠ 3 then a else 0) from rfl, if_pos ⟨p0, p1⟩])
            clear HR p0 p1
            go_wp2_with fail
            go_ret
            exact Ret.mk (by rw [HV.out]; rfl) q2
        · have e0a : ((b : Int) == 1) = false := by rw [beq_eq_false_iff_ne]; omega
          have e0b : (b == 1) = false := by rw [beq_eq_false_iff_ne]; omega
          have e0c : ((b : Int) != 1) = true := by unfold bne; rw [e0a]; rfl
          have e0d : (b != 1) = true := by unfold bne; rw [e0b]; rfl
          have HV : Hid (T = 0) := Lib.hid (by rw [← HR, show ruleF 7 a b c = (if b = 1 ∧ a ≠ 3 then a else 0) from rfl, if_neg (fun h => p0 h.1)])
          clear HR p0
          go_wp2_with fail
          go_ret
          exact Ret.mk (by rw [HV.out]; rfl) q2
      · skip
        replace hA0 := hA0 (by omega)
        replace hB0 := hB0 (by omega)
        by_cases p0 : a = b
        · have e0a : ((a : Int) == (b : Int)) = true := by rw [beq_iff_eq]; omega
          have e0b : (a == b) = true := by rw [beq_iff_eq]; omega
          have e0c : ((a : Int) != (b : Int)) = false := by unfold bne; rw [e0a]; rfl
          have e0d : (a != b) = false := by unfold bne; rw [e0b]; rfl
          by_cases p1 : a = 3
          · have e1a : ((a : Int) == 3) = true := by rw [beq_iff_eq]; omega
            have e1b : (a == 3) = true := by rw [beq_iff_eq]; omega
            have e1c : ((a : Int) != 3) = false := by unfold bne; rw [e1a]; rfl
            have e1d : (a != 3) = false := by unfold bne; rw [e1b]; rfl
            have HV : Hid (T = 0) := Lib.hid (by rw [← HR, show ruleF 8 a b c = (if a = b ∧ a ≠ 3 then a else 0) from rfl, if_neg (fun h => h.2 p1)])
            clear HR p0 p1
            go_wp2_with fail
            go_ret
            exact Ret.mk (by rw [HV.out]; rfl) q2
          · have e1a : ((a : Int) == 3) = false := by rw [beq_eq_false_iff_ne]; omega
            have e1b : (a == 3) = false := by rw [beq_eq_false_iff_ne]; omega
            have e1c : ((a : Int) != 3) = true := by unfold bne; rw [e1a]; rfl
            have e1d : (a != 3) = true := by unfold bne; rw [e1b]; rfl
            have HV : Hid (T = a) := Lib.hid (by rw [← HR, show ruleF 8 a b c = (if a = b ∧ a ≠ 3 then a else 0) from rfl, if_pos ⟨p0, p1⟩])
            clear HR p0 p1
            go_wp2_with fail
            go_ret
            exact Ret.mk (by rw [HV.out]; rfl) q2
        · have e0a : ((a : Int) == (b : Int)) = false := by rw [beq_eq_false_iff_ne]; omega
          have e0b : (a == b) = false := by rw [beq_eq_false_iff_ne]; omega
          have e0c : ((a : Int) != (b : Int)) = true := by unfold bne; rw [e0a]; rfl
          have e0d : (a != b) = true := by unfold bne; rw [e0b]; rfl
          have HV : Hid (T = 0) := Lib.hid (by rw [← HR, show ruleF 8 a b c = (if a = b ∧ a ≠ 3 then a else 0) from rfl, if_neg (fun h => p0 h.1)])
          clear HR p0
          go_wp2_with fail
          go_ret
          exact Ret.mk (by rw [HV.out]; rfl) q2
      · skip
        replace hA0 := hA0 (by omega)
        replace hB0 := hB0 (by omega)
        by_cases p0 : a = b
        · have e0a : ((a : Int) == (b : Int)) = true := by rw [beq_iff_eq]; omega
          have e0b : (a == b) = true := by rw [beq_iff_eq]; omega
          have e0c : ((a : Int) != (b : Int)) = false := by unfold bne; rw [e0a]; rfl
          have e0d : (a != b) = false := by unfold bne; rw [e0b]; rfl
          by_cases p1 : a = 3
          · have e1a : ((a : Int) == 3) = true := by rw [beq_iff_eq]; omega
            have e1b : (a == 3) = true := by rw [beq_iff_eq]; omega
            have e1c : ((a : Int) != 3) = false := by unfold bne; rw [e1a]; rfl
            have e1d : (a != 3) = false := by unfold bne; rw [e1b]; rfl
            have HV : Hid (T = 0) := Lib.hid (by rw [← HR, show ruleF 9 a b c = (if a = b ∧ a ≠ 3 then a else 0) from rfl, if_neg (fun h => h.2 p1)])
            clear HR p0 p1
            go_wp2_with fail
            go_ret
            exact Ret.mk (by rw [HV.out]; rfl) q2
          · have e1a : ((a : Int) == 3) = false := by rw [beq_eq_false_iff_ne]; omega
            have e1b : (a == 3) = false := by rw [beq_eq_false_iff_ne]; omega
            have e1c : ((a : Int) != 3) = true := by unfold bne; rw [e1a]; rfl
            have e1d : (a != 3) = true := by unfold bne; rw [e1b]; rfl
            have HV : Hid (T = a) := Lib.hid (by rw [← HR, show ruleF 9 a b c = (if a = b ∧ a ≠ 3 then a else 0) from rfl, if_pos ⟨p0, p1⟩])
            clear HR p0 p1
            go_wp2_with fail
            go_ret
            exact Ret.mk (by rw [HV.out]; rfl) q2
        · have e0a : ((a : Int) == (b : Int)) = false := by rw [beq_eq_false_iff_ne]; omega
          have e0b : (a == b) = false := by rw [beq_eq_false_iff_ne]; omega
          have e0c : ((a : Int) != (b : Int)) = true := by unfold bne; rw [e0a]; rfl
          have e0d : (a != b) = true := by unfold bne; rw [e0b]; rfl
          have HV : Hid (T = 0) := Lib.hid (by rw [← HR, show ruleF 9 a b c = (if a = b ∧ a ≠ 3 then a else 0) from rfl, if_neg (fun h => p0 h.1)])
          clear HR p0
          go_wp2_with fail
          go_ret
          exact Ret.mk (by rw [HV.out]; rfl) q2
      · skip
        replace hA0 := hA0 (by omega)
        replace hB0 := hB0 (by omega)
        by_cases p0 : a = b
        · have e0a : ((a : Int) == (b : Int)) = true := by rw [beq_iff_eq]; omega
          have e0b : (a == b) = true := by rw [beq_iff_eq]; omega
          have e0c : ((a : Int) != (b : Int)) = false := by unfold bne; rw [e0a]; rfl
          have e0d : (a != b) = false := by unfold bne; rw [e0b]; rfl
          by_cases p1 : a = 3
          · have e1a : ((a : Int) == 3) = true := by rw [beq_iff_eq]; omega
            have e1b : (a == 3) = true := by rw [beq_iff_eq]; omega
            have e1c : ((a : Int) != 3) = false := by unfold bne; rw [e1a]; rfl
            have e1d : (a != 3) = false := by unfold bne; rw [e1b]; rfl
            have HV : Hid (T = 0) := Lib.hid (by rw [← HR, show ruleF 11 a b c = (if a = b ∧ a ≠ 3 then 3 else 0) from rfl, if_neg (fun h => h.2 p1)])
            clear HR p0 p1
            go_wp2_with fail
            go_ret
            exact Ret.mk (by rw [HV.out]; rfl) q2
          · have e1a : ((a : Int) == 3) = false := by rw [beq_eq_false_iff_ne]; omega
            have e1b : (a == 3) = false := by rw [beq_eq_false_iff_ne]; omega
            have e1c : ((a : Int) != 3) = true := by unfold bne; rw [e1a]; rfl
            have e1d : (a != 3) = true := by unfold bne; rw [e1b]; rfl
            have HV : Hid (T = 3) := Lib.hid (by rw [← HR, show ruleF 11 a b c = (if a = b ∧ a ≠ 3 then 3 else 0) from rfl, if_pos ⟨p0, p1⟩])
            clear HR p0 p1
            go_wp2_with fail
            go_ret
            exact Ret.mk (by rw [HV.out]; rfl) q2
        · have e0a : ((a : Int) == (b : Int)) = false := by rw [beq_eq_false_iff_ne]; omega
          have e0b : (a == b) = false := by rw [beq_eq_false_iff_ne]; omega
          have e0c : ((a : Int) != (b : Int)) = true := by unfold bne; rw [e0a]; rfl
          have e0d : (a != b) = true := by unfold bne; rw [e0b]; rfl
          have HV : Hid (T = 0) := Lib.hid (by rw [← HR, show ruleF 11 a b c = (if a = b ∧ a ≠ 3 then 3 else 0) from rfl, if_neg (fun h => p0 h.1)])
          clear HR p0
          go_wp2_with fail
          go_ret
          exact Ret.mk (by rw [HV.out]; rfl) q2
      · skip
        replace hA0 := hA0 (by omega)
        replace hB0 := hB0 (by omega)
        by_cases p0 : a = b
        · have e0a : ((a : Int) == (b : Int)) = true := by rw [beq_iff_eq]; omega
          have e0b : (a == b) = true := by rw [beq_iff_eq]; omega
          have e0c : ((a : Int) != (b : Int)) = false := by unfold bne; rw [e0a]; rfl
          have e0d : (a != b) = false := by unfold bne; rw [e0b]; rfl
          by_cases p1 : a = 3
          · have e1a : ((a : Int) == 3) = true := by rw [beq_iff_eq]; omega
            have e1b : (a == 3) = true := by rw [beq_iff_eq]; omega
            have e1c : ((a : Int) != 3) = false := by unfold bne; rw [e1a]; rfl
            have e1d : (a != 3) = false := by unfold bne; rw [e1b]; rfl
            have HV : Hid (T = 0) := Lib.hid (by rw [← HR, show ruleF 12 a b c = (if a = b ∧ a ≠ 3 then 3 else 0) from rfl, if_neg (fun h => h.2 p1)])
            clear HR p0 p1
            go_wp2_with fail
            go_ret
            exact Ret.mk (by rw [HV.out]; rfl) q2
          · have e1a : ((a : Int) == 3) = false := by rw [beq_eq_false_iff_ne]; omega
            have e1b : (a == 3) = false := by rw [beq_eq_false_iff_ne]; omega
            have e1c : ((a : Int) != 3) = true := by unfold bne; rw [e1a]; rfl
            have e1d : (a != 3) = true := by unfold bne; rw [e1b]; rfl
            have HV : Hid (T = 3) := Lib.hid (by rw [← HR, show ruleF 12 a b c = (if a = b ∧ a ≠ 3 then 3 else 0) from rfl, if_pos ⟨p0, p1⟩])
            clear HR p0 p1
            go_wp2_with fail
            go_ret
            exact Ret.mk (by rw [HV.out]; rfl) q2
        · have e0a : ((a : Int) == (b : Int)) = false := by rw [beq_eq_false_iff_ne]; omega
          have e0b : (a == b) = false := by rw [beq_eq_false_iff_ne]; omega
          have e0c : ((a : Int) != (b : Int)) = true := by unfold bne; rw [e0a]; rfl
          have e0d : (a != b) = true := by unfold bne; rw [e0b]; rfl
          have HV : Hid (T = 0) := Lib.hid (by rw [← HR, show ruleF 12 a b c = (if a = b ∧ a ≠ 3 then 3 else 0) from rfl, if_neg (fun h => p0 h.1)])
          clear HR p0
          go_wp2_with fail
          go_ret
          exact Ret.mk (by rw [HV.out]; rfl) q2
      · skip
        replace hA0 := hA0 (by omega)
        replace hB0 := hB0 (by omega)
        by_cases p0 : a = 3
        · have e0a : ((a : Int) == 3) = true := by rw [beq_iff_eq]; omega
          have e0b : (a == 3) = true := by rw [beq_iff_eq]; omega
          have e0c : ((a : Int) != 3) = false := by unfold bne; rw [e0a]; rfl
          have e0d : (a != 3) = false := by unfold bne; rw [e0b]; rfl
          by_cases p1 : b = 3
          · have e1a : ((b : Int) == 3) = true := by rw [beq_iff_eq]; omega
            have e1b : (b == 3) = true := by rw [beq_iff_eq]; omega
            have e1c : ((b : Int) != 3) = false := by unfold bne; rw [e1a]; rfl
            have e1d : (b != 3) = false := by unfold bne; rw [e1b]; rfl
            have HV : Hid (T = 3) := Lib.hid (by rw [← HR, show ruleF 13 a b c = (if a = 3 ∧ b = 3 then 3 else 0) from rfl, if_pos ⟨p0, p1⟩])
            clear HR p0 p1
            go_wp2_with fail
            go_ret
            exact Ret.mk (by rw [HV.out]; rfl) q2
          · have e1a : ((b : Int) == 3) = false := by rw [beq_eq_false_iff_ne]; omega
            have e1b : (b == 3) = false := by rw [beq_eq_false_iff_ne]; omega
            have e1c : ((b : Int) != 3) = true := by unfold bne; rw [e1a]; rfl
            have e1d : (b != 3) = true := by unfold bne; rw [e1b]; rfl
            have HV : Hid (T = 0) := Lib.hid (by rw [← HR, show ruleF 13 a b c = (if a = 3 ∧ b = 3 then 3 else 0) from rfl, if_neg (fun h => p1 h.2)])
            clear HR p0 p1
            go_wp2_with fail
            go_ret
            exact Ret.mk (by rw [HV.out]; rfl) q2
        · have e0a : ((a : Int) == 3) = false := by rw [beq_eq_false_iff_ne]; omega
          have e0b : (a == 3) = false := by rw [beq_eq_false_iff_ne]; omega
          have e0c : ((a : Int) != 3) = true := by unfold bne; rw [e0a]; rfl
          have e0d : (a != 3) = true := by unfold bne; rw [e0b]; rfl
          have HV : Hid (T = 0) := Lib.hid (by rw [← HR, show ruleF 13 a b c = (if a = 3 ∧ b = 3 then 3 else 0) from rfl, if_neg (fun h => p0 h.1)])
          clear HR p0
          go_wp2_with fail
          go_ret
          exact Ret.mk (by rw [HV.out]; rfl) q2
      · skip
        replace hA0 := hA0 (by omega)
        replace hB0 := hB0 (by omega)
        by_cases p0 : a = 3
        · have e0a : ((a : Int) == 3) = true := by rw [beq_iff_eq]; omega
          have e0b : (a == 3) = true := by rw [beq_iff_eq]; omega
          have e0c : ((a : Int) != 3) = false := by unfold bne; rw [e0a]; rfl
          have e0d : (a != 3) = false := by unfold bne; rw [e0b]; rfl
          by_cases p1 : b = 3
          · have e1a : ((b : Int) == 3) = true := by rw [beq_iff_eq]; omega
            have e1b : (b == 3) = true := by rw [beq_iff_eq]; omega
            have e1c : ((b : Int) != 3) = false := by unfold bne; rw [e1a]; rfl
            have e1d : (b != 3) = false := by unfold bne; rw [e1b]; rfl
            have HV : Hid (T = 3) := Lib.hid (by rw [← HR, show ruleF 14 a b c = (if a = 3 ∧ b = 3 then 3 else 0) from rfl, if_pos ⟨p0, p1⟩])
            clear HR p0 p1
            go_wp2_with fail
            go_ret
            exact Ret.mk (by rw [HV.out]; rfl) q2
          · have e1a : ((b : Int) == 3) = false := by rw [beq_eq_false_iff_ne]; omega
            have e1b : (b == 3) = false := by rw [beq_eq_false_iff_ne]; omega
            have e1c : ((b : Int) != 3) = true := by unfold bne; rw [e1a]; rfl
            have e1d : (b != 3) = true := by unfold bne; rw [e1b]; rfl
            have HV : Hid (T = 0) := Lib.hid (by rw [← HR, show ruleF 14 a b c = (if a = 3 ∧ b = 3 then 3 else 0) from rfl, if_neg (fun h => p1 h.2)])
            clear HR p0 p1
            go_wp2_with fail
            go_ret
            exact Ret.mk (by rw [HV.out]; rfl) q2
        · have e0a : ((a : Int) == 3) = false := by rw [beq_eq_false_iff_ne]; omega
          have e0b : (a == 3) = false := by rw [beq_eq_false_iff_ne]; omega
          have e0c : ((a : Int) != 3) = true := by unfold bne; rw [e0a]; rfl
          have e0d : (a != 3) = true := by unfold bne; rw [e0b]; rfl
          have HV : Hid (T = 0) := Lib.hid (by rw [← HR, show ruleF 14 a b c = (if a = 3 ∧ b = 3 then 3 else 0) from rfl, if_neg (fun h => p0 h.1)])
          clear HR p0
          go_wp2_with fail
          go_ret
          exact Ret.mk (by rw [HV.out]; rfl) q2
end Go.Proofs.Ytbkcpcjdpfndpaa
