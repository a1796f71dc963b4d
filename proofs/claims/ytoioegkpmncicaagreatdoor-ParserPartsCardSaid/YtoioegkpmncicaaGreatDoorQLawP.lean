/-
  The walk of ParserParts.
-/
import Derived.Test.YtoioegkpmncicaaGreatDoorQt
import Derived.Test.YtoioegkpmncicaaGreatDoorQf
import Derived.Test.YtoioegkpmncicaaGreatDoorQv
import Derived.Laws.AppendOwnNone
namespace Go.Proofs.YtoioegkpmncicaaGreatDoor
open Go.RowKit Go.Shelf
set_option maxRecDepth 100000

theorem rates_one (c : List Value) (w : World) (rs : List Rt) (h : RatesC (fun _ => False) w rs c) : ∀ u ∈ c, u.oneCell' = true := by
  induction rs generalizing c with
  | nil => intro u hu; rw [h] at hu; cases hu
  | cons r rs ih =>
    obtain ⟨c1, c2, rfl, ⟨ad, cap, ad2, cap2, rfl, _, _⟩, h2⟩ := h
    intro u hu
    rcases List.mem_append.1 hu with hu | hu
    · unfold rateC at hu
      simp only [List.mem_cons, List.not_mem_nil, or_false] at hu
      rcases hu with rfl | rfl | rfl | rfl | rfl | rfl | rfl | rfl | rfl | rfl | rfl | rfl | rfl | rfl | rfl | rfl <;> rfl
    · exact ih c2 h2 u hu
/-- rates behind an own row of rates -/
theorem run_app_rates (b0 : Nat) (w : World) (ty : TypeId) (base : Nat) (v : Value) (rs ss : List Rt) (cs ds : List Value) (hv : v ≠ .slice none 0 0) (hown : w.ownsRow base 47 16 v rs.length cs) (hrc : RatesC (Qv b0 v) w rs cs) (vx : Value) (b2 : Nat) (hown2 : w.ownsRow b2 47 16 vx ss.length ds) (hrc2 : RatesC (Qv b0 v) w ss ds) (hl : rs.length + ss.length ≤ 1000) (hB : base ≤ w.heap.size) :
    ∃ v' w', (Builtin.append_ #[31, 31] ty #[v, vx]).run Tryz.prog w = .ok v' w' ∧ w'.ownsRow base 47 16 v' (rs ++ ss).length (cs ++ ds) ∧ RatesC (Qv b0 v') w' (rs ++ ss) (cs ++ ds) ∧ v' ≠ .slice none 0 0 ∧ Below base w w' := by
  obtain ⟨i0, hi, hz0, hz1, hzz⟩ : ∃ i, Tryz.prog.info? 47 = some i ∧ i.zero = some (.agg #[.int .i64 0, .int .i64 0, .int .i64 0, .int .i64 0, .int .i64 0, .int .i64 0, .int .i64 0, .int .i64 0, .int .i64 0, .int .i64 0, .int .i64 0, .int .i64 0, .slice none 0 0, .int .i64 0, .int .i64 0, .slice none 0 0]) ∧ i.size = 16 ∧ i.bytes = 160 := by
    have := Tryz.infoRate
    cases hq : Tryz.prog.info? 47 with
    | none => rw [hq] at this; simp at this
    | some i => rw [hq] at this; simp at this; exact ⟨i, rfl, this.1, this.2.1, this.2.2⟩
  have hone := rates_one ds w ss hrc2.free
  have hlen : (rs ++ ss).length = rs.length + ss.length := List.length_append
  obtain ⟨l0, ⟨rfl, hn⟩ | ⟨g, cap, cur, rfl, _, hh, _, _, _, hct⟩⟩ := hown2
  · have e : ss = [] := List.length_eq_zero_iff.1 hn
    subst e
    have e2 : ds = [] := hrc2
    subst e2
    exact ⟨v, w, run_append_owned_none (P := Tryz.prog) (w := w) base 31 ty 47 i0 16 Tryz.underlying31 hi v _ cs hown, by simpa using hown, by simpa using hrc, hv, Below.refl _ _⟩
  · by_cases h0 : ss = []
    · subst h0
      have e2 : ds = [] := hrc2
      subst e2
      obtain ⟨m0, ⟨hv0, _⟩ | ⟨g2, cap2, cur2, rfl, hbg, hh2, hnc, hcm, hcs, hct2⟩⟩ := hown
      · exact absurd hv0 hv
      · have hr := run_append_room (P := Tryz.prog) w 31 ty 47 i0 Tryz.underlying31 hi g2 rs.length cap2 cur2 hh2 ⟨g, 0, none⟩ 0 cap [] (by simp) (fun j u hj => by simp at hj) (fun u hu => by cases hu) (by omega) (by rw [hz1, hcs]; simp; exact Nat.mul_le_mul_right _ hnc)
        have ec : (cur2.toList.take (rs.length * i0.size) ++ [] ++ cur2.toList.drop (rs.length * i0.size + ([] : List Value).length)).toArray = cur2 := by simp
        rw [ec] at hr
        have hsame : ∀ k, k < w.heap.size → (w.setRow g2 cur2).heap[k]? = w.heap[k]? := fun k _ => by
          by_cases e : k = g2
          · rw [e, setRow_heap w g2 cur2 cur2 _ _ hh2, hh2]
          · exact setRow_other w g2 k cur2 e
        have hsz : w.heap.size ≤ (w.setRow g2 cur2).heap.size := by simp
        refine ⟨_, _, hr, by simpa using (show (w.setRow g2 cur2).ownsRow base 47 16 _ rs.length cs from ⟨m0, .inr ⟨g2, cap2, cur2, rfl, hbg, setRow_heap w g2 cur2 cur2 _ _ hh2, hnc, hcm, hcs, hct2⟩⟩), ?_, by simp, ⟨rfl, rfl, rfl, hsz, fun k hk => hsame k (by omega)⟩⟩
        simpa using hrc.go (R := Qv b0 (.slice (some ⟨g2, 0, none⟩) rs.length cap2)) hsz fun k hk hq => ⟨hsame k hk, hq⟩
    · have hpos : 0 < ss.length := List.length_pos_iff.2 h0
      have hnews : ∀ j u, ds[j]? = some u → w.cell? ((⟨g, 0, none⟩ : Addr).add j) = some u := by
        intro j u hj
        rw [xadd_zero0]
        rw [← hct, List.getElem?_take] at hj
        split at hj
        · simp only [World.cell?, hh]; simpa using hj
        · cases hj
      obtain ⟨v', w', hr, hown', hg, _⟩ := run_append_own (P := Tryz.prog) w base 31 ty 47 i0 (.agg #[.int .i64 0, .int .i64 0, .int .i64 0, .int .i64 0, .int .i64 0, .int .i64 0, .int .i64 0, .int .i64 0, .int .i64 0, .int .i64 0, .int .i64 0, .int .i64 0, .slice none 0 0, .int .i64 0, .int .i64 0, .slice none 0 0]) 16 160 Tryz.underlying31 hi hz0 hz1 hzz rfl (by decide) v rs.length cs hown ⟨g, 0, none⟩ ss.length cap ds l0 hnews hone (by unfold maxLen; omega) (by omega) hB
      have hwh := append_where Tryz.underlying31 hi hz0 hz1 hzz hown l0 hnews hone hpos (by unfold maxLen; omega) (by omega) hr
      have hrow : ∀ r, v.ownBlock = some r → base ≤ r := fun r hr => (lown_row hown r hr).1
      have hstep : ∀ k, k < w.heap.size → ¬ Qv b0 v k → w'.heap[k]? = w.heap[k]? ∧ ¬ Qv b0 v' k := fun k hk hq => by
        refine ⟨hg.block k hk (by intro e; exact hq (.inr e.symm)), ?_⟩
        rintro (h | h)
        · exact hq (.inl h)
        · rcases hwh k h with h2 | h2
          · exact hq (.inr h2)
          · omega
      refine ⟨v', w', hr, by rw [hlen]; exact hown', RatesC.app (hrc2.go hg.size hstep) (hrc.go hg.size hstep), ?_, (Below.refl base w).grown hg hB (fun r hr => hrow r hr)⟩
      rintro rfl
      obtain ⟨_, ⟨_, h9⟩ | ⟨_, _, _, h9, _⟩⟩ := hown'
      · omega
      · cases h9
section
variable {ops : Array Oper} {rest : List Oper} {o : Oper} {a : Act} {Q : Exit → Act → World → Prop}
theorem wpList_asked {w : World} (hg : Region.wanted o (yielded ops a.tmps) = true) (h : ∀ K : Act → World → Prop, (∀ a w, wpList Tryz.prog ops Q rest a w → K a w) → o.wp Tryz.prog a w K Q) : wpList Tryz.prog ops Q (o :: rest) a w :=
  wpList_step fun K hK => by rw [if_pos hg]; exact h K hK
theorem app_rates {w : World} (hg : Region.wanted o (yielded ops a.tmps) = true) (s x : Operand) (ho : o.op = .call { callee := .builtin .append, args := #[s, x], argTypes := #[31, 31] })
    (v vx : Value) (hs : a.eval s = v) (hx : a.eval x = vx) (p : Value → World → Prop) (hr : ∃ v' w', (Builtin.append_ #[31, 31] o.type #[v, vx]).run Tryz.prog w = .ok v' w' ∧ p v' w')
    (h : ∀ v' w', p v' w' → wpList Tryz.prog ops Q rest (a.put o.dst v') w') : wpList Tryz.prog ops Q (o :: rest) a w := by
  obtain ⟨v', w', hr, hp⟩ := hr
  refine wpList_asked hg fun K hK => ?_
  unfold Oper.wp execOp
  simp only [ho, resolve, invoke, builtin, Sem.run_bind, Sem.run_pure, Result.andThen_ok, List.map_toArray, List.map_cons, List.map_nil, hs, hx, hr]
  exact hK _ _ (h v' w' hp)
end
set_option maxHeartbeats 3200000 in
theorem lawP_long (hHd : ∀ w, Lay w → Calls Tryz.prog 10 #[] w (Ret (.bool true) w)) (s t : List UInt8) (w : World) (hL : Lay w) (hl : 1500 < s.length ∨ 1500 < t.length) : Calls Tryz.prog 5 #[.string ⟨s.toArray⟩, .string ⟨t.toArray⟩] w (Ret (.bool true) w) := by
  have hsz := bsz8 s
  have htz := bsz8 t
  by_cases h1 : 1500 < s.length
  · have q0 : decide (1500 < (s.length : Int)) = true := by rw [decide_eq_true_iff]; omega
    have q1 : decide (1500 < s.length) = true := by rw [decide_eq_true_iff]; exact h1
    go_enter Tryz.func5, Tryz.ntmps5
    go_wp2_with fail
    refine (hHd w hL).mono ?_
    rintro e w1 ⟨rfl, hb⟩
    go_wp2_with fail
    go_ret
    exact Ret.mk rfl hb
  · have q0 : decide (1500 < (s.length : Int)) = false := by rw [decide_eq_false_iff_not]; omega
    have q1 : decide (1500 < s.length) = false := by rw [decide_eq_false_iff_not]; exact h1
    have q2 : decide (1500 < (t.length : Int)) = true := by rw [decide_eq_true_iff]; omega
    have q3 : decide (1500 < t.length) = true := by rw [decide_eq_true_iff]; omega
    go_enter Tryz.func5, Tryz.ntmps5
    go_wp2_with fail
    refine (hHd w hL).mono ?_
    rintro e w1 ⟨rfl, hb⟩
    go_wp2_with fail
    go_ret
    exact Ret.mk rfl hb
set_option maxHeartbeats 6400000 in
theorem lawP_any (hHd : ∀ w, Lay w → Calls Tryz.prog 10 #[] w (Ret (.bool true) w)) (s t : List UInt8) (w : World) (hL : Lay w) : Calls Tryz.prog 5 #[.string ⟨s.toArray⟩, .string ⟨t.toArray⟩] w (Ret (.bool true) w) := by
  by_cases hl : 1500 < s.length ∨ 1500 < t.length
  · exact lawP_long hHd s t w hL hl
  have hsz := bsz8 s
  have htz := bsz8 t
  have h10 : (⟨#[10]⟩ : ByteArray).size = 1 := rfl
  have q0 : decide (1500 < (s.length : Int)) = false := by rw [decide_eq_false_iff_not]; omega
  have q1 : decide (1500 < s.length) = false := by rw [decide_eq_false_iff_not]; omega
  have q2 : decide (1500 < (t.length : Int)) = false := by rw [decide_eq_false_iff_not]; omega
  have q3 : decide (1500 < t.length) = false := by rw [decide_eq_false_iff_not]; omega
  have ha1 : ¬ (9223372036854775807 < s.length + 1) := by omega
  have ha2 : ¬ (9223372036854775807 < (s.length : Int) + 1) := by omega
  have ha3 : (s.length : Int) + 1 ≤ 9223372036854775807 := by omega
  have ha4 : ¬ (9223372036854775807 < s.length + 1 + t.length) := by omega
  have ha5 : ¬ (9223372036854775807 < (s.length : Int) + 1 + (t.length : Int)) := by omega
  have ha6 : (s.length : Int) + 1 + (t.length : Int) ≤ 9223372036854775807 := by omega
  have HP : Hid (∀ (a b : List (List Xp)) (n m : Nat), RP s a 0 n → RP t b 0 m → a.length + b.length ≤ 100 → RP (s ++ 10 :: t) (a ++ b) 0 0) := Lib.hid fun a b n m h1 h2 h3 => rates_parts (by omega) (by omega) h1 h2 h3
  have hR1 : ∀ w1, Below w.heap.size w w1 → Calls Tryz.prog 17 #[.string ⟨s.toArray⟩] w1 (RsEnd s w1) := fun w1 h => prates_any s w1 (hL.below h)
  have hR2 : ∀ w1, Below w.heap.size w w1 → Calls Tryz.prog 17 #[.string ⟨t.toArray⟩] w1 (RsEnd t w1) := fun w1 h => prates_any t w1 (hL.below h)
  have hR3 : ∀ w1, Below w.heap.size w w1 → Calls Tryz.prog 17 #[.string ((⟨s.toArray⟩ : ByteArray) ++ ⟨#[10]⟩ ++ ⟨t.toArray⟩)] w1 (RL (s ++ 10 :: t) w1) := fun w1 h => by
    have e : (⟨s.toArray⟩ : ByteArray) ++ ⟨#[10]⟩ ++ ⟨t.toArray⟩ = ⟨(s ++ 10 :: t).toArray⟩ := by
      rw [show (⟨#[10]⟩ : ByteArray) = ⟨[10].toArray⟩ from rfl, bapp, bapp, List.append_assoc]; rfl
    rw [e]
    exact rates_law _ w1 (hL.below h)
  have hH := hHd w hL
  clear hl hHd hL
  have hST : (⟨s.toArray⟩ : ByteArray).size + (⟨#[10]⟩ : ByteArray).size = s.length + 1 := by rw [hsz, h10]
  have hcat : ((⟨s.toArray⟩ : ByteArray) ++ ⟨#[10]⟩).size = s.length + 1 := by rw [show (⟨#[10]⟩ : ByteArray) = ⟨[10].toArray⟩ from rfl, bapp, bsz8]; simp
  generalize (⟨s.toArray⟩ : ByteArray) = S at *
  generalize (⟨t.toArray⟩ : ByteArray) = T at *
  go_enter Tryz.func5, Tryz.ntmps5
  go_wp2_with fail
  refine hH.mono ?_
  rintro e w1 ⟨rfl, hb⟩
  go_wp2_with fail
  refine (hR1 _ hb).mono ?_
  rintro e w2 ⟨rs, ec, n, v2, c2, p1, rfl, hl1, own1, rc1, hx⟩
  replace hb := hb.trans (hx.mono hb.size)
  clear hx
  go_wp2_with fail
  refine (hR2 _ hb).mono ?_
  rintro e w3 ⟨ss, ec2, n2, v3, c3, p2, rfl, hl2, own2, rc2, hx⟩
  replace own1 := lown_below own1 hx
  replace rc1 := rc1.below hx
  replace hb := hb.trans (hx.mono hb.size)
  clear hx hR1 hR2 hH
  obtain ⟨ad, cap, hv2⟩ : ∃ ad cap, v2 = .slice ad rs.length cap := (rsl_own own1 rc1 (by omega)).shape
  obtain ⟨bd, bap, hv3⟩ : ∃ ad cap, v3 = .slice ad ss.length cap := (rsl_own own2 rc2 (by omega)).shape
  subst hv2 hv3
  by_cases h0 : ec = 0
  case neg =>
    have g1 : ((ec : Int) != 0) = true := by rw [bne_iff_ne]; omega
    have g2 : (ec != 0) = true := by rw [bne_iff_ne]; exact h0
    clear own1 rc1 own2 rc2 p1 p2
    go_wp2_with fail
    go_ret
    exact Ret.mk rfl hb
  subst h0
  by_cases h0 : ec2 = 0
  case neg =>
    have g1 : ((ec2 : Int) != 0) = true := by rw [bne_iff_ne]; omega
    have g2 : (ec2 != 0) = true := by rw [bne_iff_ne]; exact h0
    clear own1 rc1 own2 rc2 p1 p2
    go_wp2_with fail
    go_ret
    exact Ret.mk rfl hb
  subst h0
  have hws : IntKind.i64.wrap ((rs.length : Int) + (ss.length : Int)) = (rs.length : Int) + (ss.length : Int) := IntWalk.i64_in _ (by omega)
  by_cases hbig : rs.length + ss.length ≤ 100
  case neg =>
    have g1 : decide ((rs.length : Int) + (ss.length : Int) > 100) = true := by rw [decide_eq_true_iff]; omega
    have g2 : decide (100 < rs.length + ss.length) = true := by rw [decide_eq_true_iff]; omega
    have g3 : decide (100 < (rs.length : Int) + (ss.length : Int)) = true := by rw [decide_eq_true_iff]; omega
    clear own1 rc1 own2 rc2 p1 p2
    go_wp2_with fail
    go_ret
    exact Ret.mk rfl hb
  have g1 : decide ((rs.length : Int) + (ss.length : Int) > 100) = false := by rw [decide_eq_false_iff_not]; omega
  have g2 : decide (100 < rs.length + ss.length) = false := by rw [decide_eq_false_iff_not]; omega
  have g3 : decide (100 < (rs.length : Int) + (ss.length : Int)) = false := by rw [decide_eq_false_iff_not]; omega
  have p3 := HP.out _ _ _ _ p1 p2 (by rw [List.length_map, List.length_map]; exact hbig)
  rw [← List.map_append] at p3
  clear p1 p2 HP
  go_wp2_with fail
  refine (hR3 _ hb).mono ?_
  rintro e w4 ⟨us, ec3, n3, v4, p4, rfl, hl3, r4, hx⟩
  obtain ⟨e1, rfl, rfl⟩ := p4.det p3
  have e2 := tl_inj e1
  subst e2
  replace own1 := lown_below own1 hx
  replace rc1 := rc1.below hx
  replace own2 := lown_below own2 hx
  replace rc2 := rc2.below hx
  replace hb := hb.trans (hx.mono hb.size)
  clear hx p3 p4 e1 hR3
  have z4 := hb.size
  have bA : Below w4.heap.size w4 (w4.alloc (.cells #[] 47)) := Below.alloc (Below.refl _ _) (Nat.le_refl _) _
  have own0 : (w4.alloc (.cells #[] 47)).ownsRow w4.heap.size 47 16 (.slice (some ⟨w4.heap.size, 0, none⟩) 0 0) ([] : List Rt).length [] := ⟨rfl, .inr ⟨w4.heap.size, 0, #[], rfl, Nat.le_refl _, (MapKept.heap_alloc w4 _).1, Nat.le_refl _, by decide, rfl, rfl⟩⟩
  have RA := fun ty => run_app_rates 0 (w4.alloc (.cells #[] 47)) ty w4.heap.size (.slice (some ⟨w4.heap.size, 0, none⟩) 0 0) [] rs [] c2 (by simp) own0 rfl _ _ (lown_below own1 bA)
    (RatesC.below (rc1.bars (R := Qv 0 (.slice (some ⟨w4.heap.size, 0, none⟩) 0 0)) fun k hk hq => by rcases hq with h | h; omega; simp only [Value.ownBlock, Option.some.injEq] at h; omega) bA) (by simp; omega) (by rw [alloc_size]; omega)
  have HC := Lib.hid own2
  have HD := Lib.hid rc2
  clear own1 rc1 own0 own2 rc2
  go_wp2_with (first
    | (at_builtin; refine app_rates (by kernel_rfl) _ _ rfl v5 (.slice bd ss.length bap) rfl rfl _ (run_app_rates 0 w5 _ w4.heap.size v5 ([] ++ rs) ss ([] ++ c2) c3 hv5 own5 rc5 _ _ (lown_below HC.out (bA.trans hb5)) (RatesC.below (HD.out.bars (R := Qv 0 v5) fun k hk hq => by rcases hq with h | h; omega; have := (lown_row own5 k h).1; omega) (bA.trans hb5)) (by simp; omega) (by have := (bA.trans hb5).size; omega)) ?_; rintro v6 w6 ⟨own6, rc6, hv6, hb6⟩)
    | (at_builtin; refine app_rates (by kernel_rfl) _ _ rfl (.slice (some ⟨w4.heap.size, 0, none⟩) 0 0) (.slice ad rs.length cap) rfl rfl _ (RA _) ?_; rintro v5 w5 ⟨own5, rc5, hv5, hb5⟩))
  have b46 := (bA.trans hb5).trans hb6
  have hS := sameRates_any _ _ _ w6 (r4.below b46) (rsl_own own6 rc6 (by simp; omega))
  refine hS.mono ?_
  rintro e w7 ⟨rfl, hx⟩
  have hbf := (hb.trans (b46.mono z4)).trans (hx.mono (Nat.le_trans z4 b46.size))
  clear own5 rc5 own6 rc6 HC HD RA hS
  go_wp2_with fail
  go_ret
  exact Ret.mk rfl hbf
end Go.Proofs.YtoioegkpmncicaaGreatDoor
