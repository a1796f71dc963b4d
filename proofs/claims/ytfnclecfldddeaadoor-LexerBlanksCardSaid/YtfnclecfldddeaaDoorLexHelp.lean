/-
  few, lines, flat.
-/
import Derived.Test.YtfnclecfldddeaaDoorLexHead
namespace Go.Proofs.YtfnclecfldddeaaDoor
open Go.RowKit Go.Shelf
set_option maxRecDepth 100000

def fewF (l : List RT) : Bool := decide (l.length ≤ 60) && l.all fun x => decide (x.t.length ≤ 200)
theorem few_short {l : List RT} (h : fewF l = true) : l.length ≤ 60 ∧ ∀ x ∈ l, x.t.length ≤ 200 := by
  unfold fewF at h
  rw [Bool.and_eq_true, decide_eq_true_eq, List.all_eq_true] at h
  exact ⟨h.1, fun x hx => by simpa using h.2 x hx⟩
theorem all_take {l : List RT} {k : Nat} (hk : k < l.length) (p : RT → Bool) : (l.take (k + 1)).all p = ((l.take k).all p && p l[k]) := by
  rw [List.take_succ_eq_append_getElem hk, List.all_append]; congr 1; simp only [List.all_cons, List.all_nil, Bool.and_true]
theorem all_sub {l : List RT} {k : Nat} (hk : k < l.length) {p : RT → Bool} (h : p l[k] = false) : l.all p = false := by
  rw [Bool.eq_false_iff]; intro ha; rw [List.all_eq_true] at ha; rw [ha _ (List.getElem_mem hk)] at h; cases h
set_option maxHeartbeats 2000000 in
theorem few_any (v : Value) (l : List RT) (w : World) (hT : Toks w v l) : Calls Tryd.prog 9 #[v] w (Ret (.bool (fewF l)) w) := by
  obtain ⟨ad, cap, rfl⟩ := hT.open
  have hsh := hT.short
  go_enter Tryd.func9, Tryd.ntmps9
  go_wp2_with fail
  go_loopw [7] (fun i wr => ∃ k : Nat, k ≤ l.length ∧ k ≤ 61 ∧ i = .int .i64 k ∧ (l.take k).all (fun x => decide (x.t.length ≤ 200)) = true ∧ Below w.heap.size w wr) (fun i _ => l.length - (intOf i).toNat)
  case atStart => exact ⟨0, Nat.zero_le _, by omega, rfl, rfl, Below.refl _ _⟩
  case round =>
    obtain ⟨k, hk, hk61, rfl, hall, hbr⟩ := hrel
    have HA := Lib.hid hall
    clear hall
    by_cases hkl : k < l.length
    · obtain ⟨a, rfl, c0, c1, c2, hab⟩ := hT.reads hbr (Nat.le_refl _) k hkl
      have hst := all_take hkl (fun x => decide (x.t.length ≤ 200))
      have hsb := all_sub hkl (p := fun x => decide (x.t.length ≤ 200))
      have hts := hT.ints l[k] (List.getElem_mem hkl)
      generalize l[k] = x at c0 c1 c2 hst hsb hts
      obtain ⟨xk, xn, xt⟩ := x
      simp only at c0 c1 c2 hst hsb hts
      have hz := bsz xt
      generalize (⟨xt.toArray⟩ : ByteArray) = XB at *
      have HS := Lib.hid hst
      have HB := Lib.hid hsb
      clear hst hsb
      by_cases h60 : 60 < k
      · have h60' : decide (60 < (k : Int)) = true := by rw [decide_eq_true_eq]; omega
        have HF : Hid (fewF l = false) := Lib.hid (by unfold fewF; rw [show decide (l.length ≤ 60) = false by simp; omega]; rfl)
        clear h60
        go_wp2_with fail
        go_ret
        exact Ret.mk (by rw [HF.out]; rfl) (belB hbr _)
      · have h60' : decide (60 < (k : Int)) = false := by rw [decide_eq_false_iff_not]; omega
        by_cases h200 : 200 < xt.length
        · have h200' : decide (200 < (xt.length : Int)) = true := by rw [decide_eq_true_eq]; omega
          have HF : Hid (fewF l = false) := Lib.hid (by unfold fewF; rw [HB.out (by rw [decide_eq_false_iff_not]; omega), Bool.and_false])
          clear h200
          go_wp2_with fail
          go_ret
          exact Ret.mk (by rw [HF.out]; rfl) (belB hbr _)
        · have h200' : decide (200 < (xt.length : Int)) = false := by rw [decide_eq_false_iff_not]; omega
          have HN : Hid ((l.take (k + 1)).all (fun x => decide (x.t.length ≤ 200)) = true) := Lib.hid (by rw [HS.out, HA.out, Bool.true_and, decide_eq_true_eq]; omega)
          have hk2 : k + 1 ≤ 61 := by omega
          clear h200 h60
          go_wp2_with fail
          go_roundw
          case rel => exact ⟨k + 1, by omega, hk2, by go_num, HN.out, belB hbr _⟩
          case measure => simp [intOf]; omega
    · have hke : l.length ≤ k := by omega
      have HF : Hid (fewF l = decide (l.length ≤ 60)) := Lib.hid (by
        have h := HA.out
        rw [List.take_of_length_le hke] at h
        unfold fewF; rw [h, Bool.and_true])
      obtain ⟨b, hb⟩ : ∃ b, decide (l.length ≤ 60) = b := ⟨_, rfl⟩
      rw [hb] at HF
      have hb2 : decide ((l.length : Int) ≤ 60) = b := by rw [← hb, decide_eq_decide]; omega
      clear hb
      go_wp2_with fail
      go_ret
      exact Ret.mk (by rw [HF.out]; rfl) hbr

set_option maxHeartbeats 2000000 in
theorem lines_any (s : List UInt8) (hs : s.length ≤ 1000000) (w : World) : Calls Tryd.prog 17 #[.string ⟨s.toArray⟩] w (Same (.int .i64 (nl s)) w) := by
  have hz := bsz s
  have hget := bget s
  generalize (⟨s.toArray⟩ : ByteArray) = S at *
  have HZ := Lib.hid hz
  have HG := Lib.hid hget
  have hz2 : S.size ≤ 1000000 := by omega
  clear hz hget
  go_enter Tryd.func17, Tryd.ntmps17
  go_wp2_with fail
  go_loop [3, 7] (fun n i => ∃ k : Nat, k ≤ s.length ∧ i = .int .i64 k ∧ n = .int .i64 (nl (s.take k)) ∧ nl (s.take k) ≤ k) (fun _ i => s.length - (intOf i).toNat)
  case atStart => exact ⟨0, Nat.zero_le _, rfl, rfl, Nat.zero_le _⟩
  case round =>
    obtain ⟨k, hk, rfl, rfl, hnk⟩ := hrel
    by_cases hkl : k < s.length
    · have hlt : k < S.size := by rw [HZ.out]; exact hkl
      obtain ⟨c, hc⟩ : ∃ c, s[k]? = some c := ⟨_, List.getElem?_eq_getElem hkl⟩
      have hel := HG.out k c hc hlt
      have hst : nl (s.take (k + 1)) = nl (s.take k) + (if c = 10 then 1 else 0) := by
        rw [List.take_add_one, hc, nl_app]; congr 1; show nl [c] = _; rw [nl_cons]; show nl [] + _ = _; simp [nl]
      obtain ⟨N, hN⟩ : ∃ N, nl (s.take k) = N := ⟨_, rfl⟩
      rw [hN] at hst hnk ⊢
      have HST := Lib.hid hst
      clear hst hc hN
      by_cases h10 : c = 10
      · subst h10
        have e10 : (((10 : UInt8).toNat : Int) == 10) = true := rfl
        go_wp2_with fail
        go_round
        case rel => exact ⟨k + 1, by omega, by go_num, by rw [HST.out]; go_num, by rw [HST.out]; simp; omega⟩
        case measure => simp [intOf]; omega
      · have n10 : (((c.toNat : Nat) : Int) == 10) = false := by rw [beq_eq_false_iff_ne]; intro e; exact h10 (UInt8.toNat_inj.1 (by show c.toNat = 10; omega))
        have HS2 : Hid (nl (s.take (k + 1)) = N) := Lib.hid (by rw [HST.out, if_neg h10]; rfl)
        clear h10
        go_wp2_with fail
        go_round
        case rel => exact ⟨k + 1, by omega, by go_num, by rw [HS2.out], by rw [HS2.out]; omega⟩
        case measure => simp [intOf]; omega
    · have hle : s.length ≤ k := by omega
      rw [List.take_of_length_le hle]
      have hSp : decide (k < S.size) = false := by rw [HZ.out]; simp; omega
      clear hnk hle hkl
      go_wp2_with fail
      go_ret
      exact ⟨rfl, rfl⟩

set_option maxHeartbeats 2000000 in
theorem flat_any (v : Value) (l : List RT) (w : World) (hT : Toks w v l) (hl : l.length ≤ 5000) : Calls Tryd.prog 16 #[v] w (fun e w' => ∃ u, e = .returned u ∧ Toks w' u (l.map flatR) ∧ Below w.heap.size w w') := by
  obtain ⟨ad, cap, rfl⟩ := hT.open
  obtain ⟨i0, hi, hz0, hz1, hzz⟩ := info_parts Tryd.infoTok
  go_enter Tryd.func16, Tryd.ntmps16
  go_wp2_with fail
  go_loopw [3, 8] (fun v i wr => ∃ k : Nat, k ≤ l.length ∧ i = .int .i64 k ∧ wr.ownsRow w.heap.size 36 3 v k (((l.take k).map flatR).flatMap rtC) ∧ Below w.heap.size w wr) (fun _ i _ => l.length - (intOf i).toNat)
  case atStart => exact ⟨0, Nat.zero_le _, rfl, World.ownsRow_nil _ _ _ _, Below.refl _ _⟩
  case round =>
    obtain ⟨k, hk, rfl, hown, hbr⟩ := hrel
    have hbs := hbr.size
    by_cases hkl : k < l.length
    · obtain ⟨a, rfl, c0, c1, c2, hab⟩ := hT.reads hbr (Nat.le_refl _) k hkl
      have hst : ((l.take (k + 1)).map flatR).flatMap rtC = ((l.take k).map flatR).flatMap rtC ++ rtC (flatR l[k]) := by
        rw [List.take_succ_eq_append_getElem hkl, List.map_append, List.flatMap_append]; simp only [List.map_cons, List.map_nil, List.flatMap_cons, List.flatMap_nil, List.append_nil]
      generalize l[k] = x at c0 c1 c2 hst
      obtain ⟨xk, xn, xt⟩ := x
      simp only at c0 c1 c2
      have hst2 : ((l.take (k + 1)).map flatR).flatMap rtC = ((l.take k).map flatR).flatMap rtC ++ [.int .i64 xk, .int .i64 0, .string ⟨xt.toArray⟩] := hst
      generalize (⟨xt.toArray⟩ : ByteArray) = XB at *
      have HS := Lib.hid hst2
      clear hst hst2
      obtain ⟨ad, cap, rfl⟩ := lown_shape hown
      go_wp2_with (at_builtin; refine wpList_append_own _ rfl _ _ 22 rfl w.heap.size 36 i0 (.agg #[.int .i64 0, .int .i64 0, .string ⟨#[]⟩]) 3 32 Tryd.underlying22 hi hz0 hz1 hzz rfl (by decide) _ _ _ rfl ((hown.alloc _).alloc _) ⟨wr.heap.size + 1, 0, none⟩ 1 1 [.int .i64 xk, .int .i64 0, .string XB] rfl rfl (by intro j u hj; match j, hj with | 0, hj => (simp at hj; subst hj; simp [Addr.add]) | 1, hj => (simp at hj; subst hj; simp [Addr.add]) | 2, hj => (simp at hj; subst hj; simp [Addr.add])) (by intro u hu; simp at hu; rcases hu with rfl | rfl | rfl <;> rfl) (by unfold maxLen; omega) (by omega) (by simp; omega) ?_; intro v' w1 hown' hgrow _)
      go_roundw
      case rel =>
        refine ⟨k + 1, by omega, by go_num, ?_, ((hbr.alloc hbs _).alloc (by simp; omega) _).grown hgrow (by simp; omega) (fun k hk => (lown_row hown k hk).1)⟩
        rw [HS.out]; exact hown'
      case measure => simp [intOf]; omega
    · have hke : k = l.length := by omega
      subst hke
      rw [List.take_length] at hown
      go_wp2_with fail
      go_ret
      have hT2 := (toks_of_own hown (by
        intro x hx
        obtain ⟨y, hy, rfl⟩ := List.mem_map.1 hx
        have := hT.ints y hy
        exact ⟨this.1, ⟨by show (-9223372036854775808 : Int) ≤ 0; decide, by show (0 : Int) ≤ 9223372036854775807; decide⟩, this.2.2⟩) (by rw [List.length_map]; omega)).2
      exact ⟨_, rfl, hT2, hbr⟩
end Go.Proofs.YtfnclecfldddeaaDoor
