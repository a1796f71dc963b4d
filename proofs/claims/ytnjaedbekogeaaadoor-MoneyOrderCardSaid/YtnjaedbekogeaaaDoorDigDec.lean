/-
  The reference: the text of an integer is that of the library.
-/
import Derived.Test.YtnjaedbekogeaaaDoorDigRef
import Derived.Laws.IdiomStrings
namespace Go.Proofs.YtnjaedbekogeaaaDoor
open Go.RowKit Go.Shelf
set_option maxRecDepth 100000

/-- the digits, the lowest one first; none for 0 -/
def rd (u : Nat) : List UInt8 := if h : u = 0 then [] else UInt8.ofNat (48 + u % 10) :: rd (u / 10)
termination_by u
decreasing_by omega
theorem rd_zero : rd 0 = [] := by rw [rd]; simp
theorem rd_pos {u : Nat} (h : 0 < u) : rd u = UInt8.ofNat (48 + u % 10) :: rd (u / 10) := by rw [rd, dif_neg (by omega)]
theorem dec_rd : ∀ (u : Nat), 0 < u → Lib.decDigits u = (rd u).reverse := by
  intro u
  induction u using Nat.strongRecOn with
  | _ u ih =>
    intro h
    rw [Lib.decDigits, rd_pos h, List.reverse_cons]
    split
    · next h10 => rw [show u / 10 = 0 by omega, rd_zero, show u % 10 = u by omega]; rfl
    · next h10 => rw [ih (u / 10) (by omega) (by omega)]
theorem rd_len : ∀ (k u : Nat), u < 10 ^ k → (rd u).length ≤ k := by
  intro k
  induction k with
  | zero => intro u h; obtain rfl : u = 0 := by omega
            rw [rd_zero]; simp
  | succ k ih =>
    intro u h
    by_cases h0 : u = 0
    · rw [h0, rd_zero]; simp
    · rw [rd_pos (by omega), List.length_cons]
      have := ih (u / 10) (by rw [Nat.pow_succ] at h; omega)
      omega
theorem itoa_rd (n : Int) (h : n ≠ 0) : Lib.itoa n = (rd n.natAbs ++ (if n < 0 then [45] else [])).reverse := by
  unfold Lib.itoa
  split
  · next hn => rw [dec_rd _ (by omega), List.reverse_append]; rfl
  · next hn => rw [dec_rd _ (by omega), List.append_nil, show n.toNat = n.natAbs by omega]

theorem byte_one {l : List UInt8} : ∀ u ∈ l.map vB, u.oneCell' = true := by
  intro u hu
  obtain ⟨x, _, rfl⟩ := List.mem_map.1 hu
  rfl
theorem byte_row {w : World} {B : Nat} {x : Value} {c : Nat} (h : Own w B [x]) : Row w (.slice (some ⟨B, 0, none⟩) 1 c) [x] := by
  refine ⟨⟨_, _, rfl⟩, fun ad n cap e i hi => ?_, by simp, fun n cap e => by cases e⟩
  cases e
  obtain ⟨c0, _, z⟩ := h.one
  refine ⟨_, rfl, z, ?_⟩
  have : i = 0 := by simpa using hi
  subst this
  rw [add_zero0]; exact c0

theorem conv_bytes {w : World} {base : Nat} {v : Value} {l : List UInt8} (h : OwnRow w base 5 v (l.map vB)) (hl : 0 < l.length) : (convert 66 9 v).run Tryd.prog w = .ok (.string ⟨l.toArray⟩) w := by
  obtain ⟨_, ⟨_, h0⟩ | ⟨g, cap', cur, hv, _, hh, _, _, _, hct⟩⟩ := h
  · simp at h0; simp [h0] at hl
  · rw [hv, List.length_map]
    refine run_convert_bytes_back w _ _ 5 _ cap' l Tryd.underlying66 Tryd.underlying5 Tryd.underlying9 fun j hj => ?_
    rw [add_zero0]
    have h2 : (cur.toList.take ((l.map vB).length * 1))[j]? = some (vB l[j]) := by rw [hct]; simp [hj]
    rw [List.getElem?_take] at h2
    split at h2
    · simpa [World.cell?, hh, vB] using h2
    · cases h2

set_option maxHeartbeats 4000000 in
theorem decimal_any (n : Int) (hn : I64 n) (w : World) : Calls Tryd.prog 35 #[.int .i64 n] w (Ret (.string ⟨(Lib.itoa n).toArray⟩) w) := by
  have hn1 := hn.1
  have hn2 := hn.2
  by_cases h0 : n = 0
  · subst h0
    have e0 : Lib.itoa 0 = [48] := by rw [Lib.itoa, if_neg (by omega), Lib.decDigits, dif_pos (by decide)]; rfl
    rw [e0]
    go_enter Tryd.func35, Tryd.ntmps35
    go_wp2_with fail
    go_ret
    exact Ret.mk rfl (by (repeat (first | exact Below.refl _ _ | assumption | refine Below.drew ?_ | refine below_drewN ?_ _ | refine Below.setCell ?_ (by first | omega | (simp <;> omega)) _ | refine Below.alloc ?_ (by first | omega | (simp <;> omega)) _)))
  have hlen := rd_len 19 n.natAbs (by omega)
  generalize hres : Lib.itoa n = res
  rw [itoa_rd n h0] at hres
  replace hres := Lib.hid hres
  have hne : (n == 0) = false := by simpa using h0
  clear h0
  go_enter Tryd.func35, Tryd.ntmps35
  go_wp2_with fail
  go_loopw [3, 4] (fun v m wr => ∃ (u : Nat) (x : Int) (l : List UInt8), m = .int .i64 x ∧ x.natAbs = u ∧ (n < 0 → x ≤ 0) ∧ (0 < n → 0 ≤ x) ∧ I64 x ∧ rd n.natAbs = l ++ rd u ∧ OwnRow wr w.heap.size 5 v (l.map vB) ∧ Below w.heap.size w wr)
    (fun _ m _ => (intOf m).natAbs)
  case atStart => exact ⟨_, n, [], rfl, rfl, by omega, by omega, hn, rfl, OwnRow.nil _ _ _, Below.refl _ _⟩
  case round =>
    obtain ⟨u, x, l, rfl, hu, hs1, hs2, hx, hrd, hown, hb⟩ := hrel
    have hx1 := hx.1
    have hx2 := hx.2
    have h0 : ¬ n = 0 := by simpa using hne
    by_cases hx0 : x = 0
    · subst hx0
      have hu0 : u = 0 := by omega
      subst hu0
      rw [rd_zero, List.append_nil] at hrd
      rw [hrd] at hlen
      have hpos : 0 < l.length := by rw [← hrd, rd_pos (by omega)]; simp
      have hlen' : (l.map vB).length ≤ 19 := by simpa using hlen
      by_cases hneg : n < 0
      · go_wp2_with (at_builtin; refine app_row _ rfl _ _ 66 rfl w.heap.size 5 (.int .u8 0) 1 Tryd.underlying66 Tryd.infoU8 rfl (by decide) _ (l.map vB) rfl (own_below hown ((Below.refl _ wr).alloc (Nat.le_refl _) _)) _ [vB 45] rfl (byte_row (Own.new _ #[vB 45] _)) (by intro u hu; simp at hu; subst hu; rfl) (by simp; omega) (by have := hb.size; simp; omega) ?_; intro v2 w2 hown2 hx2; refine Hid.out ?_)
        have hb2 : Below w.heap.size w w2 := hb.trans ((((Below.refl _ wr).alloc (Nat.le_refl _) _).mono hb.size).trans hx2)
        obtain ⟨l2, hl2, hl20, hown2⟩ : ∃ l2, l2.reverse = res ∧ (0 < l2.length ∧ l2.length ≤ 20) ∧ OwnRow w2 w.heap.size 5 v2 (l2.map vB) :=
          ⟨l ++ [45], by rw [← hres.out, hrd, if_pos hneg], by simp; omega, by rw [List.map_append]; exact hown2⟩
        clear hown hres hrd hb hlen hlen' h0 hs1 hs2 hx hx1 hx2 hpos hneg hu

        have hlr : l2.reverse = res := hl2
        have hll : l2.length ≤ 20 := hl20.2
        have hlp : 0 < l2.length := hl20.1
        have hlt2 : ∀ wr, Below w2.heap.size w2 wr → Row wr _ (l2.map vB) := fun wr h => (Row.of_own hown2 (by simp; omega)).below h
        obtain ⟨ad2, cap2, hv2⟩ := (hlt2 w2 (Below.refl _ _)).shape
        rw [List.length_map] at hv2
        subst hv2
        clear hown2 hl2 hl20
        refine Lib.hid ?_
        go_wp2_with fail
        go_loopw [6, 7] (fun vo i wr => ∃ k : Nat, k ≤ l2.length ∧ i = .int .i64 ((l2.length : Int) - 1 - k) ∧ OwnRow wr w2.heap.size 5 vo ((l2.reverse.take k).map vB) ∧ Below w2.heap.size w2 wr)
          (fun _ i _ => (intOf i + 1).toNat)
        case atStart => exact ⟨0, by omega, by congr 1; omega, OwnRow.nil _ _ _, Below.refl _ _⟩
        case round =>
          obtain ⟨k, hk, rfl, hown3, hb3⟩ := hrel
          by_cases hkl : k < l2.length
          · obtain ⟨j, hj⟩ : ∃ j : Nat, (l2.length : Int) - 1 - k = (j : Int) := ⟨l2.length - 1 - k, by omega⟩
            have hjl : j < l2.length := by omega
            rw [hj]
            obtain ⟨q, rfl, hab, hc⟩ := (hlt2 wr hb3).cells _ _ _ rfl j (by simpa using hjl)
            rw [List.getElem_map, vB] at hc
            have hlen3 : ((l2.reverse.take k).map vB).length ≤ 20 := by simp; omega
            go_wp2_with (at_builtin; refine app_row _ rfl _ _ 66 rfl w2.heap.size 5 (.int .u8 0) 1 Tryd.underlying66 Tryd.infoU8 rfl (by decide) _ ((l2.reverse.take k).map vB) rfl (own_below hown3 ((Below.refl _ wr).alloc (Nat.le_refl _) _)) _ [vB l2[j]] rfl (byte_row (Own.new _ #[vB l2[j]] _)) (by intro u hu; simp at hu; subst hu; rfl) (by simp; omega) (by have := hb3.size; simp; omega) ?_; intro v3 w3 hown3' hx3; refine Hid.out ?_)
            refine Lib.hid ?_
            go_wp2_with fail
            go_roundw
            case rel =>
              refine ⟨k + 1, by omega, by congr 1; omega, ?_, hb3.trans ((((Below.refl _ wr).alloc (Nat.le_refl _) _).mono hb3.size).trans hx3)⟩
              rw [List.take_succ_eq_append_getElem (by simpa using hkl), List.map_append, List.getElem_reverse]
              have : l2.length - 1 - k = j := by omega
              simp only [this]
              exact hown3'
            case measure => simp [intOf] <;> omega
          · rw [List.take_of_length_le (by simp; omega), hlr] at hown3
            have hconv := conv_bytes hown3 (by rw [← hlr]; simpa using hlp)
            go_wp2_with fail
            go_ret
            exact Ret.mk rfl (hb2.trans (hb3.mono hb2.size))
      · obtain ⟨l2, hl2, hl20, hown2⟩ : ∃ l2, l2.reverse = res ∧ (0 < l2.length ∧ l2.length ≤ 20) ∧ OwnRow wr w.heap.size 5 _ (l2.map vB) :=
          ⟨l, by rw [← hres.out, hrd, if_neg hneg, List.append_nil], ⟨hpos, by omega⟩, hown⟩
        clear hown hres hrd hlen hlen' h0 hs1 hs2 hx hx1 hx2 hpos hu
        rename World => w2
        have hb2 := hb
        clear hb

        have hlr : l2.reverse = res := hl2
        have hll : l2.length ≤ 20 := hl20.2
        have hlp : 0 < l2.length := hl20.1
        have hlt2 : ∀ wr, Below w2.heap.size w2 wr → Row wr _ (l2.map vB) := fun wr h => (Row.of_own hown2 (by simp; omega)).below h
        obtain ⟨ad2, cap2, hv2⟩ := (hlt2 w2 (Below.refl _ _)).shape
        rw [List.length_map] at hv2
        subst hv2
        clear hown2 hl2 hl20
        go_wp2_with fail
        go_loopw [6, 7] (fun vo i wr => ∃ k : Nat, k ≤ l2.length ∧ i = .int .i64 ((l2.length : Int) - 1 - k) ∧ OwnRow wr w2.heap.size 5 vo ((l2.reverse.take k).map vB) ∧ Below w2.heap.size w2 wr)
          (fun _ i _ => (intOf i + 1).toNat)
        case atStart => exact ⟨0, by omega, by congr 1; omega, OwnRow.nil _ _ _, Below.refl _ _⟩
        case round =>
          obtain ⟨k, hk, rfl, hown3, hb3⟩ := hrel
          by_cases hkl : k < l2.length
          · obtain ⟨j, hj⟩ : ∃ j : Nat, (l2.length : Int) - 1 - k = (j : Int) := ⟨l2.length - 1 - k, by omega⟩
            have hjl : j < l2.length := by omega
            rw [hj]
            obtain ⟨q, rfl, hab, hc⟩ := (hlt2 wr hb3).cells _ _ _ rfl j (by simpa using hjl)
            rw [List.getElem_map, vB] at hc
            have hlen3 : ((l2.reverse.take k).map vB).length ≤ 20 := by simp; omega
            go_wp2_with (at_builtin; refine app_row _ rfl _ _ 66 rfl w2.heap.size 5 (.int .u8 0) 1 Tryd.underlying66 Tryd.infoU8 rfl (by decide) _ ((l2.reverse.take k).map vB) rfl (own_below hown3 ((Below.refl _ wr).alloc (Nat.le_refl _) _)) _ [vB l2[j]] rfl (byte_row (Own.new _ #[vB l2[j]] _)) (by intro u hu; simp at hu; subst hu; rfl) (by simp; omega) (by have := hb3.size; simp; omega) ?_; intro v3 w3 hown3' hx3; refine Hid.out ?_)
            refine Lib.hid ?_
            go_wp2_with fail
            go_roundw
            case rel =>
              refine ⟨k + 1, by omega, by congr 1; omega, ?_, hb3.trans ((((Below.refl _ wr).alloc (Nat.le_refl _) _).mono hb3.size).trans hx3)⟩
              rw [List.take_succ_eq_append_getElem (by simpa using hkl), List.map_append, List.getElem_reverse]
              have : l2.length - 1 - k = j := by omega
              simp only [this]
              exact hown3'
            case measure => simp [intOf] <;> omega
          · rw [List.take_of_length_le (by simp; omega), hlr] at hown3
            have hconv := conv_bytes hown3 (by rw [← hlr]; simpa using hlp)
            go_wp2_with fail
            go_ret
            exact Ret.mk rfl (hb2.trans (hb3.mono hb2.size))
    · have hu0 : 0 < u := by omega
      have hlen19 : (rd n.natAbs).length ≤ 19 := hlen
      rw [rd_pos hu0] at hrd
      have ht1 : (x.tmod 10).natAbs = u % 10 := by rw [Int.natAbs_tmod, hu]; rfl
      have ht2 : (x.tdiv 10).natAbs = u / 10 := by rw [Int.natAbs_tdiv, hu]; rfl
      have ht5 : x.tmod 10 + 10 * x.tdiv 10 = x := Int.tmod_add_mul_tdiv x 10
      have ht3 : -10 < x.tmod 10 := by omega
      have ht4 : x.tmod 10 < 10 := by omega
      clear h0
      by_cases hneg : x.tmod 10 < 0
      · have hv8 : Value.int .u8 (48 + -x.tmod 10) = vB (UInt8.ofNat (48 + u % 10)) := by unfold vB; congr 1; rw [show (UInt8.ofNat (48 + u % 10)).toNat = 48 + u % 10 by simp; omega]; omega
        replace hv8 := Lib.hid hv8
        have hlen'' : l.length ≤ 19 := by have := congrArg List.length hrd; simp at this; omega
        go_wp2_with (at_builtin; go_loud (refine app_row _ rfl _ _ 66 rfl w.heap.size 5 (.int .u8 0) 1 Tryd.underlying66 Tryd.infoU8 rfl (by decide) _ (l.map vB) rfl (own_below hown ((Below.refl _ wr).alloc (Nat.le_refl _) _)) _ [.int .u8 (48 + -x.tmod 10)] rfl (byte_row (Own.new _ #[.int .u8 (48 + -x.tmod 10)] _)) (by intro u hu; simp at hu; subst hu; rfl) (by simp; omega) (by have := hb.size; simp; omega) ?_; intro v2 w2 hown2 hx2; refine Hid.out ?_))
        have hb2 : Below w.heap.size w w2 := hb.trans ((((Below.refl _ wr).alloc (Nat.le_refl _) _).mono hb.size).trans hx2)
        refine Lib.hid ?_
        go_wp2_with fail
        go_roundw
        case rel =>
          refine ⟨_, x.tdiv 10, l ++ [(UInt8.ofNat (48 + u % 10))], rfl, ht2, by omega, by omega, ⟨by omega, by omega⟩, by rw [hrd, List.append_assoc]; rfl, ?_, hb2⟩
          rw [List.map_append, List.map_singleton, ← hv8.out]; exact hown2
        case measure => show (x.tdiv 10).natAbs < x.natAbs; omega
      · have hv8 : Value.int .u8 (48 + x.tmod 10) = vB (UInt8.ofNat (48 + u % 10)) := by unfold vB; congr 1; rw [show (UInt8.ofNat (48 + u % 10)).toNat = 48 + u % 10 by simp; omega]; omega
        replace hv8 := Lib.hid hv8
        have hlen'' : l.length ≤ 19 := by have := congrArg List.length hrd; simp at this; omega
        go_wp2_with (at_builtin; go_loud (refine app_row _ rfl _ _ 66 rfl w.heap.size 5 (.int .u8 0) 1 Tryd.underlying66 Tryd.infoU8 rfl (by decide) _ (l.map vB) rfl (own_below hown ((Below.refl _ wr).alloc (Nat.le_refl _) _)) _ [.int .u8 (48 + x.tmod 10)] rfl (byte_row (Own.new _ #[.int .u8 (48 + x.tmod 10)] _)) (by intro u hu; simp at hu; subst hu; rfl) (by simp; omega) (by have := hb.size; simp; omega) ?_; intro v2 w2 hown2 hx2; refine Hid.out ?_))
        have hb2 : Below w.heap.size w w2 := hb.trans ((((Below.refl _ wr).alloc (Nat.le_refl _) _).mono hb.size).trans hx2)
        refine Lib.hid ?_
        go_wp2_with fail
        go_roundw
        case rel =>
          refine ⟨_, x.tdiv 10, l ++ [(UInt8.ofNat (48 + u % 10))], rfl, ht2, by omega, by omega, ⟨by omega, by omega⟩, by rw [hrd, List.append_assoc]; rfl, ?_, hb2⟩
          rw [List.map_append, List.map_singleton, ← hv8.out]; exact hown2
        case measure => show (x.tdiv 10).natAbs < x.natAbs; omega
end Go.Proofs.YtnjaedbekogeaaaDoor
