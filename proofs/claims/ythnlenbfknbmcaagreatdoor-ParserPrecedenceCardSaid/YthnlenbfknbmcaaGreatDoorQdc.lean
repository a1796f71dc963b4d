/-
  The reference's Decimal, for this seat (in a namespace of its own, as the lexer's texts bear the same names): the text of an integer is that of the library.
-/
import Derived.Test.YthnlenbfknbmcaaGreatDoorQi
import Derived.Test.YthnlenbfknbmcaaGreatDoorQc
import Derived.Test.YthnlenbfknbmcaaGreatDoorQd
import Derived.Lib.ItoaNum
import Derived.LoopN
import Derived.Laws.AppendOwn
import Derived.Laws.AppendOwnNone
import Derived.Laws.IdiomStrings
import Derived.Test.YthnlenbfknbmcaaGreatDoorQg
import Derived.Test.YthnlenbfknbmcaaGreatDoorQh
import Derived.Shelf.Strings.BuilderK
import Derived.Lib.FrozenHead2
import Derived.Lib.OthersKept
import Derived.Shelf.Lay
import Derived.Ground.NamesProg
import Derived.Test.YthnlenbfknbmcaaGreatDoorQa
import Derived.Test.YthnlenbfknbmcaaGreatDoorProg
namespace Go.Proofs.YthnlenbfknbmcaaGreatDoor.Dg
open Go.RowKit Go.Shelf
set_option maxRecDepth 100000

def vB (x : UInt8) : Value := .int .u8 (x.toNat : Int)
/-- v is a slice whose places, one cell each, read xs -/
structure Row (w : World) (v : Value) (xs : List Value) : Prop where
  shape : ∃ ad cap, v = .slice ad xs.length cap
  cells : ∀ ad n cap, v = .slice ad n cap → ∀ i (h : i < xs.length), ∃ a, ad = some a ∧ a.block < w.heap.size ∧ w.cell? (a.add i) = some xs[i]
  short : xs.length ≤ 9223372036854775807
  bare : ∀ n cap, v = .slice none n cap → n = 0 ∧ cap = 0
theorem blk_add (a : Addr) (i : Nat) : (a.add i).block = a.block := by unfold Addr.add; split <;> rfl
theorem Row.below {w w1 : World} {v : Value} {l : List Value} (h : Row w v l) (hb : Below w.heap.size w w1) : Row w1 v l := by
  refine ⟨h.shape, fun ad n cap e i hi => ?_, h.short, h.bare⟩
  obtain ⟨a, h0, h1, h2⟩ := h.cells ad n cap e i hi
  exact ⟨a, h0, Nat.lt_of_lt_of_le h1 hb.size, (hb.cell (p := a.add i) (by rw [blk_add]; exact h1)).trans h2⟩
theorem Row.nil (w : World) : Row w (.slice none 0 0) [] := ⟨⟨_, _, rfl⟩, fun _ _ _ _ i h => by simp at h, by simp, fun n cap h => by cases h; exact ⟨rfl, rfl⟩⟩
theorem Tryz.infoU8 : (Tryz.prog.info? 5).map (fun i => (i.zero, i.size, i.bytes)) = some (some (.int .u8 0), 1, 1) := by kernel_rfl
/-- a slice of the call's own that reads xs, in blocks from base on -/
def OwnRow (w : World) (base : Nat) (e : TypeId) (v : Value) (xs : List Value) : Prop := w.ownsRow base e 1 v xs.length xs
theorem add_zero0 (g m : Nat) : (⟨g, 0, none⟩ : Addr).add m = ⟨g, m, none⟩ := by
  unfold Addr.add; split
  · next h => subst h; rfl
  · simp
theorem Row.of_own {w : World} {v : Value} {xs : List Value} {base : Nat} {e : TypeId} (h : OwnRow w base e v xs) (hs : xs.length ≤ 9223372036854775807) : Row w v xs := by
  obtain ⟨_, ⟨h1, h0⟩ | ⟨g, cap', cur, hv, _, hh, _, _, _, hct⟩⟩ := h
  · rw [List.length_eq_zero_iff] at h0
    subst h0 h1
    exact Row.nil w
  · refine ⟨⟨_, _, hv⟩, fun ad n cap e i hil => ?_, hs, fun n cap e => ?_⟩
    · rw [hv] at e; cases e
      refine ⟨_, rfl, (Array.getElem?_eq_some_iff.1 hh).1, ?_⟩
      rw [add_zero0]
      have h2 : (cur.toList.take (xs.length * 1))[i]? = some xs[i] := by rw [hct]; exact List.getElem?_eq_getElem hil
      rw [List.getElem?_take] at h2
      split at h2
      · simpa [World.cell?, hh] using h2
      · cases h2
    · rw [hv] at e; cases e
theorem own_below {w w1 : World} {base : Nat} {e : TypeId} {v : Value} {xs : List Value} (h : OwnRow w base e v xs) (hb : Below w.heap.size w w1) : OwnRow w1 base e v xs := by
  obtain ⟨h0, h1 | ⟨g, cap, cur, hv, hg, hh, hr⟩⟩ := h
  · exact ⟨h0, .inl h1⟩
  · exact ⟨h0, .inr ⟨g, cap, cur, hv, hg, (hb.block g (Array.getElem?_eq_some_iff.1 hh).1).trans hh, hr⟩⟩
theorem OwnRow.nil (w : World) (base : Nat) (e : TypeId) : OwnRow w base e (.slice none 0 0) [] := ⟨rfl, .inl ⟨rfl, rfl⟩⟩
/-- behind the append: the row is longer; only its own block has changed -/
theorem grown_below {w w' : World} {base : Nat} {e : TypeId} {v : Value} {xs : List Value} (ho : OwnRow w base e v xs) (hg : w.grownBy w' v.ownBlock) (hB : base ≤ w.heap.size) : Below base w w' := by
  refine (Below.refl base w).grown hg hB (fun k hk => ?_)
  obtain ⟨_, ⟨rfl, _⟩ | ⟨g, cap, cur, rfl, hg, _⟩⟩ := ho
  · cases hk
  · cases hk; exact hg

section
variable {ops : Array Oper} {rest : List Oper} {o : Oper} {a : Act} {Q : Exit → Act → World → Prop}
theorem app_row (w : World) (hgd : o.guard = none) (s x : Operand) (t : TypeId) (ho : o.op = .call { callee := .builtin .append, args := #[s, x], argTypes := #[t, t] })
    (base : Nat) (e : TypeId) (z : Value) (bytes : Nat) (ht : Tryz.prog.underlying t = some (.slice e)) (hi : (Tryz.prog.info? e).map (fun i => (i.zero, i.size, i.bytes)) = some (some z, 1, bytes)) (hz : z.cells.size = 1) (h24 : bytes ≤ 24)
    (v : Value) (xs : List Value) (hs : a.eval s = v) (hown : OwnRow w base e v xs) (vx : Value) (ys : List Value) (hx : a.eval x = vx) (hr : Row w vx ys) (h1 : ∀ u ∈ ys, u.oneCell' = true)
    (hlim : xs.length + ys.length ≤ 1000000000) (hB : base ≤ w.heap.size)
    (h : ∀ v' w', OwnRow w' base e v' (xs ++ ys) → Below base w w' → wpList Tryz.prog ops Q rest (a.put o.dst v') w') : wpList Tryz.prog ops Q (o :: rest) a w := by
  obtain ⟨i, hi, hz0, hz1, hz2⟩ := info_parts hi
  obtain ⟨ad, cap, rfl⟩ := hr.shape
  cases ad with
  | none =>
    obtain ⟨h0, rfl⟩ := hr.bare _ _ rfl
    rw [h0] at hx
    rw [List.length_eq_zero_iff] at h0
    subst h0
    refine wpList_append_own_none hgd s x t ho base e i 1 ht hi v _ xs hs hown hx ?_
    have := h v w (by rw [List.append_nil]; exact hown) (Below.refl _ _)
    exact this
  | some ad =>
    refine wpList_append_own w hgd s x t ho base e i z 1 bytes ht hi hz0 hz1 hz2 hz (by decide) v xs.length xs hs hown ad ys.length cap ys hx (by simp) ?_ h1 (by unfold maxLen; omega) (by have := Nat.mul_le_mul hlim h24; omega) hB ?_
    · intro j u hj
      obtain ⟨hl, rfl⟩ := List.getElem?_eq_some_iff.1 hj
      obtain ⟨a', e', _, hc⟩ := hr.cells _ _ _ rfl j hl
      cases e'; exact hc
    · intro v' w' hown' hg _
      exact h v' w' (by unfold OwnRow; rw [List.length_append]; exact hown') (grown_below hown hg hB)
end
/-- the digits, the lowest one first; none for 0 -/
def rd (u : Nat) : List UInt8 := if h : u = 0 then [] else UInt8.ofNat (48 + u % 10) :: rd (u / 10)
termination_by u
decreasing_by omega
theorem rd_zero : rd 0 = [] := by rw [rd]; simp
theorem rd_pos {u : Nat} (h : 0 < u) : rd u = UInt8.ofNat (48 + u % 10) :: rd (u / 10) := by rw [rd, dif_neg (by omega)]
theorem dec_rd : ∀ (u : Nat), 0 < u → Lib.decDigits u = (rd u).reverse := by
  intro u
  induction u using Nat.strongRecOn with
  | _ u ih =>
    intro h
    rw [Lib.decDigits, rd_pos h, List.reverse_cons]
    split
    · next h10 => rw [show u / 10 = 0 by omega, rd_zero, show u % 10 = u by omega]; rfl
    · next h10 => rw [ih (u / 10) (by omega) (by omega)]
theorem rd_len : ∀ (k u : Nat), u < 10 ^ k → (rd u).length ≤ k := by
  intro k
  induction k with
  | zero => intro u h; obtain rfl : u = 0 := by omega
            rw [rd_zero]; simp
  | succ k ih =>
    intro u h
    by_cases h0 : u = 0
    · rw [h0, rd_zero]; simp
    · rw [rd_pos (by omega), List.length_cons]
      have := ih (u / 10) (by rw [Nat.pow_succ] at h; omega)
      omega
theorem itoa_rd (n : Int) (h : n ≠ 0) : Lib.itoa n = (rd n.natAbs ++ (if n < 0 then [45] else [])).reverse := by
  unfold Lib.itoa
  split
  · next hn => rw [dec_rd _ (by omega), List.reverse_append]; rfl
  · next hn => rw [dec_rd _ (by omega), List.append_nil, show n.toNat = n.natAbs by omega]
theorem byte_one {l : List UInt8} : ∀ u ∈ l.map vB, u.oneCell' = true := by
  intro u hu
  obtain ⟨x, _, rfl⟩ := List.mem_map.1 hu
  rfl
theorem byte_row {w : World} {B : Nat} {x : Value} {c : Nat} (h : Own w B [x]) : Row w (.slice (some ⟨B, 0, none⟩) 1 c) [x] := by
  refine ⟨⟨_, _, rfl⟩, fun ad n cap e i hi => ?_, by simp, fun n cap e => by cases e⟩
  cases e
  obtain ⟨c0, _, z⟩ := h.one
  refine ⟨_, rfl, z, ?_⟩
  have : i = 0 := by simpa using hi
  subst this
  rw [add_zero0]; exact c0
theorem conv_bytes {w : World} {base : Nat} {v : Value} {l : List UInt8} (h : OwnRow w base 5 v (l.map vB)) (hl : 0 < l.length) : (convert 82 9 v).run Tryz.prog w = .ok (.string ⟨l.toArray⟩) w := by
  obtain ⟨_, ⟨_, h0⟩ | ⟨g, cap', cur, hv, _, hh, _, _, _, hct⟩⟩ := h
  · simp at h0; simp [h0] at hl
  · rw [hv, List.length_map]
    refine run_convert_bytes_back w _ _ 5 _ cap' l Tryz.underlying82 Tryz.underlying5 Tryz.underlying9 fun j hj => ?_
    rw [add_zero0]
    have h2 : (cur.toList.take ((l.map vB).length * 1))[j]? = some (vB l[j]) := by rw [hct]; simp [hj]
    rw [List.getElem?_take] at h2
    split at h2
    · simpa [World.cell?, hh, vB] using h2
    · cases h2
set_option maxHeartbeats 4000000 in
theorem decimal_any (n : Int) (hn : I64 n) (w : World) : Calls Tryz.prog 19 #[.int .i64 n] w (Ret (.string ⟨(Lib.itoa n).toArray⟩) w) := by
  have hn1 := hn.1
  have hn2 := hn.2
  by_cases h0 : n = 0
  · subst h0
    have e0 : Lib.itoa 0 = [48] := by rw [Lib.itoa, if_neg (by omega), Lib.decDigits, dif_pos (by decide)]; rfl
    rw [e0]
    go_enter Tryz.func19, Tryz.ntmps19
    go_wp2_with fail
    go_ret
    exact Ret.mk rfl (by (repeat (first | exact Below.refl _ _ | assumption | refine Below.drew ?_ | refine below_drewN ?_ _ | refine Below.setCell ?_ (by first | omega | (simp <;> omega)) _ | refine Below.alloc ?_ (by first | omega | (simp <;> omega)) _)))
  have hlen := rd_len 19 n.natAbs (by omega)
  generalize hres : Lib.itoa n = res
  rw [itoa_rd n h0] at hres
  replace hres := Lib.hid hres
  have hne : (n == 0) = false := by simpa using h0
  clear h0
  go_enter Tryz.func19, Tryz.ntmps19
  go_wp2_with fail
  go_loopw [3, 4] (fun v m wr => ∃ (u : Nat) (x : Int) (l : List UInt8), m = .int .i64 x ∧ x.natAbs = u ∧ (n < 0 → x ≤ 0) ∧ (0 < n → 0 ≤ x) ∧ I64 x ∧ rd n.natAbs = l ++ rd u ∧ OwnRow wr w.heap.size 5 v (l.map vB) ∧ Below w.heap.size w wr)
    (fun _ m _ => (intOf m).natAbs)
  case atStart => exact ⟨_, n, [], rfl, rfl, by omega, by omega, hn, rfl, OwnRow.nil _ _ _, Below.refl _ _⟩
  case round =>
    obtain ⟨u, x, l, rfl, hu, hs1, hs2, hx, hrd, hown, hb⟩ := hrel
    have hx1 := hx.1
    have hx2 := hx.2
    have h0 : ¬ n = 0 := by simpa using hne
    by_cases hx0 : x = 0
    · subst hx0
      have hu0 : u = 0 := by omega
      subst hu0
      rw [rd_zero, List.append_nil] at hrd
      rw [hrd] at hlen
      have hpos : 0 < l.length := by rw [← hrd, rd_pos (by omega)]; simp
      have hlen' : (l.map vB).length ≤ 19 := by simpa using hlen
      by_cases hneg : n < 0
      · go_wp2_with (at_builtin; refine app_row _ rfl _ _ 82 rfl w.heap.size 5 (.int .u8 0) 1 Tryz.underlying82 Tryz.infoU8 rfl (by decide) _ (l.map vB) rfl (own_below hown ((Below.refl _ wr).alloc (Nat.le_refl _) _)) _ [vB 45] rfl (byte_row (Own.new _ #[vB 45] _)) (by intro u hu; simp at hu; subst hu; rfl) (by simp; omega) (by have := hb.size; simp; omega) ?_; intro v2 w2 hown2 hx2; refine Hid.out ?_)
        have hb2 : Below w.heap.size w w2 := hb.trans ((((Below.refl _ wr).alloc (Nat.le_refl _) _).mono hb.size).trans hx2)
        obtain ⟨l2, hl2, hl20, hown2⟩ : ∃ l2, l2.reverse = res ∧ (0 < l2.length ∧ l2.length ≤ 20) ∧ OwnRow w2 w.heap.size 5 v2 (l2.map vB) :=
          ⟨l ++ [45], by rw [← hres.out, hrd, if_pos hneg], by simp; omega, by rw [List.map_append]; exact hown2⟩
        clear hown hres hrd hb hlen hlen' h0 hs1 hs2 hx hx1 hx2 hpos hneg hu

        have hlr : l2.reverse = res := hl2
        have hll : l2.length ≤ 20 := hl20.2
        have hlp : 0 < l2.length := hl20.1
        have hlt2 : ∀ wr, Below w2.heap.size w2 wr → Row wr _ (l2.map vB) := fun wr h => (Row.of_own hown2 (by simp; omega)).below h
        obtain ⟨ad2, cap2, hv2⟩ := (hlt2 w2 (Below.refl _ _)).shape
        rw [List.length_map] at hv2
        subst hv2
        clear hown2 hl2 hl20
        refine Lib.hid ?_
        go_wp2_with fail
        go_loopw [6, 7] (fun vo i wr => ∃ k : Nat, k ≤ l2.length ∧ i = .int .i64 ((l2.length : Int) - 1 - k) ∧ OwnRow wr w2.heap.size 5 vo ((l2.reverse.take k).map vB) ∧ Below w2.heap.size w2 wr)
          (fun _ i _ => (intOf i + 1).toNat)
        case atStart => exact ⟨0, by omega, by congr 1; omega, OwnRow.nil _ _ _, Below.refl _ _⟩
        case round =>
          obtain ⟨k, hk, rfl, hown3, hb3⟩ := hrel
          by_cases hkl : k < l2.length
          · obtain ⟨j, hj⟩ : ∃ j : Nat, (l2.length : Int) - 1 - k = (j : Int) := ⟨l2.length - 1 - k, by omega⟩
            have hjl : j < l2.length := by omega
            rw [hj]
            obtain ⟨q, rfl, hab, hc⟩ := (hlt2 wr hb3).cells _ _ _ rfl j (by simpa using hjl)
            rw [List.getElem_map, vB] at hc
            have hlen3 : ((l2.reverse.take k).map vB).length ≤ 20 := by simp; omega
            go_wp2_with (at_builtin; refine app_row _ rfl _ _ 82 rfl w2.heap.size 5 (.int .u8 0) 1 Tryz.underlying82 Tryz.infoU8 rfl (by decide) _ ((l2.reverse.take k).map vB) rfl (own_below hown3 ((Below.refl _ wr).alloc (Nat.le_refl _) _)) _ [vB l2[j]] rfl (byte_row (Own.new _ #[vB l2[j]] _)) (by intro u hu; simp at hu; subst hu; rfl) (by simp; omega) (by have := hb3.size; simp; omega) ?_; intro v3 w3 hown3' hx3; refine Hid.out ?_)
            refine Lib.hid ?_
            go_wp2_with fail
            go_roundw
            case rel =>
              refine ⟨k + 1, by omega, by congr 1; omega, ?_, hb3.trans ((((Below.refl _ wr).alloc (Nat.le_refl _) _).mono hb3.size).trans hx3)⟩
              rw [List.take_succ_eq_append_getElem (by simpa using hkl), List.map_append, List.getElem_reverse]
              have : l2.length - 1 - k = j := by omega
              simp only [this]
              exact hown3'
            case measure => simp [intOf] <;> omega
          · rw [List.take_of_length_le (by simp; omega), hlr] at hown3
            have hconv := conv_bytes hown3 (by rw [← hlr]; simpa using hlp)
            go_wp2_with fail
            go_ret
            exact Ret.mk rfl (hb2.trans (hb3.mono hb2.size))
      · obtain ⟨l2, hl2, hl20, hown2⟩ : ∃ l2, l2.reverse = res ∧ (0 < l2.length ∧ l2.length ≤ 20) ∧ OwnRow wr w.heap.size 5 _ (l2.map vB) :=
          ⟨l, by rw [← hres.out, hrd, if_neg hneg, List.append_nil], ⟨hpos, by omega⟩, hown⟩
        clear hown hres hrd hlen hlen' h0 hs1 hs2 hx hx1 hx2 hpos hu
        rename World => w2
        have hb2 := hb
        clear hb

        have hlr : l2.reverse = res := hl2
        have hll : l2.length ≤ 20 := hl20.2
        have hlp : 0 < l2.length := hl20.1
        have hlt2 : ∀ wr, Below w2.heap.size w2 wr → Row wr _ (l2.map vB) := fun wr h => (Row.of_own hown2 (by simp; omega)).below h
        obtain ⟨ad2, cap2, hv2⟩ := (hlt2 w2 (Below.refl _ _)).shape
        rw [List.length_map] at hv2
        subst hv2
        clear hown2 hl2 hl20
        go_wp2_with fail
        go_loopw [6, 7] (fun vo i wr => ∃ k : Nat, k ≤ l2.length ∧ i = .int .i64 ((l2.length : Int) - 1 - k) ∧ OwnRow wr w2.heap.size 5 vo ((l2.reverse.take k).map vB) ∧ Below w2.heap.size w2 wr)
          (fun _ i _ => (intOf i + 1).toNat)
        case atStart => exact ⟨0, by omega, by congr 1; omega, OwnRow.nil _ _ _, Below.refl _ _⟩
        case round =>
          obtain ⟨k, hk, rfl, hown3, hb3⟩ := hrel
          by_cases hkl : k < l2.length
          · obtain ⟨j, hj⟩ : ∃ j : Nat, (l2.length : Int) - 1 - k = (j : Int) := ⟨l2.length - 1 - k, by omega⟩
            have hjl : j < l2.length := by omega
            rw [hj]
            obtain ⟨q, rfl, hab, hc⟩ := (hlt2 wr hb3).cells _ _ _ rfl j (by simpa using hjl)
            rw [List.getElem_map, vB] at hc
            have hlen3 : ((l2.reverse.take k).map vB).length ≤ 20 := by simp; omega
            go_wp2_with (at_builtin; refine app_row _ rfl _ _ 82 rfl w2.heap.size 5 (.int .u8 0) 1 Tryz.underlying82 Tryz.infoU8 rfl (by decide) _ ((l2.reverse.take k).map vB) rfl (own_below hown3 ((Below.refl _ wr).alloc (Nat.le_refl _) _)) _ [vB l2[j]] rfl (byte_row (Own.new _ #[vB l2[j]] _)) (by intro u hu; simp at hu; subst hu; rfl) (by simp; omega) (by have := hb3.size; simp; omega) ?_; intro v3 w3 hown3' hx3; refine Hid.out ?_)
            refine Lib.hid ?_
            go_wp2_with fail
            go_roundw
            case rel =>
              refine ⟨k + 1, by omega, by congr 1; omega, ?_, hb3.trans ((((Below.refl _ wr).alloc (Nat.le_refl _) _).mono hb3.size).trans hx3)⟩
              rw [List.take_succ_eq_append_getElem (by simpa using hkl), List.map_append, List.getElem_reverse]
              have : l2.length - 1 - k = j := by omega
              simp only [this]
              exact hown3'
            case measure => simp [intOf] <;> omega
          · rw [List.take_of_length_le (by simp; omega), hlr] at hown3
            have hconv := conv_bytes hown3 (by rw [← hlr]; simpa using hlp)
            go_wp2_with fail
            go_ret
            exact Ret.mk rfl (hb2.trans (hb3.mono hb2.size))
    · have hu0 : 0 < u := by omega
      have hlen19 : (rd n.natAbs).length ≤ 19 := hlen
      rw [rd_pos hu0] at hrd
      have ht1 : (x.tmod 10).natAbs = u % 10 := by rw [Int.natAbs_tmod, hu]; rfl
      have ht2 : (x.tdiv 10).natAbs = u / 10 := by rw [Int.natAbs_tdiv, hu]; rfl
      have ht5 : x.tmod 10 + 10 * x.tdiv 10 = x := Int.tmod_add_mul_tdiv x 10
      have ht3 : -10 < x.tmod 10 := by omega
      have ht4 : x.tmod 10 < 10 := by omega
      clear h0
      by_cases hneg : x.tmod 10 < 0
      · have hv8 : Value.int .u8 (48 + -x.tmod 10) = vB (UInt8.ofNat (48 + u % 10)) := by unfold vB; congr 1; rw [show (UInt8.ofNat (48 + u % 10)).toNat = 48 + u % 10 by simp; omega]; omega
        replace hv8 := Lib.hid hv8
        have hlen'' : l.length ≤ 19 := by have := congrArg List.length hrd; simp at this; omega
        go_wp2_with (at_builtin; go_loud (refine app_row _ rfl _ _ 82 rfl w.heap.size 5 (.int .u8 0) 1 Tryz.underlying82 Tryz.infoU8 rfl (by decide) _ (l.map vB) rfl (own_below hown ((Below.refl _ wr).alloc (Nat.le_refl _) _)) _ [.int .u8 (48 + -x.tmod 10)] rfl (byte_row (Own.new _ #[.int .u8 (48 + -x.tmod 10)] _)) (by intro u hu; simp at hu; subst hu; rfl) (by simp; omega) (by have := hb.size; simp; omega) ?_; intro v2 w2 hown2 hx2; refine Hid.out ?_))
        have hb2 : Below w.heap.size w w2 := hb.trans ((((Below.refl _ wr).alloc (Nat.le_refl _) _).mono hb.size).trans hx2)
        refine Lib.hid ?_
        go_wp2_with fail
        go_roundw
        case rel =>
          refine ⟨_, x.tdiv 10, l ++ [(UInt8.ofNat (48 + u % 10))], rfl, ht2, by omega, by omega, ⟨by omega, by omega⟩, by rw [hrd, List.append_assoc]; rfl, ?_, hb2⟩
          rw [List.map_append, List.map_singleton, ← hv8.out]; exact hown2
        case measure => show (x.tdiv 10).natAbs < x.natAbs; omega
      · have hv8 : Value.int .u8 (48 + x.tmod 10) = vB (UInt8.ofNat (48 + u % 10)) := by unfold vB; congr 1; rw [show (UInt8.ofNat (48 + u % 10)).toNat = 48 + u % 10 by simp; omega]; omega
        replace hv8 := Lib.hid hv8
        have hlen'' : l.length ≤ 19 := by have := congrArg List.length hrd; simp at this; omega
        go_wp2_with (at_builtin; go_loud (refine app_row _ rfl _ _ 82 rfl w.heap.size 5 (.int .u8 0) 1 Tryz.underlying82 Tryz.infoU8 rfl (by decide) _ (l.map vB) rfl (own_below hown ((Below.refl _ wr).alloc (Nat.le_refl _) _)) _ [.int .u8 (48 + x.tmod 10)] rfl (byte_row (Own.new _ #[.int .u8 (48 + x.tmod 10)] _)) (by intro u hu; simp at hu; subst hu; rfl) (by simp; omega) (by have := hb.size; simp; omega) ?_; intro v2 w2 hown2 hx2; refine Hid.out ?_))
        have hb2 : Below w.heap.size w w2 := hb.trans ((((Below.refl _ wr).alloc (Nat.le_refl _) _).mono hb.size).trans hx2)
        refine Lib.hid ?_
        go_wp2_with fail
        go_roundw
        case rel =>
          refine ⟨_, x.tdiv 10, l ++ [(UInt8.ofNat (48 + u % 10))], rfl, ht2, by omega, by omega, ⟨by omega, by omega⟩, by rw [hrd, List.append_assoc]; rfl, ?_, hb2⟩
          rw [List.map_append, List.map_singleton, ← hv8.out]; exact hown2
        case measure => show (x.tdiv 10).natAbs < x.natAbs; omega
end Go.Proofs.YthnlenbfknbmcaaGreatDoor.Dg
namespace Go.Proofs.YthnlenbfknbmcaaGreatDoor
open Go.RowKit Go.Shelf
set_option maxRecDepth 100000

theorem rdec_any (n : Nat) (h : n ≤ 1000000000) (w : World) : Calls Tryz.prog 19 #[.int .i64 n] w (Ret (.string ⟨(Lib.decDigits n).toArray⟩) w) := by
  have := Dg.decimal_any (n : Int) ⟨by omega, by omega⟩ w
  have e : Lib.itoa (n : Int) = Lib.decDigits n := by unfold Lib.itoa; rw [if_neg (by omega)]; simp
  rw [e] at this
  exact this
theorem bytes_app (a b : List UInt8) : (⟨a.toArray⟩ : ByteArray) ++ ⟨b.toArray⟩ = ⟨(a ++ b).toArray⟩ := by
  apply ByteArray.ext
  simp [ByteArray.data_append]
theorem rAmount_nat (a : Nat) (h : a ≤ 1000000000) (w : World) : Calls Tryz.prog 56 #[.int .i64 a] w (Same (.bool true) w) := by
  have h1 : decide (-1000000000 ≤ (a : Int)) = true := decide_eq_true (by omega)
  have h2 : decide ((a : Int) ≤ 1000000000) = true := decide_eq_true (by omega)
  go_enter Tryz.func56, Tryz.ntmps56
  go_wp2_with fail
  go_ret
  exact Same.mk rfl rfl
theorem dec_one (n : Nat) (h : n < 10) : Lib.decDigits n = [UInt8.ofNat (48 + n)] := by rw [Lib.decDigits, dif_pos h]
set_option maxHeartbeats 1000000 in
theorem rtext_any (a : Nat) (h : a ≤ 1000000000) (w : World) : Calls Tryz.prog 38 #[.int .i64 a] w (Ret (.tuple #[.string ⟨(monT a).toArray⟩, .int .i64 0]) w) := by
  have hb : Below w.heap.size w w := Below.refl _ _
  have hneg' : decide ((a : Int) < 0) = false := by simp
  have HT : Hid (monT a = Lib.decDigits (a / 100) ++ [46] ++ Lib.decDigits (a / 10 % 10) ++ Lib.decDigits (a % 10)) := Lib.hid (by
    unfold monT
    rw [dec_one (a / 10 % 10) (by omega), dec_one (a % 10) (by omega)]
    simp)
  have e1 : (a : Int) / 100 = ((a / 100 : Nat) : Int) := by omega
  have e2 : (a : Int) % 100 / 10 = ((a / 10 % 10 : Nat) : Int) := by omega
  have e3 : (a : Int) % 10 = ((a % 10 : Nat) : Int) := by omega
  have l1 := dec_size 9 (a / 100) (by omega)
  have l2 := dec_size 0 (a / 10 % 10) (by omega)
  have l3 := dec_size 0 (a % 10) (by omega)
  have D1 := fun w => rdec_any (a / 100) (by omega) w
  have D2 := fun w => rdec_any (a / 10 % 10) (by omega) w
  have D3 := fun w => rdec_any (a % 10) (by omega) w
  rw [← e1] at D1
  rw [← e2] at D2
  rw [← e3] at D3
  clear e1 e2 e3
  generalize Lib.decDigits (a / 100) = t1 at HT l1 D1
  generalize Lib.decDigits (a / 10 % 10) = t2 at HT l2 D2
  generalize Lib.decDigits (a % 10) = t3 at HT l3 D3
  go_enter Tryz.func38, Tryz.ntmps38
  go_wp2_with fail
  refine (rAmount_nat a h _).mono ?_
  rintro e w' ⟨rfl, rfl⟩
  go_wp2_with fail
  refine (D1 _).mono ?_
  rintro e w1 ⟨rfl, hx⟩
  replace hb : Below w.heap.size w w1 := Below.trans (by (repeat (first | exact Below.refl _ _ | assumption | refine Below.drew ?_ | refine below_drewN ?_ _ | refine Below.setCell ?_ (by first | omega | (simp <;> omega)) _ | refine Below.alloc ?_ (by have := hb.size; first | omega | (simp <;> omega)) _))) (hx.mono (by have := hb.size; first | omega | (simp <;> omega)))
  clear hx
  go_wp2_with fail
  refine (D2 _).mono ?_
  rintro e w2 ⟨rfl, hx⟩
  replace hb : Below w.heap.size w w2 := Below.trans (by (repeat (first | exact Below.refl _ _ | assumption | refine Below.drew ?_ | refine below_drewN ?_ _ | refine Below.setCell ?_ (by first | omega | (simp <;> omega)) _ | refine Below.alloc ?_ (by have := hb.size; first | omega | (simp <;> omega)) _))) (hx.mono (by have := hb.size; first | omega | (simp <;> omega)))
  clear hx
  go_wp2_with fail
  refine (D3 _).mono ?_
  rintro e w3 ⟨rfl, hx⟩
  replace hb : Below w.heap.size w w3 := Below.trans (by (repeat (first | exact Below.refl _ _ | assumption | refine Below.drew ?_ | refine below_drewN ?_ _ | refine Below.setCell ?_ (by first | omega | (simp <;> omega)) _ | refine Below.alloc ?_ (by have := hb.size; first | omega | (simp <;> omega)) _))) (hx.mono (by have := hb.size; first | omega | (simp <;> omega)))
  clear hx
  go_wp2_with fail
  go_ret2
  refine Ret.mk ?_ hb
  rw [HT.out]
  show Value.tuple #[.string ((⟨([] : List UInt8).toArray⟩ : ByteArray) ++ ⟨t1.toArray⟩ ++ ⟨([46] : List UInt8).toArray⟩ ++ ⟨t2.toArray⟩ ++ ⟨t3.toArray⟩), .int .i64 0] = _
  rw [bytes_app, bytes_app, bytes_app, bytes_app]
  rfl
end Go.Proofs.YthnlenbfknbmcaaGreatDoor
namespace Go.Proofs.YthnlenbfknbmcaaGreatDoor
open Go.RowKit Go.Shelf
set_option maxRecDepth 100000

theorem wsize : ∃ j, Tryz.prog.info? 140 = some j ∧ j.size ≠ 0 := by
  have h : (Tryz.prog.info? 140).map (·.size) = some 2 := by kernel_rfl
  obtain ⟨j, hj, hjs⟩ := Option.map_eq_some_iff.1 h
  exact ⟨j, hj, by rw [hjs]; decide⟩
theorem wbyte : ∃ i, Tryz.prog.info? 5 = some i ∧ i.zero = some (.int .u8 0) ∧ i.size = 1 ∧ i.bytes = 1 := info_parts (by kernel_rfl)
theorem wsz (s : List UInt8) : (⟨s.toArray⟩ : ByteArray).size = s.length := by simp [ByteArray.size]
theorem wcells (s : List UInt8) : Lib.strCells ⟨s.toArray⟩ = Lib.byteCells s := by simp [Lib.strCells, Lib.byteCells]
theorem others_below {b : Nat} {w w1 : World} (hb : Below w.heap.size w w1) : Lib.OthersKept 5 (some b) w w1 := fun k _ hk _ _ => (hb.block k (Array.getElem?_eq_some_iff.1 hk).1).trans hk
theorem others_iter {b k : Nat} {S : ByteArray} {p : Nat} {w w1 : World} (h : Lib.OthersKept 5 (some b) w w1) (hk : w.heap.size ≤ k) : Lib.OthersKept 5 (some b) w (w1.iterAt k S p) := fun j o hj h1 h2 => by
  have hlt : j < w.heap.size := (Array.getElem?_eq_some_iff.1 hj).1
  rw [Lib.iterAt_other w1 k j S p (by omega)]
  exact h j o hj h1 h2
/-- a block of the call's own that the writer leaves as it stood -/
theorem own_others {b C : Nat} {xs : List Value} {T : TypeId} {w w1 : World} (h : Lib.OthersKept 5 (some b) w w1) (hC : C ≠ b) (hT : T ≠ 5) (_hs : w1.heap.size ≥ w.heap.size) {fz : Nat × Nat} (hh : w.heap[C]? = some (.cells xs.toArray T fz)) : w1.heap[C]? = some (.cells xs.toArray T fz) :=
  h C _ hh (by simpa using hC) (fun c f e => by cases e; exact hT rfl)
end Go.Proofs.YthnlenbfknbmcaaGreatDoor
