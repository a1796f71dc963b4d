/-
  What carries a digest on; who feeds it; Sum.
-/
import Derived.Test.YtgljelkjfipefaaDoorDigPlain
import Derived.LoopN
import Derived.Laws.Bits64
namespace Go.Proofs.YtgljelkjfipefaaDoor
open Go.RowKit

theorem stp_int (d : UInt64) (x : UInt8) : IntKind.u64.wrap (bits BinOp.xor IntKind.u64 (d.toNat : Int) (IntKind.u64.wrap (x.toNat : Int)) * 1099511628211) = ((stp d x).toNat : Int) := by
  have hd := d.toNat_lt
  have hx := x.toNat_lt
  rw [IntKind.wrap_u64, IntKind.wrap_u64, show ((x.toNat : Int) % 18446744073709551616) = ((x.toNat : Nat) : Int) by omega, bits_xor_u64_nat _ _ (by omega) (by omega), stp_nat]
  omega

def takeV (B : Nat) : Value := .func (.func 47) #[] #[.pointer (some ⟨B, 0, none⟩)]

theorem take_any (B : Nat) (d : UInt64) (x : UInt8) (w : World) (hc : w.cell? ⟨B, 0, none⟩ = some (vD d)) (hf : w.frozen? ⟨B, 0, none⟩ = false) :
    Calls Tryd.prog 47 #[vB x, .pointer (some ⟨B, 0, none⟩)] w fun e w' => e = .returned (.tuple #[]) ∧ w' = w.setCell ⟨B, 0, none⟩ (vD (stp d x)) := by
  simp only [vD, vB] at hc ⊢
  go_enter Tryd.func47, Tryd.ntmps47
  go_wp2_with fail
  go_end0
  exact ⟨rfl, by rw [stp_int]⟩

/-- such a function hands bs to what carries the digest on, in whatever world that has grown since w0 -/
def Feeds (w0 : World) (f : FuncId) (cap : Array Value) (bs : List UInt8) : Prop :=
  ∀ (B : Nat) (d : UInt64) (w : World), Below w0.heap.size w0 w → w0.heap.size ≤ B → Own w B [vD d] →
    Calls Tryd.prog f (#[takeV B] ++ cap) w fun e w' => e = .returned (.tuple #[]) ∧ Own w' B [vD (fnv d bs)] ∧ Below B w w'

theorem set_own {w : World} {B : Nat} {v v' : Value} (h : Own w B [v]) : Own (w.setCell ⟨B, 0, none⟩ v') B [v'] := by
  obtain ⟨c, f, z⟩ := h.one
  refine ⟨fun i x hi => ?_, fun i x hi => ?_, by simpa using z⟩
  · match i, hi with
    | 0, hi => simp at hi; subst hi; exact World.cell?_setCell_same _ _ _ c
  · match i, hi with
    | 0, hi => simpa using f

theorem below_set {w : World} {B : Nat} (v : Value) : Below B w (w.setCell ⟨B, 0, none⟩ v) := Below.setCell (p := ⟨B, 0, none⟩) (Below.refl _ _) (Nat.le_refl _) v

theorem drop_cons {α : Type} {l : List α} {k : Nat} (h : k < l.length) : l.drop k = l[k] :: l.drop (k + 1) := (List.drop_eq_getElem_cons h)

/-- Sum's feeder: the bytes of a slice -/
theorem feedSum (w0 : World) (b : Nat) (v : Value) (bs : List UInt8) (hb0 : b < w0.heap.size) (hc0 : w0.cell? ⟨b, 0, none⟩ = some v) (hv : Bytes w0 v bs) :
    Feeds w0 45 #[.pointer (some ⟨b, 0, none⟩)] bs := by
  intro B d w hw hB ho
  have hcb := (hw.cell (p := ⟨b, 0, none⟩) hb0).trans hc0
  obtain ⟨ad, cap, rfl⟩ := hv.shape
  have hcell := hv.cells _ _ _ rfl
  have hlen := hv.short
  simp only [List.length_map] at hcb hcell hlen ⊢
  show Calls Tryd.prog _ #[.func (.func 47) #[] #[.pointer (some ⟨B, 0, none⟩)], .pointer (some ⟨b, 0, none⟩)] w _
  go_enter Tryd.func45, Tryd.ntmps45
  go_wp2_with fail
  go_loopw [7] (fun i wr => ∃ k : Nat, k ≤ bs.length ∧ i = .int .i64 k ∧ Own wr B [vD (fnv d (bs.take k))] ∧ Below B w wr)
    (fun i _ => bs.length - (intOf i).toNat)
  case atStart => exact ⟨0, by omega, rfl, ho, Below.refl _ _⟩
  case round =>
    obtain ⟨k, hk, rfl, hor, hb⟩ := hrel
    by_cases hkl : k < bs.length
    · obtain ⟨a, rfl, hab, hc⟩ := hcell k (by simpa using hkl)
      have hr := ((hb.cell (p := a.add k) (by rw [blk_add]; omega)).trans (hw.cell (p := a.add k) (by rw [blk_add]; omega))).trans hc
      rw [List.getElem_map] at hr
      obtain ⟨c, f, z⟩ := hor.one
      have ht := take_any B (fnv d (bs.take k)) bs[k] wr c f
      go_wp2_with (go_at_call 47; refine ht.mono ?_; rintro e w2 ⟨rfl, rfl⟩)
      go_roundw
      case rel => exact ⟨k + 1, by omega, by go_num, by rw [List.take_succ_eq_append_getElem hkl, fnv_app]; exact set_own hor, hb.trans (below_set _)⟩
      case measure => simp [intOf]; omega
    · go_wp2_with fail
      go_end0
      exact ⟨rfl, by rw [List.take_of_length_le (by omega)] at hor; exact hor, hb⟩
theorem overSum (w : World) (cap : Array Value) (bs : List UInt8) (h : Feeds w 45 cap bs) :
    Calls Tryd.prog 42 #[.func (.func 45) #[] cap] w (Ret (vD (fnv fnv0 bs)) w) := by
  go_enter Tryd.func42, Tryd.ntmps42
  go_wp2_with fail
  have ho : Own (w.alloc (Obj.cells #[Value.int IntKind.u64 14695981039346656037] 39)) w.heap.size [vD fnv0] := Own.new w #[vD fnv0] 39
  refine (h w.heap.size fnv0 _ ((Below.refl _ w).alloc (Nat.le_refl _) _) (Nat.le_refl _) ho).mono ?_
  rintro e w2 ⟨rfl, ho2, hx⟩
  have hbw : Below w.heap.size w w2 := ((Below.refl _ w).alloc (Nat.le_refl _) _).trans hx
  obtain ⟨c, f, z⟩ := ho2.one
  go_wp2_with fail
  go_ret
  exact Ret.mk rfl hbw

theorem overNext (w : World) (cap : Array Value) (bs : List UInt8) (h : Feeds w 43 cap bs) :
    Calls Tryd.prog 42 #[.func (.func 43) #[] cap] w (Ret (vD (fnv fnv0 bs)) w) := by
  go_enter Tryd.func42, Tryd.ntmps42
  go_wp2_with fail
  have ho : Own (w.alloc (Obj.cells #[Value.int IntKind.u64 14695981039346656037] 39)) w.heap.size [vD fnv0] := Own.new w #[vD fnv0] 39
  refine (h w.heap.size fnv0 _ ((Below.refl _ w).alloc (Nat.le_refl _) _) (Nat.le_refl _) ho).mono ?_
  rintro e w2 ⟨rfl, ho2, hx⟩
  have hbw : Below w.heap.size w w2 := ((Below.refl _ w).alloc (Nat.le_refl _) _).trans hx
  obtain ⟨c, f, z⟩ := ho2.one
  go_wp2_with fail
  go_ret
  exact Ret.mk rfl hbw

theorem sum_any (v : Value) (bs : List UInt8) (w : World) (h : Bytes w v bs) : Calls Tryd.prog 38 #[v] w (Ret (vD (fnv fnv0 bs)) w) := by
  have hbox : Below w.heap.size w (w.alloc (.cells #[v] 58)) := (Below.refl _ w).alloc (Nat.le_refl _) _
  have ho := (Own.new w #[v] 58).one
  have hf := overSum _ _ bs (feedSum _ w.heap.size v bs ho.2.2 ho.1 (h.below hbox))
  obtain ⟨ad, cap, rfl⟩ := h.shape
  simp only [List.length_map] at hf hbox ⊢
  go_enter Tryd.func38, Tryd.ntmps38
  go_wp2_with (go_at_call 42; refine hf.mono ?_; rintro e w2 ⟨rfl, hx⟩)
  go_ret
  exact Ret.mk rfl (hbox.trans (hx.mono hbox.size))

end Go.Proofs.YtgljelkjfipefaaDoor
