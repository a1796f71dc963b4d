/-
  The law PrinterBrackets: how many brackets and commas the text of an expression has.
-/
import Derived.Shelf.Strings.Count
import Derived.Ground.NamesProg
import Derived.Test.YtlkefcbkpohpgaaDoorPrnHead
import Derived.Test.YtlkefcbkpohpgaaDoorPrnBrk
namespace Go.Proofs
open Go.Shelf
def Tryd.laysCount_ren : Go.Shelf.Ren := ⟨fun | 138 => 15 | 195 => 35 | 218 => 36 | 143 => 37 | 219 => 54 | 217 => 67 | 225 => 68 | 224 => 69 | 267 => 70 | 266 => 80 | 314 => 81 | n => n, fun | 9 => 9 | 3 => 3 | 4 => 4 | 5 => 5 | 0 => 0 | 46 => 95 | 146 => 107 | 51 => 106 | n => n, fun | 1 => 2 | n => n⟩
theorem Tryd.laysCount : Go.Proofs.Lays.n138 Tryd.prog Tryd.laysCount_ren := {
  mixed := by kernel_rfl
  f138 := Tryd.func15.trans (congrArg some (by kernel_rfl))
  f143 := Tryd.func37.trans (congrArg some (by kernel_rfl))
  f195 := Tryd.func35.trans (congrArg some (by kernel_rfl))
  f217 := Tryd.func67.trans (congrArg some (by kernel_rfl))
  f218 := Tryd.func36.trans (congrArg some (by kernel_rfl))
  f219 := Tryd.func54.trans (congrArg some (by kernel_rfl))
  f224 := Tryd.func69.trans (congrArg some (by kernel_rfl))
  f225 := Tryd.func68.trans (congrArg some (by kernel_rfl))
  f266 := Tryd.func80.trans (congrArg some (by kernel_rfl))
  f267 := Tryd.func70.trans (congrArg some (by kernel_rfl))
  f314 := Tryd.func81.trans (congrArg some (by kernel_rfl))
  t0 := Tryd.underlying0
  a0 := Tryd.isAgg0
  z0 := Tryd.sizeOf0
  v0 := Tryd.zeroValue0
  t3 := Tryd.underlying3
  a3 := Tryd.isAgg3
  z3 := Tryd.sizeOf3
  v3 := Tryd.zeroValue3
  t4 := Tryd.underlying4
  a4 := Tryd.isAgg4
  z4 := Tryd.sizeOf4
  v4 := Tryd.zeroValue4
  t5 := Tryd.underlying5
  a5 := Tryd.isAgg5
  z5 := Tryd.sizeOf5
  v5 := Tryd.zeroValue5
  t9 := Tryd.underlying9
  a9 := Tryd.isAgg9
  z9 := Tryd.sizeOf9
  v9 := Tryd.zeroValue9
  t46 := Tryd.underlying95
  a46 := Tryd.isAgg95
  z46 := Tryd.sizeOf95
  v46 := Tryd.zeroValue95
  t51 := Tryd.underlying106
  a51 := Tryd.isAgg106
  z51 := Tryd.sizeOf106
  v51 := Tryd.zeroValue106
  t146 := Tryd.underlying107
  a146 := Tryd.isAgg107
  z146 := Tryd.sizeOf107
  v146 := Tryd.zeroValue107
  g1 := by kernel_rfl }
end Go.Proofs
namespace Go.Proofs.YtlkefcbkpohpgaaDoor
open Go.RowKit Go.Shelf
set_option maxRecDepth 100000

theorem countC (c : UInt8) (s : List UInt8) (w : World) : Calls Tryd.prog 15 #[.string ⟨s.toArray⟩, .string ⟨#[c]⟩] w (Ret (.int .i64 (s.count c : Nat)) w) := by
  refine (Any.strings_Count_one Tryd.laysCount ⟨s.toArray⟩ c w).mono ?_
  rintro e w' ⟨rfl, rfl⟩
  exact ⟨by simp [Lib.countByte, List.count], Below.refl _ _⟩
set_option maxHeartbeats 4000000 in
theorem lawB_any {Q : Nat → Prop} (x : Xp) (u : Value) (w : World) (hP : PL w) (h1 : Tree Q w x u) : Calls Tryd.prog 4 #[u] w (Ret (.bool true) w) := by
  obtain ⟨ad1, cap1, rfl, -, -⟩ := h1.shape
  obtain ⟨W, hW⟩ : ∃ W, W = w.alloc (.cells #[.int .i64 x.o, .int .i64 x.n, .slice ad1 x.ks.length cap1] 24) := ⟨_, rfl⟩
  have o1 : Own W w.heap.size [.int .i64 x.o, .int .i64 x.n, .slice ad1 x.ks.length cap1] := by rw [hW]; exact Own.new w #[.int .i64 x.o, .int .i64 x.n, .slice ad1 x.ks.length cap1] 24
  have hb : Below w.heap.size w W := by rw [hW]; exact balloc (Below.refl _ _) _
  have hd := head_any W (hP.below hb)
  have hr := fun w1 (hb1 : Below w.heap.size w w1) => rvalid8_any x _ w1 (h1.below hb1)
  cases hv1 : validF x with
  | false =>
    rw [hv1] at hr
    go_enter Tryd.func4, Tryd.ntmps4
    go_wp2_with fail
    rw [← hW]
    clear hW
    refine hd.mono ?_
    rintro e w1 ⟨rfl, hx⟩
    replace o1 := o1.below hx
    replace hb := hb.trans (hx.mono hb.size)
    obtain ⟨c0, c1, c2, -, -, -, -⟩ := o1.three
    go_wp2_with fail
    refine (hr w1 hb).mono ?_
    rintro e w2 ⟨rfl, hx2⟩
    go_wp2_with fail
    go_ret
    exact Ret.mk rfl (hb.trans (hx2.mono hb.size))
  | true =>
    have hp1 := fun w1 (hb1 : Below w.heap.size w w1) => pprint_any x _ w1 (hP.below hb1) (h1.below hb1)
    unfold exprP at hp1
    rw [if_pos hv1] at hp1
    rw [hv1] at hr
    obtain ⟨hok, hcn, -⟩ := valid_is hv1
    have hbr := fun w1 (hb1 : Below w.heap.size w w1) => brk_any Q x _ w1 hok hcn (h1.below hb1)
    have hch := fun w1 (hb1 : Below w.heap.size w w1) => cho_any Q x _ w1 hok hcn (h1.below hb1)
    have n1 := txt_count 40 (.inl rfl) x hok
    have n2 := txt_count 41 (.inr (.inl rfl)) x hok
    have n3 := txt_count 44 (.inr (.inr rfl)) x hok
    obtain ⟨cF, hcF⟩ : ∃ cF : UInt8 → Int, ∀ c, cF c = ((txtE x).count c : Nat) := ⟨fun c => ((txtE x).count c : Nat), fun _ => rfl⟩
    have hall : ∀ (c : UInt8) (w1 : World), Calls Tryd.prog 15 #[.string ⟨(txtE x).toArray⟩, .string ⟨#[c]⟩] w1 (Ret (.int .i64 (cF c)) w1) := fun c w1 => by rw [hcF]; exact countC c (txtE x) w1
    have k1 := hcF 40
    have k2 := hcF 41
    have k3 := hcF 44
    rw [n1, if_neg (by decide)] at k1
    rw [n2, if_neg (by decide)] at k2
    rw [n3, if_pos rfl, Nat.zero_add] at k3
    clear hcF
    have l1 := brN_le x
    have l2 := chN_le x
    simp only at hp1
    clear n1 n2 n3
    generalize txtE x = T1 at hp1 hall
    generalize brN x = br at hbr k1 k2 l1
    generalize chN x = ch at hch k1 k2 k3 l2
    have hwr : IntKind.i64.wrap ((br : Int) + (ch : Int)) = (br : Int) + (ch : Int) := IntWalk.i64_in _ (by omega)
    have t1 : (cF 40 == (br : Int) + (ch : Int)) = true := beq_iff_eq.2 (by rw [k1]; omega)
    have t2 : (cF 41 == (br : Int) + (ch : Int)) = true := beq_iff_eq.2 (by rw [k2]; omega)
    have t3 : (cF 44 == (ch : Int)) = true := beq_iff_eq.2 k3
    clear k1 k2 k3
    go_enter Tryd.func4, Tryd.ntmps4
    go_wp2_with fail
    rw [← hW]
    clear hW
    refine hd.mono ?_
    rintro e w1 ⟨rfl, hx⟩
    replace o1 := o1.below hx
    replace hb := hb.trans (hx.mono hb.size)
    obtain ⟨c0, c1, c2, -, -, -, -⟩ := o1.three
    go_wp2_with fail
    refine (hr w1 hb).mono ?_
    rintro e w2 ⟨rfl, hx2⟩
    replace o1 := o1.below hx2
    replace hb := hb.trans (hx2.mono hb.size)
    obtain ⟨c0, c1, c2, -, -, -, -⟩ := o1.three
    clear hx hx2
    go_wp2_with fail
    refine (hp1 w2 hb).mono ?_
    rintro e w3 ⟨rfl, hx3⟩
    replace o1 := o1.below hx3
    replace hb := hb.trans (hx3.mono hb.size)
    obtain ⟨c0, c1, c2, -, -, -, cz⟩ := o1.three
    clear hx3
    have hbg : ∀ g : Grow w3, Below w.heap.size w (up w3 g) := fun g => hb.trans ((up_below w3 g).mono hb.size)
    go_wp2_with fail
    refine wp_region_up (by kernel_rfl) (by kernel_rfl) ?_
    repeat (go_big_quiet_step (first | (go_at_call 13; exact Ret.up (hbr _ (hbg _))) | (go_at_call 14; exact Ret.up (hch _ (hbg _)))))
    refine wpQuiet_nil ?_
    rintro w4 ⟨g, rfl⟩
    have hx4 := up_below w3 g
    replace o1 := o1.below hx4
    replace hb := hb.trans (hx4.mono hb.size)
    clear hbg c0 c1 c2 cz
    generalize up w3 g = w4 at o1 hb hx4 ⊢
    clear hx4
    obtain ⟨c0, c1, c2, -, -, -, cz⟩ := o1.three
    have hbg : ∀ g : Grow w4, Below w.heap.size w (up w4 g) := fun g => hb.trans ((up_below w4 g).mono hb.size)
    go_wp2_with fail
    refine wp_region_up (by kernel_rfl) (by kernel_rfl) ?_
    repeat (go_big_quiet_step (first | (go_at_call 15; exact Ret.up (hall _ _)) | (go_at_call 14; exact Ret.up (hch _ (hbg _)))))
    refine wpQuiet_nil ?_
    rintro w5 ⟨g, rfl⟩
    have hx5 := up_below w4 g
    go_wp2_with fail
    go_ret
    exact Ret.mk (by simp) (hb.trans (hx5.mono hb.size))
end Go.Proofs.YtlkefcbkpohpgaaDoor
