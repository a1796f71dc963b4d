/-
  What Rates and Expr give, as a law holds it.
-/
import Derived.Test.YtoioegkpmncicaaGreatDoorQt
import Derived.Test.YtoioegkpmncicaaGreatDoorQf
import Derived.Test.YtoioegkpmncicaaGreatDoorQu
namespace Go.Proofs.YtoioegkpmncicaaGreatDoor
open Go.RowKit Go.Shelf
set_option maxRecDepth 100000

/-- what Rates gives, as a law holds it -/
def RL (s : List UInt8) (w : World) (e : Ending) (w' : World) : Prop := ∃ rs ec n v, RP s (rs.map Rt.list) ec n ∧ e = .returned (.tuple #[v, .int .i64 (ec : Nat), .int .i64 (n : Nat)]) ∧ rs.length ≤ 100 ∧ RSl w' v rs ∧ Below w.heap.size w w'
theorem rates_law (s : List UInt8) (w : World) (hL : Lay w) : Calls Tryz.prog 17 #[.string ⟨s.toArray⟩] w (RL s w) :=
  (prates_any s w hL).mono fun e w' ⟨rs, ec, n, v, cells, hp, he, hl, ho, hc, hb⟩ => ⟨rs, ec, n, v, hp, he, hl, rsl_own ho hc (by omega), hb⟩
theorem RSl.shape {w : World} {v : Value} {rs : List Rt} (h : RSl w v rs) : ∃ ad cap, v = .slice ad rs.length cap := by
  obtain ⟨ad, cap, _, e, _⟩ := h; exact ⟨ad, cap, e⟩
theorem bsz8 (s : List UInt8) : (⟨s.toArray⟩ : ByteArray).size = s.length := by simp [ByteArray.size]
theorem tl_inj {a b : List Rt} (h : a.map Rt.list = b.map Rt.list) : a = b := lists_inj h
end Go.Proofs.YtoioegkpmncicaaGreatDoor
