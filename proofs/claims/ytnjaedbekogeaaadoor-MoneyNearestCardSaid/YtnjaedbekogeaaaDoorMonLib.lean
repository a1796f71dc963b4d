/-
  strconv.AppendInt, strconv.Atoi and strings.Replace: the library's own contracts laid at this program; what they read.
-/
import Derived.Shelf.Strconv.AppendIntPublic10
import Derived.Shelf.Strconv.ErrVarAll
import Derived.Shelf.Strings.Replace
import Derived.Shelf.Lay
import Derived.Ground.NamesProg
import Derived.Test.YtnjaedbekogeaaaDoorDigArg
import Derived.Test.YtnjaedbekogeaaaDoorMonPlain
namespace Go.Proofs
open Go.Shelf
shelf_lay LaysM.n176 Nm 176 at Tryd as Tryd.laysAppendInt
shelf_lay LaysC.n172 Nm 172 at Tryd as Tryd.laysAtoi
shelf_lay Lays.n154 Nm 154 at Tryd as Tryd.laysReplace
theorem Tryd.extraReplace : Builder.Extra Tryd.prog Tryd.laysReplace_ren where
  sizeBuilder := by kernel_rfl
  liesBuilder := by kernel_rfl
  t5 := Tryd.laysReplace.t5
  a5 := Tryd.laysReplace.a5
  z5 := Tryd.laysReplace.z5
  v5 := Tryd.laysReplace.v5
  infoByte := by kernel_rfl
  cellsByte := by kernel_rfl
  sizeByte := by kernel_rfl
  neB5 := by decide
end Go.Proofs
namespace Go.Proofs.YtnjaedbekogeaaaDoor
open Go.RowKit Go.Shelf
set_option maxRecDepth 100000

/-- what the library reads of the package-level variables -/
structure Lay (w : World) : Prop where
  tab : Tab w
  most : ∃ m, w.cell? ⟨2, 0, none⟩ = some (.int .i64 m)
  syn : ∃ tp p, w.var? Tryd.prog "strconv.ErrSyntax" = some #[.iface tp p]
  rng : ∃ tp p, w.var? Tryd.prog "strconv.ErrRange" = some #[.iface tp p]

theorem var_below {w w1 : World} {s : String} {vs : Array Value} (h : w.var? Tryd.prog s = some vs) (hb : Below w.heap.size w w1) : w1.var? Tryd.prog s = some vs := by
  unfold World.var? at *
  cases hg : Tryd.prog.globalNamed s with
  | none => simp [hg] at h
  | some g =>
    simp only [hg, Option.bind_some] at h ⊢
    have hlt : g < w.heap.size := by
      rcases Nat.lt_or_ge g w.heap.size with hl | hl
      · exact hl
      · rw [Array.getElem?_eq_none hl] at h; simp at h
    rw [hb.block g hlt]; exact h
theorem Lay.below {w w1 : World} (h : Lay w) (hb : Below w.heap.size w w1) : Lay w1 := by
  obtain ⟨h1, ⟨m, h2⟩, ⟨t3, p3, h3⟩, t4, p4, h4⟩ := h
  exact ⟨h1.below hb, ⟨m, (hb.cell (p := ⟨2, 0, none⟩) (block_lt h2)).trans h2⟩, ⟨t3, p3, var_below h3 hb⟩, t4, p4, var_below h4 hb⟩

theorem appendInt_any (B : Nat) (i : Int) (hi : I64 i) (v : Value) (l : List UInt8) (w : World) (h : OwnRow w B 5 v (l.map vB)) (hB : B ≤ w.heap.size) (hl : l.length ≤ 1000) (hT : Lib.TabBelow Tryd.prog B w "internal/strconv.uint64pow10" .u64 Lib.pow10Tab) :
    Calls Tryd.prog 34 #[v, .int .i64 i, .int .i64 10] w fun e w' => ∃ v', e = .returned v' ∧ OwnRow w' B 5 v' ((l ++ Lib.itoa i).map vB) ∧ Below B w w' := by
  refine (Any.strconv_AppendInt_10 Tryd.laysAppendInt B l.length i hi.1 hi.2 v (l.map vB) w ?_ hB (by omega) hT).mono ?_
  · unfold OwnRow at h; rw [List.length_map] at h; exact h
  · rintro e w' ⟨v', rfl, hown, hb, _⟩
    refine ⟨v', rfl, ?_, hb⟩
    unfold OwnRow
    rw [List.length_map, List.length_append, List.map_append]
    exact hown

theorem replace_any (s : List UInt8) (hs : s.length ≤ 1000) (w : World) (hL : Lay w) :
    Calls Tryd.prog 37 #[.string ⟨s.toArray⟩, .string ⟨#[46]⟩, .string ⟨#[]⟩, .int .i64 1] w (Ret (.string ⟨(cutP s).toArray⟩) w) := by
  obtain ⟨m, hm⟩ := hL.most
  refine (Any.strings_Replace Tryd.laysReplace Tryd.extraReplace ⟨s.toArray⟩ ⟨#[46]⟩ ⟨#[]⟩ 1 m w ?_ hm ?_ ?_).mono ?_
  · have : (⟨s.toArray⟩ : ByteArray).size = s.length := by simp [ByteArray.size]
    omega
  · decide
  · have : (⟨s.toArray⟩ : ByteArray).size = s.length := by simp [ByteArray.size]
    have e : (⟨#[]⟩ : ByteArray).size = 0 := rfl
    rw [e]; omega
  · rintro e w' ⟨rfl, hb⟩
    exact ⟨rfl, hb⟩

/-- what Atoi gives: the number and no error, or an error -/
def AtoiP (s : List UInt8) (w : World) (e : Ending) (w' : World) : Prop := Below w.heap.size w w' ∧
  ((∃ v, Lib.atoiAll s = .ok v ∧ e = .returned (.tuple #[.int .i64 v, .nilIface])) ∨ ((∀ v, Lib.atoiAll s ≠ .ok v) ∧ ∃ n t p, e = .returned (.tuple #[.int .i64 n, .iface t p])))
theorem atoi_any (s : List UInt8) (hs : s.length ≤ 1000) (w : World) (hL : Lay w) : Calls Tryd.prog 36 #[.string ⟨s.toArray⟩] w (AtoiP s w) := by
  have hsz : (⟨s.toArray⟩ : ByteArray).size = s.length := by simp [ByteArray.size]
  cases h : Lib.atoiAll s
  · rename_i v
    refine (Any.strconv_Atoi_ok Tryd.laysAtoi ⟨s.toArray⟩ (by omega) v h w).mono ?_
    rintro e w' ⟨rfl, hw⟩
    refine ⟨?_, .inl ⟨v, h, rfl⟩⟩
    rcases hw with rfl | ⟨t, rfl⟩
    · exact Below.refl _ _
    · exact Lib.bytesWorld_below _ _ _
  · obtain ⟨tp, p, hv⟩ := hL.syn
    refine (Any.strconv_Atoi_syntax_var Tryd.laysAtoi ⟨s.toArray⟩ (by omega) h tp p w hv).mono ?_
    rintro e w' ⟨N, rfl, _, _, hb⟩
    exact ⟨hb, .inr ⟨fun v => by (rw [h]; simp), _, _, _, rfl⟩⟩
  · obtain ⟨tp, p, hv⟩ := hL.rng
    refine (Any.strconv_Atoi_range_var Tryd.laysAtoi ⟨s.toArray⟩ (by omega) h tp p w hv).mono ?_
    rintro e w' ⟨N, rfl, _, _, hb⟩
    exact ⟨hb, .inr ⟨fun v => by (rw [h]; simp), _, _, _, rfl⟩⟩
end Go.Proofs.YtnjaedbekogeaaaDoor
