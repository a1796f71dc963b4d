/-
  What the rows' lists of variables give; a world that holds them, for the witness.
-/
import Derived.Test.YtlkefcbkpohpgaaGreatDoorCards
import Derived.Test.YtlkefcbkpohpgaaGreatDoorTie
import Derived.WalkKit
import Derived.ProofKit
import Derived.OpenShut
import Derived.Deep.DeepHandedRow
import Derived.Deep.DeepLaidRun
import Derived.Lib.LaidTab
import Derived.Stop.LaidErr
import Derived.LaidLaws
import Derived.Shelf.LaysM
import Derived.Ground.NamesProg
import Derived.Test.YtlkefcbkpohpgaaGreatDoorQb
import Derived.ChangeArms
import Derived.Test.YtlkefcbkpohpgaaGreatDoorQpl
import Derived.Test.YtlkefcbkpohpgaaGreatDoorRows
namespace Go.Proofs
open Go.Shelf
def Tryz.laysCutM_ren : Go.Shelf.Ren := ⟨fun | 145 => 122 | 220 => 145 | 219 => 161 | 217 => 169 | 225 => 170 | 224 => 171 | 267 => 172 | 266 => 182 | 314 => 183 | n => n, fun | 9 => 9 | 4 => 4 | 59 => 163 | 3 => 3 | 5 => 5 | 46 => 183 | 146 => 198 | 51 => 40 | n => n, fun | 1 => 2 | n => n⟩
theorem Tryz.laysCutM : Go.Proofs.LaysM.n145 Tryz.prog Tryz.laysCutM_ren := {
  mixed := by kernel_rfl
  f145 := Tryz.func122.trans (congrArg some (by kernel_rfl))
  f217 := Tryz.func169.trans (congrArg some (by kernel_rfl))
  f219 := Tryz.func161.trans (congrArg some (by kernel_rfl))
  f220 := Tryz.func145.trans (congrArg some (by kernel_rfl))
  f224 := Tryz.func171.trans (congrArg some (by kernel_rfl))
  f225 := Tryz.func170.trans (congrArg some (by kernel_rfl))
  f266 := Tryz.func182.trans (congrArg some (by kernel_rfl))
  f267 := Tryz.func172.trans (congrArg some (by kernel_rfl))
  f314 := Tryz.func183.trans (congrArg some (by kernel_rfl))
  t3 := Tryz.underlying3
  a3 := Tryz.isAgg3
  z3 := Tryz.sizeOf3
  v3 := Tryz.zeroValue3
  t4 := Tryz.underlying4
  a4 := Tryz.isAgg4
  z4 := Tryz.sizeOf4
  v4 := Tryz.zeroValue4
  t5 := Tryz.underlying5
  a5 := Tryz.isAgg5
  z5 := Tryz.sizeOf5
  v5 := Tryz.zeroValue5
  t9 := Tryz.underlying9
  a9 := Tryz.isAgg9
  z9 := Tryz.sizeOf9
  v9 := Tryz.zeroValue9
  t46 := Tryz.underlying183
  a46 := Tryz.isAgg183
  z46 := Tryz.sizeOf183
  v46 := Tryz.zeroValue183
  t51 := Tryz.underlying40
  a51 := Tryz.isAgg40
  z51 := Tryz.sizeOf40
  v51 := Tryz.zeroValue40
  t59 := Tryz.underlying163
  a59 := Tryz.isAgg163
  z59 := Tryz.sizeOf163
  v59 := Tryz.zeroValue163
  t146 := Tryz.underlying198
  a146 := Tryz.isAgg198
  z146 := Tryz.sizeOf198
  v146 := Tryz.zeroValue198
  g1 := by kernel_rfl
  i3 := by kernel_rfl
  i4 := by kernel_rfl
  i5 := by kernel_rfl
  i9 := by kernel_rfl
  i46 := by kernel_rfl
  i51 := by kernel_rfl
  i59 := by kernel_rfl
  i146 := by kernel_rfl
  m1 := by kernel_rfl
  s1_3 := fun w h => Go.Proofs.cell_of_shapedOpen_int (zero := #[.int .i64 0]) (t := 3) h (of_decide_eq_true (by kernel_rfl)) (by kernel_rfl) rfl (by kernel_rfl) (by kernel_rfl) Tryz.underlying3 }
end Go.Proofs
namespace Go.Proofs.YtlkefcbkpohpgaaGreatDoor
open Go.ChangeShapes Go.WideShapes Go.ChangeAt Go.RowKit

theorem ownD : ownKnob Tryz.prog.godebug = none := by kernel_rfl
theorem laidD : laidOutB Tryz.prog = true := by kernel_rfl
theorem gRng : Tryz.prog.globalNamed "strconv.ErrRange" = some 7 := by kernel_rfl
theorem gRngType : (Tryz.prog.globals[7]?).map (·.type) = some 105 := by kernel_rfl
theorem gSyn : Tryz.prog.globalNamed "strconv.ErrSyntax" = some 6 := by kernel_rfl
theorem gSynType : (Tryz.prog.globals[6]?).map (·.type) = some 105 := by kernel_rfl
theorem starE : "*" ++ "errors.errorString" = "*errors.errorString" := by decide
theorem rowE (u : TypeId) (h : Tryz.prog.typeName? 3 u = some "*errors.errorString") : u = 210 :=
  typeName_ptr_named (nm := "errors.errorString") (by rw [starE]; kernel_rfl) (by kernel_rfl) (by decide) u (by rw [starE]; exact h)
theorem cellsE : Tryz.prog.cellsOf 212 = 1 := by kernel_rfl
theorem cellsS : Tryz.prog.cellsOf 9 = 1 := by kernel_rfl

abbrev laidL : List (String × DataW Unit) := [("math/bits.deBruijn32tab", Rows.laid_math_bits_deBruijn32tab), ("math/bits.deBruijn64tab", Rows.laid_math_bits_deBruijn64tab), ("internal/strconv.uint64pow10", Rows.laid_internal_strconv_uint64pow10), ("unicode/utf8.acceptRanges", Rows.laid_unicode_utf8_acceptRanges), ("strconv.ErrRange", Rows.laid_strconv_ErrRange), ("strconv.ErrSyntax", Rows.laid_strconv_ErrSyntax), ("unicode/utf8.first", Rows.laid_unicode_utf8_first)]
theorem lay_of {W : World} (h : laidMet Tryz.prog laidL W) (hs : W.ShapedOpen Tryz.prog) : Lay W := by
  refine ⟨Tryz.laysCutM.s1_3 W hs, ?_, ?_⟩
  · obtain ⟨a, s, hv, _⟩ := laid_sentinel (laidMet.tail (laidMet.tail (laidMet.tail (laidMet.tail (laidMet.tail h))))) gSyn gSynType Tryz.underlying105 rowE Tryz.underlying210 Tryz.underlying212 rfl rfl Tryz.underlying9 cellsE cellsS
    exact ⟨_, _, hv⟩
  · obtain ⟨a, s, hv, _⟩ := laid_sentinel (laidMet.tail (laidMet.tail (laidMet.tail (laidMet.tail h)))) gRng gRngType Tryz.underlying105 rowE Tryz.underlying210 Tryz.underlying212 rfl rfl Tryz.underlying9 cellsE cellsS
    exact ⟨_, _, hv⟩

abbrev synS : ByteArray := { data := #[105, 110, 118, 97, 108, 105, 100, 32, 115, 121, 110, 116, 97, 120] }
abbrev rngS : ByteArray := { data := #[118, 97, 108, 117, 101, 32, 111, 117, 116, 32, 111, 102, 32, 114, 97, 110, 103, 101] }
/-- the numbers of a list as cells -/
def numC (q : IntKind) (l : List Nat) : Array Value := (l.map fun (n : Nat) => Value.int q (n : Int)).toArray
noncomputable def lowW : Nat := (World.holding Tryz.prog default ⟨#[], #[], []⟩).heap.size
/-- the settled world with two blocks more, each an errors.errorString; the tables as they are laid -/
noncomputable def parWorld (os : Os) : World :=
  let w0 := World.holding Tryz.prog os ⟨#[.cells #[.string synS] 212, .cells #[.string rngS] 212], #[], []⟩
  { w0 with heap := ((((((w0.heap.modify 6 fun
      | .cells _ t frozen => .cells #[.iface 210 (.pointer (some ⟨lowW, 0, none⟩))] t frozen
      | o => o).modify 7 fun
      | .cells _ t frozen => .cells #[.iface 210 (.pointer (some ⟨lowW + 1, 0, none⟩))] t frozen
      | o => o).modify 8 fun
      | .cells _ t frozen => .cells (numC .u8 Go.Pinned.utf8FirstZ) t frozen
      | o => o).modify 9 fun
      | .cells _ t frozen => .cells (numC .u8 [128, 191, 160, 191, 128, 159, 144, 191, 128, 143, 0, 0, 0, 0, 0, 0, 0, 0, 0, 0, 0, 0, 0, 0, 0, 0, 0, 0, 0, 0, 0, 0]) t frozen
      | o => o).modify 3 fun
      | .cells _ t frozen => .cells (numC .u64 ((List.range 20).map fun n => 10 ^ n)) t frozen
      | o => o).modify 4 fun
      | .cells _ t frozen => .cells (numC .u8 [0, 1, 28, 2, 29, 14, 24, 3, 30, 22, 20, 15, 25, 17, 4, 8, 31, 27, 13, 23, 21, 19, 16, 7, 26, 12, 18, 6, 11, 5, 10, 9]) t frozen
      | o => o).modify 5 fun
      | .cells _ t frozen => .cells (numC .u8 [0, 1, 56, 2, 57, 49, 28, 3, 61, 58, 42, 50, 38, 29, 17, 4, 62, 47, 59, 36, 45, 43, 51, 22, 53, 39, 33, 30, 24, 18, 12, 5, 63, 55, 48, 27, 60, 41, 37, 16, 46, 35, 44, 21, 52, 32, 23, 11, 54, 26, 40, 15, 34, 20, 31, 10, 25, 14, 19, 9, 13, 8, 7, 6]) t frozen
      | o => o }
set_option maxRecDepth 100000 in
theorem par_met (os : Os) (args : Array Value) : laidMet Tryz.prog laidL ((parWorld os).forCall (fun _ _ => 0) ⟨#[], args, []⟩).memory :=
  laidMet_of_run3 8 (by kernel_rfl) (by kernel_rfl) (by kernel_rfl)
end Go.Proofs.YtlkefcbkpohpgaaGreatDoor
namespace Go.Proofs.YtlkefcbkpohpgaaGreatDoor
open Go.ChangeShapes Go.WideShapes Go.RowKit
set_option maxRecDepth 100000

theorem agg_inj {H : Type} {a b : List (DataW H)} (h : DataW.agg a = .agg b) : a = b := by cases h; rfl
theorem lit_inj {H : Type} {a b : Lit} (h : (DataW.lit a : DataW H) = .lit b) : a = b := by cases h; rfl
theorem int_inj9 {k : IntKind} {a b : Int} (h : Lit.int k a = .int k b) : a = b := by cases h; rfl
theorem str_inj9 {a b : List UInt8} (h : Lit.string a = .string b) : a = b := by cases h; rfl
theorem take_get {cs : List Value} {k : Nat} {v : Value} (h : (cs.drop k).take 1 = [v]) : cs[k]? = some v := by
  have := congrArg (·[0]?) h
  simpa [List.getElem?_take, List.getElem?_drop] using this
theorem op_at {W : World} {base : Nat} {sp : Nat → Bool} {held : Bool} {fuel : Nat} {enc : TypeId × Value → Unit} {cs : List Value} {L : List (DataW Unit)} {p : List MemPlace} (h : DataW.trod enc Tryz.prog W base sp held fuel 133 cs = some (.agg L, p)) {i : Nat} (hi : i < 16) {a : Int} {s : List UInt8}
    (hL : L[i]? = some (.agg [.lit (.int .i64 a), .lit (.string s)])) : cs[i * 2]? = some (.int .i64 a) ∧ cs[i * 2 + 1]? = some (.string ⟨s.toArray⟩) := by
  have hce : Tryz.prog.cellsOf 132 = 2 := by kernel_rfl
  have hci : Tryz.prog.cellsOf 3 = 1 := by kernel_rfl
  have hcs : Tryz.prog.cellsOf 9 = 1 := by kernel_rfl
  obtain ⟨xs, m, _, hx, hl, hlen, hf⟩ := DataW.trod_array Tryz.underlying133 h
  have hd := agg_inj (congrArg Prod.fst hx)
  have h1 := hf i hi
  rw [hce] at h1
  have h2 : xs[i]? = some (xs[i]'(by omega)) := List.getElem?_eq_getElem (by omega)
  rw [h2] at h1
  have h3 : (xs[i]'(by omega)).1 = .agg [.lit (.int .i64 a), .lit (.string s)] := by
    rw [hd, List.getElem?_map, h2] at hL
    exact Option.some.inj hL
  generalize xs[i]'(by omega) = y at h1 h3
  obtain ⟨ys, n, _, hy, hyl, hylen, hyf⟩ := DataW.trod_struct Tryz.underlying132 h1
  rw [hce] at hyl
  have g0 := hyf 0 _ rfl
  have g1 := hyf 1 _ rfl
  match ys, hylen with
  | [y0, y1], _ =>
    have hy2 : y.1 = .agg [y0.1, y1.1] := congrArg Prod.fst hy
    rw [hy2] at h3
    have h4 := agg_inj h3
    have g0' : DataW.trod enc Tryz.prog W base sp held n 3 ((((cs.drop (i * 2)).take 2).drop 0).take (Tryz.prog.cellsOf 3)) = some y0 := g0
    have g1' : DataW.trod enc Tryz.prog W base sp held n 9 ((((cs.drop (i * 2)).take 2).drop 1).take (Tryz.prog.cellsOf 9)) = some y1 := g1
    rw [hci] at g0'
    rw [hcs] at g1'
    obtain ⟨z, e0, e1, _⟩ := DataW.trod_int Tryz.underlying3 g0'
    obtain ⟨S, e2, e3, _⟩ := DataW.trod_string Tryz.underlying9 g1'
    rw [e1, e3] at h4
    simp only [List.cons.injEq, and_true] at h4
    have hz := int_inj9 (lit_inj h4.1)
    have hS := str_inj9 (lit_inj h4.2)
    subst hz
    have k0 := congrArg (·[0]?) e0
    have k1 := congrArg (·[0]?) e2
    simp [List.getElem?_drop] at k0 k1
    refine ⟨k0, ?_⟩
    rw [k1, ← hS]
theorem var_at9 {W : World} {base : Nat} {sp : Nat → Bool} {held : Bool} {fuel : Nat} {enc : TypeId × Value → Unit} {cs : List Value} {L : List (DataW Unit)} {p : List MemPlace} (h : DataW.trod enc Tryz.prog W base sp held fuel 129 cs = some (.agg L, p)) {i : Nat} (hi : i < 5) {s : List UInt8}
    (hL : L[i]? = some (.lit (.string s))) : cs[i]? = some (.string ⟨s.toArray⟩) := by
  have hcs : Tryz.prog.cellsOf 9 = 1 := by kernel_rfl
  obtain ⟨xs, m, _, hx, hl, hlen, hf⟩ := DataW.trod_array Tryz.underlying129 h
  have hd := agg_inj (congrArg Prod.fst hx)
  have h1 := hf i hi
  rw [hcs, Nat.mul_one] at h1
  have h2 : xs[i]? = some (xs[i]'(by omega)) := List.getElem?_eq_getElem (by omega)
  rw [h2] at h1
  have h3 : (xs[i]'(by omega)).1 = .lit (.string s) := by
    rw [hd, List.getElem?_map, h2] at hL
    exact Option.some.inj hL
  generalize xs[i]'(by omega) = y at h1 h3
  obtain ⟨S, e2, e3, _⟩ := DataW.trod_string Tryz.underlying9 h1
  rw [e3] at h3
  have hS := str_inj9 (lit_inj h3)
  rw [take_get e2, ← hS]
theorem pgTab : Tryz.prog.globalNamed "internal/strconv.uint64pow10" = some 3 := by kernel_rfl
theorem pgTabType : (Tryz.prog.globals[3]?).map (·.type) = some 181 := by kernel_rfl
theorem pcellsTab : Tryz.prog.cellsOf 181 = 20 := by kernel_rfl
theorem pcellsU64 : Tryz.prog.cellsOf 170 = 1 := by kernel_rfl
theorem pgOps : Tryz.prog.globalNamed "innkeeper/printer.operators" = some 1 := by kernel_rfl
theorem pgOpsType : (Tryz.prog.globals[1]?).map (·.type) = some 133 := by kernel_rfl
theorem pgVars : Tryz.prog.globalNamed "innkeeper/printer.variables" = some 0 := by kernel_rfl
theorem pgVarsType : (Tryz.prog.globals[0]?).map (·.type) = some 129 := by kernel_rfl
theorem ptab_head {W : World} {rest : List (String × DataW Unit)} (h : laidMet Tryz.prog (("internal/strconv.uint64pow10", Rows.laid_internal_strconv_uint64pow10) :: rest) W) : Ptab W :=
  Lib.tabIs_of_head (rest := rest) pgTab pgTabType Tryz.underlying181 Tryz.underlying170 pcellsU64 pcellsTab h
theorem ops_head {W : World} {rest : List (String × DataW Unit)} (h : laidMet Tryz.prog (("innkeeper/printer.operators", Rows.laid_innkeeper_printer_operators) :: rest) W) : ∀ o : Nat, 1 ≤ o → o ≤ 15 →
    W.cell? ⟨1, o * 2, none⟩ = some (.int .i64 (rankO o : Nat)) ∧ W.cell? ⟨1, o * 2 + 1, none⟩ = some (.string ⟨(shpO o).toArray⟩) := by
  obtain ⟨ps, ⟨g', t', cs, fuel, p, q, hg', ht', hvar, hd, _, _⟩, _⟩ := h
  obtain rfl := Option.some.inj (pgOps.symm.trans hg')
  obtain rfl := Option.some.inj (pgOpsType.symm.trans ht')
  intro o h1 h2
  have hc := fun i => World.var?_cell pgOps hvar i
  have hk : ∀ i : Nat, cs[i]? = cs.toList[i]? := fun i => by simp
  rw [hc, hc, hk, hk]
  have ho : o = 1 ∨ o = 2 ∨ o = 3 ∨ o = 4 ∨ o = 5 ∨ o = 6 ∨ o = 7 ∨ o = 8 ∨ o = 9 ∨ o = 10 ∨ o = 11 ∨ o = 12 ∨ o = 13 ∨ o = 14 ∨ o = 15 := by omega
  rcases ho with rfl | rfl | rfl | rfl | rfl | rfl | rfl | rfl | rfl | rfl | rfl | rfl | rfl | rfl | rfl <;> exact op_at hd (by decide) rfl
theorem vars_head {W : World} {rest : List (String × DataW Unit)} (h : laidMet Tryz.prog (("innkeeper/printer.variables", Rows.laid_innkeeper_printer_variables) :: rest) W) : ∀ n : Nat, 1 ≤ n → n ≤ 4 →
    W.cell? ⟨0, n, none⟩ = some (.string ⟨(varT n).toArray⟩) := by
  obtain ⟨ps, ⟨g', t', cs, fuel, p, q, hg', ht', hvar, hd, _, _⟩, _⟩ := h
  obtain rfl := Option.some.inj (pgVars.symm.trans hg')
  obtain rfl := Option.some.inj (pgVarsType.symm.trans ht')
  intro o h1 h2
  have hc := fun i => World.var?_cell pgVars hvar i
  have hk : ∀ i : Nat, cs[i]? = cs.toList[i]? := fun i => by simp
  rw [hc, hk]
  have ho : o = 1 ∨ o = 2 ∨ o = 3 ∨ o = 4 := by omega
  rcases ho with rfl | rfl | rfl | rfl <;> exact var_at9 hd (by decide) rfl
end Go.Proofs.YtlkefcbkpohpgaaGreatDoor
namespace Go.Proofs.YtlkefcbkpohpgaaGreatDoor
open Go.ChangeShapes Go.WideShapes Go.ChangeAt Go.RowKit

abbrev laidZ : List (String × DataW Unit) := [("math/bits.deBruijn32tab", Rows.laid_math_bits_deBruijn32tab), ("math/bits.deBruijn64tab", Rows.laid_math_bits_deBruijn64tab), ("internal/strconv.uint64pow10", Rows.laid_internal_strconv_uint64pow10), ("unicode/utf8.acceptRanges", Rows.laid_unicode_utf8_acceptRanges), ("strconv.ErrRange", Rows.laid_strconv_ErrRange), ("strconv.ErrSyntax", Rows.laid_strconv_ErrSyntax), ("innkeeper/printer.operators", Rows.laid_innkeeper_printer_operators), ("innkeeper/printer.variables", Rows.laid_innkeeper_printer_variables), ("unicode/utf8.first", Rows.laid_unicode_utf8_first)]
theorem lay_ofZ {W : World} (h : laidMet Tryz.prog laidZ W) (hs : W.ShapedOpen Tryz.prog) : Lay W := by
  refine ⟨Tryz.laysCutM.s1_3 W hs, ?_, ?_⟩
  · obtain ⟨a, s, hv, _⟩ := laid_sentinel (laidMet.tail (laidMet.tail (laidMet.tail (laidMet.tail (laidMet.tail h))))) gSyn gSynType Tryz.underlying105 rowE Tryz.underlying210 Tryz.underlying212 rfl rfl Tryz.underlying9 cellsE cellsS
    exact ⟨_, _, hv⟩
  · obtain ⟨a, s, hv, _⟩ := laid_sentinel (laidMet.tail (laidMet.tail (laidMet.tail (laidMet.tail h)))) gRng gRngType Tryz.underlying105 rowE Tryz.underlying210 Tryz.underlying212 rfl rfl Tryz.underlying9 cellsE cellsS
    exact ⟨_, _, hv⟩
theorem pl_ofZ {W : World} (h : laidMet Tryz.prog laidZ W) : PL W :=
  have h2 := laidMet.tail (laidMet.tail h)
  have h6 := laidMet.tail (laidMet.tail (laidMet.tail (laidMet.tail h2)))
  ⟨ptab_head h2, fun o h1 h2 => (ops_head h6 o h1 h2).1, fun o h1 h2 => (ops_head h6 o h1 h2).2, vars_head (laidMet.tail h6)⟩
def opsC : Array Value := ((List.range 16).flatMap fun (o : Nat) => [Value.int .i64 (((if o = 0 then 0 else rankO (o : Int)) : Nat) : Int), Value.string ⟨(if o = 0 then [] else shpO o).toArray⟩]).toArray
def varsC : Array Value := ((List.range 5).map fun (n : Nat) => Value.string ⟨(if n = 0 then [] else varT (n : Int)).toArray⟩).toArray
noncomputable def przWorld (os : Os) : World :=
  let w0 := World.holding Tryz.prog os ⟨#[.cells #[.string synS] 212, .cells #[.string rngS] 212], #[], []⟩
  { w0 with heap := ((((((((w0.heap.modify 6 fun
      | .cells _ t frozen => .cells #[.iface 210 (.pointer (some ⟨lowW, 0, none⟩))] t frozen
      | o => o).modify 7 fun
      | .cells _ t frozen => .cells #[.iface 210 (.pointer (some ⟨lowW + 1, 0, none⟩))] t frozen
      | o => o).modify 1 fun
      | .cells _ t frozen => .cells opsC t frozen
      | o => o).modify 0 fun
      | .cells _ t frozen => .cells varsC t frozen
      | o => o).modify 8 fun
      | .cells _ t frozen => .cells (numC .u8 Go.Pinned.utf8FirstZ) t frozen
      | o => o).modify 9 fun
      | .cells _ t frozen => .cells (numC .u8 [128, 191, 160, 191, 128, 159, 144, 191, 128, 143, 0, 0, 0, 0, 0, 0, 0, 0, 0, 0, 0, 0, 0, 0, 0, 0, 0, 0, 0, 0, 0, 0]) t frozen
      | o => o).modify 3 fun
      | .cells _ t frozen => .cells (numC .u64 ((List.range 20).map fun n => 10 ^ n)) t frozen
      | o => o).modify 4 fun
      | .cells _ t frozen => .cells (numC .u8 [0, 1, 28, 2, 29, 14, 24, 3, 30, 22, 20, 15, 25, 17, 4, 8, 31, 27, 13, 23, 21, 19, 16, 7, 26, 12, 18, 6, 11, 5, 10, 9]) t frozen
      | o => o).modify 5 fun
      | .cells _ t frozen => .cells (numC .u8 [0, 1, 56, 2, 57, 49, 28, 3, 61, 58, 42, 50, 38, 29, 17, 4, 62, 47, 59, 36, 45, 43, 51, 22, 53, 39, 33, 30, 24, 18, 12, 5, 63, 55, 48, 27, 60, 41, 37, 16, 46, 35, 44, 21, 52, 32, 23, 11, 54, 26, 40, 15, 34, 20, 31, 10, 25, 14, 19, 9, 13, 8, 7, 6]) t frozen
      | o => o }
set_option maxRecDepth 100000 in
theorem prz_met (os : Os) (args : Array Value) : laidMet Tryz.prog laidZ ((przWorld os).forCall (fun _ _ => 0) ⟨#[], args, []⟩).memory :=
  laidMet_of_run3 8 (by kernel_rfl) (by kernel_rfl) (by kernel_rfl)
end Go.Proofs.YtlkefcbkpohpgaaGreatDoor
