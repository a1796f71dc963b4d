/-
  What the printer's rows' list of variables gives.
-/
import Derived.OpenShut
import Derived.ChangeArms
import Derived.Lib.LaidTab
import Derived.LaidLaws
import Derived.Test.YtlkefcbkpohpgaaDoorPrnLib
import Derived.Test.YtlkefcbkpohpgaaDoorRows
namespace Go.Proofs.YtlkefcbkpohpgaaDoor
open Go.ChangeShapes Go.WideShapes Go.RowKit
set_option maxRecDepth 100000

theorem agg_inj {H : Type} {a b : List (DataW H)} (h : DataW.agg a = .agg b) : a = b := by cases h; rfl
theorem lit_inj {H : Type} {a b : Lit} (h : (DataW.lit a : DataW H) = .lit b) : a = b := by cases h; rfl
theorem int_inj9 {k : IntKind} {a b : Int} (h : Lit.int k a = .int k b) : a = b := by cases h; rfl
theorem str_inj9 {a b : List UInt8} (h : Lit.string a = .string b) : a = b := by cases h; rfl
theorem take_get {cs : List Value} {k : Nat} {v : Value} (h : (cs.drop k).take 1 = [v]) : cs[k]? = some v := by
  have := congrArg (·[0]?) h
  simpa [List.getElem?_take, List.getElem?_drop] using this
theorem op_at {W : World} {base : Nat} {sp : Nat → Bool} {held : Bool} {fuel : Nat} {enc : TypeId × Value → Unit} {cs : List Value} {L : List (DataW Unit)} {p : List MemPlace} (h : DataW.trod enc Tryd.prog W base sp held fuel 79 cs = some (.agg L, p)) {i : Nat} (hi : i < 16) {a : Int} {s : List UInt8}
    (hL : L[i]? = some (.agg [.lit (.int .i64 a), .lit (.string s)])) : cs[i * 2]? = some (.int .i64 a) ∧ cs[i * 2 + 1]? = some (.string ⟨s.toArray⟩) := by
  have hce : Tryd.prog.cellsOf 78 = 2 := by kernel_rfl
  have hci : Tryd.prog.cellsOf 3 = 1 := by kernel_rfl
  have hcs : Tryd.prog.cellsOf 9 = 1 := by kernel_rfl
  obtain ⟨xs, m, _, hx, hl, hlen, hf⟩ := DataW.trod_array Tryd.underlying79 h
  have hd := agg_inj (congrArg Prod.fst hx)
  have h1 := hf i hi
  rw [hce] at h1
  have h2 : xs[i]? = some (xs[i]'(by omega)) := List.getElem?_eq_getElem (by omega)
  rw [h2] at h1
  have h3 : (xs[i]'(by omega)).1 = .agg [.lit (.int .i64 a), .lit (.string s)] := by
    rw [hd, List.getElem?_map, h2] at hL
    exact Option.some.inj hL
  generalize xs[i]'(by omega) = y at h1 h3
  obtain ⟨ys, n, _, hy, hyl, hylen, hyf⟩ := DataW.trod_struct Tryd.underlying78 h1
  rw [hce] at hyl
  have g0 := hyf 0 _ rfl
  have g1 := hyf 1 _ rfl
  match ys, hylen with
  | [y0, y1], _ =>
    have hy2 : y.1 = .agg [y0.1, y1.1] := congrArg Prod.fst hy
    rw [hy2] at h3
    have h4 := agg_inj h3
    have g0' : DataW.trod enc Tryd.prog W base sp held n 3 ((((cs.drop (i * 2)).take 2).drop 0).take (Tryd.prog.cellsOf 3)) = some y0 := g0
    have g1' : DataW.trod enc Tryd.prog W base sp held n 9 ((((cs.drop (i * 2)).take 2).drop 1).take (Tryd.prog.cellsOf 9)) = some y1 := g1
    rw [hci] at g0'
    rw [hcs] at g1'
    obtain ⟨z, e0, e1, _⟩ := DataW.trod_int Tryd.underlying3 g0'
    obtain ⟨S, e2, e3, _⟩ := DataW.trod_string Tryd.underlying9 g1'
    rw [e1, e3] at h4
    simp only [List.cons.injEq, and_true] at h4
    have hz := int_inj9 (lit_inj h4.1)
    have hS := str_inj9 (lit_inj h4.2)
    subst hz
    have k0 := congrArg (·[0]?) e0
    have k1 := congrArg (·[0]?) e2
    simp [List.getElem?_drop] at k0 k1
    refine ⟨k0, ?_⟩
    rw [k1, ← hS]
theorem var_at9 {W : World} {base : Nat} {sp : Nat → Bool} {held : Bool} {fuel : Nat} {enc : TypeId × Value → Unit} {cs : List Value} {L : List (DataW Unit)} {p : List MemPlace} (h : DataW.trod enc Tryd.prog W base sp held fuel 75 cs = some (.agg L, p)) {i : Nat} (hi : i < 5) {s : List UInt8}
    (hL : L[i]? = some (.lit (.string s))) : cs[i]? = some (.string ⟨s.toArray⟩) := by
  have hcs : Tryd.prog.cellsOf 9 = 1 := by kernel_rfl
  obtain ⟨xs, m, _, hx, hl, hlen, hf⟩ := DataW.trod_array Tryd.underlying75 h
  have hd := agg_inj (congrArg Prod.fst hx)
  have h1 := hf i hi
  rw [hcs, Nat.mul_one] at h1
  have h2 : xs[i]? = some (xs[i]'(by omega)) := List.getElem?_eq_getElem (by omega)
  rw [h2] at h1
  have h3 : (xs[i]'(by omega)).1 = .lit (.string s) := by
    rw [hd, List.getElem?_map, h2] at hL
    exact Option.some.inj hL
  generalize xs[i]'(by omega) = y at h1 h3
  obtain ⟨S, e2, e3, _⟩ := DataW.trod_string Tryd.underlying9 h1
  rw [e3] at h3
  have hS := str_inj9 (lit_inj h3)
  rw [take_get e2, ← hS]
theorem pgTab : Tryd.prog.globalNamed "internal/strconv.uint64pow10" = some 3 := by kernel_rfl
theorem pgTabType : (Tryd.prog.globals[3]?).map (·.type) = some 112 := by kernel_rfl
theorem pcellsTab : Tryd.prog.cellsOf 112 = 20 := by kernel_rfl
theorem pcellsU64 : Tryd.prog.cellsOf 101 = 1 := by kernel_rfl
theorem pgOps : Tryd.prog.globalNamed "innkeeper/printer.operators" = some 1 := by kernel_rfl
theorem pgOpsType : (Tryd.prog.globals[1]?).map (·.type) = some 79 := by kernel_rfl
theorem pgVars : Tryd.prog.globalNamed "innkeeper/printer.variables" = some 0 := by kernel_rfl
theorem pgVarsType : (Tryd.prog.globals[0]?).map (·.type) = some 75 := by kernel_rfl
theorem ptab_head {W : World} {rest : List (String × DataW Unit)} (h : laidMet Tryd.prog (("internal/strconv.uint64pow10", Rows.laid_internal_strconv_uint64pow10) :: rest) W) : Ptab W :=
  Lib.tabIs_of_head (rest := rest) pgTab pgTabType Tryd.underlying112 Tryd.underlying101 pcellsU64 pcellsTab h
theorem ops_head {W : World} {rest : List (String × DataW Unit)} (h : laidMet Tryd.prog (("innkeeper/printer.operators", Rows.laid_innkeeper_printer_operators) :: rest) W) : ∀ o : Nat, 1 ≤ o → o ≤ 15 →
    W.cell? ⟨1, o * 2, none⟩ = some (.int .i64 (rankO o : Nat)) ∧ W.cell? ⟨1, o * 2 + 1, none⟩ = some (.string ⟨(shpO o).toArray⟩) := by
  obtain ⟨ps, ⟨g', t', cs, fuel, p, q, hg', ht', hvar, hd, _, _⟩, _⟩ := h
  obtain rfl := Option.some.inj (pgOps.symm.trans hg')
  obtain rfl := Option.some.inj (pgOpsType.symm.trans ht')
  intro o h1 h2
  have hc := fun i => World.var?_cell pgOps hvar i
  have hk : ∀ i : Nat, cs[i]? = cs.toList[i]? := fun i => by simp
  rw [hc, hc, hk, hk]
  have ho : o = 1 ∨ o = 2 ∨ o = 3 ∨ o = 4 ∨ o = 5 ∨ o = 6 ∨ o = 7 ∨ o = 8 ∨ o = 9 ∨ o = 10 ∨ o = 11 ∨ o = 12 ∨ o = 13 ∨ o = 14 ∨ o = 15 := by omega
  rcases ho with rfl | rfl | rfl | rfl | rfl | rfl | rfl | rfl | rfl | rfl | rfl | rfl | rfl | rfl | rfl <;> exact op_at hd (by decide) rfl
theorem vars_head {W : World} {rest : List (String × DataW Unit)} (h : laidMet Tryd.prog (("innkeeper/printer.variables", Rows.laid_innkeeper_printer_variables) :: rest) W) : ∀ n : Nat, 1 ≤ n → n ≤ 4 →
    W.cell? ⟨0, n, none⟩ = some (.string ⟨(varT n).toArray⟩) := by
  obtain ⟨ps, ⟨g', t', cs, fuel, p, q, hg', ht', hvar, hd, _, _⟩, _⟩ := h
  obtain rfl := Option.some.inj (pgVars.symm.trans hg')
  obtain rfl := Option.some.inj (pgVarsType.symm.trans ht')
  intro o h1 h2
  have hc := fun i => World.var?_cell pgVars hvar i
  have hk : ∀ i : Nat, cs[i]? = cs.toList[i]? := fun i => by simp
  rw [hc, hk]
  have ho : o = 1 ∨ o = 2 ∨ o = 3 ∨ o = 4 := by omega
  rcases ho with rfl | rfl | rfl | rfl <;> exact var_at9 hd (by decide) rfl
end Go.Proofs.YtlkefcbkpohpgaaDoor
