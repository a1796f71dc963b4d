/-
  The builder that lies in a writer: its methods, walked at a block of the writer's type.
-/
import Derived.Shelf.Strings.BuilderK
import Derived.Lib.FrozenHead2
import Derived.Lib.OthersKept
import Derived.Shelf.Lay
import Derived.Ground.NamesProg
import Derived.Test.YtlkefcbkpohpgaaDoorKit
import Derived.Test.YtlkefcbkpohpgaaDoorLexPlain
import Derived.Test.YtlkefcbkpohpgaaDoorProg
namespace Go.Proofs.YtlkefcbkpohpgaaDoor
open Go.RowKit Go.Shelf
set_option maxRecDepth 100000

/-- a writer's bytes -/
def Wld (B b : Nat) (l : List UInt8) (w : World) : Prop := Lib.IsBuilderF 53 5 B b (Lib.byteCells l) w
def Wat (B b : Nat) (l : List UInt8) (w : World) : Prop := Lib.BuilderAtF 53 5 B b (.pointer (some ⟨b, 0, none⟩)) (Lib.byteCells l) w
def WEndA (B b : Nat) (l : List UInt8) (v : Value) (w : World) (e : Ending) (w' : World) : Prop := e = .returned v ∧ Wat B b l w' ∧ Below B w w' ∧ Lib.OthersKept 5 (some b) w w'
def WEnd (B b : Nat) (l : List UInt8) (v : Value) (w : World) (e : Ending) (w' : World) : Prop := e = .returned v ∧ Wld B b l w' ∧ Below B w w' ∧ Lib.OthersKept 5 (some b) w w'
theorem Wat.wld {B b : Nat} {l : List UInt8} {w : World} (h : Wat B b l w) : Wld B b l w := .inr h
theorem wsize : ∃ j, Tryd.prog.info? 51 = some j ∧ j.size ≠ 0 := by
  have h : (Tryd.prog.info? 51).map (·.size) = some 2 := by kernel_rfl
  obtain ⟨j, hj, hjs⟩ := Option.map_eq_some_iff.1 h
  exact ⟨j, hj, by rw [hjs]; decide⟩
theorem wlies : liesAt Tryd.prog Tryd.prog.depth 53 (2 / Tryd.prog.cellsOf 53) 0 51 1 = true := by kernel_rfl
theorem wne : 53 ≠ 5 := by decide
theorem wcheck_any (B b : Nat) (l : List UInt8) (w : World) (h : Wld B b l w) : Calls Tryd.prog 57 #[.pointer (some ⟨b, 0, none⟩)] w (WEndA B b l (.tuple #[]) w) := by
  obtain ⟨j, hj, hj0⟩ := wsize
  rcases h with h | h
  · have c0 := h.cell0
    have s0 := h.shape
    have f0 := h.frozen0
    go_enter Tryd.func57, Tryd.ntmps57
    go_wp2_with fail
    rw [Lib.run_to_unsafe w ⟨b, 0, none⟩ Tryd.underlying48 Tryd.underlying96 hj hj0 s0 (Nat.zero_lt_succ 1)]
    simp only [Result.andThen]
    rw [Oper.upon_value]
    go_wp2_with fail
    rw [run_callFunc_extern Tryd.func71 (by kernel_rfl) (by kernel_rfl) (by kernel_rfl) (e := Extern.AbiNoEscape.same) (by kernel_rfl)]
    rw [Lib.run_noEscape]
    simp only [Result.andThen]
    rw [Oper.upon_value]
    go_wp2_with fail
    rw [Lib.run_from_unsafe w ⟨b, 0, none⟩ Tryd.underlying96 Tryd.underlying48 hj s0 wlies]
    simp only [Result.andThen]
    rw [Oper.upon_value]
    go_wp2_with fail
    go_end0
    exact ⟨rfl, h.used _, (Below.refl B w).setCell (p := ⟨b, 0, none⟩) h.1 _, (Lib.OthersKept.refl _ _ w).setCell ⟨b, 0, none⟩ rfl _⟩
  · have c0 := h.cell0
    go_enter Tryd.func57, Tryd.ntmps57
    go_wp2_with fail
    rw [Lib.run_neq_ptr_same w ⟨b, 0, none⟩ Tryd.underlying48 hj]
    simp only [Result.andThen]
    rw [Oper.upon_value]
    go_wp2_with fail
    go_end0
    exact ⟨rfl, h, Below.refl B _, Lib.OthersKept.refl _ _ _⟩
/-- a writer's two cells, and the row of its bytes -/
theorem Wat.parts {B b : Nat} {l : List UInt8} {w : World} (h : Wat B b l w) : B ≤ b ∧ b < w.heap.size ∧ ∃ v, w.heap[b]? = some (.cells #[.pointer (some ⟨b, 0, none⟩), v] 53 (0, 0)) ∧ w.ownsRowF B 5 1 v l.length (Lib.byteCells l) ∧ v.ownBlock ≠ some b ∧
    w.cell? ⟨b, 0, none⟩ = some (.pointer (some ⟨b, 0, none⟩)) ∧ w.cell? ⟨b, 1, none⟩ = some v ∧ w.frozen? ⟨b, 1, none⟩ = false := by
  have hlt := h.lt
  obtain ⟨hB, v, hbk, hown, hne⟩ := h
  rw [Lib.byteCells_length] at hown
  exact ⟨hB, hlt, v, hbk, hown, hne, by rw [Lib.cell_of_heap hbk]; rfl, by rw [Lib.cell_of_heap hbk]; rfl, Lib.frozen_of_heap hbk 1⟩
theorem wbyte : ∃ i, Tryd.prog.info? 5 = some i ∧ i.zero = some (.int .u8 0) ∧ i.size = 1 ∧ i.bytes = 1 := info_parts (by kernel_rfl)
theorem wsz (s : List UInt8) : (⟨s.toArray⟩ : ByteArray).size = s.length := by simp [ByteArray.size]
theorem wcells (s : List UInt8) : Lib.strCells ⟨s.toArray⟩ = Lib.byteCells s := by simp [Lib.strCells, Lib.byteCells]
set_option maxHeartbeats 2000000 in
theorem wwrite_any (B b : Nat) (l s : List UInt8) (w : World) (h : Wld B b l w) (hl : l.length ≤ 1000000) (hs : s.length ≤ 1000000) (hBw : B ≤ w.heap.size) :
    Calls Tryd.prog 44 #[.pointer (some ⟨b, 0, none⟩), .string ⟨s.toArray⟩] w (WEnd B b (l ++ s) (.tuple #[.int .i64 s.length, .nilIface]) w) := by
  obtain ⟨i0, hi, hz0, hz1, hz2⟩ := wbyte
  have hsz := wsz s
  have hcs := wcells s
  generalize (⟨s.toArray⟩ : ByteArray) = S at hsz hcs ⊢
  go_enter Tryd.func44, Tryd.ntmps44
  go_wp2_with fail
  refine (wcheck_any B b l w h).mono ?_
  rintro e w1 ⟨rfl, h1, hb1, hk1⟩
  obtain ⟨hB, hlt, v, hbk, hown, hne, c0, c1, f1⟩ := h1.parts
  have hz := hb1.size
  clear h
  go_wp2_with (at_builtin; refine Lib.wpList_append_own_stringF _ rfl _ _ 49 9 rfl B 5 i0 Tryd.underlying49 Tryd.underlying9 hi hz0 hz1 hz2 _ _ _ rfl hown S rfl (by unfold maxLen; omega) (by omega) (by omega) ?_; intro v2 w2 hown2 hg _; refine Hid.out ?_)
  have hbk2 : w2.heap[b]? = some (.cells #[.pointer (some ⟨b, 0, none⟩), v] 53 (0, 0)) := (hg.block b hlt (fun e => hne e.symm)).trans hbk
  have d0 : w2.cell? ⟨b, 0, none⟩ = some (.pointer (some ⟨b, 0, none⟩)) := by rw [Lib.cell_of_heap hbk2]; rfl
  have d1 : w2.cell? ⟨b, 1, none⟩ = some v := by rw [Lib.cell_of_heap hbk2]; rfl
  have g1 : w2.frozen? ⟨b, 1, none⟩ = false := Lib.frozen_of_heap hbk2 1
  obtain ⟨ao, n2, cap, rfl⟩ : ∃ ao n2 cap, v2 = .slice ao n2 cap := by
    rcases hown2.2 with ⟨hv, _⟩ | ⟨g, cap, cur, fz, hv, _⟩
    · exact ⟨_, _, _, hv⟩
    · exact ⟨_, _, _, hv⟩
  clear c0 c1 f1 h1
  refine Lib.hid ?_
  go_wp2_with fail
  go_ret2
  refine ⟨rfl, ?_, ?_, (hk1.grown hg (Lib.ownsRowF_kind hown)).setCell ⟨b, 1, none⟩ rfl _⟩
  · refine .inr ?_
    rw [Lib.byteCells_append]
    exact Lib.BuilderAtF.put hB hbk2 (by rw [hcs] at hown2; simpa [Lib.byteCells_length, hsz] using hown2) wne
  · exact (hb1.grown hg (by omega) (fun k hk => (hown.lt k hk).1)).setCell (p := ⟨b, 1, none⟩) hB _
set_option maxHeartbeats 2000000 in
theorem wbyte_any (B b : Nat) (l : List UInt8) (c : UInt8) (w : World) (h : Wld B b l w) (hl : l.length ≤ 1000000) (hBw : B ≤ w.heap.size) :
    Calls Tryd.prog 52 #[.pointer (some ⟨b, 0, none⟩), .int .u8 c.toNat] w (WEnd B b (l ++ [c]) .nilIface w) := by
  obtain ⟨i0, hi, hz0, hz1, hz2⟩ := wbyte
  go_enter Tryd.func52, Tryd.ntmps52
  go_wp2_with fail
  refine (wcheck_any B b l w h).mono ?_
  rintro e w1 ⟨rfl, h1, hb1, hk1⟩
  obtain ⟨hB, hlt, v, hbk, hown, hne, c0, c1, f1⟩ := h1.parts
  have hz := hb1.size
  clear h
  go_wp2_with (at_builtin; refine wpList_append_ownF _ rfl _ _ 49 rfl B 5 i0 (.int .u8 0) 1 1 Tryd.underlying49 hi hz0 hz1 hz2 rfl (by decide) _ _ _ rfl (hown.alloc _) ⟨w1.heap.size, 0, none⟩ 1 1 [.int .u8 c.toNat] rfl rfl (fun j u hj => by match j, hj with | 0, hj => simp at hj; subst hj; simp [Addr.add]) (fun u hu => by simp at hu; subst hu; rfl) (by unfold maxLen; omega) (by omega) (by simp; omega) ?_; intro v2 w2 hown2 hg _; refine Hid.out ?_)
  have hbk2 : w2.heap[b]? = some (.cells #[.pointer (some ⟨b, 0, none⟩), v] 53 (0, 0)) := (hg.block b (by simp; omega) (fun e => hne e.symm)).trans ((Lib.alloc_old w1 _ b hlt).trans hbk)
  have d0 : w2.cell? ⟨b, 0, none⟩ = some (.pointer (some ⟨b, 0, none⟩)) := by rw [Lib.cell_of_heap hbk2]; rfl
  have d1 : w2.cell? ⟨b, 1, none⟩ = some v := by rw [Lib.cell_of_heap hbk2]; rfl
  have g1 : w2.frozen? ⟨b, 1, none⟩ = false := Lib.frozen_of_heap hbk2 1
  obtain ⟨g, cap, rfl⟩ : ∃ g cap, v2 = .slice (some ⟨g, 0, none⟩) (l.length + 1) cap := by
    rcases hown2.2 with ⟨_, h0⟩ | ⟨g, cap, cur, fz, hv, _⟩
    · omega
    · exact ⟨g, cap, hv⟩
  clear c0 c1 f1 h1
  refine Lib.hid ?_
  go_wp2_with fail
  go_ret
  refine ⟨rfl, ?_, ?_, ((hk1.alloc _).grown hg (Lib.ownsRowF_kind (hown.alloc _))).setCell ⟨b, 1, none⟩ rfl _⟩
  · refine .inr ?_
    rw [Lib.byteCells_append]
    exact Lib.BuilderAtF.put hB hbk2 (by simpa [Lib.byteCells_length, Lib.byteCells] using hown2) wne
  · exact ((hb1.alloc (by omega) _).grown hg (by simp; omega) (fun k hk => (hown.lt k hk).1)).setCell (p := ⟨b, 1, none⟩) hB _
set_option maxHeartbeats 2000000 in
theorem wlen_any (B b : Nat) (l : List UInt8) (w : World) (h : Wld B b l w) : Calls Tryd.prog 51 #[.pointer (some ⟨b, 0, none⟩)] w (Same (.int .i64 l.length) w) := by
  obtain ⟨p, hB, v, hbk, hown, hne⟩ : ∃ p, Lib.BuilderAtF 53 5 B b p (Lib.byteCells l) w := h.elim (fun h => ⟨_, h⟩) (fun h => ⟨_, h⟩)
  rw [Lib.byteCells_length] at hown
  obtain ⟨ao, cap, rfl⟩ : ∃ ao cap, v = .slice ao l.length cap := by
    rcases hown.2 with ⟨hv, h0⟩ | ⟨g, cap, cur, fz, hv, _⟩
    · exact ⟨none, 0, by rw [hv, h0]⟩
    · exact ⟨_, _, hv⟩
  have c1 : w.cell? ⟨b, 1, none⟩ = some (.slice ao l.length cap) := by rw [Lib.cell_of_heap hbk]; rfl
  go_enter Tryd.func51, Tryd.ntmps51
  go_wp2_with fail
  go_ret
  exact ⟨rfl, rfl⟩
set_option maxHeartbeats 2000000 in
theorem wutf_any (B : Nat) (v : Value) (n : Nat) (xs : List Value) (c : UInt8) (hc : c.toNat < 128) (w : World) (hown : w.ownsRowF B 5 1 v n xs) (hn : n ≤ 1000000) (hBw : B ≤ w.heap.size) :
    Calls Tryd.prog 73 #[v, .int .i32 c.toNat] w fun e w' => ∃ v2, e = .returned v2 ∧ w'.ownsRowF B 5 1 v2 (n + 1) (xs ++ [.int .u8 c.toNat]) ∧ ∃ o, (w.alloc o).grownBy w' v.ownBlock := by
  obtain ⟨i0, hi, hz0, hz1, hz2⟩ := wbyte
  have h1 : IntKind.u32.wrap (c.toNat : Int) = c.toNat := IntWalk.u32_in _ (by omega)
  have h2 : IntKind.u8.wrap (c.toNat : Int) = c.toNat := IntWalk.u8_in _ (by omega)
  have h3 : decide ((c.toNat : Int) ≤ 127) = true := decide_eq_true (by omega)
  generalize (c.toNat : Int) = C at h1 h2 h3 ⊢
  go_enter Tryd.func73, Tryd.ntmps73
  go_wp2_with (at_builtin; refine wpList_append_ownF _ rfl _ _ 49 rfl B 5 i0 (.int .u8 0) 1 1 Tryd.underlying49 hi hz0 hz1 hz2 rfl (by decide) _ _ _ rfl (hown.alloc _) ⟨w.heap.size, 0, none⟩ 1 1 [.int .u8 C] rfl rfl (fun j u hj => by match j, hj with | 0, hj => simp at hj; subst hj; simp [Addr.add]) (fun u hu => by simp at hu; subst hu; rfl) (by unfold maxLen; omega) (by omega) (by simp; omega) ?_; intro v2 w2 hown2 hg _; refine Hid.out ?_)
  refine Lib.hid ?_
  go_wp2_with fail
  go_ret
  exact ⟨_, rfl, hown2, _, hg⟩
set_option maxHeartbeats 2000000 in
theorem wrune_any (B b : Nat) (l : List UInt8) (c : UInt8) (hc : c.toNat < 128) (w : World) (h : Wld B b l w) (hl : l.length ≤ 1000000) (hBw : B ≤ w.heap.size) :
    Calls Tryd.prog 60 #[.pointer (some ⟨b, 0, none⟩), .int .i32 c.toNat] w (WEnd B b (l ++ [c]) (.tuple #[.int .i64 1, .nilIface]) w) := by
  go_enter Tryd.func60, Tryd.ntmps60
  go_wp2_with fail
  refine (wcheck_any B b l w h).mono ?_
  rintro e w1 ⟨rfl, h1, hb1, hk1⟩
  obtain ⟨hB, hlt, v, hbk, hown, hne, c0, c1, f1⟩ := h1.parts
  have hz := hb1.size
  obtain ⟨ao, cap, rfl⟩ : ∃ ao cap, v = .slice ao l.length cap := by
    rcases hown.2 with ⟨hv, h0⟩ | ⟨g, cap, cur, fz, hv, _⟩
    · exact ⟨none, 0, by rw [hv, h0]⟩
    · exact ⟨_, _, hv⟩
  clear h
  go_wp2_with (go_at_call 73; refine (wutf_any B _ l.length (Lib.byteCells l) c hc w1 hown hl (by omega)).mono ?_; rintro e w2 ⟨v2, rfl, hown2, o, hg⟩; refine Hid.out ?_)
  have hbk2 : w2.heap[b]? = some (.cells #[.pointer (some ⟨b, 0, none⟩), .slice ao l.length cap] 53 (0, 0)) := (hg.block b (by simp; omega) (fun e => hne e.symm)).trans ((Lib.alloc_old w1 _ b hlt).trans hbk)
  have d0 : w2.cell? ⟨b, 0, none⟩ = some (.pointer (some ⟨b, 0, none⟩)) := by rw [Lib.cell_of_heap hbk2]; rfl
  have d1 : w2.cell? ⟨b, 1, none⟩ = some (.slice ao l.length cap) := by rw [Lib.cell_of_heap hbk2]; rfl
  have g1 : w2.frozen? ⟨b, 1, none⟩ = false := Lib.frozen_of_heap hbk2 1
  obtain ⟨g, cap2, rfl⟩ : ∃ g cap, v2 = .slice (some ⟨g, 0, none⟩) (l.length + 1) cap := by
    rcases hown2.2 with ⟨_, h0⟩ | ⟨g, cap, cur, fz, hv, _⟩
    · omega
    · exact ⟨g, cap, hv⟩
  clear c0 c1 f1 h1
  have hsub : Hid ((l.length : Int) + 1 - l.length = 1) := Lib.hid (by omega)
  refine Lib.hid ?_
  go_wp2_with fail
  go_ret2
  refine ⟨?_, ?_, ?_, ((hk1.alloc _).grown hg (Lib.ownsRowF_kind (hown.alloc _))).setCell ⟨b, 1, none⟩ rfl _⟩
  · show Ending.returned (.tuple #[.int .i64 ((l.length : Int) + 1 - l.length), .nilIface]) = _
    rw [hsub.out]
  · refine .inr ?_
    rw [Lib.byteCells_append]
    exact Lib.BuilderAtF.put hB hbk2 (by simpa [Lib.byteCells_length, Lib.byteCells] using hown2) wne
  · exact ((hb1.alloc (by omega) _).grown hg (by simp; omega) (fun k hk => (hown.lt k hk).1)).setCell (p := ⟨b, 1, none⟩) hB _
set_option maxHeartbeats 2000000 in
/-- String, of what has been written -/
theorem wstring_any (B b : Nat) (l : List UInt8) (h0 : l ≠ []) (hl : l.length ≤ 1000000) (w : World) (h : Wld B b l w) :
    Calls Tryd.prog 25 #[.pointer (some ⟨b, 0, none⟩)] w fun e w' => e = .returned (.string ⟨l.toArray⟩) ∧ Below B w w' := by
  obtain ⟨p, hB, v, hbk, hown, hne⟩ : ∃ p, Lib.BuilderAtF 53 5 B b p (Lib.byteCells l) w := h.elim (fun h => ⟨_, h⟩) (fun h => ⟨_, h⟩)
  rw [Lib.byteCells_length] at hown
  have c1 : w.cell? ⟨b, 1, none⟩ = some v := by rw [Lib.cell_of_heap hbk]; rfl
  have hl0 : l.length ≠ 0 := fun e => h0 (List.length_eq_zero_iff.1 e)
  obtain ⟨g, cap, cur, fz, hv, hBg, hg, hcap, hmx, hcs⟩ : ∃ g cap cur fz, v = .slice (some ⟨g, 0, none⟩) l.length cap ∧ B ≤ g ∧ w.heap[g]? = some (.cells cur 5 fz) ∧ l.length ≤ cap ∧ cap ≤ maxLen ∧ cur.size = cap * 1 := by
    rcases hown.2 with ⟨_, hz⟩ | ⟨g, cap, cur, fz, hv, hBg, hg, _, h1, h2, h3, _⟩
    · exact absurd hz hl0
    · exact ⟨g, cap, cur, fz, hv, hBg, hg, h1, h2, h3⟩
  unfold maxLen at hmx
  subst hv
  have hsh : w.shape? g = some (5, cur.size) := by simp [World.shape?, hg]
  have hSD : (Builtin.unsafeSliceData_ #[49] 80 #[.slice (some ⟨g, 0, none⟩) l.length cap]).run Tryd.prog w.drew = .ok (.pointer (some ⟨g, 0, none⟩)) w.drew :=
    Lib.run_unsafeSliceData_row _ _ _ _ _ _ (by omega)
  have hUS : (Builtin.unsafeString_ #[80, 3] 9 #[.pointer (some ⟨g, 0, none⟩), .int .i64 l.length]).run Tryd.prog w.drew = .ok (.string ⟨l.toArray⟩) (w.drew.freeze ⟨g, 0, none⟩ l.length) := by
    refine Lib.run_unsafeString_row w.drew 80 3 9 5 Tryd.underlying80 (by kernel_rfl) g cur.size hsh l h0 (by omega) (by omega) ?_
    intro j x hx
    exact hown.cells (g := g) rfl j (.int .u8 x.toNat) (by simp [Lib.byteCells, hx])
  go_enter Tryd.func25, Tryd.ntmps25
  go_wp2_with fail
  go_region
  all_goals (go_wp2_with fail; go_ret; exact ⟨rfl, Lib.below_freeze (Below.drew (Below.refl B w)) (p := ⟨g, 0, none⟩) hBg _⟩)
theorem wld_lt {B b : Nat} {l : List UInt8} {w : World} (h : Wld B b l w) : B ≤ b ∧ b < w.heap.size := h.elim (fun h => ⟨h.1, h.lt⟩) (fun h => ⟨h.1, h.lt⟩)
theorem wld_below {B b : Nat} {l : List UInt8} {w w1 : World} (h : Wld B b l w) (hb : Below w.heap.size w w1) : Wld B b l w1 := by
  have key : ∀ p, Lib.BuilderAtF 53 5 B b p (Lib.byteCells l) w → Lib.BuilderAtF 53 5 B b p (Lib.byteCells l) w1 := by
    rintro p ⟨hB, v, hbk, ⟨h0, h1⟩, hne⟩
    refine ⟨hB, v, (hb.block _ (Array.getElem?_eq_some_iff.1 hbk).1).trans hbk, ⟨h0, ?_⟩, hne⟩
    rcases h1 with h1 | ⟨g, cap, cur, fz, hv, hg, hh, hr⟩
    · exact .inl h1
    · exact .inr ⟨g, cap, cur, fz, hv, hg, (hb.block _ (Array.getElem?_eq_some_iff.1 hh).1).trans hh, hr⟩
  exact h.elim (fun h => .inl (key _ h)) (fun h => .inr (key _ h))
theorem others_below {b : Nat} {w w1 : World} (hb : Below w.heap.size w w1) : Lib.OthersKept 5 (some b) w w1 := fun k _ hk _ _ => (hb.block k (Array.getElem?_eq_some_iff.1 hk).1).trans hk
theorem wld_alloc {B b : Nat} {l : List UInt8} {w : World} (h : Wld B b l w) (o : Obj) : Wld B b l (w.alloc o) := Lib.IsBuilderF.alloc h o
theorem wld_iter {B b : Nat} {l : List UInt8} {w : World} (h : Wld B b l w) {k : Nat} {S : ByteArray} {p : Nat} (hk : w.heap[k]? = some (.stringIter S p)) (q : Nat) : Wld B b l (w.iterAt k S q) := Lib.IsBuilderF.iterAt h hk q
theorem others_iter {b k : Nat} {S : ByteArray} {p : Nat} {w w1 : World} (h : Lib.OthersKept 5 (some b) w w1) (hk : w.heap.size ≤ k) : Lib.OthersKept 5 (some b) w (w1.iterAt k S p) := fun j o hj h1 h2 => by
  have hlt : j < w.heap.size := (Array.getElem?_eq_some_iff.1 hj).1
  rw [Lib.iterAt_other w1 k j S p (by omega)]
  exact h j o hj h1 h2
/-- a block of the call's own that the writer leaves as it stood -/
theorem own_others {b C : Nat} {xs : List Value} {T : TypeId} {w w1 : World} (h : Lib.OthersKept 5 (some b) w w1) (hC : C ≠ b) (hT : T ≠ 5) (_hs : w1.heap.size ≥ w.heap.size) {fz : Nat × Nat} (hh : w.heap[C]? = some (.cells xs.toArray T fz)) : w1.heap[C]? = some (.cells xs.toArray T fz) :=
  h C _ hh (by simpa using hC) (fun c f e => by cases e; exact hT rfl)
end Go.Proofs.YtlkefcbkpohpgaaDoor
