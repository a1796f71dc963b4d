/-
  The program: mark.
-/
import Derived.Test.YtpgnlmhkigpjgaaCodGet
namespace Go.Proofs.Ytpgnlmhkigpjgaa
open Go.RowKit

def mlist (d : UInt64) (j : Nat) : List Value := List.replicate (8 - j) (.int .u8 0) ++ ((bytes8 d).drop (8 - j)).map vB
theorem bytes8_len (d : UInt64) : (bytes8 d).length = 8 := by simp [bytes8]
theorem mlist_len (d : UInt64) {j : Nat} (h : j ≤ 8) : (mlist d j).length = 8 := by
  simp only [mlist, List.length_append, List.length_replicate, List.length_map, List.length_drop, bytes8_len]; omega
theorem mlist_set (d : UInt64) {j : Nat} (h : j < 8) : (mlist d j).set (7 - j) (vB (byt d (7 - j))) = mlist d (j + 1) := by
  unfold mlist
  have h1 : 8 - j = (7 - j) + 1 := by omega
  have h2 : 8 - (j + 1) = 7 - j := by omega
  rw [h1, h2, List.replicate_succ', List.append_assoc, List.set_append_right _ _ (by simp), List.length_replicate, Nat.sub_self]
  have h3 : (bytes8 d).drop (7 - j) = byt d (7 - j) :: (bytes8 d).drop (7 - j + 1) := by
    rw [drop_cons (by rw [bytes8_len]; omega)]
    simp [bytes8]
  rw [h3]
  rfl
theorem mlist_all (d : UInt64) : mlist d 8 = (bytes8 d).map vB := by simp [mlist]

theorem Own.eight {w : World} {B : Nat} {a b c d e f g h : Value} (o : Own w B [a, b, c, d, e, f, g, h]) : w.cell? ⟨B, 0, none⟩ = some a ∧ w.cell? ⟨B, 1, none⟩ = some b ∧ w.cell? ⟨B, 2, none⟩ = some c ∧ w.cell? ⟨B, 3, none⟩ = some d ∧
    w.cell? ⟨B, 4, none⟩ = some e ∧ w.cell? ⟨B, 5, none⟩ = some f ∧ w.cell? ⟨B, 6, none⟩ = some g ∧ w.cell? ⟨B, 7, none⟩ = some h ∧ B < w.heap.size :=
  ⟨o.cell 0 _ rfl, o.cell 1 _ rfl, o.cell 2 _ rfl, o.cell 3 _ rfl, o.cell 4 _ rfl, o.cell 5 _ rfl, o.cell 6 _ rfl, o.cell 7 _ rfl, o.lt⟩
theorem Own.eight2 {w : World} {B : Nat} {z : Value} (o : Own w B (List.replicate 8 z)) : w.cell? ⟨B, 0, none⟩ = some z ∧ w.cell? ⟨B, 1, none⟩ = some z ∧ w.cell? ⟨B, 2, none⟩ = some z ∧ w.cell? ⟨B, 3, none⟩ = some z ∧
    w.cell? ⟨B, 4, none⟩ = some z ∧ w.cell? ⟨B, 5, none⟩ = some z ∧ w.cell? ⟨B, 6, none⟩ = some z ∧ w.cell? ⟨B, 7, none⟩ = some z ∧
    w.frozen? ⟨B, 0, none⟩ = false ∧ w.frozen? ⟨B, 1, none⟩ = false ∧ w.frozen? ⟨B, 2, none⟩ = false ∧ w.frozen? ⟨B, 3, none⟩ = false ∧
    w.frozen? ⟨B, 4, none⟩ = false ∧ w.frozen? ⟨B, 5, none⟩ = false ∧ w.frozen? ⟨B, 6, none⟩ = false ∧ w.frozen? ⟨B, 7, none⟩ = false ∧ B < w.heap.size :=
  ⟨o.cell 0 _ rfl, o.cell 1 _ rfl, o.cell 2 _ rfl, o.cell 3 _ rfl, o.cell 4 _ rfl, o.cell 5 _ rfl, o.cell 6 _ rfl, o.cell 7 _ rfl,
   o.fro 0 z rfl, o.fro 1 z rfl, o.fro 2 z rfl, o.fro 3 z rfl, o.fro 4 z rfl, o.fro 5 z rfl, o.fro 6 z rfl, o.fro 7 z rfl, o.lt⟩

theorem results_cell_at {P : Program} {fn : Func} {p : Tmp} {ty : TypeId} (h : fn.results = #[.cell p ty]) (tmps : Array Value) (w : World) (B : Nat) (vs : List Value) {d : TypeDesc}
    (hp : tmps.getD p undef = .pointer (some ⟨B, 0, none⟩)) (hc : ∀ j v, vs[j]? = some v → w.cell? ⟨B, j, none⟩ = some v)
    (hu : P.underlying ty = some d) (hd : (match d with | .struct _ | .array _ _ => true | _ => false) = true) (hi : (P.info? ty).map (·.size) = some vs.length) :
    (results fn tmps).run P w = .ok (.agg vs.toArray) w := by
  have hp' : tmps[p]?.getD undef = .pointer (some ⟨B, 0, none⟩) := by simpa using hp
  have hl : (loadCells ⟨B, 0, none⟩ vs.length).run P w = .ok vs.toArray w :=
    run_loadCells_list (P := P) w ⟨B, 0, none⟩ vs (fun j v hv => by rw [add_zero0]; exact hc j v hv)
  have hv : (loadVar ty ⟨B, 0, none⟩).run P w = .ok (.agg vs.toArray) w := by
    cases hq : P.info? ty with
    | none => simp [hq] at hi
    | some i =>
      have hs : i.size = vs.length := by simpa [hq] using hi
      have hagg : (isAgg ty).run P w = .ok true w := by
        unfold isAgg
        rw [Sem.run_bind, run_underlying hu w]
        cases d <;> simp_all
      simp [loadVar, Sem.run_bind, hagg, sizeOf, typeInfo, hq, hs, hl]
  simp [results, h, hp', asAddr, hv]

theorem Own.set8 {w : World} {B : Nat} {z : Value} (o : Own w B (List.replicate 8 z)) (a b c d e f g h : Value) : Own ((((((((w.setCell ⟨B, 0, none⟩ a).setCell ⟨B, 1, none⟩ b).setCell ⟨B, 2, none⟩ c).setCell ⟨B, 3, none⟩ d).setCell ⟨B, 4, none⟩ e).setCell ⟨B, 5, none⟩ f).setCell ⟨B, 6, none⟩ g).setCell ⟨B, 7, none⟩ h) B [a, b, c, d, e, f, g, h] := by
  have := ((((((((o.setAt (i := 0) a (by simp)).setAt (i := 1) b (by simp)).setAt (i := 2) c (by simp)).setAt (i := 3) d (by simp)).setAt (i := 4) e (by simp)).setAt (i := 5) f (by simp)).setAt (i := 6) g (by simp)).setAt (i := 7) h (by simp))
  exact this

theorem below_set8 {b B : Nat} {w0 w : World} (hb : Below b w0 w) (hB : b ≤ B) (a b' c d e f g h : Value) : Below b w0 ((((((((w.setCell ⟨B, 0, none⟩ a).setCell ⟨B, 1, none⟩ b').setCell ⟨B, 2, none⟩ c).setCell ⟨B, 3, none⟩ d).setCell ⟨B, 4, none⟩ e).setCell ⟨B, 5, none⟩ f).setCell ⟨B, 6, none⟩ g).setCell ⟨B, 7, none⟩ h) :=
  (Below.setCell (p := ⟨B, 7, none⟩) (Below.setCell (p := ⟨B, 6, none⟩) (Below.setCell (p := ⟨B, 5, none⟩) (Below.setCell (p := ⟨B, 4, none⟩) (Below.setCell (p := ⟨B, 3, none⟩) (Below.setCell (p := ⟨B, 2, none⟩) (Below.setCell (p := ⟨B, 1, none⟩) (Below.setCell (p := ⟨B, 0, none⟩) hb hB a) hB b') hB c) hB d) hB e) hB f) hB g) hB h)

set_option maxRecDepth 100000 in
set_option maxHeartbeats 4000000 in
theorem mark_any (v : Value) (bs : List UInt8) (w : World) (h : Bytes w v bs) : Calls Try.prog 25 #[v] w (Ret (.agg ((lmark bs).map vB).toArray) w) := by
  have h1 : Bytes ((w.alloc (.cells (List.replicate 8 (Value.int .u8 0)).toArray 48)).alloc (.cells (List.replicate 8 (Value.int .u8 0)).toArray 48)) v bs := h.below (((Below.refl _ w).alloc (Nat.le_refl _) _).alloc (by simp) _)
  have hs := sum_any _ _ _ h1
  obtain ⟨ad, cap, hv⟩ := h.shape
  rw [List.length_map] at hv
  subst hv
  unfold lmark
  generalize fnv fnv0 bs = d at hs ⊢
  unfold vD at hs
  go_enter Try.func25, Try.ntmps25
  go_wp2_with fail
  refine hs.mono ?_
  rintro e w3 ⟨rfl, hx⟩
  have o1 : Own w3 w.heap.size (List.replicate 8 (.int .u8 0)) := ((Own.new w (List.replicate 8 (.int .u8 0)).toArray 48).alloc _).below hx
  have o2 : Own w3 (w.heap.size + 1) (List.replicate 8 (.int .u8 0)) := (Own.at _ (List.replicate 8 (.int .u8 0)).toArray 48 _ (by simp)).below hx
  have hb : Below w.heap.size w w3 := (((Below.refl _ w).alloc (Nat.le_refl _) _).alloc (by simp) _).trans (hx.mono (by simp <;> omega))
  clear hx hs h h1
  go_wp2_with fail
  go_loopw [8] (fun i wr => ∃ k : Nat, k ≤ 8 ∧ i = .int .i64 (k : Int) ∧ Own wr w.heap.size (List.replicate 8 (.int .u8 0)) ∧ Own wr (w.heap.size + 1) (mlist d k) ∧ Below w.heap.size w wr) (fun i _ => 8 - (intOf i).toNat)
  case atStart => exact ⟨0, by omega, rfl, o1, by simpa [mlist, bytes8_len, List.drop_of_length_le] using o2, hb⟩
  case round =>
    clear o1 o2 hb
    obtain ⟨k, hk, rfl, o1, o2, hb⟩ := hrel
    by_cases hk8 : k < 8
    · have hlt : 7 - k < (mlist d k).length := by rw [mlist_len d hk]; omega
      have hc := o2.cell (7 - k) _ (List.getElem?_eq_getElem hlt)
      have hf := o2.fro (7 - k) _ (List.getElem?_eq_getElem hlt)
      have hsh := shift_shr_any .u64 .i64 (d.toNat : Int) (8 * (k : Int)) (by omega)
      have hx : IntKind.u8.wrap ((d.toNat : Int) / 2 ^ (8 * k)) = ((byt d (7 - k)).toNat : Int) := by
        have e1 : ((2 : Int) ^ (8 * k)) = ((2 ^ (8 * k) : Nat) : Int) := by push_cast; rfl
        rw [e1, ← Int.natCast_ediv, IntKind.wrap_u8]
        unfold byt
        rw [show 56 - 8 * (7 - k) = 8 * k by omega]
        simp only [UInt8.toNat_ofNat']
        omega
      have hs2 := o2.setAt (vB (byt d (7 - k))) hlt
      rw [mlist_set d hk8] at hs2
      have hbb := Below.setCell (p := ⟨w.heap.size + 1, 7 - k, none⟩) hb (by simp) (vB (byt d (7 - k)))
      have o1' := o1.only (by omega) ((Only.refl (w.heap.size + 1) wr).set (7 - k) (vB (byt d (7 - k))))
      unfold vB at hs2 hbb o1'
      generalize (mlist d k)[7 - k] = y at hc
      go_wp2_with fail
      go_roundw
      case rel => exact ⟨k + 1, by omega, by go_num, o1', hs2, hbb⟩
      case measure => simp [intOf]; omega
    · obtain rfl : k = 8 := by omega
      rw [mlist_all] at o2
      have e8 : (bytes8 d).map vB = [vB (byt d 0), vB (byt d 1), vB (byt d 2), vB (byt d 3), vB (byt d 4), vB (byt d 5), vB (byt d 6), vB (byt d 7)] := rfl
      rw [e8] at o2
      obtain ⟨a0, a1, a2, a3, a4, a5, a6, a7, _⟩ := o2.eight
      obtain ⟨b0, b1, b2, b3, b4, b5, b6, b7, g0, g1, g2, g3, g4, g5, g6, g7, _⟩ := o1.eight2
      have p0 := o1
      clear o1 o2
      rw [e8]
      unfold vB at *
      go_wp2_with fail
      have p8 := p0.set8 (.int .u8 ((byt d 0).toNat : Int)) (.int .u8 ((byt d 1).toNat : Int)) (.int .u8 ((byt d 2).toNat : Int)) (.int .u8 ((byt d 3).toNat : Int)) (.int .u8 ((byt d 4).toNat : Int)) (.int .u8 ((byt d 5).toNat : Int)) (.int .u8 ((byt d 6).toNat : Int)) (.int .u8 ((byt d 7).toNat : Int))
      have hbel : Below w.heap.size w ((((((((wr.setCell ⟨w.heap.size, 0, none⟩ (.int .u8 ((byt d 0).toNat : Int))).setCell ⟨w.heap.size, 1, none⟩ (.int .u8 ((byt d 1).toNat : Int))).setCell ⟨w.heap.size, 2, none⟩ (.int .u8 ((byt d 2).toNat : Int))).setCell ⟨w.heap.size, 3, none⟩ (.int .u8 ((byt d 3).toNat : Int))).setCell ⟨w.heap.size, 4, none⟩ (.int .u8 ((byt d 4).toNat : Int))).setCell ⟨w.heap.size, 5, none⟩ (.int .u8 ((byt d 5).toNat : Int))).setCell ⟨w.heap.size, 6, none⟩ (.int .u8 ((byt d 6).toNat : Int))).setCell ⟨w.heap.size, 7, none⟩ (.int .u8 ((byt d 7).toNat : Int))) := below_set8 hb (Nat.le_refl _) _ _ _ _ _ _ _ _
      clear a0 a1 a2 a3 a4 a5 a6 a7 b0 b1 b2 b3 b4 b5 b6 b7 g0 g1 g2 g3 g4 g5 g6 g7 p0
      generalize ((((((((wr.setCell ⟨w.heap.size, 0, none⟩ (.int .u8 ((byt d 0).toNat : Int))).setCell ⟨w.heap.size, 1, none⟩ (.int .u8 ((byt d 1).toNat : Int))).setCell ⟨w.heap.size, 2, none⟩ (.int .u8 ((byt d 2).toNat : Int))).setCell ⟨w.heap.size, 3, none⟩ (.int .u8 ((byt d 3).toNat : Int))).setCell ⟨w.heap.size, 4, none⟩ (.int .u8 ((byt d 4).toNat : Int))).setCell ⟨w.heap.size, 5, none⟩ (.int .u8 ((byt d 5).toNat : Int))).setCell ⟨w.heap.size, 6, none⟩ (.int .u8 ((byt d 6).toNat : Int))).setCell ⟨w.heap.size, 7, none⟩ (.int .u8 ((byt d 7).toNat : Int))) = W at p8 hbel ⊢
      (try simp only [Exit.inBlock, Exit.then])
      have hres := fun tmps hp => results_cell_at (P := Try.prog) (fn := Try.f25) rfl tmps W w.heap.size [(.int .u8 ((byt d 0).toNat : Int)), (.int .u8 ((byt d 1).toNat : Int)), (.int .u8 ((byt d 2).toNat : Int)), (.int .u8 ((byt d 3).toNat : Int)), (.int .u8 ((byt d 4).toNat : Int)), (.int .u8 ((byt d 5).toNat : Int)), (.int .u8 ((byt d 6).toNat : Int)), (.int .u8 ((byt d 7).toNat : Int))] hp p8.cell Try.underlying48 rfl (by kernel_rfl)
      refine bodyPost_ret (hres _ rfl) rfl ?_
      exact Ret.mk rfl hbel
end Go.Proofs.Ytpgnlmhkigpjgaa
