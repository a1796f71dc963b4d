/-
  The program: first.
-/
import Derived.Test.YtpgnlmhkigpjgaaCodSub
namespace Go.Proofs.Ytpgnlmhkigpjgaa
open Go.RowKit

theorem elem8 : Try.prog.elem 23 = 5 := by kernel_rfl
theorem under8 : Try.prog.underlying 23 = some (.slice (Try.prog.elem 23)) := by kernel_rfl
theorem size8 (w : World) : (sizeOf 5).run Try.prog w = .ok 1 w := by
  obtain ⟨i, hi⟩ : ∃ i, Try.prog.info? 5 = some i := Option.isSome_iff_exists.1 (by kernel_rfl)
  rw [run_sizeOf w hi, show Try.prog.cellsOf 5 = 1 by kernel_rfl]
/-- from a place on, up to one, up to one with no more room -/
theorem run_from8 (ad : Option Addr) (n cap k : Nat) (hk : k ≤ n) (w : World) : (Instr.sliceAt 23 (.slice ad n cap) (some (.int .i64 (k : Int))) none none).run Try.prog w = .ok (sliced ad k n cap 1) w := by
  rw [run_sliceAt_slice _ _ _ _ _ _ under8, run_slice_l _ _ _ _ _ under8 _ _ (by omega) (by omega), elem8, size8]
  rfl
theorem run_upto8 (ad : Option Addr) (n cap k : Nat) (hk : k ≤ cap) (w : World) : (Instr.sliceAt 23 (.slice ad n cap) none (some (.int .i64 (k : Int))) none).run Try.prog w = .ok (sliced ad 0 k cap 1) w := by
  rw [run_sliceAt_slice _ _ _ _ _ _ under8, run_slice_h _ _ _ _ _ under8 _ _ (by omega) (by omega), elem8, size8]
  rfl
theorem run_three8 (ad : Option Addr) (n cap k m : Nat) (hk : k ≤ m) (hm : m ≤ cap) (w : World) : (Instr.sliceAt 23 (.slice ad n cap) none (some (.int .i64 (k : Int))) (some (.int .i64 (m : Int)))).run Try.prog w = .ok (sliced ad 0 k m 1) w := by
  rw [run_sliceAt_slice _ _ _ _ _ _ under8, run_slice_hm _ _ _ _ _ under8 _ _ _ _ (by omega) (by omega) (by omega), elem8, size8]
  rfl
theorem run_between8 (ad : Option Addr) (n cap k m : Nat) (hk : k ≤ m) (hm : m ≤ cap) (w : World) : (Instr.sliceAt 23 (.slice ad n cap) (some (.int .i64 (k : Int))) (some (.int .i64 (m : Int))) none).run Try.prog w = .ok (sliced ad k m cap 1) w := by
  rw [run_sliceAt_slice _ _ _ _ _ _ under8, run_slice_lh _ _ _ _ _ under8 _ _ _ _ (by omega) (by omega) (by omega), elem8, size8]
  rfl

theorem lend_at (bs : List UInt8) (h : 2 < bs.length) : lend bs = bs[0].toNat * 65536 + bs[1].toNat * 256 + bs[2].toNat + 3 := by
  unfold lend
  simp only [List.getD_eq_getElem?_getD]
  rw [List.getElem?_eq_getElem (show 0 < bs.length by omega), List.getElem?_eq_getElem (show 1 < bs.length by omega), List.getElem?_eq_getElem h]
  rfl
theorem run_arr8 (a : Addr) (n cap : Nat) (h : 8 ≤ n) (w : World) : (Instr.arrayAt 48 (.slice (some a) n cap)).run Try.prog w = .ok (.pointer (some a)) w := by
  unfold Instr.arrayAt
  rw [Sem.run_bind, run_underlying Try.underlying48 w]
  simp only [Result.andThen_ok]
  rw [if_neg (by omega)]
  rfl
set_option maxRecDepth 100000 in
set_option maxHeartbeats 4000000 in
theorem first_short (v : Value) (bs : List UInt8) (w : World) (h : Bytes w v bs) (hs : bs.length < 3) :
    Calls Try.prog 32 #[v] w (Ret (.tuple #[.slice none 0 0, .int .i64 0]) w) := by
  obtain ⟨ad, cap, hv⟩ := h.shape
  rw [List.length_map] at hv
  subst hv
  go_enter Try.func32, Try.ntmps32
  go_wp2_with fail
  go_ret2
  exact Ret.mk rfl (Below.refl _ _)
set_option maxRecDepth 100000 in
set_option maxHeartbeats 4000000 in
theorem first_cut (v : Value) (bs : List UInt8) (w : World) (h : Bytes w v bs) (hs : ¬ bs.length < 3) (hc : bs.length < lend bs + 8) :
    Calls Try.prog 32 #[v] w (Ret (.tuple #[.slice none 0 0, .int .i64 0]) w) := by
  obtain ⟨ad, cap, hv⟩ := h.shape
  rw [List.length_map] at hv
  subst hv
  obtain ⟨a, rfl, ha0, hc0⟩ := h.cells _ _ _ rfl 0 (by simp; omega)
  obtain ⟨a1, ha1, _, hc1⟩ := h.cells _ _ _ rfl 1 (by simp; omega)
  cases ha1
  obtain ⟨a2, ha2, _, hc2⟩ := h.cells _ _ _ rfl 2 (by simp; omega)
  cases ha2
  simp only [List.getElem_map, vB] at hc0 hc1 hc2
  have hd : decide ((bs.length : Int) < 3) = false := by simp; omega
  go_enter Try.func32, Try.ntmps32
  go_wp2_with fail
  have y0 := bs[0].toNat_lt
  have y1 := bs[1].toNat_lt
  have y2 := bs[2].toNat_lt
  have hle : lend bs = bs[0].toNat * 65536 + bs[1].toNat * 256 + bs[2].toNat + 3 := lend_at bs (by omega)
  rw [hle] at hc
  clear hle
  generalize bs[0].toNat = x0 at *
  generalize bs[1].toNat = x1 at *
  generalize bs[2].toNat = x2 at *
  rw [show a.add 0 = a by simp [Addr.add]] at hc0
  have g0 : ∀ g : Grow w, (up w g).cell? a = some (.int .u8 x0) := fun g => ((up_below w g).cell ha0).trans hc0
  have g1 : ∀ g : Grow w, (up w g).cell? ⟨a.block, a.off + 1, none⟩ = some (.int .u8 x1) := fun g => by have := ((up_below w g).cell (p := a.add 1) (by rw [blk_add]; exact ha0)).trans hc1; simpa [Addr.add] using this
  have g2 : ∀ g : Grow w, (up w g).cell? ⟨a.block, a.off + 2, none⟩ = some (.int .u8 x2) := fun g => by have := ((up_below w g).cell (p := a.add 2) (by rw [blk_add]; exact ha0)).trans hc2; simpa [Addr.add] using this
  have s1 : IntKind.i64.wrap ((x0 : Int) * 65536) = (x0 : Int) * 65536 := by rw [IntKind.wrap_i64]; omega
  have s2 : IntKind.i64.wrap ((x1 : Int) * 256) = (x1 : Int) * 256 := by rw [IntKind.wrap_i64]; omega
  refine wp_region_up (by kernel_rfl) (by kernel_rfl) ?_
  repeat (go_big_quiet_step (fail))
  refine wpQuiet_nil ?_
  rintro w1 ⟨g, rfl⟩
  have hq : decide ((bs.length : Int) < 3 + (x0 : Int) * 65536 + (x1 : Int) * 256 + (x2 : Int) + 8) = true := by simp; omega
  go_wp2_with fail
  go_ret2
  exact Ret.mk rfl (up_below w g)

/-- what first does -/
def FirstPost (w : World) (o : Option (List Int × Nat)) (e : Ending) (w' : World) : Prop :=
  Below w.heap.size w w' ∧ match o with
    | some p => ∃ v', e = .returned (.tuple #[v', .int .i64 (p.2 : Int)]) ∧ IntsT w' v' p.1
    | none => e = .returned (.tuple #[.slice none 0 0, .int .i64 0])
theorem list8 {α : Type} (l : List α) (h : l.length = 8) : ∃ a b c d e f g k, l = [a, b, c, d, e, f, g, k] := by
  match l, h with
  | [a, b, c, d, e, f, g, k], _ => exact ⟨a, b, c, d, e, f, g, k, rfl⟩
theorem e8 (d : UInt64) : bytes8 d = [byt d 0, byt d 1, byt d 2, byt d 3, byt d 4, byt d 5, byt d 6, byt d 7] := rfl
set_option maxRecDepth 100000 in
set_option maxHeartbeats 4000000 in
theorem first_long (v : Value) (bs : List UInt8) (w : World) (h : Bytes w v bs) (hfat : Fat v) (hs : ¬ bs.length < 3) (hc : ¬ bs.length < lend bs + 8) (hlen : bs.length ≤ 1000000) :
    Calls Try.prog 32 #[v] w (FirstPost w (lfirst bs)) := by
  obtain ⟨ad, cap, hv⟩ := h.shape
  rw [List.length_map] at hv
  subst hv
  have hcap := hfat _ _ _ rfl
  obtain ⟨a, rfl, ha0, hc0⟩ := h.cells _ _ _ rfl 0 (by simp; omega)
  obtain ⟨a1, ha1, _, hc1⟩ := h.cells _ _ _ rfl 1 (by simp; omega)
  cases ha1
  obtain ⟨a2, ha2, _, hc2⟩ := h.cells _ _ _ rfl 2 (by simp; omega)
  cases ha2
  simp only [List.getElem_map, vB] at hc0 hc1 hc2
  have hd : decide ((bs.length : Int) < 3) = false := by simp; omega
  have y0 := bs[0].toNat_lt
  have y1 := bs[1].toNat_lt
  have y2 := bs[2].toNat_lt
  have hle : lend bs = bs[0].toNat * 65536 + bs[1].toNat * 256 + bs[2].toNat + 3 := lend_at bs (by omega)
  obtain ⟨E, hE⟩ : ∃ E, E = lend bs := ⟨_, rfl⟩
  have hfst : lfirst bs = if (bs.drop E).take 8 = bytes8 (fnv fnv0 (bs.take E)) then (lget ((bs.take E).drop 3)).map fun l => (l, E + 8) else none := by
    unfold lfirst lmark
    rw [if_neg hs, if_neg hc, ← hE]
  rw [← hE] at hc hle
  rw [hfst]
  clear hfst hE
  -- the slices
  have hE3 : 3 ≤ E := by omega
  have q1 : sliced (some a) 0 E E 1 = .slice (some a) E E := by unfold sliced; rw [if_neg (by omega)]; simp [Addr.add]
  have r1 := row_sub h 0 E E (by omega) (by omega) (by omega) (by omega)
  have s1 := run_three8 (some a) bs.length cap E E (by omega) (by omega)
  rw [q1] at r1 s1
  have q2 : sliced (some a) E bs.length cap 1 = .slice (some (a.add E)) (bs.length - E) (cap - E) := by unfold sliced; rw [if_neg (by omega)]; simp
  have r2 := row_sub h E bs.length cap (by omega) (by omega) (by omega) (by omega)
  have s2 := run_from8 (some a) bs.length cap E (by omega)
  rw [q2] at r2 s2
  obtain ⟨V3, q3⟩ : ∃ V, V = sliced (some a) 3 E E 1 := ⟨_, rfl⟩
  have r3 := row_sub h 3 E E (by omega) (by omega) (by omega) (by omega)
  have s3 : ∀ w, (Instr.sliceAt 23 (.slice (some a) E E) (some (.int .i64 (3 : Int))) none none).run Try.prog w = .ok (sliced (some a) 3 E E 1) w := run_from8 (some a) E E 3 (by omega)
  rw [← q3] at r3 s3
  clear q1 q2 q3
  have hl3 : ((bs.take E).drop 3).length ≤ 1000000 := by rw [List.length_drop, List.length_take]; omega
  simp only [← List.map_take, ← List.map_drop, List.drop_zero] at r1 r2 r3
  rw [List.take_of_length_le (Nat.le_refl _)] at r2
  obtain ⟨z0, z1, z2, z3, z4, z5, z6, z7, hz⟩ := list8 ((bs.drop E).take 8) (by rw [List.length_take, List.length_drop]; omega)
  obtain ⟨d, hd'⟩ : ∃ d, d = fnv fnv0 (bs.take E) := ⟨_, rfl⟩
  have hm := fun w' (hb : Below w.heap.size w w') => mark_any _ _ w' (r1.1.below hb)
  unfold lmark at hm
  rw [← hd'] at hm ⊢
  rw [hz]
  have hne := fun w => neq_bytes [z0, z1, z2, z3, z4, z5, z6, z7] (bytes8 d) rfl (bytes8_len d) w
  obtain ⟨R, hR⟩ : ∃ R, R = !decide ([z0, z1, z2, z3, z4, z5, z6, z7] = bytes8 d) := ⟨_, rfl⟩
  rw [← hR] at hne
  have hif : (if [z0, z1, z2, z3, z4, z5, z6, z7] = bytes8 d then (lget ((bs.take E).drop 3)).map fun l => (l, E + 8) else none) = if R = false then (lget ((bs.take E).drop 3)).map fun l => (l, E + 8) else none := by
    subst hR
    by_cases e : [z0, z1, z2, z3, z4, z5, z6, z7] = bytes8 d
    · rw [if_pos e, if_pos (by simp [e])]
    · rw [if_neg e, if_neg (by simp [e])]
  rw [hif]
  clear hR hif
  have hle2 := Lib.hid (show (3 : Int) + (bs[0].toNat : Int) * (65536 : Int) + (bs[1].toNat : Int) * (256 : Int) + (bs[2].toNat : Int) = (E : Int) by omega)
  generalize bs[0].toNat = x0 at *
  generalize bs[1].toNat = x1 at *
  generalize bs[2].toNat = x2 at *
  rw [show a.add 0 = a by simp [Addr.add]] at hc0
  have g0 : ∀ g : Grow w, (up w g).cell? a = some (.int .u8 x0) := fun g => ((up_below w g).cell ha0).trans hc0
  have g1 : ∀ g : Grow w, (up w g).cell? ⟨a.block, a.off + 1, none⟩ = some (.int .u8 x1) := fun g => by have := ((up_below w g).cell (p := a.add 1) (by rw [blk_add]; exact ha0)).trans hc1; simpa [Addr.add] using this
  have g2 : ∀ g : Grow w, (up w g).cell? ⟨a.block, a.off + 2, none⟩ = some (.int .u8 x2) := fun g => by have := ((up_below w g).cell (p := a.add 2) (by rw [blk_add]; exact ha0)).trans hc2; simpa [Addr.add] using this
  have w1 : IntKind.i64.wrap ((x0 : Int) * 65536) = (x0 : Int) * 65536 := by rw [IntKind.wrap_i64]; omega
  have w2 : IntKind.i64.wrap ((x1 : Int) * 256) = (x1 : Int) * 256 := by rw [IntKind.wrap_i64]; omega
  have hq : decide ((bs.length : Int) < (E : Int) + 8) = false := by simp; omega
  clear hc0 hc1 hc2 hle hd'
  go_enter Try.func32, Try.ntmps32
  go_wp2_with fail
  refine wp_region_up (by kernel_rfl) (by kernel_rfl) ?_
  repeat (go_big_quiet_step (fail))
  refine wpQuiet_nil ?_
  rintro W ⟨g, rfl⟩
  have hbW := up_below w g
  clear g0 g1 g2
  generalize up w g = W at hbW ⊢
  rw [hle2.out]
  clear hle2
  go_wp2_with fail
  have hA2 : (a.add E).block < w.heap.size := by rw [blk_add]; exact ha0
  have hu : ∀ (g : Grow W) (j : Nat) (z : UInt8), ((bs.drop E).take 8)[j]? = some z → (up W g).cell? ((a.add E).add j) = some (.int .u8 (z.toNat : Int)) := fun g j z hj => by
    rw [List.getElem?_take] at hj
    split at hj
    · obtain ⟨hj1, hj2⟩ := List.getElem?_eq_some_iff.1 hj
      obtain ⟨b, hb1, hb2, hb3⟩ := r2.1.cells _ _ _ rfl j (by simpa using hj1)
      cases hb1
      rw [(hbW.trans ((up_below W g).mono hbW.size)).cell (p := (a.add E).add j) (by rw [blk_add]; exact hA2), hb3, List.getElem_map, hj2]
      rfl
    · cases hj
  generalize a.add E = A2 at *
  have u0 : ∀ g : Grow W, (up W g).cell? A2 = some (.int .u8 (z0.toNat : Int)) := fun g => by have := hu g 0 z0 (by rw [hz]; rfl); simpa [Addr.add] using this
  have u1 : ∀ g : Grow W, (up W g).cell? ⟨A2.block, A2.off + 1, none⟩ = some (.int .u8 (z1.toNat : Int)) := fun g => by have := hu g 1 z1 (by rw [hz]; rfl); simpa [Addr.add] using this
  have u2 : ∀ g : Grow W, (up W g).cell? ⟨A2.block, A2.off + 2, none⟩ = some (.int .u8 (z2.toNat : Int)) := fun g => by have := hu g 2 z2 (by rw [hz]; rfl); simpa [Addr.add] using this
  have u3 : ∀ g : Grow W, (up W g).cell? ⟨A2.block, A2.off + 3, none⟩ = some (.int .u8 (z3.toNat : Int)) := fun g => by have := hu g 3 z3 (by rw [hz]; rfl); simpa [Addr.add] using this
  have u4 : ∀ g : Grow W, (up W g).cell? ⟨A2.block, A2.off + 4, none⟩ = some (.int .u8 (z4.toNat : Int)) := fun g => by have := hu g 4 z4 (by rw [hz]; rfl); simpa [Addr.add] using this
  have u5 : ∀ g : Grow W, (up W g).cell? ⟨A2.block, A2.off + 5, none⟩ = some (.int .u8 (z5.toNat : Int)) := fun g => by have := hu g 5 z5 (by rw [hz]; rfl); simpa [Addr.add] using this
  have u6 : ∀ g : Grow W, (up W g).cell? ⟨A2.block, A2.off + 6, none⟩ = some (.int .u8 (z6.toNat : Int)) := fun g => by have := hu g 6 z6 (by rw [hz]; rfl); simpa [Addr.add] using this
  have u7 : ∀ g : Grow W, (up W g).cell? ⟨A2.block, A2.off + 7, none⟩ = some (.int .u8 (z7.toNat : Int)) := fun g => by have := hu g 7 z7 (by rw [hz]; rfl); simpa [Addr.add] using this
  have hge := fun w => run_arr8 A2 (bs.length - E) (cap - E) (by omega) w
  simp only [List.map_cons, List.map_nil, e8, vB] at hne hm
  refine wp_region_up (by kernel_rfl) (by kernel_rfl) ?_
  repeat (go_big_quiet_step (first | (go_at_call 25; exact Ret.up (hm _ (hbW.trans ((up_below W _).mono hbW.size))))))
  refine wpQuiet_nil ?_
  rintro W2 ⟨g, rfl⟩
  have hbW2 := hbW.trans ((up_below W g).mono hbW.size)
  clear u0 u1 u2 u3 u4 u5 u6 u7 hu hne hm hge s1 s2 hd hq
  generalize up W g = W2 at hbW2 ⊢
  cases R with
  | true =>
    go_wp2_with fail
    go_ret2
    exact ⟨hbW2, rfl⟩
  | false =>
    cases hg : lget ((bs.take E).drop 3) with
    | none =>
      have hget := Get_none V3 _ W2 (r3.1.below hbW2) hl3 hg
      go_wp2_with (first | (go_at_call 15; refine hget.mono ?_; rintro e W3 ⟨rfl, hx⟩))
      go_ret2
      exact ⟨hbW2.trans (hx.mono hbW2.size), rfl⟩
    | some l =>
      have hget := Get_some V3 _ W2 (r3.1.below hbW2) hl3 l hg
      go_wp2_with (first | (go_at_call 15; refine hget.mono ?_; rintro e W3 ⟨v3, rfl, hi, hx⟩))
      go_ret2
      exact ⟨hbW2.trans (hx.mono hbW2.size), _, rfl, hi⟩
theorem first_any (v : Value) (bs : List UInt8) (w : World) (h : Bytes w v bs) (hfat : Fat v) (hlen : bs.length ≤ 1000000) :
    Calls Try.prog 32 #[v] w (FirstPost w (lfirst bs)) := by
  by_cases hs : bs.length < 3
  · rw [show lfirst bs = none by unfold lfirst; rw [if_pos hs]]
    exact (first_short v bs w h hs).mono fun e w' ⟨h1, h2⟩ => ⟨h2, h1⟩
  · by_cases hc : bs.length < lend bs + 8
    · rw [show lfirst bs = none by unfold lfirst; rw [if_neg hs, if_pos hc]]
      exact (first_cut v bs w h hs hc).mono fun e w' ⟨h1, h2⟩ => ⟨h2, h1⟩
    · exact first_long v bs w h hfat hs hc hlen
end Go.Proofs.Ytpgnlmhkigpjgaa
