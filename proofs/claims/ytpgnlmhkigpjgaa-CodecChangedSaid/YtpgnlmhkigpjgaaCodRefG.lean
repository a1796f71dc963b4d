/-
  The reference: Frame, Get.
-/
import Derived.Test.YtpgnlmhkigpjgaaCodRefP
import Derived.Test.YtpgnlmhkigpjgaaCodRefR
import Derived.Test.YtpgnlmhkigpjgaaCodFrs
namespace Go.Proofs.Ytpgnlmhkigpjgaa
open Go.RowKit

set_option maxRecDepth 100000 in
set_option maxHeartbeats 4000000 in
theorem refFrame_any (v : Value) (l : List Int) (w : World) (h : Ints w v l) (hlen : l.length ≤ 4000) :
    Calls Try.prog 14 #[v] w fun e w' => ∃ v', e = .returned (.tuple #[v', .int .i64 0]) ∧ OwnRow w' w.heap.size 5 v' ((lframe l).map vB) ∧ Below w.heap.size w w' := by
  have hp := refPut_any v l w h hlen
  have hpl := lput_len h.2 hlen
  obtain ⟨ad, cap, rfl⟩ := h.1.shape
  simp only [List.length_map] at hp ⊢
  unfold lframe
  generalize lput l = b at hp hpl ⊢
  have x0 : IntKind.u8.wrap ((b.length : Int) / 65536) = ((UInt8.ofNat (b.length / 65536)).toNat : Int) := by rw [IntKind.wrap_u8]; simp only [UInt8.toNat_ofNat']; omega
  have x1 : (b.length : Int) / 256 % 256 = ((UInt8.ofNat (b.length / 256)).toNat : Int) := by simp only [UInt8.toNat_ofNat']; omega
  have x2 : (b.length : Int) % 256 = ((UInt8.ofNat b.length).toNat : Int) := by simp only [UInt8.toNat_ofNat']; omega
  have y0 := (UInt8.ofNat (b.length / 65536)).toNat_lt
  have y1 := (UInt8.ofNat (b.length / 256)).toNat_lt
  have y2 := (UInt8.ofNat b.length).toNat_lt
  obtain ⟨d, hd⟩ : ∃ d, d = fnv fnv0 (said b) := ⟨_, rfl⟩
  unfold lmark
  rw [← hd]
  have hsd := said3 b
  have hsl := said_len b
  simp only [vB] at hsd
  replace hsd := Lib.hid hsd
  generalize (UInt8.ofNat (b.length / 65536)).toNat = z0 at *
  generalize (UInt8.ofNat (b.length / 256)).toNat = z1 at *
  generalize (UInt8.ofNat b.length).toNat = z2 at *
  go_enter Try.func14, Try.ntmps14
  go_wp2_with (first | (go_at_call 11; refine hp.mono ?_; rintro e w1 ⟨ad1, cap1, rfl, hown, hr1, hx1⟩; have hB1 := hx1.size) | (at_builtin; go_loud (refine app_row _ rfl _ _ 23 rfl w.heap.size 5 (.int .u8 0) 1 Try.underlying23 Try.infoU8 rfl (by decide) _ [.int .u8 (z0 : Int), .int .u8 (z1 : Int), .int .u8 (z2 : Int)] rfl (OwnRow.new w1 w.heap.size hB1 5 _ (by simp)) _ (b.map vB) rfl (hr1.below ((Below.refl _ w1).alloc (Nat.le_refl _) _)) byte_one (by simp; omega) (by simp; omega) ?_; intro v2 w2 hown2 hx2; refine Hid.out ?_)))
  refine Lib.hid ?_
  have hb2 : Below w.heap.size w w2 := hx1.trans (((Below.refl _ w1).alloc hB1 _).trans hx2)
  rw [← hsd.out] at hown2
  obtain ⟨ad2, cap2, rfl, hr2⟩ := own_shape hown2 (by omega)
  have hm := refSum_any _ _ _ hr2
  rw [← hd] at hm
  have hby := fun w => refBytes_any d w
  unfold vD at hm hby
  clear hp hown hr1 hx1 hB1 hd x0 x1 x2
  go_wp2_with (first | (go_at_call 27; refine hm.mono ?_; rintro e w3 ⟨rfl, hx3⟩) | (go_at_call 26; refine (hby _).mono ?_; rintro e w4 ⟨ad4, cap4, rfl, hown4, hr4, hx4⟩; have hs2 := hb2.size; have hs3 := hx3.size; have hs4 := hx4.size; have hbe := hx3.trans (hx4.mono hs3)) | (at_builtin; go_loud (refine app_row _ rfl _ _ 23 rfl w.heap.size 5 (.int .u8 0) 1 Try.underlying23 Try.infoU8 rfl (by decide) _ ((said b).map vB) rfl (own_below hown2 hbe) _ ((bytes8 d).map vB) rfl hr4 byte_one (by simp [bytes8_len]; omega) (by omega) ?_; intro v5 w5 hown5 hx5; refine Hid.out ?_)))
  refine Lib.hid ?_
  go_wp2_with fail
  go_ret2
  rw [← List.map_append] at hown5
  exact ⟨_, rfl, hown5, (hb2.trans (hbe.mono hs2)).trans hx5⟩
theorem refFrame_over (v : Value) (l : List Int) (w : World) (h : Ints w v l) (hlen : 4000 < l.length) :
    Calls Try.prog 14 #[v] w (Same (.tuple #[.slice none 0 0, .int .i64 2]) w) := by
  have hp := refPut_over v l w h hlen
  obtain ⟨ad, cap, rfl⟩ := h.1.shape
  simp only [List.length_map] at hp ⊢
  go_enter Try.func14, Try.ntmps14
  go_wp2_with (go_at_call 11; refine hp.mono ?_; rintro e w1 ⟨rfl, rfl⟩)
  go_ret2
  exact Same.mk rfl rfl
theorem Frame_over (v : Value) (l : List Int) (w : World) (h : Ints w v l) (hlen : 4000 < l.length) :
    Calls Try.prog 13 #[v] w (Same (.tuple #[.slice none 0 0, .int .i64 2]) w) := by
  have hp := Put_over v l w h hlen
  obtain ⟨ad, cap, rfl⟩ := h.1.shape
  simp only [List.length_map] at hp ⊢
  go_enter Try.func13, Try.ntmps13
  go_wp2_with (go_at_call 10; refine hp.mono ?_; rintro e w1 ⟨rfl, rfl⟩)
  go_ret2
  exact Same.mk rfl rfl

theorem rdU_pos : ∀ (l : List UInt8) (j : Nat) (p : Nat × Nat), rdU j l = some p → 0 < p.2
  | [], j, p, h => by cases h
  | x :: l, j, p, h => by
    rw [rdU] at h
    split at h
    · cases h
    · split at h
      · split at h
        · cases h
        · cases h; exact Nat.one_pos
      · cases hq : rdU (j + 1) l with
        | none => rw [hq] at h; cases h
        | some q => rw [hq] at h; cases h; exact Nat.succ_pos _
theorem rdI_size {b : List UInt8} {p : Int × Nat} (h : rdI b = some p) : 0 < p.2 ∧ p.2 ≤ b.length := by
  unfold rdI at h
  cases hq : rdU 0 b with
  | none => rw [hq] at h; cases h
  | some q =>
    rw [hq] at h; cases h
    exact ⟨rdU_pos _ _ _ hq, (rdU_lt _ _ _ hq).2⟩
theorem intsT_own {w : World} {base : Nat} {v : Value} {l : List Int} (h : OwnRow w base 3 v (l.map (.int .i64))) (hl : l.length ≤ 1000000) (hi : ∀ x ∈ l, I64 x) : IntsT w v l := by
  refine ⟨ints_of_own h hl hi, ?_⟩
  obtain ⟨_, ⟨e, _⟩ | ⟨g, cap, cur, e, _, hh, hc, _⟩⟩ := h
  · exact .inl e
  · exact .inr ⟨g, _, cap, e, hc, cur, hh⟩
/-- what the reference's Get does -/
def GetPost (w : World) (o : Option (List Int)) (e : Ending) (w' : World) : Prop :=
  Below w.heap.size w w' ∧ match o with
    | some l => ∃ v', e = .returned (.tuple #[v', .int .i64 0]) ∧ IntsT w' v' l
    | none => e = .returned (.tuple #[.slice none 0 0, .int .i64 7])
set_option maxRecDepth 100000 in
set_option maxHeartbeats 4000000 in
theorem refGet_any (v : Value) (bs : List UInt8) (w : World) (h : Bytes w v bs) (hfat : Fat v) (hlen : bs.length ≤ 1000000) :
    Calls Try.prog 16 #[v] w (GetPost w (lget bs)) := by
  have hrd := refRead_any v bs w h
  obtain ⟨ad, cap, hv⟩ := h.shape
  rw [List.length_map] at hv
  subst hv
  have hcap := hfat _ _ _ rfl
  rw [lget_lrd]
  cases hr : rdI bs with
  | none =>
    rw [hr] at hrd
    unfold readV at hrd
    rw [show lrd bs = none by unfold lrd; rw [hr]; rfl]
    go_enter Try.func16, Try.ntmps16
    go_wp2_with (go_at_call 31; refine hrd.mono ?_; rintro e w1 ⟨rfl, rfl⟩)
    go_ret2
    exact ⟨Below.refl _ _, rfl⟩
  | some p =>
    rw [hr] at hrd
    unfold readV at hrd
    obtain ⟨n, m⟩ := p
    have hsz := rdI_size hr
    simp only at hrd hsz
    have q0 : ((m : Int) == 0) = false := by simp; omega
    by_cases hbad : n < 0 ∨ 4000 < n
    · rw [show lrd bs = none by unfold lrd; rw [hr]; simp only [Option.bind_some]; rw [if_pos hbad]]
      by_cases h0 : n < 0
      · have q1 : decide (n < 0) = true := by simpa using h0
        clear hbad hr hsz
        go_enter Try.func16, Try.ntmps16
        go_wp2_with (go_at_call 31; refine hrd.mono ?_; rintro e w1 ⟨rfl, rfl⟩)
        go_ret2
        exact ⟨Below.refl _ _, rfl⟩
      · have q1 : decide (n < 0) = false := by simpa using h0
        have q2 : decide (4000 < n) = true := by simp; omega
        clear hbad hr hsz
        go_enter Try.func16, Try.ntmps16
        go_wp2_with (go_at_call 31; refine hrd.mono ?_; rintro e w1 ⟨rfl, rfl⟩)
        go_ret2
        exact ⟨Below.refl _ _, rfl⟩
    · obtain ⟨N, rfl⟩ : ∃ N : Nat, n = N := ⟨n.toNat, by omega⟩
      have hN : N ≤ 4000 := by omega
      have q1 : decide ((N : Int) < 0) = false := by simp
      have q2 : decide (4000 < (N : Int)) = false := by simp; omega
      have hl : lrd bs = (rdN N (bs.drop m)).map fun q => (q.1, m + q.2) := by
        unfold lrd; rw [hr]; simp only [Option.bind_some]; rw [if_neg hbad, Int.toNat_natCast]
      rw [hl]
      clear hr hl hbad
      go_enter Try.func16, Try.ntmps16
      go_wp2_with (go_at_call 31; refine hrd.mono ?_; rintro e w1 ⟨rfl, rfl⟩)
      go_loopw [5, 6, 7] (fun a o i wr => ∃ (j s : Nat) (d : List Int), j ≤ N ∧ a = .int .i64 ((m + s : Nat) : Int) ∧ i = .int .i64 (j : Int) ∧ m + s ≤ bs.length ∧ d.length = j ∧ (∀ x ∈ d, I64 x) ∧ OwnRow wr w.heap.size 3 o (d.map (.int .i64)) ∧ Below w.heap.size w wr ∧
          rdN N (bs.drop m) = (rdN (N - j) (bs.drop (m + s))).map (fun q => (d ++ q.1, s + q.2)))
        (fun _ _ i _ => N - (intOf i).toNat)
      case atStart => exact ⟨0, 0, [], by omega, rfl, rfl, hsz.2, rfl, by simp, OwnRow.nil _ _ _, Below.refl _ _, by simp⟩
      case round =>
        clear hrd
        obtain ⟨j, s, d, hj, rfl, rfl, hms, hd, hdi, hown, hb, hrd⟩ := hrel
        have hbs := hb.size
        by_cases hjn : j < N
        · have hsl := run_from8 ad bs.length cap (m + s) hms
          have hrow := row_sub h (m + s) bs.length cap hms (Nat.le_refl _) hcap (Nat.le_refl _)
          obtain ⟨ad', n', cap', hs⟩ : ∃ ad' n' cap', sliced ad (m + s) bs.length cap 1 = .slice ad' n' cap' := ⟨_, _, _, rfl⟩
          rw [hs] at hrow hsl
          clear hs
          rw [List.take_of_length_le (by simp), ← List.map_drop] at hrow
          have hread := refRead_any _ (bs.drop (m + s)) wr (hrow.1.below hb)
          cases hr : rdI (bs.drop (m + s)) with
          | none =>
            rw [hr] at hread
            unfold readV at hread
            have hnone : rdN N (bs.drop m) = none := by
              rw [hrd, show N - j = (N - (j + 1)) + 1 by omega, rdN, hr]; rfl
            clear hrd hr
            generalize m + s = ms at *
            go_wp2_with (go_at_call 31; refine hread.mono ?_; rintro e w1 ⟨rfl, rfl⟩)
            go_ret2
            rw [hnone]
            exact ⟨hb, rfl⟩
          | some p =>
            rw [hr] at hread
            unfold readV at hread
            have hp := rdI_i64 hr
            have hpz := rdI_size hr
            obtain ⟨x, t⟩ := p
            simp only [List.length_drop] at hread hp hpz
            rw [show N - j = (N - (j + 1)) + 1 by omega, rdN, hr] at hrd
            simp only [Option.bind_some, Option.map_map, List.drop_drop] at hrd
            replace hrd := Lib.hid hrd
            have t0 : ((t : Int) == 0) = false := by simp; omega
            have hcast : ((m + s : Nat) : Int) + (t : Int) = ((m + (s + t) : Nat) : Int) := by push_cast; omega
            replace hcast := Lib.hid hcast
            clear hr
            obtain ⟨ms, hmse⟩ : ∃ ms, ms = m + s := ⟨_, rfl⟩
            rw [← hmse] at hsl hcast hpz hms
            rw [← hmse]
            replace hmse := Lib.hid hmse
            go_wp2_with (first | (go_at_call 31; refine hread.mono ?_; rintro e w1 ⟨rfl, rfl⟩) | (at_builtin; go_loud (refine app_row _ rfl _ _ 22 rfl w.heap.size 3 (.int .i64 0) 8 Try.underlying22 Try.infoInt rfl (by decide) _ (d.map (.int .i64)) rfl (own_below hown ((Below.refl _ wr).alloc (Nat.le_refl _) _)) _ [.int .i64 x] rfl (byte_row (Own.new _ #[.int .i64 x] _)) (by intro u hu; simp at hu; subst hu; rfl) (by simp; omega) (by simp; omega) ?_; intro v2 w2 hown2 hx2; refine Hid.out ?_)))
            refine Lib.hid ?_
            go_wp2_with fail
            go_roundw
            case rel =>
              refine ⟨j + 1, s + t, d ++ [x], by omega, by rw [← hcast.out], by go_num, by have := hmse.out; omega, by simp [hd], ?_, by rw [List.map_append]; exact hown2, hb.trans (((Below.refl _ wr).alloc hbs _).trans hx2), ?_⟩
              · intro y hy
                rcases List.mem_append.1 hy with hy | hy
                · exact hdi y hy
                · rw [List.mem_singleton] at hy; subst hy; exact hp
              · rw [hrd.out, Nat.add_assoc]
                congr 1
                funext q
                simp [Function.comp, Nat.add_assoc]
            case measure => simp [intOf]; omega
        · obtain rfl : j = N := by omega
          rw [Nat.sub_self] at hrd
          simp only [rdN, Option.map_some, List.append_nil, Nat.add_zero] at hrd
          have hfin : (((rdN j (bs.drop m)).map fun q => (q.1, m + q.2)).bind fun q => if q.2 = bs.length then some q.1 else none) = if m + s = bs.length then some d else none := by rw [hrd]; rfl
          clear hrd
          by_cases he : m + s = bs.length
          · have e0 : (((m + s : Nat) : Int) == (bs.length : Int)) = true := by simp; omega
            rw [if_pos he] at hfin
            replace hfin := Lib.hid hfin
            generalize m + s = ms at *
            go_wp2_with fail
            go_ret2
            rw [hfin.out]
            exact ⟨hb, _, rfl, intsT_own hown (by omega) hdi⟩
          · have e0 : (((m + s : Nat) : Int) == (bs.length : Int)) = false := by simp; omega
            rw [if_neg he] at hfin
            replace hfin := Lib.hid hfin
            generalize m + s = ms at *
            go_wp2_with fail
            go_ret2
            rw [hfin.out]
            exact ⟨hb, rfl⟩
end Go.Proofs.Ytpgnlmhkigpjgaa
