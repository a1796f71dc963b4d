/-
  The reference's parser, its small functions: is, must, number, named, pair.
-/
import Derived.Test.YthnlenbfknbmcaaGreatDoorParHead
import Derived.Test.YthnlenbfknbmcaaGreatDoorQj
import Derived.Test.YthnlenbfknbmcaaGreatDoorQe
namespace Go.Proofs.YthnlenbfknbmcaaGreatDoor
open Go.RowKit Go.Shelf
set_option maxRecDepth 100000
variable {W0 : World} {ad : Option Addr} {cap : Nat} {L : List Tok}

/-- what the reference's parser reads: its tokens -/
structure REnv (W0 : World) (ad : Option Addr) (cap : Nat) (L : List Tok) : Prop where
  toks : Toks W0 (.slice ad L.length cap) (L.map Tok.rt)
  nums : ∀ x ∈ L, x.k = 2 ∨ x.k = 3 → numT x.t
  short : L.length ≤ 1000000
abbrev pv (ad : Option Addr) (cap : Nat) (L : List Tok) (i : Nat) (b : Bool) : Value := .agg #[.slice ad L.length cap, .int .i64 (i : Nat), .bool b]
theorem REnv.reads (hE : REnv W0 ad cap L) {w : World} (hW : Below W0.heap.size W0 w) {i : Nat} (hi : i < L.length) : ∃ a, ad = some a ∧ w.cell? (a.add (i * 3)) = some (.int .i64 (L[i]).k) ∧ w.cell? { block := (a.add (i * 3)).block, off := (a.add (i * 3)).off + 1 } = some (.int .i64 (L[i]).n) ∧
    w.cell? { block := (a.add (i * 3)).block, off := (a.add (i * 3)).off + 2 } = some (.string ⟨(L[i]).t.toArray⟩) ∧ (a.add (i * 3)).block < w.heap.size := by
  obtain ⟨a, e, d0, d1, d2, hab⟩ := (show Toks W0 (.slice ad (L.map Tok.rt).length cap) (L.map Tok.rt) by rw [List.length_map]; exact hE.toks).reads hW (Nat.le_refl _) i (by rw [List.length_map]; exact hi)
  simp only [List.getElem_map] at d0 d1 d2
  exact ⟨a, e, d0, d1, d2, Nat.lt_of_lt_of_le hab hW.size⟩
theorem bset3 {n B : Nat} {a w : World} (h : Below n a w) (hB : n ≤ B) (x y z : Value) : Below n a (Go.Proofs.YthnlenbfknbmcaaGreatDoor.set3 w B x y z) := ((h.setCell (p := ⟨B, 0, none⟩) hB x).setCell (p := ⟨B, 1, none⟩) hB y).setCell (p := ⟨B, 2, none⟩) hB z
theorem isT_at {t : List UInt8} {i : Nat} (hi : i < L.length) : isT t (L.drop i) = ((L[i]).t == t) := by rw [List.drop_eq_getElem_cons hi]; rfl
theorem isT_out {t : List UInt8} {i : Nat} (hi : ¬ i < L.length) : isT t (L.drop i) = false := by rw [List.drop_of_length_le (by omega)]; rfl

theorem ris_any (hE : REnv W0 ad cap L) (t : List UInt8) (i : Nat) (b : Bool) (w : World) (hW : Below W0.heap.size W0 w) : Calls Tryz.prog 34 #[pv ad cap L i b, .string ⟨t.toArray⟩] w (Ret (.bool (!b && isT t (L.drop i))) w) := by
  have hb : Below w.heap.size w (w.alloc (.cells #[.slice ad L.length cap, .int .i64 (i : Nat), .bool b] 67)) := balloc (Below.refl _ _) _
  cases b with
  | true =>
    clear hE hW
    go_enter Tryz.func34, Tryz.ntmps34
    go_wp2_with fail
    go_ret
    exact Ret.mk rfl hb
  | false =>
    by_cases hi : i < L.length
    · obtain ⟨a, rfl, d0, d1, d2, hab⟩ := hE.reads hW hi
      rw [isT_at hi]
      have hd : decide ((i : Int) < (L.length : Int)) = true := by simpa using hi
      have hix : ¬ ((i : Int) < 0) := by omega
      generalize L[i] = x at *
      obtain ⟨xk, xn, xt⟩ := x
      simp only at d0 d1 d2 ⊢
      clear hE hW
      go_enter Tryz.func34, Tryz.ntmps34
      go_wp2_with fail
      go_ret
      exact Ret.mk rfl hb
    · rw [isT_out hi]
      have hd : decide ((i : Int) < (L.length : Int)) = false := by simpa using hi
      clear hE hW
      go_enter Tryz.func34, Tryz.ntmps34
      go_wp2_with fail
      go_ret
      exact Ret.mk rfl hb

/-- a word was read, or not -/
def MustEnd (ad : Option Addr) (cap : Nat) (L : List Tok) (t : List UInt8) (i : Nat) (b : Bool) (w : World) (e : Ending) (w' : World) : Prop :=
  ∃ j c, e = .returned (pv ad cap L j c) ∧ Below w.heap.size w w' ∧ i ≤ j ∧ j ≤ L.length ∧ (c = false → b = false ∧ isT t (L.drop i) = true ∧ j = i + 1) ∧ (c = true → j = i ∧ (b = true ∨ isT t (L.drop i) = false))
theorem must_any (hE : REnv W0 ad cap L) (t : List UInt8) (i : Nat) (hi : i ≤ L.length) (b : Bool) (w : World) (hW : Below W0.heap.size W0 w) : Calls Tryz.prog 49 #[pv ad cap L i b, .string ⟨t.toArray⟩] w (MustEnd ad cap L t i b w) := by
  have hI := fun w1 (h : Below w.heap.size w w1) => ris_any hE t i b w1 (hW.trans (h.mono hW.size))
  have hsh := hE.short
  cases hq : (!b && isT t (L.drop i)) with
  | false =>
    rw [hq] at hI
    have hq2 : b = true ∨ isT t (L.drop i) = false := by cases b <;> simp_all
    clear hq hE hW
    go_enter Tryz.func49, Tryz.ntmps49
    go_wp2_with fail
    refine (hI _ (balloc (balloc (Below.refl _ _) _) _)).mono ?_
    rintro e w1 ⟨rfl, hx⟩
    have op := ((Own.new w #[.slice ad L.length cap, .int .i64 (i : Nat), .bool b] 67).alloc _).below hx
    have oq := (Own.new (w.alloc (.cells #[.slice ad L.length cap, .int .i64 (i : Nat), .bool b] 67)) #[.slice none 0 0, .int .i64 0, .bool false] 67).below hx
    have hb := (balloc (balloc (Below.refl _ _) _) _).trans (hx.mono (balloc (balloc (Below.refl _ _) _) _).size)
    clear hx hI
    simp only [alloc_size] at oq
    obtain ⟨p0, p1, p2, p3, p4, p5, p6⟩ := op.three
    obtain ⟨q0, q1, q2, q3, q4, q5, q6⟩ := oq.three
    go_wp2_with fail
    refine ret_cells (vs := [.slice ad L.length cap, .int .i64 (i : Nat), .bool true]) rfl Tryz.underlying67 rfl (by kernel_rfl) (B := w.heap.size + 1) ((oq.setCell (p := ⟨w.heap.size, 2, none⟩) (by simp) _).put3 _ _ _) rfl rfl ?_
    exact ⟨i, true, rfl, bset3 (hb.setCell (p := ⟨w.heap.size, 2, none⟩) (Nat.le_refl _) _) (by omega) _ _ _, Nat.le_refl _, hi, (fun h => by cases h), fun _ => ⟨rfl, hq2⟩⟩
  | true =>
    rw [hq] at hI
    have hq2 : b = false ∧ isT t (L.drop i) = true := by simpa using hq
    have hlt := isT_lt hq2.2
    have hw : IntKind.i64.wrap ((i : Int) + 1) = (i : Int) + 1 := IntWalk.i64_in _ (by omega)
    obtain ⟨rfl, hq3⟩ := hq2
    clear hq hE hW
    go_enter Tryz.func49, Tryz.ntmps49
    go_wp2_with fail
    refine (hI _ (balloc (balloc (Below.refl _ _) _) _)).mono ?_
    rintro e w1 ⟨rfl, hx⟩
    have op := ((Own.new w #[.slice ad L.length cap, .int .i64 (i : Nat), .bool false] 67).alloc _).below hx
    have oq := (Own.new (w.alloc (.cells #[.slice ad L.length cap, .int .i64 (i : Nat), .bool false] 67)) #[.slice none 0 0, .int .i64 0, .bool false] 67).below hx
    have hb := (balloc (balloc (Below.refl _ _) _) _).trans (hx.mono (balloc (balloc (Below.refl _ _) _) _).size)
    clear hx hI
    simp only [alloc_size] at oq
    obtain ⟨p0, p1, p2, p3, p4, p5, p6⟩ := op.three
    obtain ⟨q0, q1, q2, q3, q4, q5, q6⟩ := oq.three
    go_wp2_with fail
    refine ret_cells (vs := [.slice ad L.length cap, .int .i64 ((i : Int) + 1), .bool false]) rfl Tryz.underlying67 rfl (by kernel_rfl) (B := w.heap.size + 1) ((oq.setCell (p := ⟨w.heap.size, 1, none⟩) (by simp) _).put3 _ _ _) rfl rfl ?_
    exact ⟨i + 1, false, rfl, bset3 (hb.setCell (p := ⟨w.heap.size, 1, none⟩) (Nat.le_refl _) _) (by omega) _ _ _, by omega, hlt, (fun _ => ⟨rfl, hq3, rfl⟩), fun h => by cases h⟩

theorem xdigits_any (t : List UInt8) (h : numT t) (w : World) : Calls Tryz.prog 95 #[.string ⟨t.toArray⟩] w (Same (.int .i64 (cents t : Nat)) w) := by
  obtain ⟨-, hl17, hsh⟩ := h
  have HALL : Hid (∀ (k : Nat) (x : UInt8), t[k]? = some x → x ≠ 46 → digB x = true) := Lib.hid (by
    intro k x hx hne
    have hm := List.mem_of_getElem? hx
    rcases hsh with h | ⟨A, B, rfl, -, hA, hB⟩
    · exact h x hm
    · rcases List.mem_append.1 hm with h | h
      · exact hA x h
      · rcases List.mem_cons.1 h with h | h
        · exact absurd h hne
        · exact hB x h)
  clear hsh
  have hz := bsz t
  have hget := bget t
  generalize (⟨t.toArray⟩ : ByteArray) = S at *
  have hz2 : S.size ≤ 17 := by omega
  have HZ := Lib.hid hz
  have HG := Lib.hid hget
  clear hz hget
  go_enter Tryz.func95, Tryz.ntmps95
  go_wp2_with fail
  go_loop [3, 4] (fun v i => ∃ k : Nat, k ≤ t.length ∧ i = .int .i64 k ∧ v = .int .i64 (cents (t.take k) : Nat)) (fun _ i => t.length - (intOf i).toNat)
  case atStart => exact ⟨0, by omega, rfl, rfl⟩
  case round =>
    obtain ⟨k, hk, rfl, rfl⟩ := hrel
    have hclt := cents_lt t k
    have hpow : 10 ^ k ≤ 10 ^ 17 := Nat.pow_le_pow_right (by omega) (by omega)
    have hcb : cents (t.take k) < 100000000000000000 := by omega
    clear hclt hpow
    by_cases hkl : k < t.length
    · have hlt : k < S.size := by rw [HZ.out]; exact hkl
      obtain ⟨x, hx⟩ : ∃ x, t[k]? = some x := ⟨_, List.getElem?_eq_getElem hkl⟩
      have hel2 := HG.out k x hx hlt
      have hst : cents (t.take (k + 1)) = if digB x then 10 * cents (t.take k) + (x.toNat - 48) else cents (t.take k) := by
        rw [List.take_add_one, hx]
        exact cents_snoc _ _
      have hno := HALL.out k x hx
      generalize hcv : cents (t.take k) = v at *
      have HV := Lib.hid hcv
      clear hcv
      by_cases h46 : x = 46
      · have hkn' : (((x.toNat : Nat) : Int) != 46) = false := by rw [h46]; rfl
        have HST : Hid (cents (t.take (k + 1)) = v) := Lib.hid (by rw [hst, if_neg (by rw [h46]; decide)])
        clear hst hno h46 hx
        go_wp2_with fail
        go_round
        case rel => exact ⟨k + 1, by omega, by go_num, by rw [HST.out]⟩
        case measure => simp [intOf]; omega
      · have hkn' : (((x.toNat : Nat) : Int) != 46) = true := by rw [bne_iff_ne]; intro hh; exact h46 (by apply UInt8.toNat_inj.1; simpa using (by omega : x.toNat = 46))
        obtain ⟨x1, x2⟩ := (dig_iff x).1 (hno h46)
        have HST : Hid (cents (t.take (k + 1)) = 10 * v + (x.toNat - 48)) := Lib.hid (by rw [hst, if_pos (hno h46)])
        clear hst hno h46 hx
        go_wp2_with fail
        go_round
        case rel => exact ⟨k + 1, by omega, by go_num, by rw [HST.out]; congr 1; omega⟩
        case measure => simp [intOf]; omega
    · have hk2 : k = t.length := by omega
      subst hk2
      rw [List.take_length] at hcb ⊢
      have hSk : S.size ≤ t.length := by rw [HZ.out]; omega
      go_wp2_with fail
      go_ret
      exact Same.mk rfl rfl

/-- a number was read, or not -/
def NumREnd (ad : Option Addr) (cap : Nat) (L : List Tok) (i : Nat) (b : Bool) (w : World) (e : Ending) (w' : World) : Prop :=
  ∃ j c, ∃ n : Nat, e = .returned (.tuple #[pv ad cap L j c, .int .i64 (n : Nat)]) ∧ Below w.heap.size w w' ∧ i ≤ j ∧ j ≤ L.length ∧ (c = false → b = false ∧ ∃ x, L.drop i = x :: L.drop (i + 1) ∧ x.k = 2 ∧ n = cents x.t ∧ j = i + 1) ∧ (c = true → j = i ∧ n = 0 ∧ (b = true ∨ ∀ x r, L.drop i = x :: r → x.k ≠ 2))
set_option maxHeartbeats 1600000 in
theorem rnumber_any (hE : REnv W0 ad cap L) (i : Nat) (hi : i ≤ L.length) (b : Bool) (w : World) (hW : Below W0.heap.size W0 w) : Calls Tryz.prog 79 #[pv ad cap L i b] w (NumREnd ad cap L i b w) := by
  have hsh := hE.short
  cases b with
  | true =>
    clear hE hW
    go_enter Tryz.func79, Tryz.ntmps79
    go_wp2_with fail
    have oq : Own ((w.alloc (.cells #[.slice ad L.length cap, .int .i64 (i : Nat), .bool true] 67)).alloc (.cells #[.slice ad L.length cap, .int .i64 (i : Nat), .bool true] 67)) (w.heap.size + 1) [.slice ad L.length cap, .int .i64 (i : Nat), .bool true] := Own.at _ _ _ _ (by simp)
    have hb : Below w.heap.size w ((w.alloc (.cells #[.slice ad L.length cap, .int .i64 (i : Nat), .bool true] 67)).alloc (.cells #[.slice ad L.length cap, .int .i64 (i : Nat), .bool true] 67)) := balloc (balloc (Below.refl _ _) _) _
    refine bodyPost_ret (results_ct rfl rfl (loadVar_at (vs := [.slice ad L.length cap, .int .i64 (i : Nat), .bool true]) Tryz.underlying67 rfl (by kernel_rfl) oq)) rfl ?_
    exact ⟨i, true, 0, rfl, hb, Nat.le_refl _, hi, (fun h => by cases h), fun _ => ⟨rfl, rfl, .inl rfl⟩⟩
  | false =>
    by_cases hl : i < L.length
    · obtain ⟨a, rfl, d0, d1, d2, hab⟩ := hE.reads hW hl
      have hn := hE.nums _ (List.getElem_mem hl)
      have hdr := List.drop_eq_getElem_cons hl
      have hd : decide ((L.length : Int) ≤ (i : Int)) = false := by simpa using hl
      have hix : ¬ ((i : Int) < 0) := by omega
      have hw : IntKind.i64.wrap ((i : Int) + 1) = (i : Int) + 1 := IntWalk.i64_in _ (by omega)
      generalize L[i] = x at *
      by_cases hk : x.k = 2
      · have hD := xdigits_any x.t (hn (.inl hk))
        have hkx : ((x.k : Int) != 2) = false := by simpa using (by omega : (x.k : Int) = 2)
        obtain ⟨xk, xn, xt⟩ := x
        simp only at d0 d1 d2 hD hk hkx
        subst hk
        clear hE hW hn hkx
        go_enter Tryz.func79, Tryz.ntmps79
        go_wp2_with fail
        refine (hD _).mono ?_
        rintro e w1 ⟨rfl, rfl⟩
        clear hD
        go_wp2_with fail
        have oq : Own ((w.alloc (.cells #[.slice (some a) L.length cap, .int .i64 ((i : Int) + 1), .bool false] 67)).alloc (.cells #[.slice (some a) L.length cap, .int .i64 ((i : Int) + 1), .bool false] 67)) (w.heap.size + 1) [.slice (some a) L.length cap, .int .i64 ((i : Int) + 1), .bool false] := Own.at _ _ _ _ (by simp)
        have hb : Below w.heap.size w ((w.alloc (.cells #[.slice (some a) L.length cap, .int .i64 ((i : Int) + 1), .bool false] 67)).alloc (.cells #[.slice (some a) L.length cap, .int .i64 ((i : Int) + 1), .bool false] 67)) := balloc (balloc (Below.refl _ _) _) _
        refine bodyPost_ret (results_ct rfl rfl (loadVar_at (vs := [.slice (some a) L.length cap, .int .i64 ((i : Int) + 1), .bool false]) Tryz.underlying67 rfl (by kernel_rfl) oq)) rfl ?_
        exact ⟨i + 1, false, _, rfl, hb, by omega, hl, (fun _ => ⟨rfl, _, hdr, rfl, rfl, rfl⟩), fun h => by cases h⟩
      · have hkx : ((x.k : Int) != 2) = true := by simpa using (by omega : ¬ (x.k : Int) = 2)
        have hQ : false = true ∨ ∀ y r, L.drop i = y :: r → y.k ≠ 2 := .inr fun y r e => by rw [hdr] at e; cases e; exact hk
        obtain ⟨xk, xn, xt⟩ := x
        simp only at d0 d1 d2 hkx
        clear hE hW hn hdr
        go_enter Tryz.func79, Tryz.ntmps79
        go_wp2_with fail
        have oq : Own ((w.alloc (.cells #[.slice (some a) L.length cap, .int .i64 (i : Nat), .bool true] 67)).alloc (.cells #[.slice (some a) L.length cap, .int .i64 (i : Nat), .bool true] 67)) (w.heap.size + 1) [.slice (some a) L.length cap, .int .i64 (i : Nat), .bool true] := Own.at _ _ _ _ (by simp)
        have hb : Below w.heap.size w ((w.alloc (.cells #[.slice (some a) L.length cap, .int .i64 (i : Nat), .bool true] 67)).alloc (.cells #[.slice (some a) L.length cap, .int .i64 (i : Nat), .bool true] 67)) := balloc (balloc (Below.refl _ _) _) _
        refine bodyPost_ret (results_ct rfl rfl (loadVar_at (vs := [.slice (some a) L.length cap, .int .i64 (i : Nat), .bool true]) Tryz.underlying67 rfl (by kernel_rfl) oq)) rfl ?_
        exact ⟨i, true, 0, rfl, hb, Nat.le_refl _, hi, (fun h => by cases h), fun _ => ⟨rfl, rfl, hQ⟩⟩
    · have hd : decide ((L.length : Int) ≤ (i : Int)) = true := by simpa using hl
      have hQ : false = true ∨ ∀ y r, L.drop i = y :: r → y.k ≠ 2 := .inr fun y r e => by rw [List.drop_of_length_le (by omega)] at e; cases e
      clear hE hW
      go_enter Tryz.func79, Tryz.ntmps79
      go_wp2_with fail
      have oq : Own ((w.alloc (.cells #[.slice ad L.length cap, .int .i64 (i : Nat), .bool true] 67)).alloc (.cells #[.slice ad L.length cap, .int .i64 (i : Nat), .bool true] 67)) (w.heap.size + 1) [.slice ad L.length cap, .int .i64 (i : Nat), .bool true] := Own.at _ _ _ _ (by simp)
      have hb : Below w.heap.size w ((w.alloc (.cells #[.slice ad L.length cap, .int .i64 (i : Nat), .bool true] 67)).alloc (.cells #[.slice ad L.length cap, .int .i64 (i : Nat), .bool true] 67)) := balloc (balloc (Below.refl _ _) _) _
      refine bodyPost_ret (results_ct rfl rfl (loadVar_at (vs := [.slice ad L.length cap, .int .i64 (i : Nat), .bool true]) Tryz.underlying67 rfl (by kernel_rfl) oq)) rfl ?_
      exact ⟨i, true, 0, rfl, hb, Nat.le_refl _, hi, (fun h => by cases h), fun _ => ⟨rfl, rfl, hQ⟩⟩
set_option maxHeartbeats 800000 in
theorem rpair_any (o : Int) (x y : Xp) (adx ady : Option Addr) (cx cy : Nat) (w : World) (Q : Nat → Prop) (hq : ∀ k, w.heap.size ≤ k → ¬ Q k) (hx : Tree Q w x (.agg #[.int .i64 x.o, .int .i64 x.n, .slice adx x.ks.length cx])) (hy : Tree Q w y (.agg #[.int .i64 y.o, .int .i64 y.n, .slice ady y.ks.length cy])) :
    Calls Tryz.prog 74 #[.int .i64 o, .agg #[.int .i64 x.o, .int .i64 x.n, .slice adx x.ks.length cx], .agg #[.int .i64 y.o, .int .i64 y.n, .slice ady y.ks.length cy]] w fun e w' => ∃ tv, e = .returned tv ∧ Tree Q w' (nodeE o [x, y]) tv ∧ Below w.heap.size w w' := by
  have hb : Below w.heap.size w ((((w.alloc (.cells #[.int .i64 x.o, .int .i64 x.n, .slice adx x.ks.length cx] 24)).alloc (.cells #[.int .i64 y.o, .int .i64 y.n, .slice ady y.ks.length cy] 24)).alloc (.cells #[.int .i64 o, .int .i64 0, .slice (some ⟨w.heap.size + 3, 0, none⟩) 2 2] 24)).alloc (.cells #[.int .i64 x.o, .int .i64 x.n, .slice adx x.ks.length cx, .int .i64 y.o, .int .i64 y.n, .slice ady y.ks.length cy] 24)) := balloc (balloc (balloc (balloc (Below.refl _ _) _) _) _) _
  have o6 : Own ((((w.alloc (.cells #[.int .i64 x.o, .int .i64 x.n, .slice adx x.ks.length cx] 24)).alloc (.cells #[.int .i64 y.o, .int .i64 y.n, .slice ady y.ks.length cy] 24)).alloc (.cells #[.int .i64 o, .int .i64 0, .slice (some ⟨w.heap.size + 3, 0, none⟩) 2 2] 24)).alloc (.cells #[.int .i64 x.o, .int .i64 x.n, .slice adx x.ks.length cx, .int .i64 y.o, .int .i64 y.n, .slice ady y.ks.length cy] 24)) (w.heap.size + 2) [.int .i64 o, .int .i64 0, .slice (some ⟨w.heap.size + 3, 0, none⟩) 2 2] := (Own.at _ #[.int .i64 o, .int .i64 0, .slice (some ⟨w.heap.size + 3, 0, none⟩) 2 2] _ _ (by simp)).alloc _
  have on : Own ((((w.alloc (.cells #[.int .i64 x.o, .int .i64 x.n, .slice adx x.ks.length cx] 24)).alloc (.cells #[.int .i64 y.o, .int .i64 y.n, .slice ady y.ks.length cy] 24)).alloc (.cells #[.int .i64 o, .int .i64 0, .slice (some ⟨w.heap.size + 3, 0, none⟩) 2 2] 24)).alloc (.cells #[.int .i64 x.o, .int .i64 x.n, .slice adx x.ks.length cx, .int .i64 y.o, .int .i64 y.n, .slice ady y.ks.length cy] 24)) (w.heap.size + 3) [.int .i64 x.o, .int .i64 x.n, .slice adx x.ks.length cx, .int .i64 y.o, .int .i64 y.n, .slice ady y.ks.length cy] := Own.at _ _ _ _ (by simp)
  have T := tree_two (Q := Q) (o := o) (hq _ (by omega)) on (hx.below hb) (hy.below hb) 2
  clear on hx hy
  go_enter Tryz.func74, Tryz.ntmps74
  go_wp2_with fail
  refine ret_cells (vs := [.int .i64 o, .int .i64 0, .slice (some ⟨w.heap.size + 3, 0, none⟩) 2 2]) rfl Tryz.underlying24 rfl (by kernel_rfl) (B := w.heap.size + 2) o6 rfl rfl ?_
  exact ⟨_, rfl, T, hb⟩
end Go.Proofs.YthnlenbfknbmcaaGreatDoor
