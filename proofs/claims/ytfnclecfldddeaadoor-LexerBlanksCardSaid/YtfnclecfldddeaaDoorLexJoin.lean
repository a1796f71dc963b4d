/-
  The walks of between and canJoin.
-/
import Derived.Test.YtfnclecfldddeaaDoorLexTokens
namespace Go.Proofs.YtfnclecfldddeaaDoor
open Go.RowKit Go.Shelf
set_option maxRecDepth 100000

/-- what stands before a token -/
def gapT (index : Nat) (lines : Int) : List UInt8 := if lines = 0 ∧ 0 < index then [32] else List.replicate (min lines.toNat 20000) 10
theorem between_any (index : Nat) (lines : Int) (h0 : 0 ≤ lines) (h1 : lines ≤ 9223372036854775807) (w : World) : Calls Tryd.prog 22 #[.int .i64 index, .int .i64 lines] w (Ret (.string ⟨(gapT index lines).toArray⟩) w) := by
  by_cases hl : lines = 0
  · subst hl
    by_cases hx : 0 < index
    · have hx' : decide (0 < index) = true := by simpa using hx
      have HG : Hid (gapT index 0 = [32]) := Lib.hid (by unfold gapT; rw [if_pos ⟨rfl, hx⟩])
      clear hx
      go_enter Tryd.func22, Tryd.ntmps22
      go_wp2_with fail
      go_ret
      exact Ret.mk (by rw [HG.out]; rfl) (Below.refl _ _)
    · have hx' : decide (0 < index) = false := by simpa using hx
      have hmin0 : min (0 : Int) 20000 = ((0 : Nat) : Int) := rfl
      have HG : Hid (gapT index 0 = List.replicate 0 10) := Lib.hid (by unfold gapT; rw [if_neg (fun h => hx h.2)]; rfl)
      have hr := repeat_any 0 (by omega)
      clear hx
      go_enter Tryd.func22, Tryd.ntmps22
      go_wp2_with fail
      refine (hr _).mono ?_
      rintro e w1 ⟨rfl, hb⟩
      go_wp2_with fail
      go_ret
      exact Ret.mk (by rw [HG.out]; rfl) hb
  · have hl' : (lines == 0) = false := by simpa using hl
    obtain ⟨m, hm⟩ : ∃ m : Nat, m = min lines.toNat 20000 := ⟨_, rfl⟩
    have hmin : (if (20000 : Int) < lines then (20000 : Int) else lines) = (m : Int) := by rw [hm]; split <;> omega
    have hmin2 : min lines (20000 : Int) = (m : Int) := by omega
    have HG : Hid (gapT index lines = List.replicate m 10) := Lib.hid (by unfold gapT; rw [if_neg (fun h => hl h.1), hm])
    have hm2 : m ≤ 20000 := by omega
    have hr := repeat_any m (by omega)
    clear hm hl
    go_enter Tryd.func22, Tryd.ntmps22
    go_wp2_with fail
    refine (hr _).mono ?_
    rintro e w1 ⟨rfl, hb⟩
    go_wp2_with fail
    go_ret
    exact Ret.mk (by rw [HG.out]; rfl) hb

theorem belD {w0 w : World} (h : Below w0.heap.size w0 w) (n : Nat) : Below w0.heap.size w0 (w.drewN n) := h.trans ((below_drewN w n).mono h.size)
/-- whether tokens can be joined, behind a line -/
def rightR (line : Int) : List RT → Bool
  | [] => true
  | x :: r => decide (line ≤ x.n) && decide (x.k ≠ 0) && decide (x.k = kindF x.t) && rightR x.n r
def canF (l : List RT) : Bool := decide (l.length ≤ 5000) && rightR 1 l
theorem right_drop {L : Int} {l : List RT} {k : Nat} (hk : k < l.length) : rightR L (l.drop k) = (decide (L ≤ (l[k]).n) && decide ((l[k]).k ≠ 0) && decide ((l[k]).k = kindF (l[k]).t) && rightR (l[k]).n (l.drop (k + 1))) := by
  rw [List.drop_eq_getElem_cons hk]; rfl
/-- the line behind so many tokens -/
def lineR (l : List RT) (k : Nat) : Int := match k with | 0 => 1 | k + 1 => match l[k]? with | some x => x.n | none => 1
theorem line_succ {l : List RT} {k : Nat} (hk : k < l.length) : lineR l (k + 1) = (l[k]).n := by simp [lineR, hk]

set_option maxHeartbeats 4000000 in
theorem canJoin_any (v : Value) (l : List RT) (w : World) (hT : Toks w v l) (ht : ∀ x ∈ l, x.t.length ≤ 400000) (hL : Lay w) : Calls Tryd.prog 21 #[v] w (Ret (.bool (canF l)) w) := by
  obtain ⟨ad, cap, rfl⟩ := hT.open
  have hsh := hT.short
  by_cases h5 : 5000 < l.length
  · have h5' : decide (5000 < (l.length : Int)) = true := by simp; omega
    have h5'' : decide ((l.length : Int) > 5000) = true := by simp; omega
    have HC : Hid (canF l = false) := Lib.hid (by unfold canF; rw [Bool.and_eq_false_iff]; exact .inl (by simpa using h5))
    clear h5 hT
    go_enter Tryd.func21, Tryd.ntmps21
    go_wp2_with fail
    go_ret
    exact Ret.mk (by rw [HC.out]; rfl) (Below.refl _ _)
  · have h5' : decide (5000 < (l.length : Int)) = false := by simp; omega
    have hle : l.length ≤ 5000 := by omega
    have HC : Hid (canF l = rightR 1 l) := Lib.hid (by unfold canF; rw [show decide (l.length ≤ 5000) = true by simpa using hle]; rfl)
    clear h5
    go_enter Tryd.func21, Tryd.ntmps21
    go_wp2_with fail
    refine (kinds_any _).mono ?_
    rintro e w1 ⟨rfl, hkn, hb⟩
    go_wp2_with fail
    go_loopw [4, 13] (fun line i wr => ∃ k : Nat, k ≤ l.length ∧ i = .int .i64 k ∧ line = .int .i64 (lineR l k) ∧ rightR 1 l = rightR (lineR l k) (l.drop k) ∧ Known wr w.heap.size ∧ Below w.heap.size w wr) (fun _ i _ => l.length - (intOf i).toNat)
    case atStart => exact ⟨0, Nat.zero_le _, rfl, rfl, rfl, hkn, hb⟩
    case round =>
      obtain ⟨k, hk, rfl, rfl, hr, hknr, hbr⟩ := hrel
      have hHR := Lib.hid hr
      clear hr hkn hb
      by_cases hkl : k < l.length
      · obtain ⟨a, rfl, c0, c1, c2, hab⟩ := hT.reads hbr (Nat.le_refl _) k hkl
        have hin := hT.ints l[k] (List.getElem_mem hkl)
        have htl := ht l[k] (List.getElem_mem hkl)
        have hls := line_succ hkl
        have hst := right_drop (L := lineR l k) hkl
        generalize l[k] = x at c0 c1 c2 hin htl hls hst
        obtain ⟨xk, xn, xt⟩ := x
        simp only at c0 c1 c2 hin htl hls hst
        obtain ⟨L, hLd⟩ : ∃ L, lineR l k = L := ⟨_, rfl⟩
        rw [hLd] at hst hHR ⊢
        clear hLd
        have HLS := Lib.hid hls
        have HST := Lib.hid hst
        clear hls hst
        by_cases hA : xn < L
        · have hA' : decide (xn < L) = true := by simpa using hA
          have HR2 : Hid (canF l = false) := Lib.hid (by rw [HC.out, hHR.out, HST.out, show decide (L ≤ xn) = false by simpa using hA]; rfl)
          clear hA
          go_wp2_with fail
          go_quiet (fail)
          go_wp2_with fail
          go_ret
          exact Ret.mk (by rw [HR2.out]; rfl) (belD (belB hbr _) _)
        · have hA' : decide (xn < L) = false := by simpa using hA
          have hLe : L ≤ xn := by omega
          by_cases hB : xk = 0
          · have HR2 : Hid (canF l = false) := Lib.hid (by rw [HC.out, hHR.out, HST.out, hB]; simp)
            subst hB
            clear hA
            go_wp2_with fail
            go_quiet (fail)
            go_wp2_with fail
            go_ret
            exact Ret.mk (by rw [HR2.out]; rfl) (belD (belB hbr _) _)
          · have hB' : (xk == 0) = false := by simpa using hB
            have hKd : ∀ w', Below (wr.alloc (.cells #[.int .i64 xk, .int .i64 xn, .string ⟨xt.toArray⟩] 36)).heap.size (wr.alloc (.cells #[.int .i64 xk, .int .i64 xn, .string ⟨xt.toArray⟩] 36)) w' → Calls Tryd.prog 34 #[.slice (some ⟨w.heap.size, 0, none⟩) 4 4, .string ⟨xt.toArray⟩] w' (Ret (.int .i64 (kindF xt)) w') := fun w' h => by
              have hbb := belB hbr (.cells #[.int .i64 xk, .int .i64 xn, .string ⟨xt.toArray⟩] 36)
              have := kindOf_any xt htl w.heap.size 4 w' ((hL.below hbb).below h) ((hknr.alloc _).below h)
              rw [kind_eq] at this; exact this
            have ho := Own.new wr #[.int .i64 xk, .int .i64 xn, .string ⟨xt.toArray⟩] 36
            by_cases hC : xk = (kindF xt : Nat)
            · have hC' : (xk != ((kindF xt : Nat) : Int)) = false := by rw [bne_eq_false_iff_eq]; exact hC
              have HR2 : Hid (rightR L (l.drop k) = rightR xn (l.drop (k + 1))) := Lib.hid (by rw [HST.out, show decide (L ≤ xn) = true by simpa using hLe, show decide (xk ≠ 0) = true by simpa using hB, show decide (xk = (kindF xt : Nat)) = true by simpa using hC]; rfl)
              clear hA hB hC
              obtain ⟨W, hW⟩ : ∃ W, wr.alloc (.cells #[.int .i64 xk, .int .i64 xn, .string ⟨xt.toArray⟩] 36) = W := ⟨_, rfl⟩
              have hbW : Below w.heap.size w W := by rw [← hW]; exact belB hbr _
              have hkW : Known W w.heap.size := by rw [← hW]; exact hknr.alloc _
              have hzW : wr.heap.size < W.heap.size := by rw [← hW]; simp
              rw [hW] at ho hKd
              have hk2 : ∀ w', Below W.heap.size W w' → Below W.heap.size W w' ∧ w'.cell? ⟨wr.heap.size, 0, none⟩ = some (.int .i64 xk) ∧ w'.cell? ⟨wr.heap.size, 1, none⟩ = some (.int .i64 xn) ∧ w'.cell? ⟨wr.heap.size, 2, none⟩ = some (.string ⟨xt.toArray⟩) := fun w' h => ⟨h, (ho.below h).cell 0 _ rfl, (ho.below h).cell 1 _ rfl, (ho.below h).cell 2 _ rfl⟩
              go_wp2_with fail
              go_region_held3 (fun w' => Below W.heap.size W w' ∧ w'.cell? ⟨wr.heap.size, 0, none⟩ = some (.int .i64 xk) ∧ w'.cell? ⟨wr.heap.size, 1, none⟩ = some (.int .i64 xn) ∧ w'.cell? ⟨wr.heap.size, 2, none⟩ = some (.string ⟨xt.toArray⟩)) (exact hk2 _ (by first | exact Below.refl _ _ | assumption | exact Below.drew (by assumption) | exact Below.drew (Below.refl _ _)))
                (first | (go_at_call 34; refine (hKd _ (And.left (by assumption))).mono ?_; rintro e wA ⟨rfl, hxA⟩; have hA1 := Below.trans (And.left (show Below W.heap.size W _ ∧ _ by assumption)) (hxA.mono (And.left (show Below W.heap.size W _ ∧ _ by assumption)).size)))
              obtain ⟨_, g0, g1, g2⟩ := hk2 _ hA1
              have hknA := hkW.below hA1
              have hbA := hbW.trans (hA1.mono hbW.size)
              clear hk2 hKd ho hW
              go_wp2_with fail
              go_roundw
              case rel => exact ⟨k + 1, by omega, by go_num, by rw [HLS.out], by rw [hHR.out, HR2.out, HLS.out], hknA, hbA⟩
              case measure => simp [intOf]; omega
            · have hC' : (xk != ((kindF xt : Nat) : Int)) = true := by rw [bne_iff_ne]; exact hC
              have HR2 : Hid (canF l = false) := Lib.hid (by rw [HC.out, hHR.out, HST.out, show decide (xk = (kindF xt : Nat)) = false by simpa using hC]; simp)
              clear hA hB hC
              obtain ⟨W, hW⟩ : ∃ W, wr.alloc (.cells #[.int .i64 xk, .int .i64 xn, .string ⟨xt.toArray⟩] 36) = W := ⟨_, rfl⟩
              have hbW : Below w.heap.size w W := by rw [← hW]; exact belB hbr _
              have hkW : Known W w.heap.size := by rw [← hW]; exact hknr.alloc _
              have hzW : wr.heap.size < W.heap.size := by rw [← hW]; simp
              rw [hW] at ho hKd
              have hk2 : ∀ w', Below W.heap.size W w' → Below W.heap.size W w' ∧ w'.cell? ⟨wr.heap.size, 0, none⟩ = some (.int .i64 xk) ∧ w'.cell? ⟨wr.heap.size, 1, none⟩ = some (.int .i64 xn) ∧ w'.cell? ⟨wr.heap.size, 2, none⟩ = some (.string ⟨xt.toArray⟩) := fun w' h => ⟨h, (ho.below h).cell 0 _ rfl, (ho.below h).cell 1 _ rfl, (ho.below h).cell 2 _ rfl⟩
              go_wp2_with fail
              go_region_held3 (fun w' => Below W.heap.size W w' ∧ w'.cell? ⟨wr.heap.size, 0, none⟩ = some (.int .i64 xk) ∧ w'.cell? ⟨wr.heap.size, 1, none⟩ = some (.int .i64 xn) ∧ w'.cell? ⟨wr.heap.size, 2, none⟩ = some (.string ⟨xt.toArray⟩)) (exact hk2 _ (by first | exact Below.refl _ _ | assumption | exact Below.drew (by assumption) | exact Below.drew (Below.refl _ _)))
                (first | (go_at_call 34; refine (hKd _ (And.left (by assumption))).mono ?_; rintro e wA ⟨rfl, hxA⟩; have hA1 := Below.trans (And.left (show Below W.heap.size W _ ∧ _ by assumption)) (hxA.mono (And.left (show Below W.heap.size W _ ∧ _ by assumption)).size)))
              obtain ⟨_, g0, g1, g2⟩ := hk2 _ hA1
              have hknA := hkW.below hA1
              have hbA := hbW.trans (hA1.mono hbW.size)
              clear hk2 hKd ho hW
              go_wp2_with fail
              go_ret
              exact Ret.mk (by rw [HR2.out]; rfl) hbA
      · have hk2 : k = l.length := by omega
        subst hk2
        have HR2 : Hid (canF l = true) := Lib.hid (by rw [HC.out, hHR.out, List.drop_of_length_le (Nat.le_refl _)]; rfl)
        go_wp2_with fail
        go_ret
        exact Ret.mk (by rw [HR2.out]; rfl) hbr
end Go.Proofs.YtfnclecfldddeaaDoor
