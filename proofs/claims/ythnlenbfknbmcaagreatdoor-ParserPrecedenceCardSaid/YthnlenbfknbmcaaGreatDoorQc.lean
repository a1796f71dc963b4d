/-
  The Kind of a text.
-/
import Derived.Test.YthnlenbfknbmcaaGreatDoorQb
namespace Go.Proofs.YthnlenbfknbmcaaGreatDoor
open Go.RowKit Go.Shelf
set_option maxRecDepth 100000

def numB (t : List UInt8) : Bool := decide (t.length ≠ 0 ∧ t.length ≤ 9 ∧ nDig t = t.length ∧ (t.length = 1 ∨ t.head? ≠ some 48))
def amtB (t : List UInt8) : Bool := match Lib.atoiAll t with | .ok v => decide (v ≤ 1000000000) | _ => false
def nameB (t : List UInt8) : Bool := decide (t ≠ [] ∧ nLet t = t.length)
def mnyB (t : List UInt8) : Bool := numB (cutA t) && decide ((cutB t).length = 2) && amtB (cutA t ++ cutB t)
def sigB (t : List UInt8) : Bool := match t with | [c] => sgnB c | _ => false

theorem isNumber_any (t : List UInt8) (ht : t.length ≤ 1000000) (w : World) : Calls Tryz.prog 82 #[.string ⟨t.toArray⟩] w (Ret (.bool (numB t)) w) := by
  have hz := bsz t
  have hle : nDig t ≤ t.length := tw_len t
  have hrun := run_digit t (by omega)
  cases t with
  | nil =>
    clear hrun
    go_enter Tryz.func82, Tryz.ntmps82
    go_wp2_with fail
    go_ret
    exact Ret.mk rfl (Below.refl _ _)
  | cons c r =>
  have h0 : ((((c :: r).length : Nat) : Int) == 0) = false := by rw [beq_eq_false_iff_ne]; simp; omega
  have hc : ∀ h, (⟨(c :: r).toArray⟩ : ByteArray)[0]'h = c := fun _ => rfl
  obtain ⟨n, hn⟩ : ∃ n, n = (c :: r).length := ⟨_, rfl⟩
  have hnum : numB (c :: r) = decide (n ≤ 9 ∧ nDig (c :: r) = n ∧ (n = 1 ∨ c ≠ 48)) := by
    have e : (c :: r).head? ≠ some 48 ↔ c ≠ 48 := by simp
    have h0 : n ≠ 0 := by rw [hn]; simp
    unfold numB
    rw [← hn, Bool.eq_iff_iff, decide_eq_true_eq, decide_eq_true_eq, e]
    exact ⟨fun h => h.2, fun h => ⟨h0, h⟩⟩
  rw [hnum]
  rw [← hn] at hz hle h0
  have hn1 : 1 ≤ n := by rw [hn]; simp
  clear hnum hn ht
  obtain ⟨S, hS⟩ : ∃ S, (⟨(c :: r).toArray⟩ : ByteArray) = S := ⟨_, rfl⟩
  simp only [hS] at *
  obtain ⟨m, hm⟩ : ∃ m, nDig (c :: r) = m := ⟨_, rfl⟩
  simp only [hm] at *
  clear hS hm
  by_cases h9 : n ≤ 9
  · have h9' : decide ((n : Int) > 9) = false := by simp; omega
    by_cases hmn : m = n
    · subst hmn
      have hlt : decide (m < m) = false := by simp
      by_cases h1 : m = 1
      · subst h1
        have H : Hid (decide (1 ≤ 9 ∧ 1 = 1 ∧ (1 = 1 ∨ c ≠ 48)) = true) := Lib.hid (by simp)
        rw [H.out]
        go_enter Tryz.func82, Tryz.ntmps82
        go_wp2_with fail
        refine (hrun _).mono ?_
        rintro e w1 ⟨rfl, hx⟩
        go_wp2_with fail
        go_ret
        exact Ret.mk rfl hx
      · have h1' : (((m : Nat) : Int) == 1) = false := by rw [beq_eq_false_iff_ne]; omega
        cases hb : (c != 48) with
        | true =>
          have H : Hid (decide (m ≤ 9 ∧ m = m ∧ (m = 1 ∨ c ≠ 48)) = true) := Lib.hid (by simp at hb; simp [h9, hb])
          rw [H.out]
          have hb' : ((c.toNat : Int) != 48) = true := by
            rw [bne_iff_ne]; intro e; rw [bne_iff_ne] at hb; exact hb (UInt8.toNat_inj.1 (by show c.toNat = 48; omega))
          go_enter Tryz.func82, Tryz.ntmps82
          go_wp2_with fail
          refine (hrun _).mono ?_
          rintro e w1 ⟨rfl, hx⟩
          go_wp2_with fail
          go_ret
          exact Ret.mk rfl hx
        | false =>
          have H : Hid (decide (m ≤ 9 ∧ m = m ∧ (m = 1 ∨ c ≠ 48)) = false) := Lib.hid (by simp at hb; simp [hb, h1])
          rw [H.out]
          have hb' : ((c.toNat : Int) != 48) = false := by
            have : c = 48 := by simpa using hb
            subst this; rfl
          go_enter Tryz.func82, Tryz.ntmps82
          go_wp2_with fail
          refine (hrun _).mono ?_
          rintro e w1 ⟨rfl, hx⟩
          go_wp2_with fail
          go_ret
          exact Ret.mk rfl hx
    · have hlt : decide (m < n) = true := by simp; omega
      have H : Hid (decide (n ≤ 9 ∧ m = n ∧ (n = 1 ∨ c ≠ 48)) = false) := Lib.hid (by simp [hmn])
      rw [H.out]
      go_enter Tryz.func82, Tryz.ntmps82
      go_wp2_with fail
      refine (hrun _).mono ?_
      rintro e w1 ⟨rfl, hx⟩
      go_wp2_with fail
      go_ret
      exact Ret.mk rfl hx
  · have h9' : decide ((n : Int) > 9) = true := by simp; omega
    have H : Hid (decide (n ≤ 9 ∧ m = n ∧ (n = 1 ∨ c ≠ 48)) = false) := Lib.hid (by simp [h9])
    rw [H.out]
    clear hrun
    go_enter Tryz.func82, Tryz.ntmps82
    go_wp2_with fail
    go_ret
    exact Ret.mk rfl (Below.refl _ _)
theorem isNumber_at {b : Bool} (t : List UInt8) (ht : t.length ≤ 1000000) (w : World) (h : numB t = b) : Calls Tryz.prog 82 #[.string ⟨t.toArray⟩] w (Ret (.bool b) w) := by subst h; exact isNumber_any t ht w

theorem isAmount_any (t : List UInt8) (ht : t.length ≤ 1000000) (w : World) (hL : Lay w) : Calls Tryz.prog 85 #[.string ⟨t.toArray⟩] w (Ret (.bool (amtB t)) w) := by
  have hat := atoi_any t ht w hL
  unfold AtoiP at hat
  go_enter Tryz.func85, Tryz.ntmps85
  go_wp2_with fail
  refine hat.mono ?_
  rintro e w1 ⟨hx, ⟨v, hv, rfl⟩ | ⟨hv, n, tp, p, rfl⟩⟩
  · have H := Lib.hid (show amtB t = decide (v ≤ 1000000000) by unfold amtB; rw [hv])
    clear hv hat
    by_cases hle : v ≤ 1000000000
    · go_wp2_with fail
      go_ret
      exact Ret.mk (by rw [H.out]; simp [hle]) hx
    · have hle' : decide (v ≤ 1000000000) = false := by simpa using hle
      go_wp2_with fail
      go_ret
      exact Ret.mk (by rw [H.out]; simp; omega) hx
  · have H := Lib.hid (show amtB t = false by unfold amtB; split <;> simp_all)
    clear hv hat
    go_wp2_with fail
    go_ret
    exact Ret.mk (by rw [H.out]; rfl) hx
theorem isAmount_at {b : Bool} (t : List UInt8) (ht : t.length ≤ 1000000) (w : World) (hL : Lay w) (h : amtB t = b) : Calls Tryz.prog 85 #[.string ⟨t.toArray⟩] w (Ret (.bool b) w) := by subst h; exact isAmount_any t ht w hL
end Go.Proofs.YthnlenbfknbmcaaGreatDoor
namespace Go.Proofs.YthnlenbfknbmcaaGreatDoor
open Go.RowKit Go.Shelf
set_option maxRecDepth 100000

theorem bapp (a b : List UInt8) : (⟨a.toArray⟩ : ByteArray) ++ ⟨b.toArray⟩ = ⟨(a ++ b).toArray⟩ := by
  apply ByteArray.ext
  rw [ByteArray.data_append]
  simp
theorem cut_len (s : List UInt8) : (cutA s).length ≤ s.length ∧ (cutB s).length ≤ s.length := by
  unfold cutA cutB Lib.cut
  split
  · simp only [List.length_take, List.length_drop]; omega
  · simp
theorem kind1_any (t : List UInt8) (ht : t.length ≤ 1000000) (w : World) : Calls Tryz.prog 80 #[.string ⟨t.toArray⟩] w (Ret (.bool (nameB t)) w) := by
  cases t with
  | nil =>
    go_enter Tryz.func80, Tryz.ntmps80
    go_wp2_with fail
    go_ret
    exact Ret.mk rfl (Below.refl _ _)
  | cons c r =>
  have hz := bsz (c :: r)
  have hrun := run_letter (c :: r) (by omega)
  have hname : nameB (c :: r) = decide (nLet (c :: r) = (c :: r).length) := by unfold nameB; simp
  have hle : nLet (c :: r) ≤ (c :: r).length := tw_len _
  rw [hname]
  clear hname
  have hne : (⟨(c :: r).toArray⟩ : ByteArray).toList = c :: r := by rw [Lib.toList_data]
  obtain ⟨S, hS⟩ : ∃ S, (⟨(c :: r).toArray⟩ : ByteArray) = S := ⟨_, rfl⟩
  simp only [hS] at *
  obtain ⟨m, hm⟩ : ∃ m, nLet (c :: r) = m := ⟨_, rfl⟩
  simp only [hm] at *
  obtain ⟨n, hn⟩ : ∃ n, (c :: r).length = n := ⟨_, rfl⟩
  rw [hn] at hz hle ht ⊢
  have hE : S.toList.isEmpty = false := by rw [hne]; rfl
  have hE2 : (!S.toList.isEmpty) = true := by rw [hE]; rfl
  clear hS hm hne hn
  by_cases h : m = n
  · subst h
    go_enter Tryz.func80, Tryz.ntmps80
    go_wp2_with fail
    refine (hrun _).mono ?_
    rintro e w1 ⟨rfl, hx⟩
    go_wp2_with fail
    go_ret
    exact Ret.mk (by simp) hx
  · have h' : (((m : Nat) : Int) == ((n : Nat) : Int)) = false := by rw [beq_eq_false_iff_ne]; omega
    go_enter Tryz.func80, Tryz.ntmps80
    go_wp2_with fail
    refine (hrun _).mono ?_
    rintro e w1 ⟨rfl, hx⟩
    go_wp2_with fail
    go_ret
    exact Ret.mk (by simp [h]) hx
theorem kind3_any (t : List UInt8) (ht : t.length ≤ 1000000) (w : World) : Calls Tryz.prog 86 #[.string ⟨t.toArray⟩] w (Ret (.bool (sigB t)) w) := by
  have hz := bsz t
  by_cases h1 : t.length = 1
  · obtain ⟨c, rfl⟩ := List.length_eq_one_iff.1 h1
    have hcall := contains_any c
    have hs : sigB [c] = sgnB c := rfl
    rw [hs]
    clear hs h1
    go_enter Tryz.func86, Tryz.ntmps86
    go_wp2_with fail
    refine (hcall _).mono ?_
    rintro e w1 ⟨rfl, rfl⟩
    go_wp2_with fail
    go_ret
    exact Ret.mk rfl (Below.refl _ _)
  · have hs : sigB t = false := by
      unfold sigB
      split
      · simp at h1
      · rfl
    have h' : (((t.length : Nat) : Int) == 1) = false := by rw [beq_eq_false_iff_ne]; omega
    rw [hs]
    obtain ⟨n, hn⟩ : ∃ n, t.length = n := ⟨_, rfl⟩
    rw [hn] at hz h'
    clear hs hn h1
    obtain ⟨S, hS⟩ : ∃ S, (⟨t.toArray⟩ : ByteArray) = S := ⟨_, rfl⟩
    rw [hS] at hz ⊢
    clear hS
    go_enter Tryz.func86, Tryz.ntmps86
    go_wp2_with fail
    go_ret
    exact Ret.mk rfl (Below.refl _ _)
theorem kind2_any (t : List UInt8) (ht : t.length ≤ 400000) (w : World) (hL : Lay w) : Calls Tryz.prog 83 #[.string ⟨t.toArray⟩] w (Ret (.bool (mnyB t)) w) := by
  obtain ⟨k1, k2⟩ := cut_len t
  have hcut := cut_any t (by omega) w hL
  have hap := bapp (cutA t) (cutB t)
  have hzB := bsz (cutB t)
  have hzA : (⟨(cutA t).toArray⟩ : ByteArray).size ≤ 400000 := by rw [bsz]; omega
  have hmB : (cutB t).length ≤ 400000 := by omega
  have hN := fun w => isNumber_any (cutA t) (by omega) w
  have hA := fun w hL => isAmount_any (cutA t ++ cutB t) (by simp; omega) w hL
  have hm : mnyB t = (numB (cutA t) && decide ((cutB t).length = 2) && amtB (cutA t ++ cutB t)) := rfl
  obtain ⟨C, hC⟩ : ∃ C, (⟨(cutA t ++ cutB t).toArray⟩ : ByteArray) = C := ⟨_, rfl⟩
  obtain ⟨A, hA'⟩ : ∃ A, (⟨(cutA t).toArray⟩ : ByteArray) = A := ⟨_, rfl⟩
  obtain ⟨B, hB'⟩ : ∃ B, (⟨(cutB t).toArray⟩ : ByteArray) = B := ⟨_, rfl⟩
  simp only [hC, hA', hB'] at *
  obtain ⟨m, hm2⟩ : ∃ m, (cutB t).length = m := ⟨_, rfl⟩
  rw [hm2] at hm hzB hmB
  rw [hm]
  clear hC hA' hB' hm hm2 k1 k2 ht
  generalize amtB (cutA t ++ cutB t) = z at *
  generalize numB (cutA t) = x at *
  generalize (Lib.cut t [46]).2.2 = q at *
  cases x with
  | false =>
    clear hA
    go_enter Tryz.func83, Tryz.ntmps83
    go_wp2_with fail
    refine hcut.mono ?_
    rintro e w1 ⟨rfl, hx⟩
    go_wp2_with fail
    refine (hN _).mono ?_
    rintro e w2 ⟨rfl, hx2⟩
    go_wp2_with fail
    go_ret
    exact Ret.mk (by simp) (hx.trans (hx2.mono hx.size))
  | true =>
    by_cases h2 : m = 2
    · subst h2
      have H : Hid ((true && decide (2 = 2) && z) = z) := Lib.hid (by simp)
      rw [H.out]
      go_enter Tryz.func83, Tryz.ntmps83
      go_wp2_with fail
      refine hcut.mono ?_
      rintro e w1 ⟨rfl, hx⟩
      go_wp2_with fail
      refine (hN _).mono ?_
      rintro e w2 ⟨rfl, hx2⟩
      have hb := hx.trans (hx2.mono hx.size)
      have hL2 := hL.below hb
      go_wp2_with fail
      refine (hA _ hL2).mono ?_
      rintro e w3 ⟨rfl, hx3⟩
      go_wp2_with fail
      go_ret
      exact Ret.mk rfl (hb.trans (hx3.mono hb.size))
    · have h2' : (((m : Nat) : Int) == 2) = false := by rw [beq_eq_false_iff_ne]; omega
      have H : Hid ((true && decide (m = 2) && z) = false) := Lib.hid (by simp [h2])
      rw [H.out]
      clear hA
      go_enter Tryz.func83, Tryz.ntmps83
      go_wp2_with fail
      refine hcut.mono ?_
      rintro e w1 ⟨rfl, hx⟩
      go_wp2_with fail
      refine (hN _).mono ?_
      rintro e w2 ⟨rfl, hx2⟩
      go_wp2_with fail
      go_ret
      exact Ret.mk rfl (hx.trans (hx2.mono hx.size))
end Go.Proofs.YthnlenbfknbmcaaGreatDoor
namespace Go.Proofs.YthnlenbfknbmcaaGreatDoor
open Go.RowKit Go.Shelf
set_option maxRecDepth 100000

def knCells : Array Value := #[.int .i64 1, .func (.func 80) #[] #[], .int .i64 2, .func (.func 82) #[] #[], .int .i64 3, .func (.func 83) #[] #[], .int .i64 4, .func (.func 86) #[] #[]]
/-- the table of the kinds -/
def Known (w : World) (a : Nat) : Prop := w.heap[a]? = some (.cells knCells 122 (0, 0))
theorem Known.lt {w : World} {a : Nat} (h : Known w a) : a < w.heap.size := (Array.getElem?_eq_some_iff.1 h).1
theorem Known.below {w w1 : World} {a : Nat} (h : Known w a) (hb : Below w.heap.size w w1) : Known w1 a := (hb.block _ h.lt).trans h
theorem Known.alloc {w : World} {a : Nat} (h : Known w a) (o : Obj) : Known (w.alloc o) a := (Below.heap_alloc _ _ _ h.lt).trans h
theorem Known.cells {w : World} {a : Nat} (h : Known w a) : w.cell? ⟨a, 0, none⟩ = some (.int .i64 1) ∧ w.cell? ⟨a, 1, none⟩ = some (.func (.func 80) #[] #[]) ∧ w.cell? ⟨a, 2, none⟩ = some (.int .i64 2) ∧ w.cell? ⟨a, 3, none⟩ = some (.func (.func 82) #[] #[]) ∧
    w.cell? ⟨a, 4, none⟩ = some (.int .i64 3) ∧ w.cell? ⟨a, 5, none⟩ = some (.func (.func 83) #[] #[]) ∧ w.cell? ⟨a, 6, none⟩ = some (.int .i64 4) ∧ w.cell? ⟨a, 7, none⟩ = some (.func (.func 86) #[] #[]) ∧ a < w.heap.size := by
  have hl := h.lt
  unfold Known knCells at h
  refine ⟨?_, ?_, ?_, ?_, ?_, ?_, ?_, ?_, hl⟩ <;> simp [World.cell?, h]

theorem kinds_any (w : World) : Calls Tryz.prog 60 #[] w fun e w' => e = .returned (.slice (some ⟨w.heap.size, 0, none⟩) 4 4) ∧ Known w' w.heap.size ∧ Below w.heap.size w w' := by
  go_enter Tryz.func60, Tryz.ntmps60
  go_wp2_with fail
  go_ret
  exact ⟨rfl, World.alloc_heap_new w _, (Below.refl _ w).alloc (Nat.le_refl _) _⟩

def kindP (t : List UInt8) : Nat := if nameB t then 1 else if numB t then 2 else if mnyB t then 3 else if sigB t then 4 else 0
theorem kind1_at {b : Bool} (t : List UInt8) (ht : t.length ≤ 1000000) (w : World) (h : nameB t = b) : Calls Tryz.prog 80 #[.string ⟨t.toArray⟩] w (Ret (.bool b) w) := by subst h; exact kind1_any t ht w
theorem kind2_at {b : Bool} (t : List UInt8) (ht : t.length ≤ 400000) (w : World) (hL : Lay w) (h : mnyB t = b) : Calls Tryz.prog 83 #[.string ⟨t.toArray⟩] w (Ret (.bool b) w) := by subst h; exact kind2_any t ht w hL
theorem kind3_at {b : Bool} (t : List UInt8) (ht : t.length ≤ 1000000) (w : World) (h : sigB t = b) : Calls Tryz.prog 86 #[.string ⟨t.toArray⟩] w (Ret (.bool b) w) := by subst h; exact kind3_any t ht w

set_option maxHeartbeats 4000000 in
theorem kindOf_0 (t : List UInt8) (ht : t.length ≤ 400000) (a cap : Nat) (w : World) (hL : Lay w) (kn : Known w a) (h0 : nameB t = true) :
    Calls Tryz.prog 64 #[.slice (some ⟨a, 0, none⟩) 4 cap, .string ⟨t.toArray⟩] w (Ret (.int .i64 1) w) := by
  have H0 := Lib.hid h0
  clear h0
  obtain ⟨S, hS⟩ : ∃ S, (⟨t.toArray⟩ : ByteArray) = S := ⟨_, rfl⟩
  have HS := Lib.hid hS
  rw [hS]
  clear hS
  have hb : Below w.heap.size w w := Below.refl _ _
  obtain ⟨c0, c1, c2, c3, c4, c5, c6, c7, cz⟩ := kn.cells
  go_enter Tryz.func64, Tryz.ntmps64
  go_wp2_with fail
  refine wp_loop_rounds 6 ?_
  rw [rounds_succ]
  go_wp2_with fail
  have hc := kind1_at t (by omega) (w.alloc (.cells #[.int .i64 1, .func (.func 80) #[] #[]] 122)) H0.out
  rw [HS.out] at hc
  refine hc.mono ?_
  clear hc
  rintro e w1 ⟨rfl, hx⟩
  replace kn := (kn.alloc _).below hx
  have o0 := (Own.new w #[.int .i64 1, .func (.func 80) #[] #[]] 122).below hx
  replace hx := ((Below.refl _ w).alloc (Nat.le_refl _) _).trans (hx.mono (by simp))
  replace hL := hL.below hx
  replace hb := hb.trans (hx.mono hb.size)
  clear hx c0 c1 c2 c3 c4 c5 c6 c7 cz
  obtain ⟨c0, c1, c2, c3, c4, c5, c6, c7, cz⟩ := kn.cells
  obtain ⟨d0, d1, f0, f1, dz⟩ := o0.two
  go_wp2_with fail
  go_ret
  exact Ret.mk rfl hb

set_option maxHeartbeats 4000000 in
theorem kindOf_1 (t : List UInt8) (ht : t.length ≤ 400000) (a cap : Nat) (w : World) (hL : Lay w) (kn : Known w a) (h0 : nameB t = false) (h1 : numB t = true) :
    Calls Tryz.prog 64 #[.slice (some ⟨a, 0, none⟩) 4 cap, .string ⟨t.toArray⟩] w (Ret (.int .i64 2) w) := by
  have H0 := Lib.hid h0
  clear h0
  have H1 := Lib.hid h1
  clear h1
  obtain ⟨S, hS⟩ : ∃ S, (⟨t.toArray⟩ : ByteArray) = S := ⟨_, rfl⟩
  have HS := Lib.hid hS
  rw [hS]
  clear hS
  have hb : Below w.heap.size w w := Below.refl _ _
  obtain ⟨c0, c1, c2, c3, c4, c5, c6, c7, cz⟩ := kn.cells
  go_enter Tryz.func64, Tryz.ntmps64
  go_wp2_with fail
  refine wp_loop_rounds 6 ?_
  rw [rounds_succ]
  go_wp2_with fail
  have hc := kind1_at t (by omega) (w.alloc (.cells #[.int .i64 1, .func (.func 80) #[] #[]] 122)) H0.out
  rw [HS.out] at hc
  refine hc.mono ?_
  clear hc
  rintro e w1 ⟨rfl, hx⟩
  replace kn := (kn.alloc _).below hx
  have o0 := (Own.new w #[.int .i64 1, .func (.func 80) #[] #[]] 122).below hx
  replace hx := ((Below.refl _ w).alloc (Nat.le_refl _) _).trans (hx.mono (by simp))
  replace hL := hL.below hx
  replace hb := hb.trans (hx.mono hb.size)
  clear hx c0 c1 c2 c3 c4 c5 c6 c7 cz
  obtain ⟨c0, c1, c2, c3, c4, c5, c6, c7, cz⟩ := kn.cells
  obtain ⟨d0, d1, f0, f1, dz⟩ := o0.two
  go_wp2_with fail
  clear o0 d0 d1 f0 f1 dz
  rw [rounds_succ]
  go_wp2_with fail
  have hc := isNumber_at t (by omega) (w1.alloc (.cells #[.int .i64 2, .func (.func 82) #[] #[]] 122)) H1.out
  rw [HS.out] at hc
  refine hc.mono ?_
  clear hc
  rintro e w2 ⟨rfl, hx⟩
  replace kn := (kn.alloc _).below hx
  have o1 := (Own.new w1 #[.int .i64 2, .func (.func 82) #[] #[]] 122).below hx
  replace hx := ((Below.refl _ w1).alloc (Nat.le_refl _) _).trans (hx.mono (by simp))
  replace hL := hL.below hx
  replace hb := hb.trans (hx.mono hb.size)
  clear hx c0 c1 c2 c3 c4 c5 c6 c7 cz
  obtain ⟨c0, c1, c2, c3, c4, c5, c6, c7, cz⟩ := kn.cells
  obtain ⟨d0, d1, f0, f1, dz⟩ := o1.two
  go_wp2_with fail
  go_ret
  exact Ret.mk rfl hb

set_option maxHeartbeats 4000000 in
theorem kindOf_2 (t : List UInt8) (ht : t.length ≤ 400000) (a cap : Nat) (w : World) (hL : Lay w) (kn : Known w a) (h0 : nameB t = false) (h1 : numB t = false) (h2 : mnyB t = true) :
    Calls Tryz.prog 64 #[.slice (some ⟨a, 0, none⟩) 4 cap, .string ⟨t.toArray⟩] w (Ret (.int .i64 3) w) := by
  have H0 := Lib.hid h0
  clear h0
  have H1 := Lib.hid h1
  clear h1
  have H2 := Lib.hid h2
  clear h2
  obtain ⟨S, hS⟩ : ∃ S, (⟨t.toArray⟩ : ByteArray) = S := ⟨_, rfl⟩
  have HS := Lib.hid hS
  rw [hS]
  clear hS
  have hb : Below w.heap.size w w := Below.refl _ _
  obtain ⟨c0, c1, c2, c3, c4, c5, c6, c7, cz⟩ := kn.cells
  go_enter Tryz.func64, Tryz.ntmps64
  go_wp2_with fail
  refine wp_loop_rounds 6 ?_
  rw [rounds_succ]
  go_wp2_with fail
  have hc := kind1_at t (by omega) (w.alloc (.cells #[.int .i64 1, .func (.func 80) #[] #[]] 122)) H0.out
  rw [HS.out] at hc
  refine hc.mono ?_
  clear hc
  rintro e w1 ⟨rfl, hx⟩
  replace kn := (kn.alloc _).below hx
  have o0 := (Own.new w #[.int .i64 1, .func (.func 80) #[] #[]] 122).below hx
  replace hx := ((Below.refl _ w).alloc (Nat.le_refl _) _).trans (hx.mono (by simp))
  replace hL := hL.below hx
  replace hb := hb.trans (hx.mono hb.size)
  clear hx c0 c1 c2 c3 c4 c5 c6 c7 cz
  obtain ⟨c0, c1, c2, c3, c4, c5, c6, c7, cz⟩ := kn.cells
  obtain ⟨d0, d1, f0, f1, dz⟩ := o0.two
  go_wp2_with fail
  clear o0 d0 d1 f0 f1 dz
  rw [rounds_succ]
  go_wp2_with fail
  have hc := isNumber_at t (by omega) (w1.alloc (.cells #[.int .i64 2, .func (.func 82) #[] #[]] 122)) H1.out
  rw [HS.out] at hc
  refine hc.mono ?_
  clear hc
  rintro e w2 ⟨rfl, hx⟩
  replace kn := (kn.alloc _).below hx
  have o1 := (Own.new w1 #[.int .i64 2, .func (.func 82) #[] #[]] 122).below hx
  replace hx := ((Below.refl _ w1).alloc (Nat.le_refl _) _).trans (hx.mono (by simp))
  replace hL := hL.below hx
  replace hb := hb.trans (hx.mono hb.size)
  clear hx c0 c1 c2 c3 c4 c5 c6 c7 cz
  obtain ⟨c0, c1, c2, c3, c4, c5, c6, c7, cz⟩ := kn.cells
  obtain ⟨d0, d1, f0, f1, dz⟩ := o1.two
  go_wp2_with fail
  clear o1 d0 d1 f0 f1 dz
  rw [rounds_succ]
  go_wp2_with fail
  have hc := kind2_at t (by omega) (w2.alloc (.cells #[.int .i64 3, .func (.func 83) #[] #[]] 122)) (hL.below ((Below.refl _ _).alloc (Nat.le_refl _) _)) H2.out
  rw [HS.out] at hc
  refine hc.mono ?_
  clear hc
  rintro e w3 ⟨rfl, hx⟩
  replace kn := (kn.alloc _).below hx
  have o2 := (Own.new w2 #[.int .i64 3, .func (.func 83) #[] #[]] 122).below hx
  replace hx := ((Below.refl _ w2).alloc (Nat.le_refl _) _).trans (hx.mono (by simp))
  replace hL := hL.below hx
  replace hb := hb.trans (hx.mono hb.size)
  clear hx c0 c1 c2 c3 c4 c5 c6 c7 cz
  obtain ⟨c0, c1, c2, c3, c4, c5, c6, c7, cz⟩ := kn.cells
  obtain ⟨d0, d1, f0, f1, dz⟩ := o2.two
  go_wp2_with fail
  go_ret
  exact Ret.mk rfl hb

set_option maxHeartbeats 4000000 in
theorem kindOf_3 (t : List UInt8) (ht : t.length ≤ 400000) (a cap : Nat) (w : World) (hL : Lay w) (kn : Known w a) (h0 : nameB t = false) (h1 : numB t = false) (h2 : mnyB t = false) (h3 : sigB t = true) :
    Calls Tryz.prog 64 #[.slice (some ⟨a, 0, none⟩) 4 cap, .string ⟨t.toArray⟩] w (Ret (.int .i64 4) w) := by
  have H0 := Lib.hid h0
  clear h0
  have H1 := Lib.hid h1
  clear h1
  have H2 := Lib.hid h2
  clear h2
  have H3 := Lib.hid h3
  clear h3
  obtain ⟨S, hS⟩ : ∃ S, (⟨t.toArray⟩ : ByteArray) = S := ⟨_, rfl⟩
  have HS := Lib.hid hS
  rw [hS]
  clear hS
  have hb : Below w.heap.size w w := Below.refl _ _
  obtain ⟨c0, c1, c2, c3, c4, c5, c6, c7, cz⟩ := kn.cells
  go_enter Tryz.func64, Tryz.ntmps64
  go_wp2_with fail
  refine wp_loop_rounds 6 ?_
  rw [rounds_succ]
  go_wp2_with fail
  have hc := kind1_at t (by omega) (w.alloc (.cells #[.int .i64 1, .func (.func 80) #[] #[]] 122)) H0.out
  rw [HS.out] at hc
  refine hc.mono ?_
  clear hc
  rintro e w1 ⟨rfl, hx⟩
  replace kn := (kn.alloc _).below hx
  have o0 := (Own.new w #[.int .i64 1, .func (.func 80) #[] #[]] 122).below hx
  replace hx := ((Below.refl _ w).alloc (Nat.le_refl _) _).trans (hx.mono (by simp))
  replace hL := hL.below hx
  replace hb := hb.trans (hx.mono hb.size)
  clear hx c0 c1 c2 c3 c4 c5 c6 c7 cz
  obtain ⟨c0, c1, c2, c3, c4, c5, c6, c7, cz⟩ := kn.cells
  obtain ⟨d0, d1, f0, f1, dz⟩ := o0.two
  go_wp2_with fail
  clear o0 d0 d1 f0 f1 dz
  rw [rounds_succ]
  go_wp2_with fail
  have hc := isNumber_at t (by omega) (w1.alloc (.cells #[.int .i64 2, .func (.func 82) #[] #[]] 122)) H1.out
  rw [HS.out] at hc
  refine hc.mono ?_
  clear hc
  rintro e w2 ⟨rfl, hx⟩
  replace kn := (kn.alloc _).below hx
  have o1 := (Own.new w1 #[.int .i64 2, .func (.func 82) #[] #[]] 122).below hx
  replace hx := ((Below.refl _ w1).alloc (Nat.le_refl _) _).trans (hx.mono (by simp))
  replace hL := hL.below hx
  replace hb := hb.trans (hx.mono hb.size)
  clear hx c0 c1 c2 c3 c4 c5 c6 c7 cz
  obtain ⟨c0, c1, c2, c3, c4, c5, c6, c7, cz⟩ := kn.cells
  obtain ⟨d0, d1, f0, f1, dz⟩ := o1.two
  go_wp2_with fail
  clear o1 d0 d1 f0 f1 dz
  rw [rounds_succ]
  go_wp2_with fail
  have hc := kind2_at t (by omega) (w2.alloc (.cells #[.int .i64 3, .func (.func 83) #[] #[]] 122)) (hL.below ((Below.refl _ _).alloc (Nat.le_refl _) _)) H2.out
  rw [HS.out] at hc
  refine hc.mono ?_
  clear hc
  rintro e w3 ⟨rfl, hx⟩
  replace kn := (kn.alloc _).below hx
  have o2 := (Own.new w2 #[.int .i64 3, .func (.func 83) #[] #[]] 122).below hx
  replace hx := ((Below.refl _ w2).alloc (Nat.le_refl _) _).trans (hx.mono (by simp))
  replace hL := hL.below hx
  replace hb := hb.trans (hx.mono hb.size)
  clear hx c0 c1 c2 c3 c4 c5 c6 c7 cz
  obtain ⟨c0, c1, c2, c3, c4, c5, c6, c7, cz⟩ := kn.cells
  obtain ⟨d0, d1, f0, f1, dz⟩ := o2.two
  go_wp2_with fail
  clear o2 d0 d1 f0 f1 dz
  rw [rounds_succ]
  go_wp2_with fail
  have hc := kind3_at t (by omega) (w3.alloc (.cells #[.int .i64 4, .func (.func 86) #[] #[]] 122)) H3.out
  rw [HS.out] at hc
  refine hc.mono ?_
  clear hc
  rintro e w4 ⟨rfl, hx⟩
  replace kn := (kn.alloc _).below hx
  have o3 := (Own.new w3 #[.int .i64 4, .func (.func 86) #[] #[]] 122).below hx
  replace hx := ((Below.refl _ w3).alloc (Nat.le_refl _) _).trans (hx.mono (by simp))
  replace hL := hL.below hx
  replace hb := hb.trans (hx.mono hb.size)
  clear hx c0 c1 c2 c3 c4 c5 c6 c7 cz
  obtain ⟨c0, c1, c2, c3, c4, c5, c6, c7, cz⟩ := kn.cells
  obtain ⟨d0, d1, f0, f1, dz⟩ := o3.two
  go_wp2_with fail
  go_ret
  exact Ret.mk rfl hb

set_option maxHeartbeats 4000000 in
theorem kindOf_4 (t : List UInt8) (ht : t.length ≤ 400000) (a cap : Nat) (w : World) (hL : Lay w) (kn : Known w a) (h0 : nameB t = false) (h1 : numB t = false) (h2 : mnyB t = false) (h3 : sigB t = false) :
    Calls Tryz.prog 64 #[.slice (some ⟨a, 0, none⟩) 4 cap, .string ⟨t.toArray⟩] w (Ret (.int .i64 0) w) := by
  have H0 := Lib.hid h0
  clear h0
  have H1 := Lib.hid h1
  clear h1
  have H2 := Lib.hid h2
  clear h2
  have H3 := Lib.hid h3
  clear h3
  obtain ⟨S, hS⟩ : ∃ S, (⟨t.toArray⟩ : ByteArray) = S := ⟨_, rfl⟩
  have HS := Lib.hid hS
  rw [hS]
  clear hS
  have hb : Below w.heap.size w w := Below.refl _ _
  obtain ⟨c0, c1, c2, c3, c4, c5, c6, c7, cz⟩ := kn.cells
  go_enter Tryz.func64, Tryz.ntmps64
  go_wp2_with fail
  refine wp_loop_rounds 6 ?_
  rw [rounds_succ]
  go_wp2_with fail
  have hc := kind1_at t (by omega) (w.alloc (.cells #[.int .i64 1, .func (.func 80) #[] #[]] 122)) H0.out
  rw [HS.out] at hc
  refine hc.mono ?_
  clear hc
  rintro e w1 ⟨rfl, hx⟩
  replace kn := (kn.alloc _).below hx
  have o0 := (Own.new w #[.int .i64 1, .func (.func 80) #[] #[]] 122).below hx
  replace hx := ((Below.refl _ w).alloc (Nat.le_refl _) _).trans (hx.mono (by simp))
  replace hL := hL.below hx
  replace hb := hb.trans (hx.mono hb.size)
  clear hx c0 c1 c2 c3 c4 c5 c6 c7 cz
  obtain ⟨c0, c1, c2, c3, c4, c5, c6, c7, cz⟩ := kn.cells
  obtain ⟨d0, d1, f0, f1, dz⟩ := o0.two
  go_wp2_with fail
  clear o0 d0 d1 f0 f1 dz
  rw [rounds_succ]
  go_wp2_with fail
  have hc := isNumber_at t (by omega) (w1.alloc (.cells #[.int .i64 2, .func (.func 82) #[] #[]] 122)) H1.out
  rw [HS.out] at hc
  refine hc.mono ?_
  clear hc
  rintro e w2 ⟨rfl, hx⟩
  replace kn := (kn.alloc _).below hx
  have o1 := (Own.new w1 #[.int .i64 2, .func (.func 82) #[] #[]] 122).below hx
  replace hx := ((Below.refl _ w1).alloc (Nat.le_refl _) _).trans (hx.mono (by simp))
  replace hL := hL.below hx
  replace hb := hb.trans (hx.mono hb.size)
  clear hx c0 c1 c2 c3 c4 c5 c6 c7 cz
  obtain ⟨c0, c1, c2, c3, c4, c5, c6, c7, cz⟩ := kn.cells
  obtain ⟨d0, d1, f0, f1, dz⟩ := o1.two
  go_wp2_with fail
  clear o1 d0 d1 f0 f1 dz
  rw [rounds_succ]
  go_wp2_with fail
  have hc := kind2_at t (by omega) (w2.alloc (.cells #[.int .i64 3, .func (.func 83) #[] #[]] 122)) (hL.below ((Below.refl _ _).alloc (Nat.le_refl _) _)) H2.out
  rw [HS.out] at hc
  refine hc.mono ?_
  clear hc
  rintro e w3 ⟨rfl, hx⟩
  replace kn := (kn.alloc _).below hx
  have o2 := (Own.new w2 #[.int .i64 3, .func (.func 83) #[] #[]] 122).below hx
  replace hx := ((Below.refl _ w2).alloc (Nat.le_refl _) _).trans (hx.mono (by simp))
  replace hL := hL.below hx
  replace hb := hb.trans (hx.mono hb.size)
  clear hx c0 c1 c2 c3 c4 c5 c6 c7 cz
  obtain ⟨c0, c1, c2, c3, c4, c5, c6, c7, cz⟩ := kn.cells
  obtain ⟨d0, d1, f0, f1, dz⟩ := o2.two
  go_wp2_with fail
  clear o2 d0 d1 f0 f1 dz
  rw [rounds_succ]
  go_wp2_with fail
  have hc := kind3_at t (by omega) (w3.alloc (.cells #[.int .i64 4, .func (.func 86) #[] #[]] 122)) H3.out
  rw [HS.out] at hc
  refine hc.mono ?_
  clear hc
  rintro e w4 ⟨rfl, hx⟩
  replace kn := (kn.alloc _).below hx
  have o3 := (Own.new w3 #[.int .i64 4, .func (.func 86) #[] #[]] 122).below hx
  replace hx := ((Below.refl _ w3).alloc (Nat.le_refl _) _).trans (hx.mono (by simp))
  replace hL := hL.below hx
  replace hb := hb.trans (hx.mono hb.size)
  clear hx c0 c1 c2 c3 c4 c5 c6 c7 cz
  obtain ⟨c0, c1, c2, c3, c4, c5, c6, c7, cz⟩ := kn.cells
  obtain ⟨d0, d1, f0, f1, dz⟩ := o3.two
  go_wp2_with fail
  clear o3 d0 d1 f0 f1 dz
  rw [rounds_succ]
  go_wp2_with fail
  go_ret
  exact Ret.mk rfl hb

theorem kindOf_any (t : List UInt8) (ht : t.length ≤ 400000) (a cap : Nat) (w : World) (hL : Lay w) (kn : Known w a) :
    Calls Tryz.prog 64 #[.slice (some ⟨a, 0, none⟩) 4 cap, .string ⟨t.toArray⟩] w (Ret (.int .i64 (kindP t)) w) := by
  unfold kindP
  cases h0 : nameB t with
  | true => exact kindOf_0 t ht a cap w hL kn h0
  | false =>
  cases h1 : numB t with
  | true => exact kindOf_1 t ht a cap w hL kn h0 h1
  | false =>
  cases h2 : mnyB t with
  | true => exact kindOf_2 t ht a cap w hL kn h0 h1 h2
  | false =>
  cases h3 : sigB t with
  | true => exact kindOf_3 t ht a cap w hL kn h0 h1 h2 h3
  | false => exact kindOf_4 t ht a cap w hL kn h0 h1 h2 h3
end Go.Proofs.YthnlenbfknbmcaaGreatDoor
namespace Go.Proofs.YthnlenbfknbmcaaGreatDoor
open Go.RowKit Go.Shelf
set_option maxRecDepth 100000

theorem bext (s : List UInt8) (a b : Nat) : (⟨s.toArray⟩ : ByteArray).extract a b = ⟨((s.take b).drop a).toArray⟩ := by
  apply ByteArray.ext
  rw [ByteArray.data_extract]
  apply Array.ext'
  rw [Array.toList_extract]
  simp [List.drop_take]
theorem bfrom (s : List UInt8) (a : Nat) : (⟨s.toArray⟩ : ByteArray).extract a (⟨s.toArray⟩ : ByteArray).size = ⟨(s.drop a).toArray⟩ := by
  rw [bext, bsz, List.take_length]
theorem bupto (s : List UInt8) (b : Nat) : (⟨s.toArray⟩ : ByteArray).extract 0 b = ⟨(s.take b).toArray⟩ := by
  rw [bext, List.drop_zero]

set_option maxHeartbeats 400000 in
theorem longest_any (s : List UInt8) (hne : s ≠ []) (hs : s.length ≤ 1000000) (w : World) : Calls Tryz.prog 63 #[.string ⟨s.toArray⟩] w (Ret (.string ⟨(s.take (sizeF s)).toArray⟩) w) := by
  have hz := bsz s
  have hl1 : 1 ≤ s.length := by
    cases s with
    | nil => exact absurd rfl hne
    | cons c r => simp
  have hln : nLet s ≤ s.length := tw_len _
  have hdn : nDig s ≤ s.length := tw_len _
  have hrl := run_letter s (by omega)
  have hrd := run_digit s (by omega)
  have hfr := bfrom s (nDig s)
  have hfr2 := bfrom s (nDig s + 1)
  have hup := bupto s
  have hpt := prefix_any (s.drop (nDig s))
  have hrd2 := run_digit (s.drop (nDig s + 1)) (by rw [List.length_drop]; omega)
  have hd2n : nDig (s.drop (nDig s + 1)) ≤ s.length - (nDig s + 1) := by have := tw_len (p := digB) (s.drop (nDig s + 1)); rw [List.length_drop] at this; exact this
  have hptl : ptB (s.drop (nDig s)) = true → nDig s < s.length := by
    intro h
    have hc : s.drop (nDig s) ≠ [] := by intro e; rw [e] at h; revert h; decide
    have := List.length_pos_iff.2 hc
    rw [List.length_drop] at this; omega
  have hsz : sizeF s = if nLet s ≠ 0 then nLet s else if nDig s = 0 then 1 else if ptB (s.drop (nDig s)) = true then nDig s + 1 + nDig (s.drop (nDig s + 1)) else nDig s := by
    cases s with
    | nil => exact absurd rfl hne
    | cons c r =>
      have e0 : nLet (c :: r) ≠ 0 ↔ letB c = true := by
        unfold nLet; rw [List.takeWhile_cons]; cases letB c <;> simp
      have e1 : ptB ((c :: r).drop (nDig (c :: r))) = true ↔ (c :: r)[nDig (c :: r)]? = some 46 := by
        unfold ptB; rw [beq_iff_eq, List.head?_drop]
      have unf : sizeF (c :: r) = if letB c then nLet (c :: r) else if nDig (c :: r) = 0 then 1 else if (c :: r)[nDig (c :: r)]? = some 46 then nDig (c :: r) + 1 + nDig ((c :: r).drop (nDig (c :: r) + 1)) else nDig (c :: r) := rfl
      rw [unf]
      by_cases hc : letB c = true
      · rw [if_pos hc, if_pos (e0.2 hc)]
      · rw [if_neg hc, if_neg (fun h => hc (e0.1 h))]
        by_cases hp : (c :: r)[nDig (c :: r)]? = some 46
        · rw [if_pos hp, if_pos (e1.2 hp)]
        · rw [if_neg hp, if_neg (fun h => hp (e1.1 h))]
  rw [hsz]
  clear hsz hne
  obtain ⟨S, hS⟩ : ∃ S, (⟨s.toArray⟩ : ByteArray) = S := ⟨_, rfl⟩
  obtain ⟨D, hD⟩ : ∃ D, (⟨(s.drop (nDig s)).toArray⟩ : ByteArray) = D := ⟨_, rfl⟩
  obtain ⟨E, hE⟩ : ∃ E, (⟨(s.drop (nDig s + 1)).toArray⟩ : ByteArray) = E := ⟨_, rfl⟩
  simp only [hS, hD, hE] at *
  rw [← hz] at hl1 hln hdn hptl hd2n hs
  clear hS hD hE hz
  have HUP := Lib.hid hup
  clear hup
  generalize nDig (s.drop (nDig s + 1)) = k at *
  generalize ptB (s.drop (nDig s)) = p at *
  generalize nDig s = m at *
  generalize nLet s = n at *
  by_cases h0 : n = 0
  · subst h0
    by_cases h1 : m = 0
    · subst h1
      have HU := Lib.hid (HUP.out 1)
      clear hfr hfr2 hpt hrd2 hd2n hptl
      go_enter Tryz.func63, Tryz.ntmps63
      go_wp2_with fail
      refine (hrl _).mono ?_
      rintro e w1 ⟨rfl, hx⟩
      go_wp2_with fail
      refine (hrd _).mono ?_
      rintro e w2 ⟨rfl, hx2⟩
      go_wp2_with fail
      go_ret
      exact Ret.mk (by simp [HU.out]) (hx.trans (hx2.mono hx.size))
    · have h1' : (((m : Nat) : Int) == 0) = false := by rw [beq_eq_false_iff_ne]; omega
      cases p with
      | false =>
        have HU := Lib.hid (HUP.out m)
        clear hfr2 hrd2 hd2n hptl
        go_enter Tryz.func63, Tryz.ntmps63
        go_wp2_with fail
        refine (hrl _).mono ?_
        rintro e w1 ⟨rfl, hx⟩
        go_wp2_with fail
        refine (hrd _).mono ?_
        rintro e w2 ⟨rfl, hx2⟩
        go_wp2_with fail
        refine (hpt _).mono ?_
        rintro e w3 ⟨rfl, rfl⟩
        go_wp2_with fail
        go_ret
        exact Ret.mk (by simp only [HU.out]; first | rfl | simp [h1]) (hx.trans (hx2.mono hx.size))
      | true =>
        have hm := hptl rfl
        have HU := Lib.hid (HUP.out (m + 1 + k))
        have hw : ((m : Int) + (1 + (k : Int))).toNat = m + 1 + k := by omega
        have hmk : m + 1 + k ≤ S.size := by omega
        clear hptl
        go_enter Tryz.func63, Tryz.ntmps63
        go_wp2_with fail
        refine (hrl _).mono ?_
        rintro e w1 ⟨rfl, hx⟩
        go_wp2_with fail
        refine (hrd _).mono ?_
        rintro e w2 ⟨rfl, hx2⟩
        go_wp2_with fail
        refine (hpt _).mono ?_
        rintro e w3 ⟨rfl, rfl⟩
        go_wp2_with fail
        refine (hrd2 _).mono ?_
        rintro e w3 ⟨rfl, hx3⟩
        have hb := hx.trans (hx2.mono hx.size)
        go_wp2_with fail
        go_ret
        exact Ret.mk (by simp only [HU.out]; first | rfl | simp [h1]) (hb.trans (hx3.mono hb.size))
  · have h0' : decide ((n : Int) > 0) = true := by simp; omega
    have HU := Lib.hid (HUP.out n)
    clear hfr hfr2 hpt hrd2 hd2n hptl hrd
    go_enter Tryz.func63, Tryz.ntmps63
    go_wp2_with fail
    refine (hrl _).mono ?_
    rintro e w1 ⟨rfl, hx⟩
    go_wp2_with fail
    go_ret
    exact Ret.mk (by simp only [HU.out]; first | rfl | simp [h0]) hx
end Go.Proofs.YthnlenbfknbmcaaGreatDoor
namespace Go.Proofs.YthnlenbfknbmcaaGreatDoor
open Go.RowKit Go.Shelf
set_option maxRecDepth 100000

def decF (acc : Nat) (l : List UInt8) : Nat := l.foldl (fun n c => 10 * n + (c.toNat - 48)) acc
theorem dig_iff (c : UInt8) : digB c = true ↔ 48 ≤ c.toNat ∧ c.toNat ≤ 57 := by unfold digB; simp
theorem pu_ok : ∀ (l : List UInt8) (acc : Nat), (∀ x ∈ l, digB x = true) → (acc + 1) * 10 ^ l.length ≤ 1000000000000000000 → Lib.parseUint10 acc l = .ok (decF acc l) ∧ decF acc l < (acc + 1) * 10 ^ l.length
  | [], acc, _, _ => ⟨rfl, by simp [decF]⟩
  | c :: r, acc, h, hb => by
    obtain ⟨h1, h2⟩ := (dig_iff c).1 (h c (by simp))
    have hp : 1 ≤ 10 ^ r.length := Nat.one_le_pow _ _ (by omega)
    rw [List.length_cons, Nat.pow_succ] at hb ⊢
    have hb2 : (acc + 1) * 10 * 10 ^ r.length ≤ 1000000000000000000 := by rw [Nat.mul_assoc, Nat.mul_comm 10]; exact hb
    have hb3 : (acc + 1) * 10 ≤ 1000000000000000000 := Nat.le_trans (Nat.le_mul_of_pos_right _ hp) hb2
    have hle : (acc * 10 + (c.toNat - 48) + 1) * 10 ^ r.length ≤ (acc + 1) * 10 * 10 ^ r.length := Nat.mul_le_mul_right _ (by omega)
    obtain ⟨g1, g2⟩ := pu_ok r (acc * 10 + (c.toNat - 48)) (fun x hx => h x (by simp [hx])) (Nat.le_trans hle hb2)
    have e : decF acc (c :: r) = decF (acc * 10 + (c.toNat - 48)) r := by simp [decF, Nat.mul_comm]
    rw [e]
    refine ⟨?_, ?_⟩
    · rw [Lib.parseUint10, if_pos ⟨h1, h2⟩, if_neg (by omega), if_neg (by omega)]; exact g1
    · refine Nat.lt_of_lt_of_le g2 ?_
      rw [Nat.mul_comm (10 ^ r.length) 10, ← Nat.mul_assoc]; exact hle
theorem pu_bad : ∀ (l : List UInt8) (acc u : Nat), Lib.parseUint10 acc l = .ok u → ∀ x ∈ l, digB x = true
  | [], _, _, _, x, hx => by cases hx
  | c :: r, acc, u, h, x, hx => by
    rw [Lib.parseUint10] at h
    split at h
    · next hc =>
      split at h
      · cases h
      · split at h
        · cases h
        · rcases List.mem_cons.1 hx with rfl | hx
          · exact (dig_iff _).2 hc
          · exact pu_bad r _ u h x hx
    · cases h
/-- an amount without its point: digits that begin with one -/
theorem amt_eq (c : UInt8) (r : List UInt8) (hc : digB c = true) (hl : (c :: r).length ≤ 17) : amtB (c :: r) = decide ((∀ x ∈ c :: r, digB x = true) ∧ decF 0 (c :: r) ≤ 1000000000) := by
  obtain ⟨h1, h2⟩ := (dig_iff c).1 hc
  unfold amtB
  rw [Lib.atoiAll_plain c r (by omega) (by omega)]
  have hm : Lib.parseMag (c :: r) = Lib.parseUint10 0 (c :: r) := by unfold Lib.parseMag; rw [if_neg (by simp)]
  rw [hm]
  by_cases h : ∀ x ∈ c :: r, digB x = true
  · have hpw : (0 + 1) * 10 ^ (c :: r).length ≤ 100000000000000000 := by
      have := Nat.pow_le_pow_right (n := 10) (by omega) hl
      omega
    obtain ⟨g1, g2⟩ := pu_ok (c :: r) 0 h (by omega)
    rw [g1]
    have hlt : decF 0 (c :: r) < 100000000000000000 := by omega
    generalize decF 0 (c :: r) = u at *
    unfold Lib.signless
    rw [Bool.eq_iff_iff]
    simp only [decide_eq_true_eq]
    rw [if_neg (by omega)]
    simp only [decide_eq_true_eq]
    exact ⟨fun q => ⟨h, by omega⟩, fun q => by have := q.2; omega⟩
  · have e : decide ((∀ x ∈ c :: r, digB x = true) ∧ decF 0 (c :: r) ≤ 1000000000) = false := by rw [decide_eq_false_iff_not]; exact fun q => h q.1
    rw [e]
    cases hp : Lib.parseUint10 0 (c :: r) with
    | ok u => exact absurd (pu_bad _ _ _ hp) h
    | _ => rfl
/-- before its first point, and behind it -/
theorem cut_at : ∀ (A B : List UInt8), (∀ x ∈ A, x ≠ 46) → cutA (A ++ 46 :: B) = A ∧ cutB (A ++ 46 :: B) = B := by
  intro A B h
  have hi : Lib.index (A ++ 46 :: B) [46] = A.length := by
    refine Lib.index_hit (i := A.length) ?_ (by simp) (by simp [Lib.occAt])
    intro j hj
    unfold Lib.occAt
    rw [List.drop_append_of_le_length (by omega), List.drop_eq_getElem_cons hj, List.cons_append]
    have := h A[j] (List.getElem_mem hj)
    simp [List.isPrefixOf, Ne.symm this]
  unfold cutA cutB Lib.cut
  rw [hi, if_pos (by omega)]
  simp
theorem cut_none (s : List UInt8) (h : ∀ x ∈ s, x ≠ 46) : cutA s = s ∧ cutB s = [] := by
  have hi : Lib.index s [46] = -1 := by
    rcases Lib.index_spec s [46] with ⟨e, _⟩ | ⟨i, e, hi, ho, _⟩
    · exact e
    · exfalso
      unfold Lib.occAt at ho
      rcases Nat.lt_or_ge i s.length with hl | hl
      · rw [List.drop_eq_getElem_cons hl] at ho
        simp [List.isPrefixOf] at ho
        exact h _ (List.getElem_mem hl) ho.symm
      · rw [List.drop_of_length_le hl] at ho; simp at ho
  unfold cutA cutB Lib.cut
  rw [hi, if_neg (by omega)]
  simp
/-- what stands before the first point: as many bytes that are no point, then a point or the end -/
theorem cut_case (s : List UInt8) : (∃ A B, s = A ++ 46 :: B ∧ (∀ x ∈ A, x ≠ 46)) ∨ (∀ x ∈ s, x ≠ 46) := by
  induction s with
  | nil => exact .inr (by simp)
  | cons c r ih =>
    by_cases hc : c = 46
    · subst hc; exact .inl ⟨[], r, rfl, by simp⟩
    · rcases ih with ⟨A, B, rfl, hA⟩ | h
      · exact .inl ⟨c :: A, B, rfl, by simp; exact ⟨hc, fun x hx => hA x hx⟩⟩
      · exact .inr (by simp; exact ⟨hc, fun x hx => h x hx⟩)
theorem numB_iff (t : List UInt8) : numB t = true ↔ t ≠ [] ∧ t.length ≤ 9 ∧ (∀ x ∈ t, digB x = true) ∧ (t.length = 1 ∨ t.head? ≠ some 48) := by
  unfold numB
  rw [decide_eq_true_eq]
  have e : nDig t = t.length ↔ ∀ x ∈ t, digB x = true := by
    constructor
    · intro h x hx
      have e : t.takeWhile digB = t := (List.takeWhile_prefix digB).eq_of_length h
      rw [← e] at hx; exact tw_mem hx
    · intro h
      unfold nDig
      exact tw_full (List.all_eq_true.2 h)
  rw [e]
  have : t.length ≠ 0 ↔ t ≠ [] := by simp
  rw [this]
theorem digs_of (t : List UInt8) : (∀ x ∈ t.take (nDig t), digB x = true) ∧ (nDig t < t.length → ∀ h, digB (t[nDig t]'h) = false) := by
  obtain ⟨h1, h2, h3⟩ := tw_split digB t
  have e : t.takeWhile digB = t.take (nDig t) := List.prefix_iff_eq_take.1 (List.takeWhile_prefix digB)
  rw [e] at h2
  refine ⟨h2, fun hl h => ?_⟩
  exact h3 _ _ (List.drop_eq_getElem_cons h)

theorem cents_cut (A B : List UInt8) (hA : ∀ x ∈ A, digB x = true) (hB : ∀ x ∈ B, digB x = true) : cents (A ++ 46 :: B) = decF 0 (A ++ B) := by
  unfold cents decF
  have e : (A ++ 46 :: B).filter digB = A ++ B := by
    rw [List.filter_append, List.filter_cons, if_neg (by decide), List.filter_eq_self.2 hA, List.filter_eq_self.2 hB]
  rw [e]

def kq (x y : Bool) : Nat := if x then 2 else if y then 3 else 0
theorem kind_eq (t : List UInt8) : kindP t = kindF t := by
  cases t with
  | nil => decide
  | cons c r =>
  have hsig : sigB (c :: r) = decide ((c :: r).length = 1 ∧ sgnB c = true) := by
    cases r with
    | nil => simp [sigB]
    | cons d q => simp [sigB]
  have hnam : nameB (c :: r) = true ↔ ∀ x ∈ c :: r, letB x = true := by
    unfold nameB
    rw [decide_eq_true_eq]
    constructor
    · rintro ⟨_, h⟩ x hx
      have e : (c :: r).takeWhile letB = c :: r := (List.takeWhile_prefix letB).eq_of_length h
      rw [← e] at hx; exact tw_mem hx
    · intro h
      exact ⟨by simp, tw_full (List.all_eq_true.2 h)⟩
  -- a text that does not begin with a digit is no number and no money
  have hnd : digB c = false → numB (c :: r) = false ∧ mnyB (c :: r) = false := by
    intro hc
    have h1 : numB (c :: r) = false := by
      rw [Bool.eq_false_iff]; intro h
      have := ((numB_iff _).1 h).2.2.1 c (by simp)
      rw [hc] at this; cases this
    refine ⟨h1, ?_⟩
    unfold mnyB
    have h2 : numB (cutA (c :: r)) = false := by
      rw [Bool.eq_false_iff]; intro h
      rcases cut_case (c :: r) with ⟨A, B, e, hA⟩ | hA
      · rw [e, (cut_at A B hA).1] at h
        cases A with
        | nil => exact ((numB_iff _).1 h).1 rfl
        | cons a q =>
          simp only [List.cons_append, List.cons.injEq] at e
          have := ((numB_iff _).1 h).2.2.1 a (by simp)
          rw [← e.1, hc] at this; cases this
      · rw [(cut_none _ hA).1, h1] at h; cases h
    rw [h2]; rfl
  unfold kindF
  simp only
  by_cases h1 : (c :: r).length = 1 ∧ sgnB c = true
  · rw [if_pos h1]
    have hc : letB c = false ∧ digB c = false := by
      have := h1.2
      simp only [sgnB, signs, List.contains_eq_mem, List.mem_cons, List.not_mem_nil, or_false, decide_eq_true_eq] at this
      rcases this with rfl | rfl | rfl | rfl | rfl | rfl | rfl | rfl | rfl | rfl | rfl | rfl | rfl <;> decide
    have hn : nameB (c :: r) = false := by
      rw [Bool.eq_false_iff]; intro h; have := hnam.1 h c (by simp); rw [hc.1] at this; cases this
    obtain ⟨a1, a2⟩ := hnd hc.2
    have hs : sigB (c :: r) = true := by rw [hsig, decide_eq_true_eq]; exact h1
    unfold kindP
    rw [hn, a1, a2, hs]; rfl
  · rw [if_neg h1]
    have hs : sigB (c :: r) = false := by rw [hsig, decide_eq_false_iff_not]; exact h1
    by_cases h2 : letB c = true
    · rw [if_pos h2]
      have hd : digB c = false := by
        rw [Bool.eq_false_iff]; intro h
        have a := (dig_iff c).1 h
        unfold letB at h2; simp at h2; omega
      obtain ⟨a1, a2⟩ := hnd hd
      unfold kindP
      cases h3 : (c :: r).all letB with
      | true => rw [hnam.2 (List.all_eq_true.1 h3)]; rfl
      | false =>
        have hn : nameB (c :: r) = false := by
          rw [Bool.eq_false_iff]; intro h; rw [List.all_eq_true.2 (hnam.1 h)] at h3; cases h3
        rw [hn, a1, a2, hs]; rfl
    · rw [if_neg h2]
      have hn : nameB (c :: r) = false := by
        rw [Bool.eq_false_iff]; intro h; exact h2 (hnam.1 h c (by simp))
      unfold kindP
      rw [hn, hs]
      change kq (numB (c :: r)) (mnyB (c :: r)) = _
      obtain ⟨d1, d2⟩ := digs_of (c :: r)
      have dle : nDig (c :: r) ≤ (c :: r).length := tw_len _
      have hd0 : nDig (c :: r) < 1 ↔ digB c = false := by
        unfold nDig; rw [List.takeWhile_cons]; cases digB c <;> simp
      obtain ⟨n, hN⟩ : ∃ n, n = nDig (c :: r) := ⟨_, rfl⟩
      rw [← hN] at d1 d2 dle hd0 ⊢
      -- what stands before the point has at least the digits
      have hpre : ∀ A B, c :: r = A ++ B → (∀ x ∈ A, x ≠ 46) → (B = [] ∨ B.head? = some 46) → n ≤ A.length := by
        intro A B e hA hB
        rcases Nat.lt_or_ge A.length n with hlt | hge
        · exfalso
          have hl : A.length < (c :: r).length := by omega
          have hx : (c :: r)[A.length] ∈ (c :: r).take n := by
            rw [List.mem_take_iff_getElem]
            exact ⟨A.length, by omega, rfl⟩
          have hdig := d1 _ hx
          have hB2 : B.head? = some ((c :: r)[A.length]) := by
            have : (c :: r)[A.length]? = B.head? := by rw [e]; exact get_app rfl
            rw [← this, List.getElem?_eq_getElem hl]
          rcases hB with rfl | hB
          · simp at hB2
          · rw [hB] at hB2
            rw [← Option.some.inj hB2] at hdig
            revert hdig; decide
        · exact hge
      by_cases h5 : n < 1 ∨ 9 < n ∨ 1 < n ∧ c = 48
      · rw [if_pos h5]
        rcases h5 with h5 | h5
        · obtain ⟨a1, a2⟩ := hnd (hd0.1 h5)
          rw [a1, a2]; rfl
        · have hno : ∀ A B, c :: r = A ++ B → (∀ x ∈ A, x ≠ 46) → (B = [] ∨ B.head? = some 46) → numB A = false := by
            intro A B e hA hB
            have hge := hpre A B e hA hB
            rw [Bool.eq_false_iff]; intro h
            obtain ⟨g1, g2, g3, g4⟩ := (numB_iff _).1 h
            rcases h5 with h5 | ⟨h5, rfl⟩
            · omega
            · rcases g4 with g4 | g4
              · omega
              · cases A with
                | nil => exact g1 rfl
                | cons a q => simp at e; exact g4 (by rw [← e.1]; rfl)
          have a1 : numB (c :: r) = false := by
            rw [Bool.eq_false_iff]; intro h
            obtain ⟨g1, g2, g3, g4⟩ := (numB_iff _).1 h
            have hn2 : n = (c :: r).length := by rw [hN]; unfold nDig; exact tw_full (List.all_eq_true.2 g3)
            rcases h5 with h5 | ⟨h5, rfl⟩
            · omega
            · rcases g4 with g4 | g4
              · omega
              · exact g4 rfl
          have a2 : mnyB (c :: r) = false := by
            unfold mnyB
            rcases cut_case (c :: r) with ⟨A, B, e, hA⟩ | hA
            · have := hno A (46 :: B) e hA (.inr rfl)
              rw [e, (cut_at A B hA).1, this]; rfl
            · rw [(cut_none _ hA).1, a1]; rfl
          rw [a1, a2]; rfl
      · rw [if_neg h5]
        have hn1 : 1 ≤ n ∧ n ≤ 9 ∧ (n = 1 ∨ c ≠ 48) := by
          refine ⟨by omega, by omega, ?_⟩
          by_cases hh : n = 1
          · exact .inl hh
          · exact .inr (fun e => h5 (.inr (.inr ⟨by omega, e⟩)))
        by_cases h6 : n = (c :: r).length
        · rw [if_pos h6]
          have hd : ∀ x ∈ c :: r, digB x = true := by rw [h6, List.take_length] at d1; exact d1
          have : numB (c :: r) = true := (numB_iff _).2 ⟨by simp, by omega, hd, by rw [← h6]; simpa using hn1.2.2⟩
          rw [this]; rfl
        · rw [if_neg h6]
          have hlt : n < (c :: r).length := by omega
          have hnd2 := d2 hlt hlt
          have a1 : numB (c :: r) = false := by
            rw [Bool.eq_false_iff]; intro h
            have := ((numB_iff _).1 h).2.2.1 _ (List.getElem_mem hlt)
            rw [hnd2] at this; cases this
          rw [a1]
          have hsp : c :: r = (c :: r).take n ++ (c :: r)[n] :: (c :: r).drop (n + 1) := by
            rw [← List.drop_eq_getElem_cons hlt, List.take_append_drop]
          have hAl : ((c :: r).take n).length = n := by rw [List.length_take]; omega
          have hBl : ((c :: r).drop (n + 1)).length = (c :: r).length - (n + 1) := by rw [List.length_drop]
          have h46 : ∀ x ∈ (c :: r).take n, x ≠ 46 := fun x hx e => by have := d1 x hx; rw [e] at this; revert this; decide
          rw [List.getElem?_eq_getElem hlt]
          by_cases hp : (c :: r)[n] = 46
          · have hcA : cutA (c :: r) = (c :: r).take n ∧ cutB (c :: r) = (c :: r).drop (n + 1) := by
              have := cut_at ((c :: r).take n) ((c :: r).drop (n + 1)) h46
              rw [← hp, ← hsp] at this; exact this
            have hnum : numB ((c :: r).take n) = true := by
              refine (numB_iff _).2 ⟨fun e => by rw [e] at hAl; simp at hAl; omega, by omega, d1, ?_⟩
              rw [hAl]
              rcases hn1.2.2 with h | h
              · exact .inl h
              · refine .inr ?_
                obtain ⟨m, rfl⟩ : ∃ m, n = m + 1 := ⟨n - 1, by omega⟩
                simpa using h
            have hm : mnyB (c :: r) = (decide (((c :: r).drop (n + 1)).length = 2) && amtB ((c :: r).take n ++ (c :: r).drop (n + 1))) := by
              unfold mnyB; rw [hcA.1, hcA.2, hnum]; rfl
            have hdrop : nDig ((c :: r).drop (n + 1)) = ((c :: r).drop (n + 1)).length ↔ ∀ x ∈ (c :: r).drop (n + 1), digB x = true := by
              constructor
              · intro h x hx
                have e : ((c :: r).drop (n + 1)).takeWhile digB = (c :: r).drop (n + 1) := (List.takeWhile_prefix digB).eq_of_length h
                rw [← e] at hx; exact tw_mem hx
              · intro h; exact tw_full (List.all_eq_true.2 h)
            rw [hm]
            have hcen : (∀ x ∈ (c :: r).drop (n + 1), digB x = true) → cents (c :: r) = decF 0 ((c :: r).take n ++ (c :: r).drop (n + 1)) := by
              intro h
              have := cents_cut ((c :: r).take n) ((c :: r).drop (n + 1)) d1 h
              rw [← hp, ← hsp] at this; exact this
            have hamt : ((c :: r).drop (n + 1)).length = 2 → amtB ((c :: r).take n ++ (c :: r).drop (n + 1)) = decide ((∀ x ∈ (c :: r).take n ++ (c :: r).drop (n + 1), digB x = true) ∧ decF 0 ((c :: r).take n ++ (c :: r).drop (n + 1)) ≤ 1000000000) := by
              intro h
              obtain ⟨m, rfl⟩ : ∃ m, n = m + 1 := ⟨n - 1, by omega⟩
              rw [List.take_succ_cons, List.cons_append]
              refine amt_eq _ _ (d1 c (by simp)) ?_
              rw [List.take_succ_cons] at hAl
              rw [← List.cons_append, List.length_append, hAl, h]; omega
            by_cases hlen : (c :: r).length = n + 3
            · have hB2 : ((c :: r).drop (n + 1)).length = 2 := by omega
              have hamt2 := hamt hB2
              have hdrop2 : nDig ((c :: r).drop (n + 1)) = 2 ↔ ∀ x ∈ (c :: r).drop (n + 1), digB x = true := by
                have := hdrop; rw [hB2] at this; exact this
              rw [hamt2, hB2]
              by_cases hdd : nDig ((c :: r).drop (n + 1)) = 2
              · rw [if_neg (by
                  rintro (h | h | h)
                  · exact h (by rw [hp])
                  · exact h hlen
                  · exact h hdd)]
                have hall := hdrop2.1 hdd
                rw [hcen hall]
                by_cases hle : 1000000000 < decF 0 ((c :: r).take n ++ (c :: r).drop (n + 1))
                · rw [if_pos hle]
                  have e : decide ((∀ x ∈ (c :: r).take n ++ (c :: r).drop (n + 1), digB x = true) ∧ decF 0 ((c :: r).take n ++ (c :: r).drop (n + 1)) ≤ 1000000000) = false := by
                    rw [decide_eq_false_iff_not]; exact fun q => by have := q.2; omega
                  rw [e]; rfl
                · rw [if_neg hle]
                  have e : decide ((∀ x ∈ (c :: r).take n ++ (c :: r).drop (n + 1), digB x = true) ∧ decF 0 ((c :: r).take n ++ (c :: r).drop (n + 1)) ≤ 1000000000) = true := by
                    rw [decide_eq_true_eq]
                    refine ⟨fun x hx => ?_, by omega⟩
                    rcases List.mem_append.1 hx with hx | hx
                    · exact d1 x hx
                    · exact hall x hx
                  rw [e]; rfl
              · rw [if_pos (.inr (.inr hdd))]
                have e : decide ((∀ x ∈ (c :: r).take n ++ (c :: r).drop (n + 1), digB x = true) ∧ decF 0 ((c :: r).take n ++ (c :: r).drop (n + 1)) ≤ 1000000000) = false := by
                  rw [decide_eq_false_iff_not]
                  exact fun q => hdd (hdrop2.2 fun x hx => q.1 x (List.mem_append.2 (.inr hx)))
                rw [e]; rfl
            · rw [if_pos (.inr (.inl hlen))]
              have e : decide (((c :: r).drop (n + 1)).length = 2) = false := by rw [decide_eq_false_iff_not]; omega
              rw [e]; rfl
          · rw [if_pos (.inl (by intro e; exact hp (Option.some.inj e)))]
            have a2 : mnyB (c :: r) = false := by
              unfold mnyB
              have : ∀ A B, c :: r = A ++ B → (∀ x ∈ A, x ≠ 46) → (B = [] ∨ B.head? = some 46) → numB A = false := by
                intro A B e hA hB
                have hge := hpre A B e hA hB
                rw [Bool.eq_false_iff]; intro h
                have hA2 : n < A.length := by
                  rcases Nat.lt_or_ge n A.length with h' | h'
                  · exact h'
                  · exfalso
                    have hAn : A.length = n := by omega
                    rcases hB with rfl | hB
                    · rw [List.append_nil] at e; rw [e] at hlt; omega
                    · have : (c :: r)[n]? = B.head? := by rw [e]; exact get_app hAn
                      rw [List.getElem?_eq_getElem hlt, hB] at this
                      exact hp (Option.some.inj this)
                have hx : (c :: r)[n] ∈ A := by
                  have : (c :: r)[n]? = A[n]? := by rw [e, List.getElem?_append_left hA2]
                  rw [List.getElem?_eq_getElem hlt, List.getElem?_eq_getElem hA2] at this
                  rw [Option.some.inj this]; exact List.getElem_mem hA2
                have := ((numB_iff _).1 h).2.2.1 _ hx
                rw [hnd2] at this; cases this
              rcases cut_case (c :: r) with ⟨A, B, e, hA⟩ | hA
              · have h' := this A (46 :: B) e hA (.inr rfl)
                rw [e, (cut_at A B hA).1, h']; rfl
              · rw [(cut_none _ hA).1, a1]; rfl
            rw [a2]; rfl
end Go.Proofs.YthnlenbfknbmcaaGreatDoor
