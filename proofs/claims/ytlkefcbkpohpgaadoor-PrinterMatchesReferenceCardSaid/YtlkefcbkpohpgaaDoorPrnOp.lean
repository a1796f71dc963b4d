/-
  The walk of operation: the shape of an operator, with kids where its digits stand.
-/
import Derived.Laws.RangeString
import Derived.IntWalk
import Derived.Test.YtlkefcbkpohpgaaDoorPrnLib
import Derived.Test.YtlkefcbkpohpgaaDoorPrnText
import Derived.Laws.Slices
namespace Go.Proofs.YtlkefcbkpohpgaaDoor
open Go.RowKit Go.Shelf
set_option maxRecDepth 100000

def kidT (least : Nat) (e : Xp) : List UInt8 := brkS (decide (rankE e < least)) (txtE e)
def fillS : List UInt8 → List Xp → List UInt8
  | [], _ => []
  | c :: r, l => if digB c = true then kidT (c.toNat - 48) (l.headD default) ++ fillS r l.tail else c :: fillS r l
theorem fill_no {c : UInt8} {r : List UInt8} {l : List Xp} (h : digB c = false) : fillS (c :: r) l = c :: fillS r l := by simp [fillS, h]
theorem fill_dig {c : UInt8} {r : List UInt8} {x : Xp} {l : List Xp} (h : digB c = true) : fillS (c :: r) (x :: l) = kidT (c.toNat - 48) x ++ fillS r l := by simp [fillS, h]
theorem fill_txt {o n : Int} {l : List Xp} (h : okE (.mk o n l) = true) (h1 : o ≠ 1) (h2 : o ≠ 2) (h3 : o ≠ 3) : ∃ k : Nat, o = k ∧ 4 ≤ k ∧ k ≤ 15 ∧ fillS (shpO k) l = txtE (.mk o n l) ∧ (shpO k).countP digB = l.length ∧ (∀ x ∈ shpO k, x.toNat < 128) ∧ (shpO k).length ≤ 30 := by
  rcases node_shape h with ⟨rfl, -⟩ | ⟨rfl, -⟩ | ⟨rfl, -⟩ | ⟨rfl, rfl, a, rfl, ha⟩ | ⟨rfl, rfl, a, b, c, rfl, ha, hb, hc⟩ | ⟨ho, rfl, a, b, rfl, ha, hb⟩
  · exact absurd rfl h1
  · exact absurd rfl h2
  · exact absurd rfl h3
  · exact ⟨15, rfl, by decide, by decide, by rw [txt_one]; simp [fillS, shpO, digB]; rfl, by simp [shpO, digB], by decide, by decide⟩
  · exact ⟨10, rfl, by decide, by decide, by rw [txt_three]; simp [fillS, shpO, digB]; rfl, by simp [shpO, digB], by decide, by decide⟩
  · rcases ho with rfl | rfl | rfl | rfl | rfl | rfl | rfl | rfl | rfl | rfl
    · exact ⟨8, rfl, by decide, by decide, by rw [txt_two]; simp [fillS, shpO, digB]; rfl, by simp [shpO, digB], by decide, by decide⟩
    · exact ⟨9, rfl, by decide, by decide, by rw [txt_two]; simp [fillS, shpO, digB]; rfl, by simp [shpO, digB], by decide, by decide⟩
    · exact ⟨4, rfl, by decide, by decide, by rw [txt_two]; simp [fillS, shpO, digB]; rfl, by simp [shpO, digB], by decide, by decide⟩
    · exact ⟨5, rfl, by decide, by decide, by rw [txt_two]; simp [fillS, shpO, digB]; rfl, by simp [shpO, digB], by decide, by decide⟩
    · exact ⟨6, rfl, by decide, by decide, by rw [txt_two]; simp [fillS, shpO, digB]; rfl, by simp [shpO, digB], by decide, by decide⟩
    · exact ⟨7, rfl, by decide, by decide, by rw [txt_two]; simp [fillS, shpO, digB]; rfl, by simp [shpO, digB], by decide, by decide⟩
    · exact ⟨11, rfl, by decide, by decide, by rw [txt_two]; simp [fillS, shpO, digB]; rfl, by simp [shpO, digB], by decide, by decide⟩
    · exact ⟨12, rfl, by decide, by decide, by rw [txt_two]; simp [fillS, shpO, digB]; rfl, by simp [shpO, digB], by decide, by decide⟩
    · exact ⟨13, rfl, by decide, by decide, by rw [txt_two]; simp [fillS, shpO, digB]; rfl, by simp [shpO, digB], by decide, by decide⟩
    · exact ⟨14, rfl, by decide, by decide, by rw [txt_two]; simp [fillS, shpO, digB]; rfl, by simp [shpO, digB], by decide, by decide⟩
theorem elemX : Tryd.prog.elem 22 = 24 := by kernel_rfl
theorem underX : Tryd.prog.underlying 22 = some (.slice (Tryd.prog.elem 22)) := by kernel_rfl
theorem sizeX (w : World) : (sizeOf 24).run Tryd.prog w = .ok 3 w := by
  obtain ⟨i, hi⟩ : ∃ i, Tryd.prog.info? 24 = some i := Option.isSome_iff_exists.1 (by kernel_rfl)
  rw [run_sizeOf w hi, show Tryd.prog.cellsOf 24 = 3 by kernel_rfl]
theorem run_fromX (ad : Option Addr) (n cap k : Nat) (hk : k ≤ n) (w : World) : (Instr.sliceAt 22 (.slice ad n cap) (some (.int .i64 (k : Int))) none none).run Tryd.prog w = .ok (sliced ad k n cap 3) w := by
  rw [run_sliceAt_slice _ _ _ _ _ _ underX, run_slice_l _ _ _ _ _ underX _ _ (by omega) (by omega), elemX, sizeX]
  rfl
theorem add_add (a : Addr) (m n : Nat) : (a.add m).add n = a.add (m + n) := by
  unfold Addr.add
  split
  · next h => subst h; simp
  · next h =>
    split
    · next h2 => subst h2; simp [h]
    · next h2 =>
      rw [if_neg (by omega)]
      simp [Nat.add_assoc]
theorem add_three (a : Addr) (m : Nat) : ({ block := (a.add m).block, off := (a.add m).off + 3 } : Addr) = a.add (m + 3) := by
  unfold Addr.add; split <;> split <;> simp_all <;> omega
theorem pbyt (s : List UInt8) (n : Nat) (h : n < (⟨s.toArray⟩ : ByteArray).size) : (⟨s.toArray⟩ : ByteArray)[n] = s[n]'(by simpa [ByteArray.size] using h) := rfl
/-- what a kid's writing gives -/
def KidC (W0 : World) (b : Nat) (x : Xp) : Prop := ∀ (least : Nat), least ≤ 9 → ∀ (ad : Option Addr) (cap : Nat) (l : List UInt8) (w : World), (∃ Q, Tree Q W0 x (.agg #[.int .i64 x.o, .int .i64 x.n, .slice ad x.ks.length cap])) → Wld W0.heap.size b l w → Below W0.heap.size W0 w → l.length + (kidT least x).length ≤ 1000000 →
  Calls Tryd.prog 61 #[.pointer (some ⟨b, 0, none⟩), .agg #[.int .i64 x.o, .int .i64 x.n, .slice ad x.ks.length cap], .int .i64 (least : Nat)] w (WEnd W0.heap.size b (l ++ kidT least x) (.tuple #[]) w)
set_option maxHeartbeats 2000000 in
theorem oper_any {Q : Nat → Prop} (W0 : World) (b : Nat) (kids : List Xp) (hK : ∀ x ∈ kids, KidC W0 b x) (sh : List UInt8) (hA : ∀ x ∈ sh, x.toNat < 128) (hn : sh.countP digB = kids.length) (_hsl : sh.length ≤ 1000) (ad : Option Addr) (cap : Nat) (hc : kids.length ≤ cap) (ht : Trees Q W0 kids ad 0)
    (l : List UInt8) (w : World) (hw : Wld W0.heap.size b l w) (hb : Below W0.heap.size W0 w) (hl : l.length + (fillS sh kids).length ≤ 1000000) :
    Calls Tryd.prog 46 #[.pointer (some ⟨b, 0, none⟩), .string ⟨sh.toArray⟩, .slice ad kids.length cap] w (WEnd W0.heap.size b (l ++ fillS sh kids) (.tuple #[]) w) := by
  obtain ⟨hB, hlt⟩ := wld_lt hw
  obtain ⟨S, hS⟩ : ∃ S, S = (⟨sh.toArray⟩ : ByteArray) := ⟨_, rfl⟩
  have hSz : S.size = sh.length := by rw [hS]; exact wsz sh
  have hby : ∀ (n : Nat) (h : n < S.size) (h2 : n < sh.length), S[n]'h = sh[n]'h2 := by subst hS; intro n h h2; rfl
  rw [← hS]
  clear hS
  have hbz := hb.size
  have k0 : (w.alloc (.stringIter S 0)).heap[w.heap.size]? = some (.stringIter S 0) := World.iter_heap w S 0
  have hw1 := wld_alloc hw (.stringIter S 0)
  have hb1 : Below W0.heap.size W0 (w.alloc (.stringIter S 0)) := hb.alloc hbz _
  have hb2 : Below W0.heap.size w (w.alloc (.stringIter S 0)) := (Below.refl _ w).alloc hbz _
  have hk1 : Lib.OthersKept 5 (some b) w (w.alloc (.stringIter S 0)) := (Lib.OthersKept.refl _ _ w).alloc _
  go_enter Tryd.func46, Tryd.ntmps46
  go_wp2_with fail
  go_loopw [2, 7] (fun z _ wr => ∃ (k j : Nat) (adv : Option Addr) (capv : Nat) (out : List UInt8), z = .slice adv (kids.length - j) capv ∧ j ≤ kids.length ∧ k ≤ sh.length ∧ kids.length - j ≤ capv ∧ (j < kids.length → ∃ a, ad = some a ∧ adv = some (a.add (j * 3))) ∧ (sh.drop k).countP digB = kids.length - j ∧
    out ++ fillS (sh.drop k) (kids.drop j) = fillS sh kids ∧ Wld W0.heap.size b (l ++ out) wr ∧ Below W0.heap.size W0 wr ∧ Below W0.heap.size w wr ∧ Lib.OthersKept 5 (some b) w wr ∧ wr.heap[w.heap.size]? = some (.stringIter S k) ∧ w.heap.size < wr.heap.size) (fun _ _ wr => sh.length - wr.iterPos w.heap.size)
  case atStart => exact ⟨0, 0, ad, cap, [], rfl, Nat.zero_le _, Nat.zero_le _, by omega, (fun h => by obtain ⟨a, _, _, h0, _⟩ := ht.reads 0 h; exact ⟨a, h0, by rw [h0]; simp [Addr.add]⟩), hn, rfl, by rw [List.append_nil]; exact hw1, hb1, hb2, hk1, k0, by simp [World.iter]⟩
  case round =>
    obtain ⟨k, j, adv, capv, out, rfl, hj, hk, hcv, hadv, hcnt, hout, hwd, hbr, hbw, hot, hit, hsz⟩ := hrel
    have hp := iterPos_of hit
    by_cases hks : k < sh.length
    · have hch : (S[k]'(by omega)).toNat = sh[k].toNat := by rw [hby k _ hks]
      have ha := hA sh[k] (List.getElem_mem hks)
      have hnx := fun ty => Lib.run_next_ascii_at (P := Tryd.prog) wr w.heap.size S k ty hit (by omega) (by rw [hch]; exact ha)
      rw [List.drop_eq_getElem_cons hks] at hcnt hout
      rw [hch] at hnx
      have hwi := wld_iter hwd hit (k + 1)
      have hbi := Lib.below_iterAt hbr (show W0.heap.size ≤ w.heap.size from hbz) S (k + 1)
      have hbi2 : Below W0.heap.size w (wr.iterAt w.heap.size S (k + 1)) := Lib.below_iterAt hbw hbz S (k + 1)
      have hoi := others_iter (S := S) (p := k + 1) hot (Nat.le_refl w.heap.size)
      have hii := Lib.iterAt_heap wr w.heap.size S k (k + 1) hit
      have hzi := Lib.iterAt_size wr w.heap.size S (k + 1)
      generalize sh[k] = c at ha hnx hcnt hout
      obtain ⟨wi, hwid⟩ : ∃ wi, wi = wr.iterAt w.heap.size S (k + 1) := ⟨_, rfl⟩
      rw [← hwid] at hnx hwi hbi hbi2 hoi hii hzi
      clear hwid hit hot hwd hbr hbw hch
      by_cases hd : digB c = true
      · have h48 : 48 ≤ c.toNat ∧ c.toNat ≤ 57 := by simpa [digB] using hd
        rw [List.countP_cons_of_pos hd] at hcnt
        have hjl : j < kids.length := by omega
        rw [List.drop_eq_getElem_cons hjl, fill_dig hd] at hout
        obtain ⟨a, rfl, rfl⟩ := hadv hjl
        obtain ⟨a', ad2, cap2, ha', m0, m1, m2, tk, hab⟩ := (ht.reads j hjl)
        cases ha'
        have hcall := hK kids[j] (List.getElem_mem hjl) (c.toNat - 48) (by omega) ad2 cap2 (l ++ out) wi ⟨_, tk⟩ hwi hbi (by have := congrArg List.length hout; simp only [List.length_append] at this ⊢; omega)
        have hcell : ∀ x : Addr, x.block < W0.heap.size → wi.cell? x = W0.cell? x := fun x hx => hbi.cell (p := x) hx
        have n0 := (hcell _ hab).trans m0
        have n1 := (hcell ⟨(a.add (j * 3)).block, (a.add (j * 3)).off + 1, none⟩ hab).trans m1
        have n2 := (hcell ⟨(a.add (j * 3)).block, (a.add (j * 3)).off + 2, none⟩ hab).trans m2
        clear hcell m0 m1 m2
        generalize kids[j] = x at hcall hout n0 n1 n2 tk
        have t5 : (((c.toNat - 48 : Nat) : Nat) : Int) = (c.toNat : Int) - 48 := by omega
        rw [t5] at hcall
        generalize hKT : kidT (c.toNat - 48) x = KT at hcall hout
        obtain ⟨C, hC⟩ : ∃ C : Int, (c.toNat : Int) = C := ⟨_, rfl⟩
        rw [hC] at hcall hnx
        have hC1 : 48 ≤ C ∧ C ≤ 57 := by omega
        have t1 : decide (C < 48) = false := decide_eq_false (by omega)
        have t2 : decide ((57 : Int) < C) = false := decide_eq_false (by omega)
        have t3 : IntKind.i32.wrap (C - 48) = C - 48 := IntWalk.i32_in _ (by omega)
        have t4 : IntKind.i64.wrap (C - 48) = C - 48 := IntWalk.i64_in _ (by omega)
        clear hC t5
        go_wp2_with fail
        refine hcall.mono ?_
        rintro e w2 ⟨rfl, h2, hb3, ho3⟩
        have q1 : Below W0.heap.size W0 w2 := hbi.trans (hb3.mono (Nat.le_refl _))
        have q2 : Below W0.heap.size w w2 := hbi2.trans hb3
        have q3 := hoi.trans ho3
        have q4 := ho3.iter hii (by omega)
        have q5 := hb3.size
        clear hcall hnx n0 n1 n2
        go_wp2_with fail
        go_roundw
        case rel => exact ⟨k + 1, j + 1, (if capv = 1 then some (a.add (j * 3)) else some (a.add ((j + 1) * 3))), capv - 1, out ++ KT, by rw [add_three, show j * 3 + 3 = (j + 1) * 3 by omega, show kids.length - j - 1 = kids.length - (j + 1) by omega], by omega, by omega, by omega, (fun h => ⟨a, rfl, by rw [if_neg (by omega)]⟩), by omega, by rw [List.append_assoc]; exact hout, by rw [← List.append_assoc]; exact h2, q1, q2, q3, q4, by omega⟩
        case measure => rw [hp, iterPos_of q4]; omega
      · have hd' : digB c = false := by simpa using hd
        rw [List.countP_cons_of_neg (by simp [hd'])] at hcnt
        rw [fill_no hd'] at hout
        have hcall := wrune_any W0.heap.size b (l ++ out) c ha wi hwi (by have := congrArg List.length hout; simp only [List.length_append] at this ⊢; omega) hbi.size
        have hC2 : ¬ (48 ≤ c.toNat ∧ c.toNat ≤ 57) := fun h => hd (by simpa [digB] using h)
        obtain ⟨C, hC⟩ : ∃ C : Int, (c.toNat : Int) = C := ⟨_, rfl⟩
        rw [hC] at hcall hnx
        have hC3 : ¬ (48 ≤ C ∧ C ≤ 57) := by omega
        clear hC hC2
        by_cases h4 : C < 48
        · have t1 : decide (C < 48) = true := decide_eq_true h4
          go_wp2_with fail
          refine hcall.mono ?_
          rintro e w2 ⟨rfl, h2, hb3, ho3⟩
          have q1 : Below W0.heap.size W0 w2 := hbi.trans (hb3.mono (Nat.le_refl _))
          have q2 : Below W0.heap.size w w2 := hbi2.trans hb3
          have q3 := hoi.trans ho3
          have q4 := ho3.iter hii (by omega)
          have q5 := hb3.size
          clear hcall hnx
          go_wp2_with fail
          go_roundw
          case rel => exact ⟨k + 1, j, adv, capv, out ++ [c], rfl, hj, by omega, hcv, hadv, hcnt, by rw [List.append_assoc]; exact hout, by rw [← List.append_assoc]; exact h2, q1, q2, q3, q4, by omega⟩
          case measure => rw [hp, iterPos_of q4]; omega
        · have t1 : decide (C < 48) = false := decide_eq_false h4
          have t2 : decide ((57 : Int) < C) = true := decide_eq_true (by omega)
          go_wp2_with fail
          refine hcall.mono ?_
          rintro e w2 ⟨rfl, h2, hb3, ho3⟩
          have q1 : Below W0.heap.size W0 w2 := hbi.trans (hb3.mono (Nat.le_refl _))
          have q2 : Below W0.heap.size w w2 := hbi2.trans hb3
          have q3 := hoi.trans ho3
          have q4 := ho3.iter hii (by omega)
          have q5 := hb3.size
          clear hcall hnx
          go_wp2_with fail
          go_roundw
          case rel => exact ⟨k + 1, j, adv, capv, out ++ [c], rfl, hj, by omega, hcv, hadv, hcnt, by rw [List.append_assoc]; exact hout, by rw [← List.append_assoc]; exact h2, q1, q2, q3, q4, by omega⟩
          case measure => rw [hp, iterPos_of q4]; omega
    · have hnx := fun ty => Lib.run_next_end_at (P := Tryd.prog) wr w.heap.size S k ty hit (by omega)
      have hke : k = sh.length := by omega
      subst hke
      rw [List.drop_length] at hcnt hout
      have HO := Lib.hid hout
      clear hout hadv
      go_wp2_with fail
      go_end0
      refine ⟨rfl, ?_, hbw, hot⟩
      have := HO.out
      rw [fillS, List.append_nil] at this
      rw [← this]; exact hwd
end Go.Proofs.YtlkefcbkpohpgaaDoor
