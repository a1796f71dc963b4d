/-
  Next: its feeder (the bytes of a number, the texts of integers), and Next itself.
-/
import Derived.Test.YtgljelkjfipefaaDoorDigItoa
namespace Go.Proofs.YtgljelkjfipefaaDoor
open Go.RowKit

/-- the bytes of a number, the highest one first; the texts of integers, a blank behind each -/
def byt (d : UInt64) (k : Nat) : UInt8 := UInt8.ofNat (d.toNat / 2 ^ (56 - 8 * k))
def bytes8 (d : UInt64) : List UInt8 := (List.range 8).map (byt d)
def txt (l : List Int) : List UInt8 := l.flatMap fun n => Lib.itoa n ++ [32]
def nxt (d : UInt64) (l : List Int) : UInt64 := fnv fnv0 (bytes8 d ++ txt l)

theorem txt_take {l : List Int} {k : Nat} (h : k < l.length) : txt (l.take (k + 1)) = txt (l.take k) ++ (Lib.itoa l[k] ++ [32]) := by
  unfold txt
  rw [List.take_succ_eq_append_getElem h, List.flatMap_append, List.flatMap_cons, List.flatMap_nil, List.append_nil]

theorem byt_take (d : UInt64) {k : Nat} (h : k < 8) : (bytes8 d).take (k + 1) = (bytes8 d).take k ++ [byt d k] := by
  rw [List.take_succ_eq_append_getElem (by simp [bytes8]; omega)]; simp [bytes8]

theorem own_iterAt {w : World} {B : Nat} {xs : List Value} (h : Own w B xs) (k : Nat) (s : ByteArray) (pos : Nat) (hk : B ≠ k) : Own (w.iterAt k s pos) B xs := by
  have e := Lib.iterAt_other w k B s pos hk
  refine ⟨fun i v hi => ?_, fun i v hi => ?_, by rw [Lib.iterAt_size]; exact h.lt⟩
  · rw [← h.cell i v hi]; simp [World.cell?, e]
  · rw [← h.fro i v hi]; simp [World.frozen?, e]

set_option maxHeartbeats 2000000 in
theorem feedNext (w0 : World) (a b : Nat) (d : UInt64) (v : Value) (l : List Int) (hT : Tab w0) (ha0 : a < w0.heap.size) (hca0 : w0.cell? ⟨a, 0, none⟩ = some (vD d))
    (hb0 : b < w0.heap.size) (hc0 : w0.cell? ⟨b, 0, none⟩ = some v) (hv : Ints w0 v l) :
    Feeds w0 43 #[.pointer (some ⟨a, 0, none⟩), .pointer (some ⟨b, 0, none⟩)] (bytes8 d ++ txt l) := by
  intro B d0 w hw hB ho
  have hca := (hw.cell (p := ⟨a, 0, none⟩) ha0).trans hca0
  have hcb := (hw.cell (p := ⟨b, 0, none⟩) hb0).trans hc0
  obtain ⟨hv, hi64⟩ := hv
  obtain ⟨ad, cap, rfl⟩ := hv.shape
  have hcell := hv.cells _ _ _ rfl
  have hlen := hv.short
  simp only [List.length_map] at hcb hcell hlen ⊢
  show Calls Tryd.prog _ #[.func (.func 47) #[] #[.pointer (some ⟨B, 0, none⟩)], .pointer (some ⟨a, 0, none⟩), .pointer (some ⟨b, 0, none⟩)] w _
  go_enter Tryd.func43, Tryd.ntmps43
  go_wp2_with fail
  go_loopw [4] (fun i wr => ∃ k : Nat, k ≤ 8 ∧ i = .int .i64 (56 - 8 * (k : Int)) ∧ Own wr B [vD (fnv d0 ((bytes8 d).take k))] ∧ Below B w wr)
    (fun i _ => (intOf i + 8).toNat)
  case atStart => exact ⟨0, by omega, rfl, ho, Below.refl _ _⟩
  case round =>
    obtain ⟨k, hk, rfl, hor, hb⟩ := hrel
    by_cases hkl : k < 8
    · have hr := (hb.cell (p := ⟨a, 0, none⟩) (by simp; omega)).trans hca
      obtain ⟨c, f, z⟩ := hor.one
      have ht := take_any B (fnv d0 ((bytes8 d).take k)) (byt d k) wr c f
      simp only [vD] at hr
      have hb8 : vB (byt d k) = .int .u8 ((d.toNat : Int) / 2 ^ (56 - 8 * k) % 256) := by simp [vB, byt]
      rw [hb8] at ht
      go_wp2_with (go_at_call 47; refine ht.mono ?_; rintro e w2 ⟨rfl, rfl⟩)
      go_roundw
      case rel => exact ⟨k + 1, by omega, by congr 1; omega, by rw [byt_take d hkl, fnv_app]; exact set_own hor, hb.trans (below_set _)⟩
      case measure => simp [intOf]; omega
    · have hr := (hb.cell (p := ⟨b, 0, none⟩) (by simp; omega)).trans hcb
      obtain rfl : k = 8 := by omega
      rw [List.take_of_length_le (by simp [bytes8])] at hor
      generalize hd1 : fnv d0 (bytes8 d) = d1 at hor
      go_wp2_with fail
      go_loopw [21] (fun i wr => ∃ k : Nat, k ≤ l.length ∧ i = .int .i64 k ∧ Own wr B [vD (fnv d1 (txt (l.take k)))] ∧ Below B w wr)
        (fun i _ => l.length - (intOf i).toNat)
      case atStart => exact ⟨0, by omega, rfl, hor, hb⟩
      case round =>
        clear hor hr
        obtain ⟨k, hk, rfl, hor, hb⟩ := hrel
        by_cases hkl : k < l.length
        · obtain ⟨q, rfl, hab, hc⟩ := hcell k (by simpa using hkl)
          have hr := ((hb.cell (p := q.add k) (by rw [blk_add]; omega)).trans (hw.cell (p := q.add k) (by rw [blk_add]; omega))).trans hc
          rw [List.getElem_map] at hr
          have hi := itoa_any l[k] (hi64 _ (List.getElem_mem _)) wr (hT.below (hw.trans (hb.mono hB)))
          have hasc := itoa_ascii l[k]
          generalize hs : Lib.itoa l[k] = its at hi hasc
          have hbyt : ∀ pos (h : pos < its.length), Value.int .u8 ((its[pos].toNat : Int) % 256) = vB its[pos] := fun pos h => by have := (its[pos]).toNat_lt; unfold vB; congr 1; omega
          have hit := txt_take hkl
          rw [hs] at hit
          go_wp2_with (go_at_call 44; refine hi.mono ?_; rintro e w3 ⟨rfl, hx3⟩; refine Hid.out ?_)
          have ho3 := hor.below hx3
          have hk0 : (w3.iter ⟨its.toArray⟩ 0).heap[w3.heap.size]? = some (.stringIter ⟨its.toArray⟩ 0) := by
            have h5 := World.iter_heap w3 ⟨its.toArray⟩ 0
            simpa using h5
          have hb3 : Below B w3 (w3.iter ⟨its.toArray⟩ 0) := (Below.refl _ w3).alloc (by have := ho3.lt; omega) _
          have hbw3 : Below B w w3 := hb.trans (hx3.mono (by have := hor.lt; omega))
          have hlt3 := ho3.lt
          have ho4 : Own (w3.iter ⟨its.toArray⟩ 0) B _ := ho3.alloc _
          generalize hd2 : fnv d1 (txt (l.take k)) = d2 at ho4 ho3 hor
          clear hi hx3 ho3 hor hb
          refine Lib.hid ?_
          go_wp2_with fail
          go_loopw [] (fun wr => ∃ pos : Nat, pos ≤ its.length ∧ wr.heap[w3.heap.size]? = some (.stringIter ⟨its.toArray⟩ pos) ∧ Own wr B [vD (fnv d2 (its.take pos))] ∧ Below B w3 wr)
            (fun wr => its.length - wr.iterPos w3.heap.size)
          case atStart => exact ⟨0, by omega, hk0, ho4, hb3⟩
          case round =>
            clear hk0 ho4 hb3
            obtain ⟨pos, hps, hk', hor, hb⟩ := hrel
            by_cases hp : pos < its.length
            · have h128 := hasc _ (List.getElem_mem hp)
              have hnext : ∀ ty, (Instr.next (.pointer (some ⟨w3.heap.size, 0, none⟩)) true ty).run Tryd.prog wr = _ := fun ty => Lib.run_next_ascii_at wr w3.heap.size ⟨its.toArray⟩ pos ty hk' hp h128
              have hmu : wr.iterPos w3.heap.size = pos := by simp [World.iterPos, hk']
              have hk1 := Lib.iterAt_heap wr w3.heap.size ⟨its.toArray⟩ pos (pos + 1) hk'
              have hb1 : Below B w3 (wr.iterAt w3.heap.size ⟨its.toArray⟩ (pos + 1)) := Lib.below_iterAt hb (by omega) _ _
              have ho1 : Own (wr.iterAt w3.heap.size ⟨its.toArray⟩ (pos + 1)) B [vD (fnv d2 (its.take pos))] := own_iterAt hor _ _ _ (by omega)
              generalize wr.iterAt w3.heap.size ⟨its.toArray⟩ (pos + 1) = W1 at hnext hk1 hb1 ho1
              obtain ⟨c, f, z⟩ := ho1.one
              have ht := take_any B (fnv d2 (its.take pos)) its[pos] W1 c f
              rw [← hbyt pos hp] at ht
              go_wp2_with (go_at_call 47; refine ht.mono ?_; rintro e w2 ⟨rfl, rfl⟩)
              go_roundw
              case rel => exact ⟨pos + 1, by omega, by rw [heap_setCell_other _ _ _ _ (by simp; omega)]; exact hk1, by rw [List.take_succ_eq_append_getElem hp, fnv_app]; exact set_own ho1, hb1.trans (below_set _)⟩
              case measure =>
                have hmu2 : (W1.setCell ⟨B, 0, none⟩ (vD (stp (fnv d2 (its.take pos)) its[pos]))).iterPos w3.heap.size = pos + 1 := by
                  unfold World.iterPos; rw [heap_setCell_other _ _ _ _ (by simp; omega), hk1]
                rw [hmu, hmu2]; omega
            · have hnext : ∀ ty, (Instr.next (.pointer (some ⟨w3.heap.size, 0, none⟩)) true ty).run Tryd.prog wr = _ := fun ty => Lib.run_next_end_at wr w3.heap.size ⟨its.toArray⟩ pos ty hk' hp
              rw [List.take_of_length_le (by omega)] at hor
              obtain ⟨c, f, z⟩ := hor.one
              have ht := take_any B (fnv d2 its) 32 wr c f
              go_wp2_with (go_at_call 47; refine ht.mono ?_; rintro e w2 ⟨rfl, rfl⟩)
              go_roundw
              case rel =>
                refine ⟨_, _, _, _, _, _, _, _, _, _, _, _, _, _, _, _, _, _, _, ?_, rfl⟩
                exact ⟨k + 1, by omega, by go_num, by rw [hit, fnv_app, fnv_app, hd2]; exact set_own hor, hbw3.trans (hb.trans (below_set _))⟩
              case measure => simp [intOf]; omega
        · go_wp2_with fail
          go_end0
          exact ⟨rfl, by rw [fnv_app, hd1]; rw [List.take_of_length_le (by omega)] at hor; exact hor, hb⟩
end Go.Proofs.YtgljelkjfipefaaDoor
