/-
  The reference: Next and Chain. The law's 'turned'.
-/
import Derived.Test.YtgagdljmanmjnaaDoorDigText
namespace Go.Proofs.YtgagdljmanmjnaaDoor
open Go.RowKit Go.Shelf

set_option maxHeartbeats 1000000 in
theorem refNext_any (d : UInt64) (v : Value) (l : List Int) (w : World) (h : Ints w v l) (hlen : l.length ≤ 1000000) : Calls Tryd.prog 14 #[vD d, v] w (Ret (vD (nxt d l)) w) := by
  have ht := text_any d v l w h hlen
  have hln : (bytes8 d ++ txt l).length ≤ 1000000000 := by
    have := txt_len l h.2
    rw [List.length_append]; simp [bytes8]; omega
  rw [show nxt d l = fnv fnv0 (bytes8 d ++ txt l) from rfl]
  generalize bytes8 d ++ txt l = tx at ht hln ⊢
  obtain ⟨ad, cap, rfl⟩ := h.1.shape
  simp only [List.length_map] at ht ⊢
  clear h
  unfold vD at ht ⊢
  go_enter Tryd.func14, Tryd.ntmps14
  go_wp2_with (go_at_call 17; refine ht.mono ?_; rintro e w1 ⟨v1, rfl, hown, hx1⟩; refine Hid.out ?_)
  have hby := bytes_of_own hown hln
  obtain ⟨ad2, cap2, hv2⟩ := hby.shape
  rw [List.length_map] at hv2
  subst hv2
  have hs := refSum_any _ _ w1 hby
  clear hown hby ht
  refine Lib.hid ?_
  go_wp2_with (go_at_call 12; refine hs.mono ?_; rintro e w2 ⟨rfl, hx2⟩; refine Hid.out ?_)
  refine Lib.hid ?_
  go_wp2_with fail
  go_ret
  exact Ret.mk rfl (hx1.trans (hx2.mono hx1.size))

set_option maxHeartbeats 2000000 in
theorem refChain_any (v : Value) (l : List (List Int)) (w : World) (h : Lists w v l) (hlen : l.length ≤ 1000000) (hs : ∀ x ∈ l, x.length ≤ 1000000 - 1) : Calls Tryd.prog 16 #[v] w (Ret (vD (chn fnv0 l)) w) := by
  have hsum := refSum_any (.slice none 0 0) [] w (Row.nil w)
  obtain ⟨vs, hrow, hvl, heach⟩ := h
  obtain ⟨ad, cap, rfl⟩ := hrow.shape
  rw [hvl]
  rw [hvl] at hrow
  have hcell := hrow.cells _ _ _ rfl
  go_enter Tryd.func16, Tryd.ntmps16
  go_wp2_with (go_at_call 12; refine hsum.mono ?_; rintro e w1 ⟨rfl, hx1⟩)
  go_loopw [3, 4] (fun d i wr => ∃ k : Nat, k ≤ l.length ∧ i = .int .i64 k ∧ d = vD (chn fnv0 (l.take k)) ∧ Below w.heap.size w wr)
    (fun _ i _ => l.length - (intOf i).toNat)
  case atStart => exact ⟨0, by omega, rfl, rfl, hx1⟩
  case round =>
    obtain ⟨k, hk, rfl, rfl, hb⟩ := hrel
    by_cases hkl : k < l.length
    · have hkv : k < vs.length := by omega
      obtain ⟨q, rfl, hab, hc⟩ := hcell k hkv
      have hr := (hb.cell (p := q.add k) (by rw [blk_add]; exact hab)).trans hc
      have hin := heach k hkv hkl
      have hlk := hs _ (List.getElem_mem hkl)
      obtain ⟨ad2, cap2, hvk⟩ := hin.1.shape
      rw [hvk] at hr hin
      simp only [List.length_map] at hr hin
      have hb1 : Below w.heap.size w (wr.alloc (.cells #[.int .i64 l[k].length] 3)) := hb.alloc hb.size _
      have hown := OwnRow.new wr wr.heap.size (Nat.le_refl _) 3 [.int .i64 l[k].length] (by simp)
      have hin1 : Ints (wr.alloc (.cells #[.int .i64 l[k].length] 3)) _ l[k] := ⟨hin.1.below hb1, hin.2⟩
      have hr1 := (hb1.cell (p := q.add k) (by rw [blk_add]; exact hab)).trans (hc.trans (congrArg some hvk))
      simp only [List.length_map] at hr1
      have htk := chn_take fnv0 hkl
      generalize hd : chn fnv0 (l.take k) = dk at htk
      generalize hxs : l[k] = xs at *
      have hi2 : ∀ x ∈ ((xs.length : Int) :: xs), I64 x := by
        intro x hx
        rcases List.mem_cons.1 hx with rfl | hx
        · constructor <;> omega
        · exact hin.2 x hx
      clear hin heach hvk hxs
      go_wp2_with (at_builtin; refine app_row _ rfl _ _ 24 rfl wr.heap.size 3 (.int .i64 0) 8 Tryd.underlying24 Tryd.infoInt rfl (by decide) _ [.int .i64 xs.length] rfl hown _ (xs.map (.int .i64)) rfl hin1.1 int_one (by simp; omega) (by simp) ?_; intro v2 w2 hown2 hx2; refine Hid.out ?_)
      have hin2 : Ints w2 v2 ((xs.length : Int) :: xs) := ints_of_own (base := wr.heap.size) hown2 (by simp; omega) hi2
      have hb2 : Below w.heap.size w w2 := hb.trans (((Below.refl _ wr).alloc (Nat.le_refl _) _).trans hx2 |>.mono hb.size)
      have hn := refNext_any dk v2 _ w2 hin2 (by simp; omega)
      clear hb1 hown hin1 hown2 hx2
      refine Lib.hid ?_
      go_wp2_with (go_at_call 14; refine hn.mono ?_; rintro e w3 ⟨rfl, hx3⟩)
      go_roundw
      case rel => exact ⟨k + 1, by omega, by go_num, by rw [htk], hb2.trans (hx3.mono hb2.size)⟩
      case measure => simp [intOf]; omega
    · go_wp2_with fail
      go_ret
      rw [List.take_of_length_le (by omega)]
      exact Ret.mk rfl hb

/-- turned: which place, and the number that stands there behind it -/
def trn (n : Int) (b : Nat) : Int := n - n % 10 + (n % 10 + 1 + (b % 9 : Nat)) % 10
def tIs (l : List Int) (which : Nat) : Bool := decide (0 < l.length) && (decide (0 ≤ l.getD (which % l.length) 0) && decide (l.getD (which % l.length) 0 ≤ 1000000000000))
def tList (l : List Int) (which b : Nat) : List Int := l.set (which % l.length) (trn (l.getD (which % l.length) 0) b)

set_option maxHeartbeats 2000000 in
theorem turned_any (v : Value) (l : List Int) (which b : Nat) (hw : which < 65536) (hb : b < 256) (w : World) (h : Ints w v l) (hlen : l.length ≤ 1000000) : Calls Tryd.prog 18 #[v, .int .u16 which, .int .u8 b] w
    fun e w' => ∃ v', e = .returned (.tuple #[v', .bool (tIs l which)]) ∧ Ints w' v' (if tIs l which then tList l which b else []) ∧ Below w.heap.size w w' := by
  obtain ⟨ad, cap, rfl⟩ := h.1.shape
  by_cases h0 : l = []
  · subst h0
    go_enter Tryd.func18, Tryd.ntmps18
    go_wp2_with fail
    go_ret2
    exact ⟨_, rfl, ⟨Row.nil _, fun x hx => by cases hx⟩, by (repeat (first | exact Below.refl _ _ | assumption | refine Below.drew ?_ | refine below_drewN ?_ _ | refine Below.setCell ?_ (by first | omega | (simp <;> omega)) _ | refine Below.alloc ?_ (by first | omega | (simp <;> omega)) _))⟩
  have hpos : 0 < l.length := by cases l <;> simp_all
  have hk : which % l.length < l.length := Nat.mod_lt _ hpos
  have hget : l.getD (which % l.length) 0 = l[which % l.length] := by simp [List.getD, List.getElem?_eq_getElem hk]
  generalize hres : (if tIs l which then tList l which b else []) = res
  generalize htis : tIs l which = ti at hres
  replace hres := Lib.hid hres
  replace htis := Lib.hid htis
  have hlz : ((l.length : Int) == 0) = false := by simp; omega
  have hr0 : Row (w.alloc (.cells #[] 3)) _ _ := h.1.below ((Below.refl _ w).alloc (Nat.le_refl _) _)
  have hown := OwnRow.new w w.heap.size (Nat.le_refl _) 3 [] (by simp)
  simp only [List.length_map] at hr0 ⊢
  go_enter Tryd.func18, Tryd.ntmps18
  go_wp2_with (at_builtin; go_loud (refine app_row _ rfl _ _ 24 rfl w.heap.size 3 (.int .i64 0) 8 Tryd.underlying24 Tryd.infoInt rfl (by decide) _ [] rfl hown _ (l.map (.int .i64)) rfl hr0 int_one (by simp; omega) (by simp) ?_; intro v2 w2 hown2 hx2; refine Hid.out ?_))
  have hb2 : Below w.heap.size w w2 := ((Below.refl _ w).alloc (Nat.le_refl _) _).trans hx2
  clear hr0 hown hx2
  rw [List.nil_append] at hown2
  obtain ⟨hlen2, ⟨_, hz⟩ | ⟨g, cap', cur, rfl, hgB, hh, hcap, hmax, hcs, hct⟩⟩ := hown2
  · rw [List.length_map] at hz; omega
  have hcell : w2.cell? ⟨g, which % l.length, none⟩ = some (.int .i64 l[which % l.length]) := by
    have h2 : (cur.toList.take ((l.map (Value.int .i64)).length * 1))[which % l.length]? = some (.int .i64 l[which % l.length]) := by rw [hct]; simp [hk]
    rw [List.getElem?_take] at h2
    split at h2
    · simpa [World.cell?, hh] using h2
    · cases h2
  have hfro : w2.frozen? ⟨g, which % l.length, none⟩ = false := by simp [World.frozen?, hh]
  have hn64 := h.2 _ (List.getElem_mem hk)
  have hn1 := hn64.1
  have hn2 := hn64.2
  generalize hnn : l[which % l.length] = n at hcell hn1 hn2 hget
  simp only [List.length_map] at hcs hct hcap ⊢
  refine Lib.hid ?_
  by_cases hneg : n < 0
  · go_wp2_with fail
    go_ret2
    have ht : tIs l which = false := by unfold tIs; rw [hget]; simp; omega
    have e1 := htis.out
    have e2 := hres.out
    rw [ht] at e1
    subst e1
    rw [if_neg (by simp)] at e2
    subst e2
    exact ⟨_, rfl, ⟨Row.nil _, fun x hx => by cases hx⟩, hb2⟩
  by_cases hbig : 1000000000000 < n
  · go_wp2_with fail
    go_ret2
    have ht : tIs l which = false := by unfold tIs; rw [hget]; simp; omega
    have e1 := htis.out
    have e2 := hres.out
    rw [ht] at e1
    subst e1
    rw [if_neg (by simp)] at e2
    subst e2
    exact ⟨_, rfl, ⟨Row.nil _, fun x hx => by cases hx⟩, hb2⟩
  · go_wp2_with fail
    go_ret2
    have ht : tIs l which = true := by unfold tIs; rw [hget]; simp; omega
    have htr : tList l which b = l.set (which % l.length) (trn n b) := by unfold tList; rw [hget]
    have e1 := htis.out
    have e2 := hres.out
    rw [ht] at e1
    subst e1
    rw [if_pos rfl, htr] at e2
    subst e2
    have hval : n - n % 10 + (n % 10 + 1 + (b : Int) % 9) % 10 = trn n b := by unfold trn; simp
    rw [hval]
    have hset : ∀ x ∈ l.set (which % l.length) (trn n b), I64 x := by
      intro x hx
      rcases List.mem_or_eq_of_mem_set hx with hx | rfl
      · exact h.2 x hx
      · rw [← hval]; constructor <;> omega
    have how : OwnRow (w2.setCell ⟨g, which % l.length, none⟩ (.int .i64 (trn n b))) w.heap.size 3 (.slice (some ⟨g, 0, none⟩) l.length cap') ((l.set (which % l.length) (trn n b)).map (.int .i64)) := by
      refine ⟨by simp, .inr ⟨g, cap', cur.setIfInBounds (which % l.length) (.int .i64 (trn n b)), by simp, hgB, heap_setCell_same _ _ _ _ _ _ hh, by simpa using hcap, hmax, by simpa using hcs, ?_⟩⟩
      rw [Array.toList_setIfInBounds, List.take_set]
      simp only [List.length_map, List.length_set] at hct ⊢
      rw [hct, List.map_set]
    exact ⟨_, rfl, ints_of_own (base := w.heap.size) how (by simp; omega) hset, Below.setCell (p := ⟨g, which % l.length, none⟩) hb2 hgB _⟩
end Go.Proofs.YtgagdljmanmjnaaDoor
