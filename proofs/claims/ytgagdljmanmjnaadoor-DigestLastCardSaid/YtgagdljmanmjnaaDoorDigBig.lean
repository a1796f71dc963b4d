/-
  turned, for integers as many as any machine holds.
-/
import Derived.Test.YtgagdljmanmjnaaDoorDigMath
import Derived.Laws.AppendOwn
import Derived.Laws.AppendOwnNone
namespace Go.Proofs.YtgagdljmanmjnaaDoor
open Go.RowKit Go.Shelf Go.Lib

section
variable {ops : Array Oper} {rest : List Oper} {o : Oper} {a : Act} {Q : Exit → Act → World → Prop}
theorem app_big (w : World) (hgd : o.guard = none) (s x : Operand) (t : TypeId) (ho : o.op = .call { callee := .builtin .append, args := #[s, x], argTypes := #[t, t] })
    (base : Nat) (e : TypeId) (z : Value) (bytes : Nat) (ht : Tryd.prog.underlying t = some (.slice e)) (hi : (Tryd.prog.info? e).map (fun i => (i.zero, i.size, i.bytes)) = some (some z, 1, bytes)) (hz : z.cells.size = 1)
    (v : Value) (xs : List Value) (hs : a.eval s = v) (hown : OwnRow w base e v xs) (vx : Value) (ys : List Value) (hx : a.eval x = vx) (hr : Row w vx ys) (h1 : ∀ u ∈ ys, u.oneCell' = true)
    (h63 : xs.length + ys.length ≤ maxLen) (hbytes : (xs.length + ys.length) * bytes ≤ 140737488355328) (hB : base ≤ w.heap.size)
    (h : ∀ v' w', OwnRow w' base e v' (xs ++ ys) → Below base w w' → wpList Tryd.prog ops Q rest (a.put o.dst v') w') : wpList Tryd.prog ops Q (o :: rest) a w := by
  obtain ⟨i, hi, hz0, hz1, hz2⟩ := info_parts hi
  obtain ⟨ad, cap, rfl⟩ := hr.shape
  cases ad with
  | none =>
    obtain ⟨h0, rfl⟩ := hr.bare _ _ rfl
    rw [h0] at hx
    rw [List.length_eq_zero_iff] at h0
    subst h0
    refine wpList_append_own_none hgd s x t ho base e i 1 ht hi v _ xs hs hown hx ?_
    have := h v w (by rw [List.append_nil]; exact hown) (Below.refl _ _)
    exact this
  | some ad =>
    refine wpList_append_own w hgd s x t ho base e i z 1 bytes ht hi hz0 hz1 hz2 hz (by decide) v xs.length xs hs hown ad ys.length cap ys hx (by simp) ?_ h1 h63 hbytes hB ?_
    · intro j u hj
      obtain ⟨hl, rfl⟩ := List.getElem?_eq_some_iff.1 hj
      obtain ⟨a', e', _, hc⟩ := hr.cells _ _ _ rfl j hl
      cases e'; exact hc
    · intro v' w' hown' hg _
      exact h v' w' (by unfold OwnRow; rw [List.length_append]; exact hown') (grown_below hown hg hB)
end
theorem ints_big {w : World} {base : Nat} {v : Value} {l : List Int} (h : OwnRow w base 3 v (l.map (.int .i64))) (hl : l.length ≤ 9223372036854775807) (hi : ∀ x ∈ l, I64 x) : Ints w v l :=
  ⟨Row.of_own h (by rw [List.length_map]; exact hl), hi⟩

set_option maxHeartbeats 2000000 in
theorem turned_big (v : Value) (l : List Int) (which b : Nat) (hw : which < 65536) (hb : b < 256) (w : World) (h : Ints w v l) (hlen : l.length * 8 ≤ 140737488355328) : Calls Tryd.prog 18 #[v, .int .u16 which, .int .u8 b] w
    fun e w' => ∃ v', e = .returned (.tuple #[v', .bool (tIs l which)]) ∧ Ints w' v' (if tIs l which then tList l which b else []) ∧ Below w.heap.size w w' := by
  obtain ⟨ad, cap, rfl⟩ := h.1.shape
  by_cases h0 : l = []
  · subst h0
    go_enter Tryd.func18, Tryd.ntmps18
    go_wp2_with fail
    go_ret2
    exact ⟨_, rfl, ⟨Row.nil _, fun x hx => by cases hx⟩, by (repeat (first | exact Below.refl _ _ | assumption | refine Below.drew ?_ | refine below_drewN ?_ _ | refine Below.setCell ?_ (by first | omega | (simp <;> omega)) _ | refine Below.alloc ?_ (by first | omega | (simp <;> omega)) _))⟩
  have hpos : 0 < l.length := by cases l <;> simp_all
  have hk : which % l.length < l.length := Nat.mod_lt _ hpos
  have hget : l.getD (which % l.length) 0 = l[which % l.length] := by simp [List.getD, List.getElem?_eq_getElem hk]
  generalize hres : (if tIs l which then tList l which b else []) = res
  generalize htis : tIs l which = ti at hres
  replace hres := Lib.hid hres
  replace htis := Lib.hid htis
  have hlz : ((l.length : Int) == 0) = false := by simp; omega
  have hr0 : Row (w.alloc (.cells #[] 3)) _ _ := h.1.below ((Below.refl _ w).alloc (Nat.le_refl _) _)
  have hown := OwnRow.new w w.heap.size (Nat.le_refl _) 3 [] (by simp)
  simp only [List.length_map] at hr0 ⊢
  go_enter Tryd.func18, Tryd.ntmps18
  go_wp2_with (at_builtin; go_loud (refine app_big _ rfl _ _ 24 rfl w.heap.size 3 (.int .i64 0) 8 Tryd.underlying24 Tryd.infoInt rfl _ [] rfl hown _ (l.map (.int .i64)) rfl hr0 int_one (by simp [maxLen]; omega) (by simp; omega) (by simp) ?_; intro v2 w2 hown2 hx2; refine Hid.out ?_))
  have hb2 : Below w.heap.size w w2 := ((Below.refl _ w).alloc (Nat.le_refl _) _).trans hx2
  clear hr0 hown hx2
  rw [List.nil_append] at hown2
  obtain ⟨hlen2, ⟨_, hz⟩ | ⟨g, cap', cur, rfl, hgB, hh, hcap, hmax, hcs, hct⟩⟩ := hown2
  · rw [List.length_map] at hz; omega
  have hcell : w2.cell? ⟨g, which % l.length, none⟩ = some (.int .i64 l[which % l.length]) := by
    have h2 : (cur.toList.take ((l.map (Value.int .i64)).length * 1))[which % l.length]? = some (.int .i64 l[which % l.length]) := by rw [hct]; simp [hk]
    rw [List.getElem?_take] at h2
    split at h2
    · simpa [World.cell?, hh] using h2
    · cases h2
  have hfro : w2.frozen? ⟨g, which % l.length, none⟩ = false := by simp [World.frozen?, hh]
  have hn64 := h.2 _ (List.getElem_mem hk)
  have hn1 := hn64.1
  have hn2 := hn64.2
  generalize hnn : l[which % l.length] = n at hcell hn1 hn2 hget
  simp only [List.length_map] at hcs hct hcap ⊢
  refine Lib.hid ?_
  by_cases hneg : n < 0
  · go_wp2_with fail
    go_ret2
    have ht : tIs l which = false := by unfold tIs; rw [hget]; simp; omega
    have e1 := htis.out
    have e2 := hres.out
    rw [ht] at e1
    subst e1
    rw [if_neg (by simp)] at e2
    subst e2
    exact ⟨_, rfl, ⟨Row.nil _, fun x hx => by cases hx⟩, hb2⟩
  by_cases hbig : 1000000000000 < n
  · go_wp2_with fail
    go_ret2
    have ht : tIs l which = false := by unfold tIs; rw [hget]; simp; omega
    have e1 := htis.out
    have e2 := hres.out
    rw [ht] at e1
    subst e1
    rw [if_neg (by simp)] at e2
    subst e2
    exact ⟨_, rfl, ⟨Row.nil _, fun x hx => by cases hx⟩, hb2⟩
  · go_wp2_with fail
    go_ret2
    have ht : tIs l which = true := by unfold tIs; rw [hget]; simp; omega
    have htr : tList l which b = l.set (which % l.length) (trn n b) := by unfold tList; rw [hget]
    have e1 := htis.out
    have e2 := hres.out
    rw [ht] at e1
    subst e1
    rw [if_pos rfl, htr] at e2
    subst e2
    have hval : n - n % 10 + (n % 10 + 1 + (b : Int) % 9) % 10 = trn n b := by unfold trn; simp
    rw [hval]
    have hset : ∀ x ∈ l.set (which % l.length) (trn n b), I64 x := by
      intro x hx
      rcases List.mem_or_eq_of_mem_set hx with hx | rfl
      · exact h.2 x hx
      · rw [← hval]; constructor <;> omega
    have how : OwnRow (w2.setCell ⟨g, which % l.length, none⟩ (.int .i64 (trn n b))) w.heap.size 3 (.slice (some ⟨g, 0, none⟩) l.length cap') ((l.set (which % l.length) (trn n b)).map (.int .i64)) := by
      refine ⟨by simp, .inr ⟨g, cap', cur.setIfInBounds (which % l.length) (.int .i64 (trn n b)), by simp, hgB, heap_setCell_same _ _ _ _ _ _ hh, by simpa using hcap, hmax, by simpa using hcs, ?_⟩⟩
      rw [Array.toList_setIfInBounds, List.take_set]
      simp only [List.length_map, List.length_set] at hct ⊢
      rw [hct, List.map_set]
    exact ⟨_, rfl, ints_big (base := w.heap.size) how (by simp; omega) hset, Below.setCell (p := ⟨g, which % l.length, none⟩) hb2 hgB _⟩
end Go.Proofs.YtgagdljmanmjnaaDoor
