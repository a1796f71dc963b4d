/-
  The ends of the spans of two lists, sorted.
-/
import Derived.Test.YtfhhkbijcleedaaSpanSort
import Derived.Test.YtfhhkbijcleedaaSpanA
namespace Go.Proofs.Ytfhhkbijcleedaa
open Go.Shelf Go.RowKit Go.Lib Go.Sort

theorem flat_get : ∀ (d : List En) (t : Nat), t < d.length * 3 → (d.flatMap encE)[t]? = some ((encE d[t / 3]!)[t % 3]!)
  | [], t, h => by simp at h
  | x :: d, 0, _ => by simp [encE]
  | x :: d, 1, _ => by simp [encE]
  | x :: d, 2, _ => by simp [encE]
  | x :: d, t + 3, h => by
    have ih := flat_get d t (by simp at h; omega)
    have e : (t + 3) / 3 = t / 3 + 1 := by omega
    have e2 : (t + 3) % 3 = t % 3 := by omega
    rw [List.flatMap_cons, List.getElem?_append_right (by simp [encE]), e, e2]
    simpa [encE] using ih
theorem len_flat (d : List En) : (d.flatMap encE).length = d.length * 3 := by
  induction d with
  | nil => rfl
  | cons x d ih => rw [List.flatMap_cons, List.length_append, ih]; simp [encE]; omega
theorem flatK_flat (d : List En) : flatK encE 3 d.toArray = (d.flatMap encE).toArray := by
  apply Array.ext
  · rw [size_flatK, List.size_toArray, List.size_toArray, len_flat]
  · intro i h1 h2
    rw [size_flatK] at h1
    have h := get_flatK encE 3 d.toArray i h1
    have h3 := flat_get d i (by simpa using h1)
    rw [getElem!_pos _ _ (by rw [size_flatK]; exact h1)] at h
    rw [h, List.getElem_toArray]
    have := (List.getElem?_eq_some_iff.1 h3).2
    rw [this]; simp
theorem take_putCells_id (F : List Value) (cur : Array Value) (h : F.length ≤ cur.size) : (putCells id 0 F.toArray cur).toList.take F.length = F := by
  apply List.ext_getElem
  · simp [putCells]; omega
  · intro i h1 h2
    simp [putCells, h2]
theorem size_putCells (F : Array Value) (cur : Array Value) : (putCells id 0 F cur).size = cur.size := by simp [putCells]

theorem cmpE_lt (x y : En) : ltOf cmpE x y = true ↔ x.1 < y.1 ∨ (x.1 = y.1 ∧ (x.2.1 < y.2.1 ∨ (x.2.1 = y.2.1 ∧ x.2.2 < y.2.2))) := by
  unfold ltOf cmpE cmp1 Lib.compareInt
  simp only [decide_eq_true_eq]
  repeat' split
  all_goals omega
theorem cmpE_swo : SWO (ltOf cmpE) := {
  irrefl := fun x => by rw [Bool.eq_false_iff, ne_eq, cmpE_lt]; omega
  trans := fun x y z h1 h2 => by rw [cmpE_lt] at *; omega
  ntrans := fun x y z h1 h2 => by rw [Bool.eq_false_iff, ne_eq, cmpE_lt] at *; omega }
theorem cmpE_tot (x y : En) (h1 : ltOf cmpE x y = false) (h2 : ltOf cmpE y x = false) : x = y := by
  rw [Bool.eq_false_iff, ne_eq, cmpE_lt] at h1 h2
  obtain ⟨x0, x1, x2⟩ := x
  obtain ⟨y0, y1, y2⟩ := y
  simp only [Prod.mk.injEq] at *
  omega

def sortE (d : List En) : List En := d.mergeSort fun x y => !ltOf cmpE y x
theorem sortE_length (d : List En) : (sortE d).length = d.length := List.length_mergeSort d

theorem ownsRow_holds {w : World} {g : Nat} {d : List En} {cur : Array Value} (hh : w.heap[g]? = some (.cells cur 57 (0, 0))) (ht : cur.toList.take (d.length * 3) = d.flatMap encE) : HoldsK encE 3 w g 0 d.toArray := by
  unfold HoldsK
  rw [flatK_flat]
  intro j hj
  have hj' : j < (d.flatMap encE).length := by simpa using hj
  have h1 : cur[j]? = some (d.flatMap encE)[j] := by
    have h2 : (cur.toList.take (d.length * 3))[j]? = some (d.flatMap encE)[j] := by rw [ht]; exact List.getElem?_eq_getElem hj'
    rw [List.getElem?_take] at h2
    split at h2
    · simpa using h2
    · cases h2
  refine ⟨?_, ?_⟩
  · rw [getElem!_pos _ j hj]
    simp [World.cell?, hh, h1]
  · simp [World.frozen?, hh]

set_option maxHeartbeats 1000000 in
theorem sort_any (v : Value) (d : List En) (w : World) (base : Nat) (hown : w.ownsRow base 57 3 v d.length (d.flatMap encE)) (hsz : d.length < 4611686018427387904) :
    Calls Try.prog 42 #[v, .func (.func 43) #[] #[]] w fun e w' => e = .returned (.tuple #[]) ∧ w'.ownsRow base 57 3 v d.length ((sortE d).flatMap encE) ∧ Below base w w' := by
  obtain ⟨h1, ⟨rfl, h2⟩ | ⟨g, cap, cur, rfl, hg, hh, hc1, hc2, hcs, hct⟩⟩ := hown
  · have hcon := AnyF.slices_SortFunc_none (ρ := _) { Try.sortEnd with } none 0 (.func (.func 43) #[] #[]) w
    change Calls Try.prog 42 _ _ _ at hcon
    refine hcon.mono ?_
    rintro e w' ⟨rfl, rfl⟩
    have hd : d = [] := List.eq_nil_of_length_eq_zero h2
    subst hd
    exact ⟨rfl, ⟨by simp [sortE], .inl ⟨rfl, rfl⟩⟩, Below.refl _ _⟩
  · have eg : ∀ args w, (callFunc 43 args).run Try.prog w = .ok (.enter 43 args) w := enters_of Try.func43 (by kernel_rfl) rfl
    have hgl : g < w.heap.size := (Array.getElem?_eq_some_iff.1 hh).1
    have hcon := AnyQ.slices_SortFunc_total Try.sortEnd 3 Try.isAgg57 Try.sizeOf57 encE (fun _ => rfl) (fun x v hv => by simp [encE] at hv; rcases hv with rfl | rfl | rfl <;> rfl) cmpE cmpE_swo 43 #[] g 0 cap d.toArray w eg
      (fun _ _ _ _ x y => endsCmp_any x y _) (ownsRow_holds hh hct) hgl (by simpa using hsz) cmpE_tot
    change Calls Try.prog 42 _ _ _ at hcon
    rw [show d.toArray.size = d.length from by simp] at hcon
    refine hcon.mono ?_
    rintro e w' ⟨rfl, n, os, rfl⟩
    have hF : (List.flatMap encE (sortE d)).length = d.length * 3 := by rw [len_flat, sortE_length]
    have hcl : d.length * 3 ≤ cur.size := by rw [hcs]; exact Nat.mul_le_mul_right 3 hc1
    refine ⟨rfl, ⟨hF, .inr ⟨g, cap, putCells id 0 (List.flatMap encE (sortE d)).toArray cur, rfl, hg, ?_, hc1, hc2, by rw [size_putCells]; exact hcs, ?_⟩⟩, ?_⟩
    · show ((mapBlock (Sort.ahead w n) g (putCells id 0 (flatK encE 3 (sortE d).toArray))).heap ++ os)[g]? = _
      rw [flatK_flat, Array.getElem?_append_left (by simpa [mapBlock, Sort.ahead] using hgl)]
      show (w.heap.modify g _)[g]? = _
      rw [Array.getElem?_modify, if_pos rfl, hh]; rfl
    · rw [← hF]; exact take_putCells_id _ _ (by rw [hF]; exact hcl)
    · refine ⟨rfl, rfl, rfl, ?_, fun k hk => ?_⟩
      · show w.heap.size ≤ ((w.heap.modify g _) ++ os).size
        simp
      · show ((w.heap.modify g _) ++ os)[k]? = _
        rw [Array.getElem?_append_left (by simp; omega), Array.getElem?_modify, if_neg (by omega)]
end Go.Proofs.Ytfhhkbijcleedaa
