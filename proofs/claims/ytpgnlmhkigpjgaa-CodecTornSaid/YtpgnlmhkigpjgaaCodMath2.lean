/-
  Frames: read one after the other; torn; changed.
-/
import Derived.Test.YtpgnlmhkigpjgaaCodMath
import Derived.Test.YtpgnlmhkigpjgaaCodFrm
namespace Go.Proofs.Ytpgnlmhkigpjgaa
open Go.RowKit
set_option linter.unusedVariables false

/-- lists as they are written: no more than so many integers, of 64 bits -/
def Good (l : List Int) : Prop := l.length ≤ 4000 ∧ ∀ x ∈ l, I64 x
theorem lframe_len (l : List Int) : (lframe l).length = (lput l).length + 11 := by
  unfold lframe; rw [List.length_append, said_len, lmark_len]
theorem lend_said {b r : List UInt8} (h : b.length < 16777216) : lend (said b ++ r) = b.length + 3 := by
  unfold lend said
  simp
  omega
theorem lfirst_frame {l : List Int} (hg : Good l) (rest : List UInt8) : lfirst (lframe l ++ rest) = some (l, (lframe l).length) := by
  have hp := lput_len hg.2 hg.1
  have hE : lend (lframe l ++ rest) = (lput l).length + 3 := by
    unfold lframe
    rw [List.append_assoc]
    exact lend_said (by omega)
  have hlen : (lframe l ++ rest).length = (lput l).length + 11 + rest.length := by rw [List.length_append, lframe_len]
  have hsl := said_len (lput l)
  have htk : (lframe l ++ rest).take ((lput l).length + 3) = said (lput l) := by
    unfold lframe
    rw [List.append_assoc, List.take_append_of_le_length (by omega), List.take_of_length_le (by omega)]
  have hdr : ((lframe l ++ rest).drop ((lput l).length + 3)).take 8 = lmark (said (lput l)) := by
    unfold lframe
    rw [List.append_assoc, ← hsl, List.drop_left, List.take_append_of_le_length (by rw [lmark_len]; exact Nat.le_refl _), List.take_of_length_le (by rw [lmark_len]; exact Nat.le_refl _)]
  unfold lfirst
  rw [if_neg (by omega), hE, if_neg (by omega), htk, hdr, if_pos rfl]
  have h3 : (said (lput l)).drop 3 = lput l := by simp [said]
  rw [h3, lget_lput hg.1 hg.2, lframe_len]
  rfl
theorem lframes_flat : ∀ (ls : List (List Int)) (rest : List UInt8), (∀ l ∈ ls, Good l) → lframes (ls.flatMap lframe ++ rest) = (ls ++ (lframes rest).1, (ls.flatMap lframe).length + (lframes rest).2)
  | [], rest, _ => by simp
  | l :: ls, rest, h => by
    rw [List.flatMap_cons, List.append_assoc, lframes_some (lfirst_frame (h l (by simp)) _)]
    simp only
    rw [List.drop_left, lframes_flat ls rest (fun x hx => h x (by simp [hx]))]
    simp [Nat.add_assoc]
theorem lend_take {b : List UInt8} {k : Nat} (h : 3 ≤ k) : lend (b.take k) = lend b := by
  unfold lend
  simp only [List.getD_eq_getElem?_getD, List.getElem?_take]
  rw [if_pos (by omega), if_pos (by omega), if_pos (by omega)]
theorem lfirst_torn {l : List Int} (hg : Good l) {k : Nat} (rest : List UInt8) (hk : k < (lframe l).length) : lfirst ((lframe l ++ rest).take k) = none := by
  have hp := lput_len hg.2 hg.1
  unfold lfirst
  by_cases h3 : k < 3
  · rw [if_pos (by rw [List.length_take]; omega)]
  · rw [if_neg (by rw [List.length_take, List.length_append]; omega)]
    have hE : lend (lframe l ++ rest) = (lput l).length + 3 := by
      unfold lframe
      rw [List.append_assoc]
      exact lend_said (by omega)
    rw [lend_take (by omega), hE, if_pos (by rw [List.length_take]; rw [lframe_len] at hk; omega)]
/-- how many bytes the first m frames have -/
def flen (ls : List (List Int)) (m : Nat) : Nat := ((ls.take m).flatMap lframe).length
theorem flen_succ {ls : List (List Int)} {m : Nat} (h : m < ls.length) : flen ls (m + 1) = flen ls m + (lframe ls[m]).length := by
  unfold flen
  rw [List.take_succ_eq_append_getElem h, List.flatMap_append, List.length_append]
  simp
theorem flen_all (ls : List (List Int)) : flen ls ls.length = (ls.flatMap lframe).length := by
  unfold flen; rw [List.take_length]
theorem lframes_cut {ls : List (List Int)} (hg : ∀ l ∈ ls, Good l) {m k : Nat} (hm : m ≤ ls.length) (h1 : flen ls m ≤ k) (h2 : m < ls.length → k < flen ls (m + 1)) : lframes ((ls.flatMap lframe).take k) = (ls.take m, flen ls m) := by
  have e : ls.flatMap lframe = (ls.take m).flatMap lframe ++ (ls.drop m).flatMap lframe := by rw [← List.flatMap_append, List.take_append_drop]
  have hfl : ((ls.take m).flatMap lframe).length = flen ls m := rfl
  rw [e, List.take_append, hfl, List.take_of_length_le (by omega), lframes_flat _ _ (fun l hl => hg l (List.mem_of_mem_take hl)), hfl]
  have hn : lframes (((ls.drop m).flatMap lframe).take (k - flen ls m)) = ([], 0) := by
    apply lframes_none
    by_cases hml : m < ls.length
    · have h3 := h2 hml
      rw [flen_succ hml] at h3
      rw [drop_cons hml, List.flatMap_cons]
      exact lfirst_torn (hg _ (List.getElem_mem hml)) _ (by omega)
    · rw [List.drop_of_length_le (by omega), List.flatMap_nil, List.take_nil]
      unfold lfirst
      rw [if_pos (by simp)]
  rw [hn]
  simp
theorem byt_inj {d e : UInt64} (h : bytes8 d = bytes8 e) : d = e := by
  rw [show bytes8 d = [byt d 0, byt d 1, byt d 2, byt d 3, byt d 4, byt d 5, byt d 6, byt d 7] from rfl, show bytes8 e = [byt e 0, byt e 1, byt e 2, byt e 3, byt e 4, byt e 5, byt e 6, byt e 7] from rfl] at h
  simp only [List.cons.injEq, and_true] at h
  have hk : ∀ k, byt d k = byt e k → d.toNat / 2 ^ (56 - 8 * k) % 256 = e.toNat / 2 ^ (56 - 8 * k) % 256 := fun k hk => by
    have := congrArg UInt8.toNat hk
    simpa [byt] using this
  obtain ⟨h0, h1, h2, h3, h4, h5, h6, h7⟩ := h
  have g0 := hk 0 h0
  have g1 := hk 1 h1
  have g2 := hk 2 h2
  have g3 := hk 3 h3
  have g4 := hk 4 h4
  have g5 := hk 5 h5
  have g6 := hk 6 h6
  have g7 := hk 7 h7
  have hd := d.toNat_lt
  have he := e.toNat_lt
  simp only [Nat.reduceMul, Nat.reduceSub, Nat.reducePow] at g0 g1 g2 g3 g4 g5 g6 g7
  apply UInt64.toNat.inj
  omega
theorem fnv_set {l : List UInt8} {i : Nat} (d : UInt64) (h : i < l.length) {v : UInt8} (hv : v ≠ l[i]) : fnv d (l.set i v) ≠ fnv d l := by
  intro e
  have e1 : l = l.take i ++ l[i] :: l.drop (i + 1) := by rw [← drop_cons h, List.take_append_drop]
  have e2 : l.set i v = l.take i ++ v :: l.drop (i + 1) := by rw [List.set_eq_take_append_cons_drop, if_pos h]
  rw [e2] at e
  have e3 : fnv d (l.take i ++ v :: l.drop (i + 1)) = fnv d (l.take i ++ l[i] :: l.drop (i + 1)) := by rw [← e1]; exact e
  rw [fnv_app, fnv_app, fnv_cons, fnv_cons] at e3
  exact hv (stp_inj2 _ _ _ (fnv_inj _ _ _ e3))
theorem lend_set {b : List UInt8} {i : Nat} {v : UInt8} (h : 3 ≤ i) : lend (b.set i v) = lend b := by
  unfold lend
  simp only [List.getD_eq_getElem?_getD]
  rw [List.getElem?_set_ne (by omega), List.getElem?_set_ne (by omega), List.getElem?_set_ne (by omega)]
theorem lfirst_changed {l : List Int} (hg : Good l) {i : Nat} (h3 : 3 ≤ i) (hi : i < (lframe l).length) {v : UInt8} (hv : v ≠ (lframe l)[i]) : lfirst ((lframe l).set i v) = none := by
  have hp := lput_len hg.2 hg.1
  have hsl := said_len (lput l)
  have hE : lend (lframe l) = (lput l).length + 3 := by
    unfold lframe
    exact lend_said (by omega)
  have hlf := lframe_len l
  unfold lfirst
  rw [List.length_set, if_neg (by omega), lend_set h3, hE, if_neg (by omega), ← hsl]
  by_cases his : i < (said (lput l)).length
  · have e1 : (lframe l).set i v = (said (lput l)).set i v ++ lmark (said (lput l)) := by unfold lframe; rw [List.set_append_left _ _ his]
    have hv2 : v ≠ (said (lput l))[i] := by
      intro e
      apply hv
      rw [e]
      simp only [lframe]
      rw [List.getElem_append_left his]
    have e2 : (((lframe l).set i v).drop (said (lput l)).length).take 8 = lmark (said (lput l)) := by
      rw [e1, List.drop_append, List.drop_of_length_le (by rw [List.length_set]; exact Nat.le_refl _), List.length_set, Nat.sub_self, List.drop_zero, List.nil_append, List.take_of_length_le (by rw [lmark_len]; exact Nat.le_refl _)]
    have e3 : ((lframe l).set i v).take (said (lput l)).length = (said (lput l)).set i v := by
      rw [e1, List.take_append, List.length_set, Nat.sub_self, List.take_zero, List.append_nil, List.take_of_length_le (by rw [List.length_set]; exact Nat.le_refl _)]
    rw [e2, e3, if_neg]
    intro e
    exact fnv_set fnv0 his hv2 (byt_inj e).symm
  · have e1 : (lframe l).set i v = said (lput l) ++ (lmark (said (lput l))).set (i - (said (lput l)).length) v := by unfold lframe; rw [List.set_append_right _ _ (by omega)]
    have hj : i - (said (lput l)).length < (lmark (said (lput l))).length := by rw [lmark_len]; omega
    have hv2 : v ≠ (lmark (said (lput l)))[i - (said (lput l)).length] := by
      intro e
      apply hv
      rw [e]
      simp only [lframe]
      rw [List.getElem_append_right (by omega)]
    have e2 : (((lframe l).set i v).drop (said (lput l)).length).take 8 = (lmark (said (lput l))).set (i - (said (lput l)).length) v := by
      rw [e1, List.drop_left, List.take_of_length_le (by rw [List.length_set, lmark_len]; exact Nat.le_refl _)]
    have e3 : ((lframe l).set i v).take (said (lput l)).length = said (lput l) := by
      rw [e1, List.take_left]
    rw [e2, e3, if_neg]
    intro e
    have := congrArg (fun x => x[i - (said (lput l)).length]?) e
    simp only [List.getElem?_set_self hj, List.getElem?_eq_getElem hj, Option.some.injEq] at this
    exact hv2 this
end Go.Proofs.Ytpgnlmhkigpjgaa
