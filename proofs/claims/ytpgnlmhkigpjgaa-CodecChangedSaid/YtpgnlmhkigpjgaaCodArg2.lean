/-
  Arguments are no longer than their room; what the codec's functions give, in one form.
-/
import Derived.Test.YtpgnlmhkigpjgaaCodFrms
namespace Go.Proofs.Ytpgnlmhkigpjgaa
open Go.ChangeShapes Go.WideShapes Go.RowKit Go.Deep

theorem fat_row {H : Type} {enc : TypeId × Value → H} {W : World} {base : Nat} {held : Bool} {t e : TypeId} {k : IntKind} {p : Option Addr} {n c : Nat} {d : DataW H} {ps : List MemPlace}
    (ht : Try.prog.underlying t = some (.slice e)) (he : Try.prog.underlying e = some (.int k)) (hc : Try.prog.cellsOf e = 1)
    (h : DataW.Trod enc Try.prog W base (fun _ => true) held t (.slice p n c) d ps) : Fat (.slice p n c) := by
  obtain ⟨fuel, hf⟩ := h
  rcases open_ints ht he hc hf with ⟨hcs, _⟩ | ⟨a, len, cap, zs, hcs, hb, hlc, _⟩
  · have hcs : Value.slice p n c = .slice none 0 0 := by simpa [Value.cells] using hcs
    cases hcs; exact fat_mk _ (Nat.le_refl _)
  · have hcs : Value.slice p n c = .slice (some a) len cap := by simpa [Value.cells] using hcs
    cases hcs; exact fat_mk _ hlc
theorem fat_bytes {H : Type} {enc : TypeId × Value → H} {W : World} {base : Nat} {held : Bool} {p : Option Addr} {n c : Nat} {d : DataW H} {ps : List MemPlace}
    (h : DataW.Trod enc Try.prog W base (fun _ => true) held 23 (.slice p n c) d ps) : Fat (.slice p n c) := fat_row Try.underlying23 Try.underlying5 (by kernel_rfl) h
theorem fat_ints {H : Type} {enc : TypeId × Value → H} {W : World} {base : Nat} {held : Bool} {p : Option Addr} {n c : Nat} {d : DataW H} {ps : List MemPlace}
    (h : DataW.Trod enc Try.prog W base (fun _ => true) held 22 (.slice p n c) d ps) : Fat (.slice p n c) := fat_row Try.underlying22 Try.underlying3 (by kernel_rfl) h
theorem fat_lists {H : Type} {enc : TypeId × Value → H} {W : World} {base : Nat} {held : Bool} {p : Option Addr} {n c : Nat} {d : DataW H} {ps : List MemPlace}
    (h : DataW.Trod enc Try.prog W base (fun _ => true) held 32 (.slice p n c) d ps) : Fat (.slice p n c) := by
  obtain ⟨fuel, hf⟩ := h
  rcases open_slice1 (cs := [.slice p n c]) Try.underlying32 (by kernel_rfl) (by simpa [Value.cells] using hf) with ⟨hcs, _⟩ | ⟨a, len, cap, m, k, V, D, Pl, hcs, hb, hlc, _⟩
  · simp at hcs
    obtain ⟨rfl, rfl, rfl⟩ := hcs
    exact fat_mk _ (Nat.le_refl _)
  · simp at hcs
    obtain ⟨rfl, rfl, rfl⟩ := hcs
    exact fat_mk _ hlc

/-- what the functions give: the bytes, the lists; the error -/
def putR (l : List Int) : List UInt8 × Int := if l.length ≤ 4000 then (lput l, 0) else ([], 2)
def frameR (l : List Int) : List UInt8 × Int := if l.length ≤ 4000 then (lframe l, 0) else ([], 2)
def getR (b : List UInt8) : List Int × Int := match lget b with
  | some l => (l, 0)
  | none => ([], 7)
def framesR (b : List UInt8) : List (List Int) × Nat × Int := if b.length ≤ 200000 then ((lframes b).1, (lframes b).2, 0) else ([], 0, 2)
def BPost (w : World) (r : List UInt8 × Int) (e : Ending) (w' : World) : Prop := ∃ v', e = .returned (.tuple #[v', .int .i64 r.2]) ∧ Bytes w' v' r.1 ∧ Below w.heap.size w w'
def IPost (w : World) (r : List Int × Int) (e : Ending) (w' : World) : Prop := ∃ v', e = .returned (.tuple #[v', .int .i64 r.2]) ∧ Ints w' v' r.1 ∧ Below w.heap.size w w'
def LPost (w : World) (r : List (List Int) × Nat × Int) (e : Ending) (w' : World) : Prop := ∃ v', e = .returned (.tuple #[v', .int .i64 (r.2.1 : Int), .int .i64 r.2.2]) ∧ Lists w' v' r.1 ∧ Below w.heap.size w w'
theorem lframe_le {l : List Int} (hl : l.length ≤ 4000) (h : ∀ x ∈ l, I64 x) : (lframe l).length ≤ 1000000 := by
  have := lput_len h hl
  rw [lframe_len]; omega
theorem put_all (v : Value) (l : List Int) (w : World) (h : Ints w v l) : Calls Try.prog 10 #[v] w (BPost w (putR l)) := by
  unfold putR
  by_cases hl : l.length ≤ 4000
  · rw [if_pos hl]
    have := lput_len h.2 hl
    exact (Put_any v l w h hl).mono fun e w' ⟨v', h1, h2, h3⟩ => ⟨v', h1, bytes_of_own h2 (by simp only; omega), h3⟩
  · rw [if_neg hl]
    refine (Put_over v l w h (by omega)).mono ?_
    rintro e w' ⟨rfl, rfl⟩
    exact ⟨_, rfl, Row.nil _, Below.refl _ _⟩
theorem refPut_all (v : Value) (l : List Int) (w : World) (h : Ints w v l) : Calls Try.prog 11 #[v] w (BPost w (putR l)) := by
  unfold putR
  by_cases hl : l.length ≤ 4000
  · rw [if_pos hl]
    exact (refPut_any v l w h hl).mono fun e w' ⟨ad, cap, h1, _, h2, h3⟩ => ⟨_, h1, h2, h3⟩
  · rw [if_neg hl]
    refine (refPut_over v l w h (by omega)).mono ?_
    rintro e w' ⟨rfl, rfl⟩
    exact ⟨_, rfl, Row.nil _, Below.refl _ _⟩
theorem frame_all (v : Value) (l : List Int) (w : World) (h : Ints w v l) : Calls Try.prog 13 #[v] w (BPost w (frameR l)) := by
  unfold frameR
  by_cases hl : l.length ≤ 4000
  · rw [if_pos hl]
    have := lframe_le hl h.2
    exact (Frame_any v l w h hl).mono fun e w' ⟨v', h1, h2, h3⟩ => ⟨v', h1, bytes_of_own h2 (by simp only; omega), h3⟩
  · rw [if_neg hl]
    refine (Frame_over v l w h (by omega)).mono ?_
    rintro e w' ⟨rfl, rfl⟩
    exact ⟨_, rfl, Row.nil _, Below.refl _ _⟩
theorem refFrame_all (v : Value) (l : List Int) (w : World) (h : Ints w v l) : Calls Try.prog 14 #[v] w (BPost w (frameR l)) := by
  unfold frameR
  by_cases hl : l.length ≤ 4000
  · rw [if_pos hl]
    have := lframe_le hl h.2
    exact (refFrame_any v l w h hl).mono fun e w' ⟨v', h1, h2, h3⟩ => ⟨v', h1, bytes_of_own h2 (by simp only; omega), h3⟩
  · rw [if_neg hl]
    refine (refFrame_over v l w h (by omega)).mono ?_
    rintro e w' ⟨rfl, rfl⟩
    exact ⟨_, rfl, Row.nil _, Below.refl _ _⟩
theorem ints_nil (w : World) : Ints w (.slice none 0 0) [] := ⟨Row.nil _, by simp⟩
theorem get_all (v : Value) (b : List UInt8) (w : World) (h : Bytes w v b) (hl : b.length ≤ 1000000) : Calls Try.prog 15 #[v] w (IPost w (getR b)) := by
  unfold getR
  cases hg : lget b with
  | none => exact (Get_none v b w h hl hg).mono fun e w' ⟨h1, h2⟩ => ⟨_, h1, ints_nil _, h2⟩
  | some l => exact (Get_some v b w h hl l hg).mono fun e w' ⟨v', h1, h2, h3⟩ => ⟨v', h1, h2.1, h3⟩
theorem refGet_all (v : Value) (b : List UInt8) (w : World) (h : Bytes w v b) (hf : Fat v) (hl : b.length ≤ 1000000) : Calls Try.prog 16 #[v] w (IPost w (getR b)) := by
  have := refGet_any v b w h hf hl
  unfold getR
  cases hg : lget b with
  | none => rw [hg] at this; exact this.mono fun e w' ⟨h1, h2⟩ => ⟨_, h2, ints_nil _, h1⟩
  | some l => rw [hg] at this; exact this.mono fun e w' ⟨h1, v', h2, h3⟩ => ⟨v', h2, h3.1, h1⟩
theorem lists_nil (w : World) : Lists w (.slice none 0 0) [] := ⟨[], Row.nil _, rfl, fun i h => by simp at h⟩
theorem lframes_len : ∀ (n : Nat) (b : List UInt8), b.length ≤ n → (lframes b).1.length ≤ b.length
  | n, b, hn => by
    cases hf : lfirst b with
    | none => rw [lframes_none hf]; simp
    | some p =>
      have hs := lfirst_size hf
      rw [lframes_some hf]
      match n, hn with
      | 0, hn => omega
      | n + 1, hn =>
        have := lframes_len n (b.drop p.2) (by rw [List.length_drop]; omega)
        rw [List.length_drop] at this
        simp only [List.length_cons]
        omega
theorem frames_all (v : Value) (b : List UInt8) (w : World) (h : Bytes w v b) (hf : Fat v) : Calls Try.prog 18 #[v] w (LPost w (framesR b)) := by
  unfold framesR
  by_cases hl : b.length ≤ 200000
  · rw [if_pos hl]
    have := lframes_len _ b (Nat.le_refl _)
    exact (Frames_any v b w h hf hl).mono fun e w' ⟨v', vs, h1, h2, h3, h4⟩ => ⟨v', h1, lists_of_own h2 (by simp only; omega) h3.plain, h4⟩
  · rw [if_neg hl]
    refine (Frames_over v b w h (by omega)).mono ?_
    rintro e w' ⟨rfl, rfl⟩
    exact ⟨_, rfl, lists_nil _, Below.refl _ _⟩
theorem refFrames_all (v : Value) (b : List UInt8) (w : World) (h : Bytes w v b) (hf : Fat v) : Calls Try.prog 19 #[v] w (LPost w (framesR b)) := by
  unfold framesR
  by_cases hl : b.length ≤ 200000
  · rw [if_pos hl]
    have := lframes_len _ b (Nat.le_refl _)
    exact (refFrames_any v b w h hf hl).mono fun e w' ⟨v', vs, h1, h2, h3, h4⟩ => ⟨v', h1, lists_of_own h2 (by simp only; omega) h3.plain, h4⟩
  · rw [if_neg hl]
    refine (refFrames_over v b w h (by omega)).mono ?_
    rintro e w' ⟨rfl, rfl⟩
    exact ⟨_, rfl, lists_nil _, Below.refl _ _⟩
end Go.Proofs.Ytpgnlmhkigpjgaa
