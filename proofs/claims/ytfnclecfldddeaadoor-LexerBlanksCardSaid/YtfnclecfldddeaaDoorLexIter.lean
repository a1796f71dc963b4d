/-
  The iterator over the tokens of a source: its contract.
-/
import Derived.Test.YtfnclecfldddeaaDoorLexLong
import Derived.Test.YtfnclecfldddeaaDoorLexKindM
import Derived.Deep.RegionHeld3
namespace Go.Proofs.YtfnclecfldddeaaDoor
open Go.RowKit Go.Shelf
attribute [local go_sem] Oper.semAt_some
set_option maxRecDepth 100000

/-- the tokens of a source, up to the first place where none begins: what is there comes last, and has no kind -/
def rawG : Nat → Nat → List UInt8 → List Tok
  | 0, _, _ => []
  | f + 1, line, s =>
    match s.drop (skipF false s) with
    | [] => []
    | c :: r => ⟨kindF ((c :: r).take (sizeF (c :: r))), line + nl (s.take (skipF false s)), (c :: r).take (sizeF (c :: r))⟩ ::
      (if kindF ((c :: r).take (sizeF (c :: r))) = 0 then [] else rawG f (line + nl (s.take (skipF false s))) ((c :: r).drop (sizeF (c :: r))))
theorem raw_nil {f line : Nat} {s : List UInt8} (h : s.drop (skipF false s) = []) : rawG f line s = [] := by
  cases f with
  | zero => rfl
  | succ f => rw [rawG, h]
theorem raw_cons {f line : Nat} {s q : List UInt8} (hq : q ≠ []) (h : s.drop (skipF false s) = q) : rawG (f + 1) line s =
    ⟨kindF (q.take (sizeF q)), line + nl (s.take (skipF false s)), q.take (sizeF q)⟩ ::
      (if kindF (q.take (sizeF q)) = 0 then [] else rawG f (line + nl (s.take (skipF false s))) (q.drop (sizeF q))) := by
  cases q with
  | nil => exact absurd rfl hq
  | cons c r => rw [rawG, h]
def rawF (s : List UInt8) : List Tok := rawG (s.length + 1) 1 s
def encT (x : Tok) : Array Value := #[.agg #[.int .i64 x.k, .int .i64 x.n, .string ⟨x.t.toArray⟩]]

theorem belA {w0 w : World} {p : Prop} (h : Below w0.heap.size w0 w ∧ p) (o : Obj) : Below w0.heap.size w0 (w.alloc o) := h.1.alloc h.1.size o
theorem belB {w0 w : World} (h : Below w0.heap.size w0 w) (o : Obj) : Below w0.heap.size w0 (w.alloc o) := h.alloc h.size o
theorem belR (w : World) (o : Obj) : Below w.heap.size w (w.alloc o) := (Below.refl _ w).alloc (Nat.le_refl _) o
theorem belS3 {w0 w : World} {B : Nat} (h : Below w0.heap.size w0 w) (hB : w0.heap.size ≤ B) (a b c : Value) : Below w0.heap.size w0 (((w.setCell ⟨B, 0, none⟩ a).setCell ⟨B, 1, none⟩ b).setCell ⟨B, 2, none⟩ c) :=
  ((h.setCell (p := ⟨B, 0, none⟩) hB a).setCell (p := ⟨B, 1, none⟩) hB b).setCell (p := ⟨B, 2, none⟩) hB c
theorem Own.drew {w : World} {B : Nat} {xs : List Value} (h : Own w B xs) : Own w.drew B xs := ⟨h.cell, h.fro, h.lt⟩
theorem own_set {w : World} {B i : Nat} {xs : List Value} (h : Own w B xs) (v : Value) (hi : i < xs.length) : Own (w.setCell ⟨B, i, none⟩ v) B (xs.set i v) := by
  refine ⟨fun j x hj => ?_, fun j x hj => ?_, by simpa using h.lt⟩
  · by_cases e : i = j
    · subst e
      rw [List.getElem?_set_self hi] at hj
      cases hj
      exact World.cell?_setCell_same _ _ _ (h.cell i xs[i] (List.getElem?_eq_getElem hi))
    · rw [List.getElem?_set_ne e] at hj
      rw [World.cell?_setCell_other _ _ _ _ (by simp)]
      exact h.cell j x hj
  · have hj' : j < xs.length := by
      have := (List.getElem?_eq_some_iff.1 hj).1
      simpa using this
    rw [World.frozen?_setCell]
    exact h.fro j xs[j] (List.getElem?_eq_getElem hj')
theorem Own.set3 {w : World} {B : Nat} {x y z : Value} (h : Own w B [x, y, z]) (a b c : Value) : Own (((w.setCell ⟨B, 0, none⟩ a).setCell ⟨B, 1, none⟩ b).setCell ⟨B, 2, none⟩ c) B [a, b, c] :=
  own_set (own_set (own_set h a (i := 0) (by simp)) b (i := 1) (by simp)) c (i := 2) (by simp)
theorem Own.three {w : World} {B : Nat} {x y z : Value} (h : Own w B [x, y, z]) : w.cell? ⟨B, 0, none⟩ = some x ∧ w.cell? ⟨B, 1, none⟩ = some y ∧ w.cell? ⟨B, 2, none⟩ = some z ∧ w.frozen? ⟨B, 0, none⟩ = false ∧ w.frozen? ⟨B, 1, none⟩ = false ∧ w.frozen? ⟨B, 2, none⟩ = false ∧ B < w.heap.size :=
  ⟨h.cell 0 _ rfl, h.cell 1 _ rfl, h.cell 2 _ rfl, h.fro 0 _ rfl, h.fro 1 _ rfl, h.fro 2 _ rfl, h.lt⟩
theorem Own.block {w : World} {B : Nat} {x : Value} {r : List Value} (h : Own w B (x :: r)) : ∃ xs t fr, w.heap[B]? = some (.cells xs t fr) := by
  have h0 := h.cell 0 x rfl
  unfold World.cell? at h0
  cases hb : w.heap[B]? with
  | none => rw [hb] at h0; cases h0
  | some o =>
    rw [hb] at h0
    cases o with
    | cells xs t fr => exact ⟨xs, t, fr, rfl⟩
    | _ => cases h0
theorem Own.same {w w' : World} {B : Nat} {xs : List Value} (h : Own w B xs) (hb : w'.heap[B]? = w.heap[B]?) : Own w' B xs := by
  have hc : ∀ i, w'.cell? ⟨B, i, none⟩ = w.cell? ⟨B, i, none⟩ := fun i => by unfold World.cell?; simp only [hb]
  have hf : ∀ i, w'.frozen? ⟨B, i, none⟩ = w.frozen? ⟨B, i, none⟩ := fun i => by unfold World.frozen?; simp only [hb]
  refine ⟨fun i v hi => (hc i).trans (h.cell i v hi), fun i v hi => (hf i).trans (h.fro i v hi), ?_⟩
  have e : w.heap[B]? = some (w.heap[B]'h.lt) := Array.getElem?_eq_getElem h.lt
  rw [e] at hb
  exact (Array.getElem?_eq_some_iff.1 hb).1
theorem bcell {W w1 : World} (hb : Below W.heap.size W w1) : (∀ b o, b < W.heap.size → w1.cell? ⟨b, o, none⟩ = W.cell? ⟨b, o, none⟩) ∧ (∀ b o, b < W.heap.size → w1.frozen? ⟨b, o, none⟩ = W.frozen? ⟨b, o, none⟩) :=
  ⟨fun b o h => hb.cell (p := ⟨b, o, none⟩) h, fun b o h => hb.frozen (p := ⟨b, o, none⟩) h⟩
theorem SkAt.below {w w1 : World} {bl bc : Nat} {L : Int} {c : Bool} (h : SkAt w bl bc L c) (hb : Below w.heap.size w w1) : SkAt w1 bl bc L c :=
  ⟨(hb.block _ (Array.getElem?_eq_some_iff.1 h.line).1).trans h.line, (hb.block _ (Array.getElem?_eq_some_iff.1 h.note).1).trans h.note⟩
def strLen (v : Value) : Nat := match v with | .string s => s.size | _ => 0
set_option maxHeartbeats 4000000 in
theorem iter_gives (s : List UInt8) (hs : s.length ≤ 20000) (bs : Nat) (n : Nat) (w : World) (h2 : 2 ≤ n) (hO0 : Own w bs [.string ⟨s.toArray⟩]) :
    Gives TS 36 Fence.wide n Tryd.prog 29 #[.pointer (some ⟨bs, 0, none⟩)] encT Lay (rawF s) w := by
  intro l J Jx Mine W hW hJ hJx hM hInv hY h0
  have h1 : 1 ≤ n - 1 := by omega
  have hO := hO0.below hW
  clear hO0
  obtain ⟨cs, fs, zs⟩ := hO.one
  have hk2 : ∀ w', Below W.heap.size W w' → Below W.heap.size W w' ∧ w'.cell? ⟨bs, 0, none⟩ = some (.string ⟨s.toArray⟩) := fun w' h => ⟨h, (h.cell (p := ⟨bs, 0, none⟩) zs).trans cs⟩
  have hmf : ∀ (fn : Fn) (first cap : Array Value) (w : World), (Instr.makeFunc fn first cap).run Tryd.prog w = .ok (.func fn first cap) w := fun _ _ _ _ => rfl
  refine callsIn_of_wp Tryd.func29 rfl trivial ?_ rfl
  simp only [Tryd.ntmps29, List.size_toArray, List.length_cons, List.length_nil, Nat.reduceAdd, Nat.reduceSub, Array.replicate_succ, Array.replicate_zero, List.push_toArray, List.append_toArray, List.nil_append, List.cons_append]
  gi_wp2
  refine wpIn_mono (Q := fun e a' w' => e = .normal ∧ ∃ k, W.heap.size ≤ k ∧ Known w' k ∧ Below W.heap.size W w' ∧ a' = { tmps := #[.func (.yield l) #[] #[], .pointer (some ⟨bs, 0, none⟩), undef, .slice (some ⟨k, 0, none⟩) 4 4, .string ⟨s.toArray⟩, undef, undef, undef, undef, undef, .slice (some ⟨k, 0, none⟩) 4 4, .string ⟨s.toArray⟩, undef, undef, undef, undef, undef, undef, undef, undef, undef, undef, undef, undef, undef, undef, undef, undef, undef, undef, undef, undef, undef, undef, undef, undef, undef, undef, undef, undef, undef, undef], defers := [] }) ?_ ?_
  · refine wpIn_wide.2 ?_
    go_region_held3 (fun w' => Below W.heap.size W w' ∧ w'.cell? ⟨bs, 0, none⟩ = some (.string ⟨s.toArray⟩)) (exact hk2 _ (by first | exact Below.refl _ _ | assumption | exact Below.drew (by assumption) | exact Below.drew (Below.refl _ _)))
      (first | (go_at_call 30; refine (kinds_any _).mono ?_; rintro e wK ⟨rfl, hKn, hKb⟩; have hK1 := Below.trans (And.left (show Below W.heap.size W _ ∧ _ by assumption)) (hKb.mono (And.left (show Below W.heap.size W _ ∧ _ by assumption)).size)))
    exact ⟨rfl, _, Nat.le_refl _, hKn, hK1, rfl⟩
  · rintro e a' W0 ⟨rfl, k, hkW, hKn, hb0, rfl⟩
    have hJ0 := hJ _ _ _ h0 (Turn.of_below (Nat.le_refl _) hb0)
    clear hk2 cs fs zs hO h0
    gi_wp2
    obtain ⟨bl, hbl⟩ : ∃ bl, W0.heap.size = bl := ⟨_, rfl⟩
    obtain ⟨bc, hbc⟩ : ∃ bc, W0.heap.size + 1 = bc := ⟨_, rfl⟩
    obtain ⟨W1, hW1⟩ : ∃ W1, (W0.alloc (.cells #[.int .i64 1] 3)).alloc (.cells #[.bool false] 4) = W1 := ⟨_, rfl⟩
    have hbw1 : Below W0.heap.size W0 W1 := by rw [← hW1]; exact ((Below.refl _ W0).alloc (Nat.le_refl _) _).alloc (by simp) _
    have hs1 : SkAt W1 bl bc 1 false := by
      rw [← hW1, ← hbc, ← hbl]
      refine ⟨(Below.heap_alloc _ _ _ (by simp)).trans (World.alloc_heap_new _ _), ?_⟩
      have := World.alloc_heap_new (W0.alloc (.cells #[.int .i64 1] 3)) (.cells #[.bool false] 4)
      rwa [World.size_alloc] at this
    have hJ1 := hJ _ _ _ hJ0 (Turn.of_below hb0.size hbw1)
    have hkept1 : W.heap.size ≤ W1.heap.size := Nat.le_trans hb0.size hbw1.size
    have hkn1 := hKn.below hbw1
    have hlo1 : W.heap.size ≤ bl ∧ W.heap.size ≤ bc := by have := hb0.size; omega
    rw [hW1, hbc, hbl]
    clear hW1 hbl hbc hb0 hKn hJ0 hbw1
    gi_loopw [4] (fun rest wr => ∃ (f line : Nat) (q : List UInt8) (pre : List Tok), rest = .string ⟨q.toArray⟩ ∧ q.length ≤ f ∧ q.length + line ≤ s.length + 1 ∧ SkAt wr bl bc line false ∧ Known wr k ∧ W.heap.size ≤ wr.heap.size ∧ J pre wr ∧ rawF s = pre ++ rawG (f + 1) line q)
      (fun rest _ => strLen rest)
    case atStart => exact ⟨s.length, 1, s, [], rfl, Nat.le_refl _, by omega, hs1, hkn1, hkept1, hJ1, rfl⟩
    case round =>
      obtain ⟨f, line, q, pre, rfl, hqf, hql, hsk, hkn, hkept, hJr, hraw⟩ := hrel
      have hrun := run_skip q (by omega) W.heap.size bl bc line wr hsk (by omega) hlo1.1 hlo1.2 hkept
      have hfr := bfrom q (skipF false q)
      have hsl := skip_le q false
      rw [← bsz q] at hsl
      have hlen2 : (q.drop (skipF false q)).length + (line + nl (q.take (skipF false q))) ≤ s.length + 1 := by
        have h1 : nl (q.take (skipF false q)) ≤ (q.take (skipF false q)).length := List.count_le_length
        have h2 : (q.drop (skipF false q)).length + (q.take (skipF false q)).length = q.length := by rw [List.length_drop, List.length_take]; have := skip_le q false; omega
        omega
      have hlq : (q.drop (skipF false q)).length ≤ q.length := by rw [List.length_drop]; omega
      have hmlt : q.drop (skipF false q) ≠ [] → skipF false q < q.length := fun h => by
        have := List.length_pos_iff.2 h; rw [List.length_drop] at this; omega
      have hnil := fun h : q.drop (skipF false q) = [] => raw_nil (f := f + 1) (line := line) h
      have hcons := fun (h : q.drop (skipF false q) ≠ []) => raw_cons (f := f) (line := line) h rfl
      have hmeas : strLen (.string ⟨q.toArray⟩) = q.length := bsz q
      clear hs1 hkn1 hkept1 hJ1
      obtain ⟨Q, hQ⟩ : ∃ Q, (⟨q.toArray⟩ : ByteArray) = Q := ⟨_, rfl⟩
      rw [hQ] at hrun hfr hsl hmeas ⊢
      clear hQ
      unfold RunEnd at hrun
      generalize hn : skipF false q = m at *
      generalize hq2 : q.drop m = q2 at *
      have HM := Lib.hid hmeas
      have HF := Lib.hid hfr
      obtain ⟨D, hD⟩ : ∃ D, (⟨q2.toArray⟩ : ByteArray) = D := ⟨_, rfl⟩
      rw [hD] at hfr
      have HD := Lib.hid hD
      clear hmeas HF hD hn hq2
      gi_wp2
      refine ⟨trivial, fun _ => by omega, ?_⟩
      refine (callsIn_wide.2 hrun).mono ?_
      rintro e w1 ⟨rfl, ⟨c', hsk1, hc'⟩, ht1⟩
      have hJ2 := hJ _ _ _ hJr ht1
      have hkn2 : Known w1 k := ht1.2 _ _ hkn rfl
      have hkept2 : W.heap.size ≤ w1.heap.size := Nat.le_trans hkept ht1.1.size
      clear hrun hJr hkn hkept hsk ht1
      by_cases hz : q2 = []
      · subst hz
        have hE : D.toList.isEmpty = true := by rw [← HD.out, Lib.toList_data]; rfl
        have HN := Lib.hid (hnil rfl)
        have HR0 := Lib.hid hraw
        clear hnil hraw
        clear hcons hmlt hc' hsk1
        gi_wp2
        go_end0
        exact ⟨⟨_, rfl⟩, .inl (by rw [HR0.out, HN.out, List.append_nil]; exact hJ2)⟩
      · obtain rfl := hc' (hmlt hz)
        have hE : D.toList.isEmpty = false := by
          rw [← HD.out, Lib.toList_data]
          cases q2 with
          | nil => exact absurd rfl hz
          | cons c r => rfl
        obtain ⟨L, hLd⟩ : ∃ L : Nat, L = line + nl (q.take m) := ⟨_, rfl⟩
        have hsk2 : SkAt w1 bl bc (L : Int) false := by rw [hLd]; push_cast; exact hsk1
        have hcons2 := hcons hz
        rw [← hLd] at hcons2 hlen2
        have hlong := longest_any q2 hz (by omega) w1
        have hzs := size_le q2 hz
        have hz1 := size_pos hz
        have hTl : (q2.take (sizeF q2)).length = sizeF q2 := by rw [List.length_take]; omega
        have hR := bfrom q2 (sizeF q2)
        have hRl : (q2.drop (sizeF q2)).length = q2.length - sizeF q2 := by rw [List.length_drop]
        have hDs := bsz q2
        have hTs := bsz (q2.take (sizeF q2))
        rw [hTl] at hTs
        rw [HD.out] at hlong hR hDs
        have hzs2 : sizeF q2 ≤ D.size := by omega
        obtain ⟨z, hzz⟩ : ∃ z, sizeF q2 = z := ⟨_, rfl⟩
        simp only [hzz] at hcons2 hlong hTl hR hRl hTs hzs hz1 hzs2
        obtain ⟨T, hT⟩ : ∃ T, q2.take z = T := ⟨_, rfl⟩
        obtain ⟨r2, hr2⟩ : ∃ r2, q2.drop z = r2 := ⟨_, rfl⟩
        rw [hT] at hcons2 hlong hTs hTl
        rw [hr2] at hcons2 hR hRl
        have hkind := kind_eq T
        obtain ⟨TB, hTB⟩ : ∃ TB, (⟨T.toArray⟩ : ByteArray) = TB := ⟨_, rfl⟩
        have HTB := Lib.hid hTB
        rw [hTB] at hlong hTs
        obtain ⟨RB, hRB⟩ : ∃ RB, (⟨r2.toArray⟩ : ByteArray) = RB := ⟨_, rfl⟩
        have HRB := Lib.hid hRB
        rw [hRB] at hR
        have HC := Lib.hid hcons2
        have HDs := Lib.hid hDs
        have HR0 := Lib.hid hraw
        clear hnil hcons hmlt hc' hsk1 hLd hzz hT hr2 hTB hRB hcons2 hDs hraw
        gi_wp2
        refine ⟨trivial, fun _ => by omega, ?_⟩
        refine (callsIn_wide.2 hlong).mono ?_
        rintro e w2 ⟨rfl, hx2⟩
        have hsk3 := hsk2.below hx2
        have hkn3 := hkn2.below hx2
        have hJ3 := hJ _ _ _ hJ2 (Turn.of_below hkept2 hx2)
        have hkept3 : W.heap.size ≤ w2.heap.size := Nat.le_trans hkept2 hx2.size
        clear hlong hsk2 hkn2 hJ2 hkept2 hx2
        gi_wp2
        obtain ⟨l0, l1, l2⟩ := blk1 hsk3.line
        have hk3 : ∀ w', Below w2.heap.size w2 w' → Below w2.heap.size w2 w' ∧ w'.cell? ⟨bl, 0, none⟩ = some (.int .i64 L) := fun w' h => ⟨h, (h.cell (p := ⟨bl, 0, none⟩) l2).trans l0⟩
        refine wpIn_mono (Q := fun e a' w' => e = .normal ∧ ∃ k9, w2.heap.size ≤ k9 ∧ Own w' k9 [.int .i64 (kindF T), .int .i64 L, .string TB] ∧ Below w2.heap.size w2 w' ∧ a' = { tmps := #[.func (.yield l) #[] #[], .pointer (some ⟨bs, 0, none⟩), undef, .slice (some ⟨k, 0, none⟩) 4 4, .string RB, .pointer (some ⟨bl, 0, none⟩), .pointer (some ⟨bc, 0, none⟩), .func (.func 31) #[] #[.pointer (some ⟨bl, 0, none⟩), .pointer (some ⟨bc, 0, none⟩)], .string TB, .pointer (some ⟨k9, 0, none⟩), .slice (some ⟨k, 0, none⟩) 4 4, .string ⟨s.toArray⟩, .func (.func 31) #[] #[.pointer (some ⟨bl, 0, none⟩), .pointer (some ⟨bc, 0, none⟩)], .string Q, .string Q, .func (.func 31) #[] #[.pointer (some ⟨bl, 0, none⟩), .pointer (some ⟨bc, 0, none⟩)], .int .i64 m, .string D, .string D, .bool false, .string D, .string TB, .string D, .string TB, .int .i64 z, .string RB, .slice (some ⟨k, 0, none⟩) 4 4, .string TB, .int .i64 (kindF T), .int .i64 L, .string TB, .string TB, .agg #[.int .i64 (kindF T), .int .i64 L, .string TB], u33, u34, u35, u36, u37, u38, u39, u40, u41], defers := [] }) ?_ ?_
        · refine wpIn_wide.2 ?_
          have hKd : ∀ w', Below w2.heap.size w2 w' → Calls Tryd.prog 34 #[.slice (some ⟨k, 0, none⟩) 4 4, .string TB] w' (Ret (.int .i64 (kindF T)) w') := fun w' h => by
            have := kindOf_any T (by omega) k 4 w' ((hInv _ _ hJ3).below h) (hkn3.below h)
            rw [hkind, HTB.out] at this; exact this
          have hCl : ∀ w', Calls Tryd.prog 35 #[.string TB] w' (Ret (.string TB) w') := fun w' => by
            have := clone_any T (by omega) w'
            rw [HTB.out] at this; exact this
          go_region_held3 (fun w' => Below w2.heap.size w2 w' ∧ w'.cell? ⟨bl, 0, none⟩ = some (.int .i64 L)) (exact hk3 _ (by first | exact Below.refl _ _ | assumption | exact Below.drew (by assumption) | exact Below.drew (Below.refl _ _) | exact belA (by assumption) _ | exact belR _ _ | exact belS3 (by assumption) (by omega) _ _ _ | exact belB (by assumption) _))
            (first | (go_at_call 34; refine (hKd _ (And.left (by assumption))).mono ?_; rintro e wA ⟨rfl, hxA⟩; have hA1 := Below.trans (And.left (show Below w2.heap.size w2 _ ∧ _ by assumption)) (hxA.mono (And.left (show Below w2.heap.size w2 _ ∧ _ by assumption)).size); have hgA := hA1.size; obtain ⟨hcA, hfA⟩ := bcell hxA; have hsA := hxA.size; (try simp at hsA); (try have hzA : w2.heap.size < wA.heap.size := (by omega)); clear hsA) | (go_at_call 35; refine (hCl _).mono ?_; rintro e wC ⟨rfl, hxC⟩; have hC1 := Below.trans (And.left (show Below w2.heap.size w2 _ ∧ _ by assumption)) (hxC.mono (And.left (show Below w2.heap.size w2 _ ∧ _ by assumption)).size); have hgC := hC1.size; obtain ⟨hcC, hfC⟩ := bcell hxC; have hsC := hxC.size; (try simp at hsC); (try have hzC : w2.heap.size < wC.heap.size := (by omega)); (try have hzC2 : wA.heap.size < wC.heap.size := (by omega)); clear hsC))
          all_goals
            refine ⟨rfl, _, ?_, ?_, ?_, rfl⟩
            · omega
            · first | exact Own.new _ _ _ | exact Own.set3 ((Own.new wA #[.int .i64 0, .int .i64 0, .string ⟨#[]⟩] 36).below hxC) _ _ _ | exact Own.set3 (((Own.new w2 #[.int .i64 0, .int .i64 0, .string ⟨#[]⟩] 36).drew.below hxA).below hxC) _ _ _ | exact Own.set3 (((Own.new w2 #[.int .i64 0, .int .i64 0, .string ⟨#[]⟩] 36).below hxA).below hxC) _ _ _ | exact Own.set3 ((Own.new wA #[.int .i64 0, .int .i64 0, .string ⟨#[]⟩] 36).drew.below hxC) _ _ _
            · first | exact belB (by assumption) _ | exact belS3 (by assumption) (by omega) _ _ _
        · rintro e a' w3 ⟨rfl, k9, hk9, ht9, hx3, rfl⟩
          have hsk4 := hsk3.below hx3
          have hkn4 := hkn3.below hx3
          have hJ4 := hJ _ _ _ hJ3 (Turn.of_below hkept3 hx3)
          have hkept4 : W.heap.size ≤ w3.heap.size := Nat.le_trans hkept3 hx3.size
          have hmine : ∀ b, w2.heap.size ≤ b → ¬ Mine w3 b := fun b hb hm => by
            obtain ⟨xs, fr, h⟩ := hM.kind pre w2 b hJ3 (hM.stay pre w2 w3 b hJ3 (Turn.of_below hkept3 hx3) hm)
            have := (Array.getElem?_eq_some_iff.1 h).1
            omega
          have hpre : pre ++ [⟨kindF T, L, T⟩] <+: rawF s := by rw [HR0.out, HC.out]; exact ⟨_, by rw [List.append_assoc]; rfl⟩
          obtain ⟨fn, tmps, assign, body, hyy, hR5⟩ := hY pre ⟨kindF T, L, T⟩ w3 hJ4 hpre
          dsimp only [encT] at hyy
          rw [HTB.out] at hyy
          obtain ⟨t0, t1, t2, _, _, _, tz⟩ := ht9.three
          clear hk3 hsk3 hkn3 hJ3 hx3 l0 l1 l2
          gi_wp2
          refine ⟨fun _ => by omega, ?_⟩
          refine hR5.mono ?_
          rintro e W3 (⟨rfl, hJ5, hk5⟩ | ⟨rfl, hJx5⟩)
          · have ht9' : Own W3 k9 [.int .i64 (kindF T), .int .i64 L, .string TB] := by
              obtain ⟨xs, t, fr, hb⟩ := ht9.block
              exact ht9.same ((hk5.2 k9 xs t fr (by omega) hb (hmine k9 hk9)).trans hb.symm)
            have hother : ∀ (b : Nat) (xs : Array Value) (t : TypeId) (fr : Nat × Nat), W.heap.size ≤ b → w3.heap[b]? = some (.cells xs t fr) → t ≠ 36 → W3.heap[b]? = some (.cells xs t fr) := fun b xs t fr hWb hb ht => hk5.2 b xs t fr hWb hb (fun hm => by
              obtain ⟨xs', fr', h⟩ := hM.kind pre w3 b hJ4 hm
              rw [hb] at h
              cases h
              exact ht rfl)
            have hsk5 : SkAt W3 bl bc L false := ⟨hother _ _ _ _ hlo1.1 hsk4.line (by decide), hother _ _ _ _ hlo1.2 hsk4.note (by decide)⟩
            have hkn5 : Known W3 k := hother _ _ _ _ hkW hkn4 (by decide)
            have hkept5 : W.heap.size ≤ W3.heap.size := Nat.le_trans hkept4 hk5.1
            obtain ⟨g0, g1, g2, _, _, _, gz⟩ := ht9'.three
            clear hsk4 hkn4 hJ4 hkept4 t0 t1 t2 tz ht9 ht9' hmine hR5 hyy hother hk5
            by_cases hk0 : kindF T = 0
            · have hk0' : (((kindF T : Nat) : Int) == 0) = true := by rw [beq_iff_eq]; omega
              have HK := Lib.hid hk0
              clear hk0
              gi_wp2
              go_end0
              refine ⟨⟨_, rfl⟩, .inl ?_⟩
              rw [HR0.out, HC.out, if_pos HK.out]; exact hJ5
            · have hk0' : (((kindF T : Nat) : Int) == 0) = false := by rw [beq_eq_false_iff_ne]; omega
              have HK := Lib.hid hk0
              clear hk0
              obtain ⟨f', rfl⟩ : ∃ f', f = f' + 1 := ⟨f - 1, by omega⟩
              gi_wp2
              go_roundw
              case rel =>
                repeat apply Exists.intro
                exact ⟨⟨f', L, r2, pre ++ [⟨kindF T, L, T⟩], by rw [HRB.out], by omega, by omega, hsk5, hkn5, hkept5, hJ5, by rw [HR0.out, HC.out, if_neg HK.out, List.append_assoc]; rfl⟩, rfl⟩
              case measure =>
                show strLen (.string RB) < strLen (.string Q)
                have : strLen (.string RB) = r2.length := by rw [← HRB.out]; exact bsz r2
                rw [HM.out, this]; omega
          · gi_wp2
            go_end0
            exact ⟨⟨_, rfl⟩, .inr ⟨_, hpre, hJx5⟩⟩
end Go.Proofs.YtfnclecfldddeaaDoor
