/-
  The tokens of a source, at the program.
-/
import Derived.Test.YthnlenbfknbmcaaGreatDoorQc
import Derived.Test.YthnlenbfknbmcaaGreatDoorQa
import Derived.Deep.RegionHeld3
namespace Go.Proofs.YthnlenbfknbmcaaGreatDoor
open Go.RowKit Go.Shelf
attribute [local go_sem] Oper.semAt_some
set_option maxRecDepth 100000

/-- the tokens of a source, up to the first place where none begins: what is there comes last, and has no kind -/
def rawG : Nat → Nat → List UInt8 → List Tok
  | 0, _, _ => []
  | f + 1, line, s =>
    match s.drop (skipF false s) with
    | [] => []
    | c :: r => ⟨kindF ((c :: r).take (sizeF (c :: r))), line + nl (s.take (skipF false s)), (c :: r).take (sizeF (c :: r))⟩ ::
      (if kindF ((c :: r).take (sizeF (c :: r))) = 0 then [] else rawG f (line + nl (s.take (skipF false s))) ((c :: r).drop (sizeF (c :: r))))
theorem raw_nil {f line : Nat} {s : List UInt8} (h : s.drop (skipF false s) = []) : rawG f line s = [] := by
  cases f with
  | zero => rfl
  | succ f => rw [rawG, h]
theorem raw_cons {f line : Nat} {s q : List UInt8} (hq : q ≠ []) (h : s.drop (skipF false s) = q) : rawG (f + 1) line s =
    ⟨kindF (q.take (sizeF q)), line + nl (s.take (skipF false s)), q.take (sizeF q)⟩ ::
      (if kindF (q.take (sizeF q)) = 0 then [] else rawG f (line + nl (s.take (skipF false s))) (q.drop (sizeF q))) := by
  cases q with
  | nil => exact absurd rfl hq
  | cons c r => rw [rawG, h]
def rawF (s : List UInt8) : List Tok := rawG (s.length + 1) 1 s
def encT (x : Tok) : Array Value := #[.agg #[.int .i64 x.k, .int .i64 x.n, .string ⟨x.t.toArray⟩]]

theorem belA {w0 w : World} {p : Prop} (h : Below w0.heap.size w0 w ∧ p) (o : Obj) : Below w0.heap.size w0 (w.alloc o) := h.1.alloc h.1.size o
theorem belB {w0 w : World} (h : Below w0.heap.size w0 w) (o : Obj) : Below w0.heap.size w0 (w.alloc o) := h.alloc h.size o
theorem belR (w : World) (o : Obj) : Below w.heap.size w (w.alloc o) := (Below.refl _ w).alloc (Nat.le_refl _) o
theorem belS3 {w0 w : World} {B : Nat} (h : Below w0.heap.size w0 w) (hB : w0.heap.size ≤ B) (a b c : Value) : Below w0.heap.size w0 (((w.setCell ⟨B, 0, none⟩ a).setCell ⟨B, 1, none⟩ b).setCell ⟨B, 2, none⟩ c) :=
  ((h.setCell (p := ⟨B, 0, none⟩) hB a).setCell (p := ⟨B, 1, none⟩) hB b).setCell (p := ⟨B, 2, none⟩) hB c
theorem own_set {w : World} {B i : Nat} {xs : List Value} (h : Own w B xs) (v : Value) (hi : i < xs.length) : Own (w.setCell ⟨B, i, none⟩ v) B (xs.set i v) := by
  refine ⟨fun j x hj => ?_, fun j x hj => ?_, by simpa using h.lt⟩
  · by_cases e : i = j
    · subst e
      rw [List.getElem?_set_self hi] at hj
      cases hj
      exact World.cell?_setCell_same _ _ _ (h.cell i xs[i] (List.getElem?_eq_getElem hi))
    · rw [List.getElem?_set_ne e] at hj
      rw [World.cell?_setCell_other _ _ _ _ (by simp)]
      exact h.cell j x hj
  · have hj' : j < xs.length := by
      have := (List.getElem?_eq_some_iff.1 hj).1
      simpa using this
    rw [World.frozen?_setCell]
    exact h.fro j xs[j] (List.getElem?_eq_getElem hj')
theorem Own.set3 {w : World} {B : Nat} {x y z : Value} (h : Own w B [x, y, z]) (a b c : Value) : Own (((w.setCell ⟨B, 0, none⟩ a).setCell ⟨B, 1, none⟩ b).setCell ⟨B, 2, none⟩ c) B [a, b, c] :=
  own_set (own_set (own_set h a (i := 0) (by simp)) b (i := 1) (by simp)) c (i := 2) (by simp)
theorem Own.block {w : World} {B : Nat} {x : Value} {r : List Value} (h : Own w B (x :: r)) : ∃ xs t fr, w.heap[B]? = some (.cells xs t fr) := by
  have h0 := h.cell 0 x rfl
  unfold World.cell? at h0
  cases hb : w.heap[B]? with
  | none => rw [hb] at h0; cases h0
  | some o =>
    rw [hb] at h0
    cases o with
    | cells xs t fr => exact ⟨xs, t, fr, rfl⟩
    | _ => cases h0
theorem Own.same {w w' : World} {B : Nat} {xs : List Value} (h : Own w B xs) (hb : w'.heap[B]? = w.heap[B]?) : Own w' B xs := by
  have hc : ∀ i, w'.cell? ⟨B, i, none⟩ = w.cell? ⟨B, i, none⟩ := fun i => by unfold World.cell?; simp only [hb]
  have hf : ∀ i, w'.frozen? ⟨B, i, none⟩ = w.frozen? ⟨B, i, none⟩ := fun i => by unfold World.frozen?; simp only [hb]
  refine ⟨fun i v hi => (hc i).trans (h.cell i v hi), fun i v hi => (hf i).trans (h.fro i v hi), ?_⟩
  have e : w.heap[B]? = some (w.heap[B]'h.lt) := Array.getElem?_eq_getElem h.lt
  rw [e] at hb
  exact (Array.getElem?_eq_some_iff.1 hb).1
theorem bcell {W w1 : World} (hb : Below W.heap.size W w1) : (∀ b o, b < W.heap.size → w1.cell? ⟨b, o, none⟩ = W.cell? ⟨b, o, none⟩) ∧ (∀ b o, b < W.heap.size → w1.frozen? ⟨b, o, none⟩ = W.frozen? ⟨b, o, none⟩) :=
  ⟨fun b o h => hb.cell (p := ⟨b, o, none⟩) h, fun b o h => hb.frozen (p := ⟨b, o, none⟩) h⟩
theorem SkAt.below {w w1 : World} {bl bc : Nat} {L : Int} {c : Bool} (h : SkAt w bl bc L c) (hb : Below w.heap.size w w1) : SkAt w1 bl bc L c :=
  ⟨(hb.block _ (Array.getElem?_eq_some_iff.1 h.line).1).trans h.line, (hb.block _ (Array.getElem?_eq_some_iff.1 h.note).1).trans h.note⟩
def strLen (v : Value) : Nat := match v with | .string s => s.size | _ => 0
set_option maxHeartbeats 4000000 in
theorem iter_gives (s : List UInt8) (hs : s.length ≤ 20000) (bs : Nat) (n : Nat) (w : World) (h2 : 2 ≤ n) (hO0 : Own w bs [.string ⟨s.toArray⟩]) :
    Gives TS 87 Fence.wide n Tryz.prog 59 #[.pointer (some ⟨bs, 0, none⟩)] encT Lay (rawF s) w := by
  intro l J Jx Mine W hW hJ hJx hM hInv hY h0
  have h1 : 1 ≤ n - 1 := by omega
  have hO := hO0.below hW
  clear hO0
  obtain ⟨cs, fs, zs⟩ := hO.one
  have hk2 : ∀ w', Below W.heap.size W w' → Below W.heap.size W w' ∧ w'.cell? ⟨bs, 0, none⟩ = some (.string ⟨s.toArray⟩) := fun w' h => ⟨h, (h.cell (p := ⟨bs, 0, none⟩) zs).trans cs⟩
  have hmf : ∀ (fn : Fn) (first cap : Array Value) (w : World), (Instr.makeFunc fn first cap).run Tryz.prog w = .ok (.func fn first cap) w := fun _ _ _ _ => rfl
  refine callsIn_of_wp Tryz.func59 rfl trivial ?_ rfl
  simp only [Tryz.ntmps59, List.size_toArray, List.length_cons, List.length_nil, Nat.reduceAdd, Nat.reduceSub, Array.replicate_succ, Array.replicate_zero, List.push_toArray, List.append_toArray, List.nil_append, List.cons_append]
  gi_wp2
  refine wpIn_mono (Q := fun e a' w' => e = .normal ∧ ∃ k, W.heap.size ≤ k ∧ Known w' k ∧ Below W.heap.size W w' ∧ a' = { tmps := #[.func (.yield l) #[] #[], .pointer (some ⟨bs, 0, none⟩), undef, .slice (some ⟨k, 0, none⟩) 4 4, .string ⟨s.toArray⟩, undef, undef, undef, undef, undef, .slice (some ⟨k, 0, none⟩) 4 4, .string ⟨s.toArray⟩, undef, undef, undef, undef, undef, undef, undef, undef, undef, undef, undef, undef, undef, undef, undef, undef, undef, undef, undef, undef, undef, undef, undef, undef, undef, undef, undef, undef, undef, undef], defers := [] }) ?_ ?_
  · refine wpIn_wide.2 ?_
    go_region_held3 (fun w' => Below W.heap.size W w' ∧ w'.cell? ⟨bs, 0, none⟩ = some (.string ⟨s.toArray⟩)) (exact hk2 _ (by first | exact Below.refl _ _ | assumption | exact Below.drew (by assumption) | exact Below.drew (Below.refl _ _)))
      (first | (go_at_call 60; refine (kinds_any _).mono ?_; rintro e wK ⟨rfl, hKn, hKb⟩; have hK1 := Below.trans (And.left (show Below W.heap.size W _ ∧ _ by assumption)) (hKb.mono (And.left (show Below W.heap.size W _ ∧ _ by assumption)).size)))
    exact ⟨rfl, _, Nat.le_refl _, hKn, hK1, rfl⟩
  · rintro e a' W0 ⟨rfl, k, hkW, hKn, hb0, rfl⟩
    have hJ0 := hJ _ _ _ h0 (Turn.of_below (Nat.le_refl _) hb0)
    clear hk2 cs fs zs hO h0
    gi_wp2
    obtain ⟨bl, hbl⟩ : ∃ bl, W0.heap.size = bl := ⟨_, rfl⟩
    obtain ⟨bc, hbc⟩ : ∃ bc, W0.heap.size + 1 = bc := ⟨_, rfl⟩
    obtain ⟨W1, hW1⟩ : ∃ W1, (W0.alloc (.cells #[.int .i64 1] 3)).alloc (.cells #[.bool false] 4) = W1 := ⟨_, rfl⟩
    have hbw1 : Below W0.heap.size W0 W1 := by rw [← hW1]; exact ((Below.refl _ W0).alloc (Nat.le_refl _) _).alloc (by simp) _
    have hs1 : SkAt W1 bl bc 1 false := by
      rw [← hW1, ← hbc, ← hbl]
      refine ⟨(Below.heap_alloc _ _ _ (by simp)).trans (World.alloc_heap_new _ _), ?_⟩
      have := World.alloc_heap_new (W0.alloc (.cells #[.int .i64 1] 3)) (.cells #[.bool false] 4)
      rwa [World.size_alloc] at this
    have hJ1 := hJ _ _ _ hJ0 (Turn.of_below hb0.size hbw1)
    have hkept1 : W.heap.size ≤ W1.heap.size := Nat.le_trans hb0.size hbw1.size
    have hkn1 := hKn.below hbw1
    have hlo1 : W.heap.size ≤ bl ∧ W.heap.size ≤ bc := by have := hb0.size; omega
    rw [hW1, hbc, hbl]
    clear hW1 hbl hbc hb0 hKn hJ0 hbw1
    gi_loopw [4] (fun rest wr => ∃ (f line : Nat) (q : List UInt8) (pre : List Tok), rest = .string ⟨q.toArray⟩ ∧ q.length ≤ f ∧ q.length + line ≤ s.length + 1 ∧ SkAt wr bl bc line false ∧ Known wr k ∧ W.heap.size ≤ wr.heap.size ∧ J pre wr ∧ rawF s = pre ++ rawG (f + 1) line q)
      (fun rest _ => strLen rest)
    case atStart => exact ⟨s.length, 1, s, [], rfl, Nat.le_refl _, by omega, hs1, hkn1, hkept1, hJ1, rfl⟩
    case round =>
      obtain ⟨f, line, q, pre, rfl, hqf, hql, hsk, hkn, hkept, hJr, hraw⟩ := hrel
      have hrun := run_skip q (by omega) W.heap.size bl bc line wr hsk (by omega) hlo1.1 hlo1.2 hkept
      have hfr := bfrom q (skipF false q)
      have hsl := skip_le q false
      rw [← bsz q] at hsl
      have hlen2 : (q.drop (skipF false q)).length + (line + nl (q.take (skipF false q))) ≤ s.length + 1 := by
        have h1 : nl (q.take (skipF false q)) ≤ (q.take (skipF false q)).length := List.count_le_length
        have h2 : (q.drop (skipF false q)).length + (q.take (skipF false q)).length = q.length := by rw [List.length_drop, List.length_take]; have := skip_le q false; omega
        omega
      have hlq : (q.drop (skipF false q)).length ≤ q.length := by rw [List.length_drop]; omega
      have hmlt : q.drop (skipF false q) ≠ [] → skipF false q < q.length := fun h => by
        have := List.length_pos_iff.2 h; rw [List.length_drop] at this; omega
      have hnil := fun h : q.drop (skipF false q) = [] => raw_nil (f := f + 1) (line := line) h
      have hcons := fun (h : q.drop (skipF false q) ≠ []) => raw_cons (f := f) (line := line) h rfl
      have hmeas : strLen (.string ⟨q.toArray⟩) = q.length := bsz q
      clear hs1 hkn1 hkept1 hJ1
      obtain ⟨Q, hQ⟩ : ∃ Q, (⟨q.toArray⟩ : ByteArray) = Q := ⟨_, rfl⟩
      rw [hQ] at hrun hfr hsl hmeas ⊢
      clear hQ
      unfold RunEnd at hrun
      generalize hn : skipF false q = m at *
      generalize hq2 : q.drop m = q2 at *
      have HM := Lib.hid hmeas
      have HF := Lib.hid hfr
      obtain ⟨D, hD⟩ : ∃ D, (⟨q2.toArray⟩ : ByteArray) = D := ⟨_, rfl⟩
      rw [hD] at hfr
      have HD := Lib.hid hD
      clear hmeas HF hD hn hq2
      gi_wp2
      refine ⟨trivial, fun _ => by omega, ?_⟩
      refine (callsIn_wide.2 hrun).mono ?_
      rintro e w1 ⟨rfl, ⟨c', hsk1, hc'⟩, ht1⟩
      have hJ2 := hJ _ _ _ hJr ht1
      have hkn2 : Known w1 k := ht1.2 _ _ hkn rfl
      have hkept2 : W.heap.size ≤ w1.heap.size := Nat.le_trans hkept ht1.1.size
      clear hrun hJr hkn hkept hsk ht1
      by_cases hz : q2 = []
      · subst hz
        have hE : D.toList.isEmpty = true := by rw [← HD.out, Lib.toList_data]; rfl
        have HN := Lib.hid (hnil rfl)
        have HR0 := Lib.hid hraw
        clear hnil hraw
        clear hcons hmlt hc' hsk1
        gi_wp2
        go_end0
        exact ⟨⟨_, rfl⟩, .inl (by rw [HR0.out, HN.out, List.append_nil]; exact hJ2)⟩
      · obtain rfl := hc' (hmlt hz)
        have hE : D.toList.isEmpty = false := by
          rw [← HD.out, Lib.toList_data]
          cases q2 with
          | nil => exact absurd rfl hz
          | cons c r => rfl
        obtain ⟨L, hLd⟩ : ∃ L : Nat, L = line + nl (q.take m) := ⟨_, rfl⟩
        have hsk2 : SkAt w1 bl bc (L : Int) false := by rw [hLd]; push_cast; exact hsk1
        have hcons2 := hcons hz
        rw [← hLd] at hcons2 hlen2
        have hlong := longest_any q2 hz (by omega) w1
        have hzs := size_le q2 hz
        have hz1 := size_pos hz
        have hTl : (q2.take (sizeF q2)).length = sizeF q2 := by rw [List.length_take]; omega
        have hR := bfrom q2 (sizeF q2)
        have hRl : (q2.drop (sizeF q2)).length = q2.length - sizeF q2 := by rw [List.length_drop]
        have hDs := bsz q2
        have hTs := bsz (q2.take (sizeF q2))
        rw [hTl] at hTs
        rw [HD.out] at hlong hR hDs
        have hzs2 : sizeF q2 ≤ D.size := by omega
        obtain ⟨z, hzz⟩ : ∃ z, sizeF q2 = z := ⟨_, rfl⟩
        simp only [hzz] at hcons2 hlong hTl hR hRl hTs hzs hz1 hzs2
        obtain ⟨T, hT⟩ : ∃ T, q2.take z = T := ⟨_, rfl⟩
        obtain ⟨r2, hr2⟩ : ∃ r2, q2.drop z = r2 := ⟨_, rfl⟩
        rw [hT] at hcons2 hlong hTs hTl
        rw [hr2] at hcons2 hR hRl
        have hkind := kind_eq T
        obtain ⟨TB, hTB⟩ : ∃ TB, (⟨T.toArray⟩ : ByteArray) = TB := ⟨_, rfl⟩
        have HTB := Lib.hid hTB
        rw [hTB] at hlong hTs
        obtain ⟨RB, hRB⟩ : ∃ RB, (⟨r2.toArray⟩ : ByteArray) = RB := ⟨_, rfl⟩
        have HRB := Lib.hid hRB
        rw [hRB] at hR
        have HC := Lib.hid hcons2
        have HDs := Lib.hid hDs
        have HR0 := Lib.hid hraw
        clear hnil hcons hmlt hc' hsk1 hLd hzz hT hr2 hTB hRB hcons2 hDs hraw
        gi_wp2
        refine ⟨trivial, fun _ => by omega, ?_⟩
        refine (callsIn_wide.2 hlong).mono ?_
        rintro e w2 ⟨rfl, hx2⟩
        have hsk3 := hsk2.below hx2
        have hkn3 := hkn2.below hx2
        have hJ3 := hJ _ _ _ hJ2 (Turn.of_below hkept2 hx2)
        have hkept3 : W.heap.size ≤ w2.heap.size := Nat.le_trans hkept2 hx2.size
        clear hlong hsk2 hkn2 hJ2 hkept2 hx2
        gi_wp2
        obtain ⟨l0, l1, l2⟩ := blk1 hsk3.line
        have hk3 : ∀ w', Below w2.heap.size w2 w' → Below w2.heap.size w2 w' ∧ w'.cell? ⟨bl, 0, none⟩ = some (.int .i64 L) := fun w' h => ⟨h, (h.cell (p := ⟨bl, 0, none⟩) l2).trans l0⟩
        refine wpIn_mono (Q := fun e a' w' => e = .normal ∧ ∃ k9, w2.heap.size ≤ k9 ∧ Own w' k9 [.int .i64 (kindF T), .int .i64 L, .string TB] ∧ Below w2.heap.size w2 w' ∧ a' = { tmps := #[.func (.yield l) #[] #[], .pointer (some ⟨bs, 0, none⟩), undef, .slice (some ⟨k, 0, none⟩) 4 4, .string RB, .pointer (some ⟨bl, 0, none⟩), .pointer (some ⟨bc, 0, none⟩), .func (.func 61) #[] #[.pointer (some ⟨bl, 0, none⟩), .pointer (some ⟨bc, 0, none⟩)], .string TB, .pointer (some ⟨k9, 0, none⟩), .slice (some ⟨k, 0, none⟩) 4 4, .string ⟨s.toArray⟩, .func (.func 61) #[] #[.pointer (some ⟨bl, 0, none⟩), .pointer (some ⟨bc, 0, none⟩)], .string Q, .string Q, .func (.func 61) #[] #[.pointer (some ⟨bl, 0, none⟩), .pointer (some ⟨bc, 0, none⟩)], .int .i64 m, .string D, .string D, .bool false, .string D, .string TB, .string D, .string TB, .int .i64 z, .string RB, .slice (some ⟨k, 0, none⟩) 4 4, .string TB, .int .i64 (kindF T), .int .i64 L, .string TB, .string TB, .agg #[.int .i64 (kindF T), .int .i64 L, .string TB], u33, u34, u35, u36, u37, u38, u39, u40, u41], defers := [] }) ?_ ?_
        · refine wpIn_wide.2 ?_
          have hKd : ∀ w', Below w2.heap.size w2 w' → Calls Tryz.prog 64 #[.slice (some ⟨k, 0, none⟩) 4 4, .string TB] w' (Ret (.int .i64 (kindF T)) w') := fun w' h => by
            have := kindOf_any T (by omega) k 4 w' ((hInv _ _ hJ3).below h) (hkn3.below h)
            rw [hkind, HTB.out] at this; exact this
          have hCl : ∀ w', Calls Tryz.prog 65 #[.string TB] w' (Ret (.string TB) w') := fun w' => by
            have := clone_any T (by omega) w'
            rw [HTB.out] at this; exact this
          go_region_held3 (fun w' => Below w2.heap.size w2 w' ∧ w'.cell? ⟨bl, 0, none⟩ = some (.int .i64 L)) (exact hk3 _ (by first | exact Below.refl _ _ | assumption | exact Below.drew (by assumption) | exact Below.drew (Below.refl _ _) | exact belA (by assumption) _ | exact belR _ _ | exact belS3 (by assumption) (by omega) _ _ _ | exact belB (by assumption) _))
            (first | (go_at_call 64; refine (hKd _ (And.left (by assumption))).mono ?_; rintro e wA ⟨rfl, hxA⟩; have hA1 := Below.trans (And.left (show Below w2.heap.size w2 _ ∧ _ by assumption)) (hxA.mono (And.left (show Below w2.heap.size w2 _ ∧ _ by assumption)).size); have hgA := hA1.size; obtain ⟨hcA, hfA⟩ := bcell hxA; have hsA := hxA.size; (try simp at hsA); (try have hzA : w2.heap.size < wA.heap.size := (by omega)); clear hsA) | (go_at_call 65; refine (hCl _).mono ?_; rintro e wC ⟨rfl, hxC⟩; have hC1 := Below.trans (And.left (show Below w2.heap.size w2 _ ∧ _ by assumption)) (hxC.mono (And.left (show Below w2.heap.size w2 _ ∧ _ by assumption)).size); have hgC := hC1.size; obtain ⟨hcC, hfC⟩ := bcell hxC; have hsC := hxC.size; (try simp at hsC); (try have hzC : w2.heap.size < wC.heap.size := (by omega)); (try have hzC2 : wA.heap.size < wC.heap.size := (by omega)); clear hsC))
          all_goals
            refine ⟨rfl, _, ?_, ?_, ?_, rfl⟩
            · omega
            · first | exact Own.new _ _ _ | exact Own.set3 ((Own.new wA #[.int .i64 0, .int .i64 0, .string ⟨#[]⟩] 87).below hxC) _ _ _ | exact Own.set3 (((Own.new w2 #[.int .i64 0, .int .i64 0, .string ⟨#[]⟩] 87).drew.below hxA).below hxC) _ _ _ | exact Own.set3 (((Own.new w2 #[.int .i64 0, .int .i64 0, .string ⟨#[]⟩] 87).below hxA).below hxC) _ _ _ | exact Own.set3 ((Own.new wA #[.int .i64 0, .int .i64 0, .string ⟨#[]⟩] 87).drew.below hxC) _ _ _
            · first | exact belB (by assumption) _ | exact belS3 (by assumption) (by omega) _ _ _
        · rintro e a' w3 ⟨rfl, k9, hk9, ht9, hx3, rfl⟩
          have hsk4 := hsk3.below hx3
          have hkn4 := hkn3.below hx3
          have hJ4 := hJ _ _ _ hJ3 (Turn.of_below hkept3 hx3)
          have hkept4 : W.heap.size ≤ w3.heap.size := Nat.le_trans hkept3 hx3.size
          have hmine : ∀ b, w2.heap.size ≤ b → ¬ Mine w3 b := fun b hb hm => by
            obtain ⟨xs, fr, h⟩ := hM.kind pre w2 b hJ3 (hM.stay pre w2 w3 b hJ3 (Turn.of_below hkept3 hx3) hm)
            have := (Array.getElem?_eq_some_iff.1 h).1
            omega
          have hpre : pre ++ [⟨kindF T, L, T⟩] <+: rawF s := by rw [HR0.out, HC.out]; exact ⟨_, by rw [List.append_assoc]; rfl⟩
          obtain ⟨fn, tmps, assign, body, hyy, hR5⟩ := hY pre ⟨kindF T, L, T⟩ w3 hJ4 hpre
          dsimp only [encT] at hyy
          rw [HTB.out] at hyy
          obtain ⟨t0, t1, t2, _, _, _, tz⟩ := ht9.three
          clear hk3 hsk3 hkn3 hJ3 hx3 l0 l1 l2
          gi_wp2
          refine ⟨fun _ => by omega, ?_⟩
          refine hR5.mono ?_
          rintro e W3 (⟨rfl, hJ5, hk5⟩ | ⟨rfl, hJx5⟩)
          · have ht9' : Own W3 k9 [.int .i64 (kindF T), .int .i64 L, .string TB] := by
              obtain ⟨xs, t, fr, hb⟩ := ht9.block
              exact ht9.same ((hk5.2 k9 xs t fr (by omega) hb (hmine k9 hk9)).trans hb.symm)
            have hother : ∀ (b : Nat) (xs : Array Value) (t : TypeId) (fr : Nat × Nat), W.heap.size ≤ b → w3.heap[b]? = some (.cells xs t fr) → t ≠ 87 → W3.heap[b]? = some (.cells xs t fr) := fun b xs t fr hWb hb ht => hk5.2 b xs t fr hWb hb (fun hm => by
              obtain ⟨xs', fr', h⟩ := hM.kind pre w3 b hJ4 hm
              rw [hb] at h
              cases h
              exact ht rfl)
            have hsk5 : SkAt W3 bl bc L false := ⟨hother _ _ _ _ hlo1.1 hsk4.line (by decide), hother _ _ _ _ hlo1.2 hsk4.note (by decide)⟩
            have hkn5 : Known W3 k := hother _ _ _ _ hkW hkn4 (by decide)
            have hkept5 : W.heap.size ≤ W3.heap.size := Nat.le_trans hkept4 hk5.1
            obtain ⟨g0, g1, g2, _, _, _, gz⟩ := ht9'.three
            clear hsk4 hkn4 hJ4 hkept4 t0 t1 t2 tz ht9 ht9' hmine hR5 hyy hother hk5
            by_cases hk0 : kindF T = 0
            · have hk0' : (((kindF T : Nat) : Int) == 0) = true := by rw [beq_iff_eq]; omega
              have HK := Lib.hid hk0
              clear hk0
              gi_wp2
              go_end0
              refine ⟨⟨_, rfl⟩, .inl ?_⟩
              rw [HR0.out, HC.out, if_pos HK.out]; exact hJ5
            · have hk0' : (((kindF T : Nat) : Int) == 0) = false := by rw [beq_eq_false_iff_ne]; omega
              have HK := Lib.hid hk0
              clear hk0
              obtain ⟨f', rfl⟩ : ∃ f', f = f' + 1 := ⟨f - 1, by omega⟩
              gi_wp2
              go_roundw
              case rel =>
                repeat apply Exists.intro
                exact ⟨⟨f', L, r2, pre ++ [⟨kindF T, L, T⟩], by rw [HRB.out], by omega, by omega, hsk5, hkn5, hkept5, hJ5, by rw [HR0.out, HC.out, if_neg HK.out, List.append_assoc]; rfl⟩, rfl⟩
              case measure =>
                show strLen (.string RB) < strLen (.string Q)
                have : strLen (.string RB) = r2.length := by rw [← HRB.out]; exact bsz r2
                rw [HM.out, this]; omega
          · gi_wp2
            go_end0
            exact ⟨⟨_, rfl⟩, .inr ⟨_, hpre, hJx5⟩⟩
end Go.Proofs.YthnlenbfknbmcaaGreatDoor
namespace Go.Proofs.YthnlenbfknbmcaaGreatDoor
open Go.RowKit Go.Shelf
set_option maxRecDepth 100000

/-- a token as it comes: any Kind, any Line -/
structure RT where
  k : Int
  n : Int
  t : List UInt8
  deriving DecidableEq
def Tok.rt (x : Tok) : RT := ⟨x.k, x.n, x.t⟩
def rtC (x : RT) : List Value := [.int .i64 x.k, .int .i64 x.n, .string ⟨x.t.toArray⟩]
def rtV (x : RT) : Value := .agg #[.int .i64 x.k, .int .i64 x.n, .string ⟨x.t.toArray⟩]
def I64 (x : Int) : Prop := -9223372036854775808 ≤ x ∧ x ≤ 9223372036854775807
def RS (l : List RT) : Prop := ∀ x ∈ l, I64 x.k ∧ I64 x.n ∧ x.t.length ≤ 9223372036854775807

theorem ladd_succ (a : Addr) (m : Nat) : a.add (m + 1) = { block := (a.add m).block, off := (a.add m).off + 1 } := by
  unfold Addr.add; split <;> split <;> simp_all <;> omega
theorem ladd_two (a : Addr) (m : Nat) : a.add (m + 2) = { block := (a.add m).block, off := (a.add m).off + 2 } := by
  unfold Addr.add; split <;> split <;> simp_all <;> omega
theorem lblk_add (a : Addr) (m : Nat) : (a.add m).block = a.block := by unfold Addr.add; split <;> rfl

/-- v is a slice that reads l, three cells a place -/
structure Toks (w : World) (v : Value) (l : List RT) : Prop where
  shape : ∃ ad cap, v = .slice ad l.length cap
  cells : ∀ ad n cap, v = .slice ad n cap → ∀ i (h : i < l.length), ∃ a, ad = some a ∧ a.block < w.heap.size ∧ w.cell? (a.add (i * 3)) = some (.int .i64 (l[i]).k) ∧ w.cell? (a.add (i * 3 + 1)) = some (.int .i64 (l[i]).n) ∧
    w.cell? (a.add (i * 3 + 2)) = some (.string ⟨(l[i]).t.toArray⟩)
  ints : RS l
  short : l.length ≤ 9223372036854775807
theorem Toks.open {w : World} {v : Value} {l : List RT} (h : Toks w v l) : ∃ ad cap, v = .slice ad l.length cap := h.shape
theorem Toks.below {w w1 : World} {v : Value} {l : List RT} (h : Toks w v l) (hb : Below w.heap.size w w1) : Toks w1 v l := by
  refine ⟨h.shape, fun ad n cap e i hi => ?_, h.ints, h.short⟩
  obtain ⟨a, h0, h1, h2, h3, h4⟩ := h.cells ad n cap e i hi
  have hc : ∀ m, w1.cell? (a.add m) = w.cell? (a.add m) := fun m => hb.cell (p := a.add m) (by rw [lblk_add]; exact h1)
  exact ⟨a, h0, Nat.lt_of_lt_of_le h1 hb.size, (hc _).trans h2, (hc _).trans h3, (hc _).trans h4⟩
/-- the cells of a place, in a world that has grown since, as a load reads them -/
theorem Toks.reads {w : World} {ad : Option Addr} {l : List RT} {cap : Nat} (h : Toks w (.slice ad l.length cap) l) {wr : World} {B : Nat} (hb : Below B w wr) (hB : w.heap.size ≤ B) (k : Nat) (hk : k < l.length) : ∃ a, ad = some a ∧
    wr.cell? (a.add (k * 3)) = some (.int .i64 (l[k]).k) ∧ wr.cell? { block := (a.add (k * 3)).block, off := (a.add (k * 3)).off + 1 } = some (.int .i64 (l[k]).n) ∧
    wr.cell? { block := (a.add (k * 3)).block, off := (a.add (k * 3)).off + 2 } = some (.string ⟨(l[k]).t.toArray⟩) ∧ (a.add (k * 3)).block < w.heap.size := by
  obtain ⟨a, rfl, hab, h1, h2, h3⟩ := h.cells _ _ _ rfl k hk
  have hc : ∀ m, wr.cell? (a.add m) = w.cell? (a.add m) := fun m => hb.cell (p := a.add m) (by rw [lblk_add]; omega)
  exact ⟨a, rfl, (hc _).trans h1, by rw [← ladd_succ]; exact (hc _).trans h2, by rw [← ladd_two]; exact (hc _).trans h3, by rw [lblk_add]; exact hab⟩
theorem toks_nil_of (w : World) (cap : Nat) (ad : Option Addr) : Toks w (.slice ad 0 cap) [] := ⟨⟨ad, cap, rfl⟩, fun _ _ _ _ i hi => (by simp at hi), fun x hx => (by cases hx), by simp⟩
theorem lenT (d : List RT) : (d.flatMap rtC).length = d.length * 3 := by
  induction d with
  | nil => rfl
  | cons x d ih => rw [List.flatMap_cons, List.length_append, ih]; simp [rtC]; omega
theorem flat_getT : ∀ (d : List RT) (i : Nat) (h : i < d.length), (d.flatMap rtC)[i * 3]? = some (.int .i64 (d[i]).k) ∧ (d.flatMap rtC)[i * 3 + 1]? = some (.int .i64 (d[i]).n) ∧ (d.flatMap rtC)[i * 3 + 2]? = some (.string ⟨(d[i]).t.toArray⟩)
  | [], i, h => by simp at h
  | x :: d, 0, _ => by simp [rtC]
  | x :: d, i + 1, h => by
    have h' : i < d.length := by simpa using h
    obtain ⟨g0, g1, g2⟩ := flat_getT d i h'
    have key : ∀ j, (List.flatMap rtC (x :: d))[(i + 1) * 3 + j]? = (List.flatMap rtC d)[i * 3 + j]? := fun j => by
      rw [List.flatMap_cons, List.getElem?_append_right (by simp [rtC]; omega)]
      congr 1
      simp [rtC]; omega
    exact ⟨(key 0).trans g0, (key 1).trans g1, (key 2).trans g2⟩
theorem toks_of_own {w : World} {base n : Nat} {v : Value} {l : List RT} (h : w.ownsRow base 87 3 v n (l.flatMap rtC)) (hi : RS l) (hs : l.length ≤ 1000000) : n = l.length ∧ Toks w v l := by
  have hn : n = l.length := by have := h.1; rw [lenT] at this; omega
  subst hn
  refine ⟨rfl, ?_⟩
  obtain ⟨_, ⟨rfl, h0⟩ | ⟨g, cap, cur, rfl, _, hh, _, _, _, hct⟩⟩ := h
  · have hl : l = [] := by simpa using h0
    subst hl
    exact toks_nil_of w 0 none
  · have key : ∀ j, j < l.length * 3 → w.cell? ⟨g, j, none⟩ = (l.flatMap rtC)[j]? := by
      intro j hj
      rw [← hct, List.getElem?_take, if_pos (by omega)]
      simp [World.cell?, hh]
    refine ⟨⟨_, _, rfl⟩, fun ad n c e i hil => ?_, hi, by omega⟩
    cases e
    obtain ⟨g0, g1, g2⟩ := flat_getT l i hil
    have ha : ∀ m, (⟨g, 0, none⟩ : Addr).add m = ⟨g, m, none⟩ := fun m => by simp [Addr.add]; exact fun e => e.symm
    refine ⟨_, rfl, (Array.getElem?_eq_some_iff.1 hh).1, ?_⟩
    simp only [ha]
    exact ⟨(key _ (by omega)).trans g0, (key _ (by omega)).trans g1, (key _ (by omega)).trans g2⟩
theorem own_base {w : World} {B C : Nat} {e : TypeId} {size n : Nat} {v : Value} {xs : List Value} (h : w.ownsRow B e size v n xs) (hc : C ≤ B) : w.ownsRow C e size v n xs := by
  obtain ⟨h0, h1 | ⟨g, cap, cur, hv, hg, hr⟩⟩ := h
  · exact ⟨h0, .inl h1⟩
  · exact ⟨h0, .inr ⟨g, cap, cur, hv, Nat.le_trans hc hg, hr⟩⟩
theorem lown_below {w w1 : World} {base : Nat} {e : TypeId} {size n : Nat} {v : Value} {xs : List Value} (h : w.ownsRow base e size v n xs) (hb : Below w.heap.size w w1) : w1.ownsRow base e size v n xs := by
  obtain ⟨h0, h1 | ⟨g, cap, cur, hv, hg, hh, hr⟩⟩ := h
  · exact ⟨h0, .inl h1⟩
  · exact ⟨h0, .inr ⟨g, cap, cur, hv, hg, (hb.block g (Array.getElem?_eq_some_iff.1 hh).1).trans hh, hr⟩⟩
theorem Tryz.infoTok : (Tryz.prog.info? 87).map (fun i => (i.zero, i.size, i.bytes)) = some (some (.agg #[.int .i64 0, .int .i64 0, .string ⟨#[]⟩]), 3, 32) := by kernel_rfl

/-- what becomes of the tokens that the iterator gives -/
def collF (cnt : Nat) : List Tok → List Tok × Nat × Nat
  | [] => ([], 0, 0)
  | x :: r => if x.k = 0 then ([], 8, x.n) else if cnt = 5000 then ([], 2, x.n) else consF x (collF (cnt + 1) r)
theorem coll_raw : ∀ (f line cnt : Nat) (q : List UInt8), q.length ≤ f → toksF line cnt q = collF cnt (rawG (f + 1) line q) := by
  intro f
  induction f with
  | zero =>
    intro line cnt q h
    have hq : q = [] := by simpa using h
    subst hq
    rw [toks_nil, raw_nil (by simp)]; rfl
  | succ f ih =>
    intro line cnt q h
    have hs := toks_skip cnt q false line
    simp only [Bool.false_eq_true, if_false] at hs
    rw [hs]
    cases hd : q.drop (skipF false q) with
    | nil => rw [toks_nil, raw_nil hd]; rfl
    | cons c r =>
      obtain ⟨h1, h2, h3⟩ := skip_stop q false c r hd
      rw [raw_cons (by simp) hd, toks_eq _ _ h1 h2 h3]
      by_cases hk : kindF ((c :: r).take (sizeF (c :: r))) = 0
      · rw [if_pos hk, if_pos hk]; simp only [collF]; rw [if_pos hk]
      · rw [if_neg hk, if_neg hk]
        simp only [collF]
        rw [if_neg hk]
        by_cases hc : cnt = 5000
        · rw [if_pos hc, if_pos hc]
        · rw [if_neg hc, if_neg hc, ih]
          have hz := size_pos (s := c :: r) (by simp)
          have hl : (c :: r).length ≤ q.length := by rw [← hd, List.length_drop]; omega
          rw [List.length_drop]; omega
theorem coll_done : ∀ (l : List Tok) (cnt : Nat), (∀ x ∈ l, x.k ≠ 0) → cnt + l.length ≤ 5000 → collF cnt l = (l, 0, 0)
  | [], _, _, _ => rfl
  | x :: r, cnt, h, hc => by
    have hc' : cnt + 1 + r.length ≤ 5000 := by simp at hc; omega
    simp only [collF]
    rw [if_neg (h x (by simp)), if_neg (by omega), coll_done r (cnt + 1) (fun y hy => h y (by simp [hy])) hc']
    rfl
theorem coll_stop (x : Tok) (r : List Tok) (e : Nat) : ∀ (l : List Tok) (cnt : Nat), (∀ y ∈ l, y.k ≠ 0) → (x.k = 0 ∧ e = 8 ∧ cnt + l.length ≤ 5000) ∨ (x.k ≠ 0 ∧ e = 2 ∧ cnt + l.length = 5000) → collF cnt (l ++ x :: r) = ([], e, x.n)
  | [], cnt, _, h => by
    simp only [List.nil_append, collF]
    rcases h with ⟨h1, rfl, _⟩ | ⟨h1, rfl, h2⟩
    · rw [if_pos h1]
    · rw [if_neg h1, if_pos (by simpa using h2)]
  | y :: q, cnt, hy, h => by
    have hq : cnt + 1 + q.length = cnt + (y :: q).length := by simp; omega
    have hlt : cnt < 5000 := by
      rcases h with ⟨_, _, h⟩ | ⟨_, _, h⟩ <;> (simp at h; omega)
    have ih := coll_stop x r e q (cnt + 1) (fun z hz => hy z (by simp [hz])) (by rw [hq]; exact h)
    simp only [List.cons_append, collF]
    rw [if_neg (hy y (by simp)), if_neg (by omega), ih]
    unfold consF
    rw [if_neg (by rcases h with ⟨_, rfl, _⟩ | ⟨_, rfl, _⟩ <;> simp)]
theorem toks_coll (s : List UInt8) : toksF 1 0 s = collF 0 (rawF s) := coll_raw s.length 1 0 s (Nat.le_refl _)
end Go.Proofs.YthnlenbfknbmcaaGreatDoor
namespace Go.Proofs.YthnlenbfknbmcaaGreatDoor
open Go.RowKit Go.Shelf
attribute [local go_sem] Oper.semAt_some
set_option maxRecDepth 100000

theorem tokens_any (s : List UInt8) (w : World) : Calls Tryz.prog 40 #[.string ⟨s.toArray⟩] w fun e w' => e = .returned (.func (.func 59) #[] #[.pointer (some ⟨w.heap.size, 0, none⟩)]) ∧ Own w' w.heap.size [.string ⟨s.toArray⟩] ∧ Below w.heap.size w w' := by
  have hmf : ∀ (fn : Fn) (first cap : Array Value) (w : World), (Instr.makeFunc fn first cap).run Tryz.prog w = .ok (.func fn first cap) w := fun _ _ _ _ => rfl
  have h1 := Own.new w #[.string ⟨s.toArray⟩] 9
  go_enter Tryz.func40, Tryz.ntmps40
  go_wp2_with fail
  go_ret
  exact ⟨rfl, h1, (Below.refl _ w).alloc (Nat.le_refl _) _⟩

/-- the four variables of Tokens: the results, and the list so far -/
structure Vars (W : World) (b : Nat) (r : Value) (e n : Int) (v : Value) : Prop where
  res : W.heap[b]? = some (.cells #[r] 56 (0, 0))
  err : W.heap[b + 1]? = some (.cells #[.int .i64 e] 27 (0, 0))
  line : W.heap[b + 1 + 1]? = some (.cells #[.int .i64 n] 3 (0, 0))
  list : W.heap[b + 1 + 1 + 1]? = some (.cells #[v] 56 (0, 0))
structure InvT (w W : World) (B : Nat) (l : List Tok) (v : Value) : Prop where
  vars : Vars W w.heap.size (.slice none 0 0) 0 0 v
  own : W.ownsRow B 87 3 v l.length ((l.map Tok.rt).flatMap rtC)
  below : Below w.heap.size w W
  kinds : ∀ x ∈ l, x.k ≠ 0
  few : l.length ≤ 5000
  size : B ≤ W.heap.size
def InvI (w : World) (B : Nat) (l : List Tok) (W : World) : Prop := ∃ v, InvT w W B l v
/-- a round has left -/
def InvX (w : World) (l : List Tok) (W : World) : Prop := ∃ pre x e, l = pre ++ [x] ∧ (∀ y ∈ pre, y.k ≠ 0) ∧ ((x.k = 0 ∧ e = 8 ∧ pre.length ≤ 5000) ∨ (x.k ≠ 0 ∧ e = 2 ∧ pre.length = 5000)) ∧ (∃ v, Vars W w.heap.size (.slice none 0 0) (e : Nat) (x.n : Nat) v) ∧ Below w.heap.size w W
def MineT (b : Nat) (W : World) (k : Nat) : Prop := ∃ v, W.cell? ⟨b + 1 + 1 + 1, 0, none⟩ = some v ∧ v.ownBlock = some k
theorem Vars.turn {K : Obj → Bool} {B : Nat} {W W' : World} {b : Nat} {r v : Value} {e n : Int} (h : Vars W b r e n v) (ht : Turn K B W W') (hb : b + 3 < B) : Vars W' b r e n v :=
  ⟨(ht.1.block _ (by omega)).trans h.res, (ht.1.block _ (by omega)).trans h.err, (ht.1.block _ (by omega)).trans h.line, (ht.1.block _ (by omega)).trans h.list⟩
theorem inv_abide {w : World} {B : Nat} (hB : w.heap.size + 3 < B) : Abide (keepI TS) B (InvI w B) := by
  rintro l W W' ⟨v, h1, ⟨h0, h2⟩, h3, h4, h5, h6⟩ ht
  refine ⟨v, h1.turn ht hB, ⟨h0, ?_⟩, h3.trans (ht.1.mono (by omega)), h4, h5, Nat.le_trans h6 ht.1.size⟩
  rcases h2 with h2 | ⟨g, cap, cur, hv, hg, hh, hr⟩
  · exact .inl h2
  · exact .inr ⟨g, cap, cur, hv, hg, ht.2 _ _ hh rfl, hr⟩
theorem invx_abide {w : World} {B : Nat} (hB : w.heap.size + 3 < B) : Abide (keepI TS) B (InvX w) := by
  rintro l W W' ⟨pre, x, e, h1, h2, h3, ⟨v, h4⟩, h5⟩ ht
  exact ⟨pre, x, e, h1, h2, h3, ⟨v, h4.turn ht hB⟩, h5.trans (ht.1.mono (by omega))⟩
theorem inv_minds {w : World} {B : Nat} (hB : w.heap.size + 3 < B) : Minds 87 (keepI TS) B (InvI w B) (MineT w.heap.size) := by
  have key : ∀ pre W k, InvI w B pre W → MineT w.heap.size W k → ∃ cur, W.heap[k]? = some (.cells cur 87 (0, 0)) ∧ B ≤ k := by
    rintro pre W k ⟨v, h1, h2, _⟩ ⟨v', hv', hk⟩
    have : v = v' := by
      have hc := (blk1 h1.list).1
      rw [hc] at hv'; exact Option.some.inj hv'
    subst this
    obtain ⟨_, ⟨rfl, _⟩ | ⟨g, cap, cur, rfl, hg, hh, _⟩⟩ := h2
    · cases hk
    · cases hk; exact ⟨cur, hh, hg⟩
  refine ⟨fun pre W k h hm => ?_, fun pre W k h hm => ?_, ?_⟩
  · obtain ⟨cur, h1, _⟩ := key pre W k h hm; exact ⟨cur, _, h1⟩
  · obtain ⟨cur, _, h1⟩ := key pre W k h hm; exact h1
  · rintro pre W W' k ⟨v, h1, _⟩ ht ⟨v', hv', hk⟩
    refine ⟨v', ?_, hk⟩
    have hlt : w.heap.size + 1 + 1 + 1 < W.heap.size := (Array.getElem?_eq_some_iff.1 h1.list).1
    have := ht.1.cell (p := ⟨w.heap.size + 1 + 1 + 1, 0, none⟩) (by show w.heap.size + 1 + 1 + 1 < B; omega)
    rw [← this]; exact hv'

theorem blk_alloc {w : World} {b : Nat} {o : Obj} (h : w.heap[b]? = some o) (o' : Obj) : (w.alloc o').heap[b]? = some o :=
  (Below.heap_alloc _ _ _ (Array.getElem?_eq_some_iff.1 h).1).trans h
theorem blk_newn (w : World) (o : Obj) (n : Nat) (h : n = w.heap.size) : (w.alloc o).heap[n]? = some o := by subst h; exact World.alloc_heap_new w o
theorem blk3 {w : World} {b : Nat} {x y z : Value} {t : TypeId} (h : w.heap[b]? = some (.cells #[x, y, z] t (0, 0))) : w.cell? ⟨b, 0, none⟩ = some x ∧ w.cell? ⟨b, 1, none⟩ = some y ∧ w.cell? ⟨b, 2, none⟩ = some z ∧ b < w.heap.size :=
  ⟨by simp [World.cell?, h], by simp [World.cell?, h], by simp [World.cell?, h], (Array.getElem?_eq_some_iff.1 h).1⟩
theorem keeps_below {B : Nat} {W W' : World} (h : Below W.heap.size W W') : KeepsFrom B W W' := ⟨h.size, fun k _ _ hk _ => (h.block k (Array.getElem?_eq_some_iff.1 hk).1).trans hk⟩
theorem keeps_set {B : Nat} {W : World} {b i : Nat} (h : b < B) (v : Value) : KeepsFrom B W (W.setCell ⟨b, i, none⟩ v) := ⟨by simp, fun k o hk ho _ => (Below.heap_setCell W ⟨b, i, none⟩ v k (by simp; omega)).trans ho⟩
theorem Vars.set {W : World} {b : Nat} {r v : Value} {e n : Int} (h : Vars W b r e n v) (r' : Value) (e' n' : Int) :
    Vars (((W.setCell ⟨b, 0, none⟩ r').setCell ⟨b + 1, 0, none⟩ (.int .i64 e')).setCell ⟨b + 1 + 1, 0, none⟩ (.int .i64 n')) b r' e' n' v := by
  have h0 := heap_set_same W b 0 _ _ r' h.res
  refine ⟨?_, ?_, ?_, ?_⟩
  · rw [heap_set_other _ _ _ _ _ (by omega), heap_set_other _ _ _ _ _ (by omega)]; exact h0
  · rw [heap_set_other _ _ _ _ _ (by omega)]
    exact heap_set_same _ (b + 1) 0 _ _ _ ((heap_set_other _ _ _ _ _ (by omega)).trans h.err)
  · exact heap_set_same _ (b + 1 + 1) 0 _ _ _ ((heap_set_other _ _ _ _ _ (by omega)).trans ((heap_set_other _ _ _ _ _ (by omega)).trans h.line))
  · rw [heap_set_other _ _ _ _ _ (by omega), heap_set_other _ _ _ _ _ (by omega), heap_set_other _ _ _ _ _ (by omega)]; exact h.list
theorem Vars.setV {W : World} {b : Nat} {r v : Value} {e n : Int} (h : Vars W b r e n v) (v' : Value) : Vars (W.setCell ⟨b + 1 + 1 + 1, 0, none⟩ v') b r e n v' :=
  ⟨(heap_set_other _ _ _ _ _ (by omega)).trans h.res, (heap_set_other _ _ _ _ _ (by omega)).trans h.err, (heap_set_other _ _ _ _ _ (by omega)).trans h.line, heap_set_same _ (b + 1 + 1 + 1) 0 _ _ _ h.list⟩
theorem Vars.alloc {W : World} {b : Nat} {r v : Value} {e n : Int} (h : Vars W b r e n v) (o : Obj) : Vars (W.alloc o) b r e n v := ⟨blk_alloc h.res o, blk_alloc h.err o, blk_alloc h.line o, blk_alloc h.list o⟩
theorem Vars.drew {W : World} {b : Nat} {r v : Value} {e n : Int} (h : Vars W b r e n v) : Vars W.drew b r e n v := ⟨h.res, h.err, h.line, h.list⟩
theorem keeps_drew {B : Nat} {W W' : World} (h : KeepsFrom B W W') : KeepsFrom B W W'.drew := ⟨h.size, h.same⟩
theorem lown_shape {w : World} {base : Nat} {e : TypeId} {size : Nat} {v : Value} {n : Nat} {xs : List Value} (h : w.ownsRow base e size v n xs) : ∃ p cap, v = .slice p n cap := by
  obtain ⟨_, ⟨rfl, rfl⟩ | ⟨g, cap, cur, rfl, hg, _⟩⟩ := h
  · exact ⟨_, _, rfl⟩
  · exact ⟨_, _, rfl⟩
theorem lown_row {w : World} {base : Nat} {e : TypeId} {size : Nat} {v : Value} {n : Nat} {xs : List Value} (h : w.ownsRow base e size v n xs) : ∀ r, v.ownBlock = some r → base ≤ r ∧ ∃ cur, w.heap[r]? = some (.cells cur e (0, 0)) := by
  obtain ⟨_, ⟨rfl, _⟩ | ⟨g, cap, cur, rfl, hg, hh, _⟩⟩ := h
  · intro r hr; cases hr
  · intro r hr; cases hr; exact ⟨hg, cur, hh⟩
theorem Vars.grown {W W' : World} {b B m : Nat} {r v u : Value} {e n : Int} {xs : List Value} (h : Vars W b r e n v) (hg : W.grownBy W' u.ownBlock) (ho : W.ownsRow B 87 3 u m xs) : Vars W' b r e n v := by
  have key : ∀ (k : Nat) (c : Array Value) (t : TypeId), t ≠ 87 → W.heap[k]? = some (.cells c t (0, 0)) → W'.heap[k]? = some (.cells c t (0, 0)) := fun k c t ht hk =>
    (hg.block k (Array.getElem?_eq_some_iff.1 hk).1 (fun e => by
      obtain ⟨_, cur, hc⟩ := lown_row ho k e.symm
      rw [hk] at hc; cases hc; exact ht rfl)).trans hk
  exact ⟨key _ _ _ (by decide) h.res, key _ _ _ (by decide) h.err, key _ _ _ (by decide) h.line, key _ _ _ (by decide) h.list⟩
/-- the three results stored, and the round left -/
theorem left_of {w W W2 : World} {B : Nat} {pre : List Tok} {x : Tok} {v : Value} {e : Nat} (hB : w.heap.size + 3 < B) (hV : Vars W2 w.heap.size (.slice none 0 0) 0 0 v) (hb : Below w.heap.size w W2) (hk : ∀ y ∈ pre, y.k ≠ 0)
    (he : (x.k = 0 ∧ e = 8 ∧ pre.length ≤ 5000) ∨ (x.k ≠ 0 ∧ e = 2 ∧ pre.length = 5000)) :
    BodyEnd B (MineT w.heap.size) (InvI w B) (InvX w) (pre ++ [x]) W W2 Exit.ret (((W2.setCell ⟨w.heap.size, 0, none⟩ (.slice none 0 0)).setCell ⟨w.heap.size + 1, 0, none⟩ (.int .i64 (e : Nat))).setCell ⟨w.heap.size + 1 + 1, 0, none⟩ (.int .i64 (x.n : Nat))).drew := by
  refine .inr ⟨rfl, keeps_drew (((keeps_set (by omega) _).trans (keeps_set (by omega) _)).trans (keeps_set (by omega) _)), pre, x, e, rfl, hk, he, ⟨v, (hV.set _ _ _).drew⟩, ?_⟩
  exact (((hb.setCell (p := ⟨w.heap.size, 0, none⟩) (Nat.le_refl _) _).setCell (p := ⟨w.heap.size + 1, 0, none⟩) (by simp) _).setCell (p := ⟨w.heap.size + 1 + 1, 0, none⟩) (by simp; omega) _).drew
/-- a token more, and the round goes on -/
theorem goes_on {w W W2 w1 : World} {B : Nat} {pre : List Tok} {x : Tok} {v v' : Value} {o : Obj} (hB : w.heap.size + 3 < B) (hV : Vars W2 w.heap.size (.slice none 0 0) 0 0 v) (hb : Below w.heap.size w W2) (hs : B ≤ W2.heap.size) (hk : ∀ y ∈ pre, y.k ≠ 0) (hx : x.k ≠ 0)
    (hlt : pre.length < 5000) (hown : W2.ownsRow B 87 3 v pre.length ((pre.map Tok.rt).flatMap rtC)) (hg : (W2.alloc o).grownBy w1 v.ownBlock) (hown' : w1.ownsRow B 87 3 v' (pre.length + 1) ((pre.map Tok.rt).flatMap rtC ++ rtC x.rt))
    (hcl : ∀ (k : Nat) (xs : Array Value) (t : TypeId) (fr : Nat × Nat), W.heap[k]? = some (.cells xs t fr) → W2.heap[k]? = some (.cells xs t fr)) (hWs : W.heap.size ≤ W2.heap.size) (hWV : W.heap[w.heap.size + 1 + 1 + 1]? = some (.cells #[v] 56 (0, 0))) :
    BodyEnd B (MineT w.heap.size) (InvI w B) (InvX w) (pre ++ [x]) W W2 Exit.normal (w1.setCell ⟨w.heap.size + 1 + 1 + 1, 0, none⟩ v') := by
  have hV1 : Vars w1 w.heap.size (.slice none 0 0) 0 0 v := (hV.alloc o).grown hg (hown.alloc o)
  have hsz : W2.heap.size ≤ w1.heap.size := by have := hg.size; rw [World.size_alloc] at this; omega
  have hrow : ∀ (k : Nat) (c : Obj), W2.heap[k]? = some c → v.ownBlock ≠ some k → w1.heap[k]? = some c := fun k c hk hne =>
    (hg.block k (by have := (Array.getElem?_eq_some_iff.1 hk).1; rw [World.size_alloc]; omega) (fun e => hne e.symm)).trans (blk_alloc hk o)
  have hoth : ∀ (k : Nat) (c : Obj), k ≠ w.heap.size + 1 + 1 + 1 → w1.heap[k]? = some c → (w1.setCell ⟨w.heap.size + 1 + 1 + 1, 0, none⟩ v').heap[k]? = some c := fun k c hk h => (heap_set_other _ _ _ _ _ hk).trans h
  refine .inl ⟨rfl, ⟨by simpa using hsz, fun k c hBk hk hc => ?_⟩, ⟨by have := Nat.le_trans hWs hsz; simpa using this, fun k xs t fr hBk hk hm => ?_⟩, v', ?_⟩
  · refine hoth k c (by omega) (hrow k c hk (fun e => ?_))
    obtain ⟨_, cur, h⟩ := lown_row hown k e
    rw [hk] at h; cases h; cases hc
  · refine hoth k _ (by omega) (hrow k _ (hcl _ _ _ _ hk) (fun e => hm ⟨v, (blk1 hWV).1, e⟩))
  · refine ⟨hV1.setV v', ?_, ?_, ?_, by simp; omega, by simpa using Nat.le_trans hs hsz⟩
    · have hl : (pre ++ [x]).length = pre.length + 1 := by simp
      have hf : ((pre ++ [x]).map Tok.rt).flatMap rtC = (pre.map Tok.rt).flatMap rtC ++ rtC x.rt := by simp
      rw [hl, hf]
      obtain ⟨q0, q1 | ⟨g, cap, cur, hv, hg2, hh, hr⟩⟩ := hown'
      · exact ⟨q0, .inl q1⟩
      · exact ⟨q0, .inr ⟨g, cap, cur, hv, hg2, hoth _ _ (by omega) hh, hr⟩⟩
    · have h1 : Below w.heap.size w (W2.alloc o) := hb.alloc hb.size o
      have h2 : Below w.heap.size w w1 := h1.grown hg (by have := h1.size; exact this) (fun k hk => by have := (lown_row hown k hk).1; omega)
      exact h2.setCell (p := ⟨w.heap.size + 1 + 1 + 1, 0, none⟩) (by simp; omega) _
    · intro y hy
      rcases List.mem_append.1 hy with hy | hy
      · exact hk y hy
      · rw [List.mem_singleton.1 hy]; exact hx
theorem Vars.putObj {W : World} {b D : Nat} {r v : Value} {e n : Int} (h : Vars W b r e n v) (hD : b + 3 < D) (o : Obj) : Vars (W.putObj D o) b r e n v :=
  ⟨(World.putObj_heap_other (by omega)).trans h.res, (World.putObj_heap_other (by omega)).trans h.err, (World.putObj_heap_other (by omega)).trans h.line, (World.putObj_heap_other (by omega)).trans h.list⟩
theorem res_toks {tmps : Array Value} {W : World} {b : Nat} {r v : Value} {e n : Int} (t2 : tmps.getD 2 undef = .pointer (some ⟨b, 0, none⟩)) (t3 : tmps.getD 3 undef = .pointer (some ⟨b + 1, 0, none⟩)) (t4 : tmps.getD 4 undef = .pointer (some ⟨b + 1 + 1, 0, none⟩))
    (h : Vars W b r e n v) : (results Tryz.f23 tmps).run Tryz.prog W = .ok (.tuple #[r, .int .i64 e, .int .i64 n]) W := by
  have c2 := (blk1 h.res).1
  have c3 := (blk1 h.err).1
  have c4 := (blk1 h.line).1
  simp only [Array.getD_eq_getD_getElem?] at t2 t3 t4
  simp [results, Tryz.results23, go_sem, t2, t3, t4, c2, c3, c4]
/-- what Tokens gives: tokens, the error, its line -/
def tokP (s : List UInt8) : List Tok × Nat × Nat := if 20000 < s.length then ([], 2, 0) else toksF 1 0 s
def TokEnd (s : List UInt8) (w : World) (e : Ending) (w' : World) : Prop := ∃ v, e = .returned (.tuple #[v, .int .i64 (tokP s).2.1, .int .i64 (tokP s).2.2]) ∧
  w'.ownsRow w.heap.size 87 3 v (tokP s).1.length (((tokP s).1.map Tok.rt).flatMap rtC) ∧ Below w.heap.size w w'
theorem tok_end {s : List UInt8} {w w' : World} {v : Value} {l : List Tok} {e n : Nat} (h : tokP s = (l, e, n)) (ho : w'.ownsRow w.heap.size 87 3 v l.length ((l.map Tok.rt).flatMap rtC)) (hb : Below w.heap.size w w') :
    TokEnd s w (.returned (.tuple #[v, .int .i64 e, .int .i64 n])) w' := by
  refine ⟨v, by rw [h], ?_, hb⟩
  rw [h]; exact ho

set_option maxHeartbeats 4000000 in
theorem toks_main (s : List UInt8) (hs : s.length ≤ 20000) (w : World) (hL : Lay w) : Calls Tryz.prog 23 #[.string ⟨s.toArray⟩] w (TokEnd s w) := by
  have hz := bsz s
  have hz' : (⟨s.toArray⟩ : ByteArray).size ≤ 20000 := by omega
  refine (callsIn_wide (n := 9)).1 ?_
  refine callsIn_of_wp_marks Tryz.func23 rfl trivial ?_ rfl
  simp only [Tryz.ntmps23, List.size_toArray, List.length_cons, List.length_nil, Nat.reduceAdd, Nat.reduceSub, Array.replicate_succ, Array.replicate_zero, List.push_toArray, List.append_toArray, List.nil_append, List.cons_append]
  have hcall := fun w => tokens_any s w
  have hgives := iter_gives s hs
  have mixed : Tryz.prog.follows .mixedOrders = true := by kernel_rfl
  obtain ⟨S, hS⟩ : ∃ S, (⟨s.toArray⟩ : ByteArray) = S := ⟨_, rfl⟩
  rw [hS] at hz'
  simp only [hS] at hcall hgives ⊢
  clear hz
  gi_wp2
  refine ⟨trivial, ?_⟩
  obtain ⟨W4, hW4⟩ : ∃ W4, (((w.alloc (.cells #[.slice none 0 0] 56)).alloc (.cells #[.int .i64 0] 27)).alloc (.cells #[.int .i64 0] 3)).alloc (.cells #[.slice none 0 0] 56) = W4 := ⟨_, rfl⟩
  have hb4 : Below w.heap.size w W4 := by rw [← hW4]; exact ((((Below.refl _ w).alloc (Nat.le_refl _) _).alloc (by simp) _).alloc (by simp <;> omega) _).alloc (by simp <;> omega) _
  have hV4 : Vars W4 w.heap.size (.slice none 0 0) 0 0 (.slice none 0 0) := by
    rw [← hW4]
    exact ⟨blk_alloc (blk_alloc (blk_alloc (blk_newn _ _ _ rfl) _) _) _, blk_alloc (blk_alloc (blk_newn _ _ _ (by simp)) _) _, blk_alloc (blk_newn _ _ _ (by simp)) _, blk_newn _ _ _ (by simp)⟩
  have hs4 : W4.heap.size = w.heap.size + 4 := by rw [← hW4]; simp
  rw [hW4]
  clear hW4
  refine (callsIn_wide.2 (hcall _)).mono ?_
  rintro e w5 ⟨rfl, hO, hb5⟩
  have hV5 : Vars w5 w.heap.size (.slice none 0 0) 0 0 (.slice none 0 0) := hV4.turn (K := fun _ => false) (B := W4.heap.size) ⟨hb5, fun _ _ _ h => by cases h⟩ (by omega)
  have hbw5 : Below w.heap.size w w5 := hb4.trans (hb5.mono hb4.size)
  have hs5 : w.heap.size + 3 < w5.heap.size := by have := hb5.size; omega
  rw [hs4] at hO
  clear hcall hb4 hV4 hb5
  gi_wp2
  refine range_gives (R0 := 87) (T := TS) rfl (by omega) rfl trivial (enters_of Tryz.func59 (by kernel_rfl) rfl) (hgives _ _ w5 (by omega) hO) (MineT w.heap.size) (Below.refl _ _) (fun _ => rfl)
    (InvI w w5.heap.size) (InvX w) (inv_abide hs5) (invx_abide hs5) (inv_minds hs5) (fun pre W h => by obtain ⟨v, h⟩ := h; exact hL.below h.below) ⟨_, hV5, World.ownsRow_nil _ _ _ _, hbw5, by simp, by simp, Nat.le_refl _⟩ ?round ?done ?stop
  case round =>
    rintro l pre x W hwl ⟨v, hI⟩ hpre
    obtain ⟨xk, xn, xt⟩ := x
    simp only [encT]
    gi_wp2
    have hA := belR W (.cells #[.int .i64 xk, .int .i64 xn, .string ⟨xt.toArray⟩] 87)
    have hn1 := World.alloc_heap_new W (.cells #[.int .i64 xk, .int .i64 xn, .string ⟨xt.toArray⟩] 87)
    refine ⟨keeps_below hA, fun W2 ht hcl => ?_⟩
    replace hn1 := hcl _ _ hn1 rfl
    have hV : Vars W2 w.heap.size (.slice none 0 0) 0 0 v := (hI.vars.turn (K := fun _ => false) (B := W.heap.size) ⟨hA, fun _ _ _ h => by cases h⟩ (by have := (Array.getElem?_eq_some_iff.1 hI.vars.list).1; omega)).turn ht hs5
    have hown2 : W2.ownsRow w5.heap.size 87 3 v pre.length ((pre.map Tok.rt).flatMap rtC) := by
      obtain ⟨q0, q1 | ⟨g, cap, cur, hv, hg, hh, hr⟩⟩ := hI.own
      · exact ⟨q0, .inl q1⟩
      · exact ⟨q0, .inr ⟨g, cap, cur, hv, hg, hcl _ _ ((hA.block _ (Array.getElem?_eq_some_iff.1 hh).1).trans hh) rfl, hr⟩⟩
    have hbl2 : Below w.heap.size w W2 := (hI.below.trans (hA.mono hI.below.size)).trans (ht.1.mono (by omega))
    have hkinds := hI.kinds
    have hfew := hI.few
    have hWV := hI.vars.list
    have hWs := hI.size
    have hsz12 : W.heap.size ≤ W2.heap.size := Nat.le_trans hA.size ht.1.size
    have hcl2 : ∀ (k : Nat) (xs : Array Value) (t : TypeId) (fr : Nat × Nat), W.heap[k]? = some (.cells xs t fr) → W2.heap[k]? = some (.cells xs t fr) := fun k xs t fr hk => hcl _ _ ((hA.block _ (Array.getElem?_eq_some_iff.1 hk).1).trans hk) rfl
    clear hA ht hcl hI hwl
    obtain ⟨a0, a1, a2, az⟩ := blk3 hn1
    obtain ⟨r0, r1, r2⟩ := blk1 hV.res
    obtain ⟨e0, e1, e2⟩ := blk1 hV.err
    obtain ⟨n0, n1, n2⟩ := blk1 hV.line
    obtain ⟨v0, v1, v2⟩ := blk1 hV.list
    by_cases hk : xk = 0
    · have hk' : (((xk : Nat) : Int) == 0) = true := by rw [beq_iff_eq]; omega
      have HK := Lib.hid hk
      clear hk
      gi_wp2
      gi_region_o
      all_goals gi_wp2
      all_goals exact left_of (x := ⟨xk, xn, xt⟩) (e := 8) hs5 hV hbl2 hkinds (.inl ⟨HK.out, rfl, hfew⟩)
    · have hk' : (((xk : Nat) : Int) == 0) = false := by rw [beq_eq_false_iff_ne]; omega
      have HK := Lib.hid hk
      clear hk
      obtain ⟨p, cap, rfl⟩ := lown_shape hown2
      by_cases h5 : pre.length = 5000
      · have h5' : (((pre.length : Nat) : Int) == 5000) = true := by rw [beq_iff_eq]; omega
        have H5 := Lib.hid h5
        clear h5
        gi_wp2
        gi_region_o
        all_goals gi_wp2
        all_goals exact left_of (x := ⟨xk, xn, xt⟩) (e := 2) hs5 hV hbl2 hkinds (.inr ⟨HK.out, rfl, H5.out⟩)
      · have h5' : (((pre.length : Nat) : Int) == 5000) = false := by rw [beq_eq_false_iff_ne]; omega
        have hlt : pre.length < 5000 := by omega
        clear h5
        obtain ⟨i0, hi, hz0, hz1, hz2⟩ := info_parts Tryz.infoTok
        gi_wp2_with (gi_at_builtin; refine wpListIn_append_own _ rfl _ _ 56 rfl w5.heap.size 87 i0 (.agg #[.int .i64 0, .int .i64 0, .string ⟨#[]⟩]) 3 32 Tryz.underlying56 hi hz0 hz1 hz2 rfl (by decide) _ _ _ rfl (hown2.alloc _) ⟨W2.heap.size, 0, none⟩ 1 1 [.int .i64 xk, .int .i64 xn, .string ⟨xt.toArray⟩] rfl rfl (by intro j u hj; match j, hj with | 0, hj => (simp at hj; subst hj; simp [Addr.add]) | 1, hj => (simp at hj; subst hj; simp [Addr.add]) | 2, hj => (simp at hj; subst hj; simp [Addr.add])) (by intro u hu; simp at hu; rcases hu with rfl | rfl | rfl <;> rfl) (by unfold maxLen; omega) (by omega) (by simp; omega) ?_; intro v' w1 hown' hgrow _; obtain ⟨p', cap', rfl⟩ := lown_shape hown'; have hV1 := (hV.alloc (.cells #[.int .i64 xk, .int .i64 xn, .string ⟨xt.toArray⟩] 87)).grown hgrow (hown2.alloc _); obtain ⟨z0, z1, z2⟩ := blk1 hV1.list)
        exact goes_on (x := ⟨xk, xn, xt⟩) hs5 hV hbl2 (by omega) hkinds HK.out hlt hown2 hgrow hown' hcl2 hsz12 hWV
  case done =>
    rintro D W hD ⟨v, hI⟩ hdef
    obtain ⟨p, cap, rfl⟩ := lown_shape hI.own
    obtain ⟨r0, r1, r2⟩ := blk1 hI.vars.res
    obtain ⟨e0, e1, e2⟩ := blk1 hI.vars.err
    obtain ⟨n0, n1, n2⟩ := blk1 hI.vars.line
    obtain ⟨v0, v1, v2⟩ := blk1 hI.vars.list
    have hcoll : tokP s = (rawF s, 0, 0) := by
      unfold tokP
      rw [if_neg (by omega), toks_coll]; exact coll_done _ 0 hI.kinds (by have := hI.few; omega)
    have HC := Lib.hid hcoll
    have hown := hI.own
    have hbl := hI.below
    have hV := hI.vars
    clear hcoll hI
    gi_wp2
    have hd2 : (((W.setCell ⟨w.heap.size, 0, none⟩ (.slice p (rawF s).length cap)).setCell ⟨w.heap.size + 1, 0, none⟩ (.int .i64 0)).setCell ⟨w.heap.size + 1 + 1, 0, none⟩ (.int .i64 0)).heap[D]? = some (.deferred (some [])) := by
      rw [heap_set_other _ _ _ _ _ (by omega), heap_set_other _ _ _ _ _ (by omega), heap_set_other _ _ _ _ _ (by omega)]; exact hdef
    have hown2 : (((W.setCell ⟨w.heap.size, 0, none⟩ (.slice p (rawF s).length cap)).setCell ⟨w.heap.size + 1, 0, none⟩ (.int .i64 0)).setCell ⟨w.heap.size + 1 + 1, 0, none⟩ (.int .i64 0)).ownsRow w5.heap.size 87 3 (.slice p (rawF s).length cap) (rawF s).length (((rawF s).map Tok.rt).flatMap rtC) := by
      obtain ⟨q0, q1 | ⟨g, cap, cur, hv, hg, hh, hr⟩⟩ := hown
      · exact ⟨q0, .inl q1⟩
      · exact ⟨q0, .inr ⟨g, cap, cur, hv, hg, by rw [heap_set_other _ _ _ _ _ (by omega), heap_set_other _ _ _ _ _ (by omega), heap_set_other _ _ _ _ _ (by omega)]; exact hh, hr⟩⟩
    have hbl2 := ((hbl.setCell (p := ⟨w.heap.size, 0, none⟩) (Nat.le_refl _) (.slice p (rawF s).length cap)).setCell (p := ⟨w.heap.size + 1, 0, none⟩) (by simp) (.int .i64 0)).setCell (p := ⟨w.heap.size + 1 + 1, 0, none⟩) (by simp; omega) (.int .i64 0)
    refine ⟨by simp, .inl ⟨_, _, rfl, run_takeDeferred hd2, ?_⟩⟩
    refine ⟨_, res_toks rfl rfl rfl ((hV.set _ _ _).putObj (by omega) _), ?_⟩
    exact tok_end (n := 0) (e := 0) HC.out (own_base (ownsRow_putObj hown2 _ hd2 rfl) (by omega)) (hbl2.trans (Turn.putObj (T := TS) (by omega) hd2 rfl).1)
  case stop =>
    rintro D pre W hD hpre ⟨pre', x, e, rfl, hx1, hx2, ⟨v, hV⟩, hbx⟩ hdef
    have hcoll : tokP s = ([], e, x.n) := by
      obtain ⟨r, hr⟩ := hpre
      unfold tokP
      rw [if_neg (by omega), toks_coll, ← hr, List.append_assoc]
      refine coll_stop x r e pre' 0 hx1 ?_
      rcases hx2 with ⟨h1, h2, h3⟩ | ⟨h1, h2, h3⟩
      · exact .inl ⟨h1, h2, by omega⟩
      · exact .inr ⟨h1, h2, by omega⟩
    have HC := Lib.hid hcoll
    clear hcoll hx1 hx2
    gi_wp2
    refine ⟨by simp, .inl ⟨_, _, rfl, run_takeDeferred hdef, ?_⟩⟩
    refine ⟨_, res_toks rfl rfl rfl (hV.putObj (by omega) _), ?_⟩
    exact tok_end HC.out (World.ownsRow_nil _ _ _ _) (hbx.trans (Turn.putObj (T := TS) (by omega) hdef rfl).1)
set_option maxHeartbeats 1000000 in
theorem toks_far (s : List UInt8) (hs : 20000 < s.length) (w : World) : Calls Tryz.prog 23 #[.string ⟨s.toArray⟩] w (TokEnd s w) := by
  have hz := bsz s
  have HC : Hid (tokP s = ([], 2, 0)) := Lib.hid (by unfold tokP; rw [if_pos hs])
  obtain ⟨S, hS⟩ : ∃ S, (⟨s.toArray⟩ : ByteArray) = S := ⟨_, rfl⟩
  rw [hS] at hz ⊢
  have hz' : decide ((S.size : Int) > 20000) = true := by rw [decide_eq_true_eq, hz]; omega
  have hz2 : decide (20000 < (S.size : Int)) = true := hz'
  clear hS hz hs
  go_enter Tryz.func23, Tryz.ntmps23
  go_wp2_with fail
  exact bodyPost_ret (v := .tuple #[.slice none 0 0, .int .i64 2, .int .i64 0]) (by simp [results, Tryz.results23, go_sem]) rfl (tok_end HC.out (World.ownsRow_nil _ _ _ _) (by (repeat (first | exact Below.refl _ _ | assumption | refine Below.drew ?_ | refine below_drewN ?_ _ | refine Below.setCell ?_ (by first | omega | (simp <;> omega)) _ | refine Below.alloc ?_ (by first | omega | (simp <;> omega)) _))))
theorem toks_any (s : List UInt8) (w : World) (hL : Lay w) : Calls Tryz.prog 23 #[.string ⟨s.toArray⟩] w (TokEnd s w) := by
  by_cases h : 20000 < s.length
  · exact toks_far s h w
  · exact toks_main s (by omega) w hL
end Go.Proofs.YthnlenbfknbmcaaGreatDoor
