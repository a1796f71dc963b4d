/-
  The parser, plain: what is read before what.
-/
import Derived.Test.YtlkefcbkpohpgaaDoorParText
namespace Go.Proofs.YtlkefcbkpohpgaaDoor

/-- nothing of these levels follows -/
def Cl (n : Nat) (us : List Tok) : Prop := ∀ j, n ≤ j → opL j us = 0
theorem Cl.mono {n m : Nat} {us : List Tok} (h : Cl n us) (hm : n ≤ m) : Cl m us := fun j hj => h j (by omega)
/-- read on a level -/
def Rd (n : Nat) (e : Xp) (A : List Tok) : Prop := ∀ us, Cl n us → G (.lvl n) (A ++ us) (.ok [e] us)
/-- read behind the first one on a level -/
def Tl (n : Nat) (e : Xp) (T : List Tok) (e2 : Xp) : Prop := ∀ us, Cl n us → G (.tail n e) (T ++ us) (.ok [e2] us) ∧ Cl (n + 1) (T ++ us)
def Nn (A : List Tok) : Prop := ∀ us, isT wNot (A ++ us) = false
theorem sh_nn {e : Xp} {A : List Tok} (h : Sh e A) : Nn A := fun _ => h.first.1
theorem sh_rd {e : Xp} {A : List Tok} (h : Sh e A) (n : Nat) (hn : n ≤ 6) : Rd n e A := fun us hc => g_lev (sh_read h us) h.first.1 hn hc
theorem nn_app {A B : List Tok} (h : Nn A) : Nn (A ++ B) := fun us => by rw [List.append_assoc]; exact h _
theorem tl_nil {n : Nat} {e : Xp} : Tl n e [] e := fun us hc => ⟨g_end (hc n (Nat.le_refl _)), hc.mono (by omega)⟩
theorem tl_cons {n o : Nat} {e b e2 : Xp} {y : Tok} {B T : List Tok} (hy : OpT y n o) (hn : n ≠ 3) (hb : Rd (n + 1) b B) (ht : Tl n (nodeE o [e, b]) T e2) : Tl n e (y :: (B ++ T)) e2 := fun us hc => by
  obtain ⟨h1, h2⟩ := ht us hc
  refine ⟨?_, fun j hj => hy.other (by omega)⟩
  have e : y :: (B ++ T) ++ us = y :: (B ++ (T ++ us)) := by simp
  rw [e]
  have ho : opL n (y :: (B ++ (T ++ us))) = o := hy.op
  refine g_more (by rw [ho]; exact hy.pos.1) hn (hb _ h2) ?_
  rw [ho]; exact h1
theorem rd_tl {n : Nat} {e e2 : Xp} {A T : List Tok} (hn : n ≠ 3) (hn5 : n ≤ 5) (ha : Rd (n + 1) e A) (ht : Tl n e T e2) : Rd n e2 (A ++ T) := fun us hc => by
  obtain ⟨h1, h2⟩ := ht us hc
  rw [List.append_assoc]
  exact g_lvl hn5 (fun h => absurd h hn) (ha _ h2) h1
theorem rd_down {n : Nat} {e : Xp} {A : List Tok} (hn : n ≠ 3) (hn5 : n ≤ 5) (ha : Rd (n + 1) e A) : Rd n e A := by
  have := rd_tl hn hn5 ha tl_nil
  rw [List.append_nil] at this; exact this
theorem rd_down3 {e : Xp} {A : List Tok} (ha : Rd 4 e A) (hA : Nn A) : Rd 3 e A := fun us hc => g_lvl (by decide) (fun _ => hA us) (ha us (hc.mono (by decide))) (g_end (hc 3 (by decide)))
theorem rd_cmp {o : Nat} {a b : Xp} {y : Tok} {A B : List Tok} (hy : OpT y 3 o) (ha : Rd 4 a A) (hA : Nn A) (hb : Rd 4 b B) : Rd 3 (nodeE o [a, b]) (A ++ y :: B) := fun us hc => by
  have e : A ++ y :: B ++ us = A ++ y :: (B ++ us) := by simp
  rw [e]
  have ho : opL 3 (y :: (B ++ us)) = o := hy.op
  refine g_lvl (by decide) (fun _ => hA _) (ha _ (fun j hj => hy.other (by omega))) ?_
  have := g_one (e := a) (by rw [ho]; exact hy.pos.1) (hb us (hc.mono (by decide)))
  rw [ho] at this; exact this
theorem rd_not {a : Xp} {y : Tok} {A : List Tok} (hy : y.t = wNot) (ha : Rd 3 a A) : Rd 3 (nodeE 15 [a]) (y :: A) := fun us hc => g_not hy (ha us hc)
theorem cl_stop {us : List Tok} (h : stopT us) (n : Nat) : Cl n us := fun j _ => h j
/-- a whole expression -/
def Re (e : Xp) (A : List Tok) : Prop := ∀ us, stopT us → G .expr (A ++ us) (.ok [e] us)
theorem re_of {e : Xp} {A : List Tok} (h : Rd 1 e A) (hi : ∀ us, isT wIf (A ++ us) = false) : Re e A := fun us hs => g_any (hi us) (h us (cl_stop hs 1))
theorem re_sh {e : Xp} {A : List Tok} (h : Sh e A) : Re e A := re_of (sh_rd h 1 (by decide)) (fun _ => h.first.2)
theorem re_if {a b c : Xp} {A B C : List Tok} {x y z : Tok} (hx : x.t = wIf) (hy : y.t = wThen) (hz : z.t = wElse) (ha : Re a A) (hb : Re b B) (hc : Re c C) : Re (nodeE 10 [a, b, c]) (x :: (A ++ y :: (B ++ z :: C))) := fun us hs => by
  have e : x :: (A ++ y :: (B ++ z :: C)) ++ us = x :: (A ++ y :: (B ++ z :: (C ++ us))) := by simp
  rw [e]
  exact g_if hx (g_ex (es := [a]) (ha _ (stop_text (.inr (.inr (.inl hy))))) (g_lit hy (g_ex (es := [b]) (hb _ (stop_text (.inr (.inr (.inr hz))))) (g_lit hz (g_ex (es := [c]) (hc _ hs) g_nil)))))

section
variable {a b c d : Xp} {A B C D : List Tok} (ha : Sh a A) (hb : Sh b B) (hc : Sh c C) (hd : Sh d D)
include ha hb in
/-- a / b on its level -/
theorem rd_two5 {y : Tok} {o : Nat} (hy : OpT y 5 o) : Rd 5 (nodeE o [a, b]) (A ++ y :: (B ++ [])) := rd_tl (by decide) (by decide) (sh_rd ha 6 (by decide)) (tl_cons hy (by decide) (sh_rd hb 6 (by decide)) tl_nil)
variable {p q r s t u : Tok}
include ha hb hc hd in
/-- a + b * c < d - a / b -/
theorem prec_p (hp : OpT p 4 4) (hq : OpT q 5 6) (hr : OpT r 3 11) (hs : OpT s 4 5) (ht : OpT t 5 7) :
    Re (nodeE 11 [nodeE 4 [a, nodeE 6 [b, c]], nodeE 5 [d, nodeE 7 [a, b]]]) ((A ++ p :: ((B ++ q :: (C ++ [])) ++ [])) ++ r :: (D ++ s :: ((A ++ t :: (B ++ [])) ++ []))) := by
  have h1 : Rd 4 (nodeE 4 [a, nodeE 6 [b, c]]) (A ++ p :: ((B ++ q :: (C ++ [])) ++ [])) := rd_tl (by decide) (by decide) (sh_rd ha 5 (by decide)) (tl_cons hp (by decide) (rd_two5 hb hc hq) tl_nil)
  have h2 : Rd 4 (nodeE 5 [d, nodeE 7 [a, b]]) (D ++ s :: ((A ++ t :: (B ++ [])) ++ [])) := rd_tl (by decide) (by decide) (sh_rd hd 5 (by decide)) (tl_cons hs (by decide) (rd_two5 ha hb ht) tl_nil)
  have h3 := rd_cmp hr h1 (nn_app (sh_nn ha)) h2
  refine re_of (rd_down (by decide) (by decide) (rd_down (by decide) (by decide) h3)) (fun us => ?_)
  rw [List.append_assoc, List.append_assoc]; exact ha.first.2
include ha hb hc hd in
/-- not a = b and c or d and not not a -/
theorem prec_q (hp : p.t = wNot) (hq : OpT q 3 12) (hr : OpT r 2 13) (hs : OpT s 1 14) (ht : OpT t 2 13) (hu : u.t = wNot) {v : Tok} (hv : v.t = wNot) :
    Re (nodeE 14 [nodeE 13 [nodeE 15 [nodeE 12 [a, b]], c], nodeE 13 [d, nodeE 15 [nodeE 15 [a]]]]) ((p :: (A ++ q :: B) ++ r :: (C ++ [])) ++ s :: ((D ++ t :: ((u :: v :: A) ++ [])) ++ [])) := by
  have h1 : Rd 3 (nodeE 15 [nodeE 12 [a, b]]) (p :: (A ++ q :: B)) := rd_not hp (rd_cmp hq (sh_rd ha 4 (by decide)) (sh_nn ha) (sh_rd hb 4 (by decide)))
  have h2 : Rd 2 (nodeE 13 [nodeE 15 [nodeE 12 [a, b]], c]) (p :: (A ++ q :: B) ++ r :: (C ++ [])) := rd_tl (by decide) (by decide) h1 (tl_cons hr (by decide) (sh_rd hc 3 (by decide)) tl_nil)
  have h3 : Rd 3 (nodeE 15 [nodeE 15 [a]]) (u :: v :: A) := rd_not hu (rd_not hv (sh_rd ha 3 (by decide)))
  have h4 : Rd 2 (nodeE 13 [d, nodeE 15 [nodeE 15 [a]]]) (D ++ t :: ((u :: v :: A) ++ [])) := rd_tl (by decide) (by decide) (sh_rd hd 3 (by decide)) (tl_cons ht (by decide) h3 tl_nil)
  refine re_of (rd_tl (by decide) (by decide) h2 (tl_cons hs (by decide) h4 tl_nil)) (fun us => ?_)
  show (p.t == wIf) = false
  rw [hp]; decide
include ha hb hc hd in
/-- a - b + c - d -/
theorem prec_r (hp : OpT p 4 5) (hq : OpT q 4 4) (hr : OpT r 4 5) : Re (nodeE 5 [nodeE 4 [nodeE 5 [a, b], c], d]) (A ++ p :: (B ++ q :: (C ++ r :: (D ++ [])))) := by
  have h1 : Rd 4 (nodeE 5 [nodeE 4 [nodeE 5 [a, b], c], d]) (A ++ p :: (B ++ q :: (C ++ r :: (D ++ [])))) :=
    rd_tl (by decide) (by decide) (sh_rd ha 5 (by decide)) (tl_cons hp (by decide) (sh_rd hb 5 (by decide)) (tl_cons hq (by decide) (sh_rd hc 5 (by decide)) (tl_cons hr (by decide) (sh_rd hd 5 (by decide)) tl_nil)))
  refine re_of (rd_down (by decide) (by decide) (rd_down (by decide) (by decide) (rd_down3 h1 (nn_app (sh_nn ha))))) (fun us => ?_)
  rw [List.append_assoc]; exact ha.first.2
include ha hb hc hd in
/-- a / b * c or d or a -/
theorem prec_s (hp : OpT p 5 7) (hq : OpT q 5 6) (hr : OpT r 1 14) (hs : OpT s 1 14) : Re (nodeE 14 [nodeE 14 [nodeE 6 [nodeE 7 [a, b], c], d], a]) ((A ++ p :: (B ++ q :: (C ++ []))) ++ r :: (D ++ s :: (A ++ []))) := by
  have h1 : Rd 5 (nodeE 6 [nodeE 7 [a, b], c]) (A ++ p :: (B ++ q :: (C ++ []))) := rd_tl (by decide) (by decide) (sh_rd ha 6 (by decide)) (tl_cons hp (by decide) (sh_rd hb 6 (by decide)) (tl_cons hq (by decide) (sh_rd hc 6 (by decide)) tl_nil))
  have h2 := rd_down (n := 2) (by decide) (by decide) (rd_down3 (rd_down (n := 4) (by decide) (by decide) h1) (nn_app (sh_nn ha)))
  refine re_of (rd_tl (by decide) (by decide) h2 (tl_cons hr (by decide) (sh_rd hd 2 (by decide)) (tl_cons hs (by decide) (sh_rd ha 2 (by decide)) tl_nil))) (fun us => ?_)
  rw [List.append_assoc, List.append_assoc]; exact ha.first.2
include ha hb hc hd in
/-- if a then b else if c then d else a + b -/
theorem prec_t {x y z x2 y2 z2 : Tok} (hx : x.t = wIf) (hy : y.t = wThen) (hz : z.t = wElse) (hx2 : x2.t = wIf) (hy2 : y2.t = wThen) (hz2 : z2.t = wElse) (hp : OpT p 4 4) :
    Re (nodeE 10 [a, b, nodeE 10 [c, d, nodeE 4 [a, b]]]) (x :: (A ++ y :: (B ++ z :: (x2 :: (C ++ y2 :: (D ++ z2 :: (A ++ p :: (B ++ [])))))))) := by
  have h1 : Rd 4 (nodeE 4 [a, b]) (A ++ p :: (B ++ [])) := rd_tl (by decide) (by decide) (sh_rd ha 5 (by decide)) (tl_cons hp (by decide) (sh_rd hb 5 (by decide)) tl_nil)
  have h2 : Re (nodeE 4 [a, b]) (A ++ p :: (B ++ [])) := by
    refine re_of (rd_down (by decide) (by decide) (rd_down (by decide) (by decide) (rd_down3 h1 (nn_app (sh_nn ha))))) (fun us => ?_)
    rw [List.append_assoc]; exact ha.first.2
  exact re_if hx hy hz (re_sh ha) (re_sh hb) (re_if hx2 hy2 hz2 (re_sh hc) (re_sh hd) h2)
end
end Go.Proofs.YtlkefcbkpohpgaaDoor
