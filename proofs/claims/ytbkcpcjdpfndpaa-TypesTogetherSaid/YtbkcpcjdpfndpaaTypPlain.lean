/-
  Types of expressions and of rates, plain.
-/
import Derived.Test.YtbkcpcjdpfndpaaParVal
import Derived.Test.YtbkcpcjdpfndpaaRatioC
namespace Go.Proofs.Ytbkcpcjdpfndpaa
open Go.RowKit
set_option maxRecDepth 100000

/-- the type that an operator gives to the types of its kids; 0 is none -/
def ruleF (o : Int) (a b c : Nat) : Nat :=
  if o = 1 then 1 else if o = 2 then 2 else if o = 3 then 1
  else if o = 4 ∨ o = 5 ∨ o = 8 ∨ o = 9 then (if a = b ∧ a ≠ 3 then a else 0)
  else if o = 6 then (if a = 1 then (if b ≠ 3 then b else 0) else if b = 1 ∧ a ≠ 3 then a else 0)
  else if o = 7 then (if b = 1 ∧ a ≠ 3 then a else 0)
  else if o = 11 ∨ o = 12 then (if a = b ∧ a ≠ 3 then 3 else 0)
  else if o = 13 ∨ o = 14 then (if a = 3 ∧ b = 3 then 3 else 0)
  else if o = 15 then (if a = 3 then 3 else 0)
  else if o = 10 then (if a = 3 ∧ b = c then b else 0)
  else 0
mutual
def typE : Xp → Nat
  | .mk o _ kids => if (typL kids).all (fun t => t != 0) then ruleF o ((typL kids).getD 0 0) ((typL kids).getD 1 0) ((typL kids).getD 2 0) else 0
def typL : List Xp → List Nat
  | [] => []
  | e :: r => typE e :: typL r
end
theorem typE_mk (o n : Int) (l : List Xp) : typE (.mk o n l) = if (typL l).all (fun t => t != 0) then ruleF o ((typL l).getD 0 0) ((typL l).getD 1 0) ((typL l).getD 2 0) else 0 := by simp only [typE]
theorem typL_map : ∀ l, typL l = l.map typE
  | [] => by simp only [typL, List.map_nil]
  | e :: r => by simp only [typL, List.map_cons, typL_map r]
theorem typL_len (l : List Xp) : (typL l).length = l.length := by rw [typL_map, List.length_map]
theorem rule_le (o : Int) {a b c : Nat} (ha : a ≤ 3) (hb : b ≤ 3) : ruleF o a b c ≤ 3 := by
  unfold ruleF
  repeat' split
  all_goals omega
theorem getD_le {l : List Nat} (h : ∀ t ∈ l, t ≤ 3) (i : Nat) : l.getD i 0 ≤ 3 := by
  rw [List.getD_eq_getElem?_getD]
  cases hi : l[i]? with
  | none => simp
  | some x => simpa using h x (List.mem_of_getElem? hi)
theorem typE_le (e : Xp) : typE e ≤ 3 := by
  induction e using Xp.ind with
  | h o n kids ih =>
    rw [typE_mk]
    split
    · have : ∀ t ∈ typL kids, t ≤ 3 := by
        intro t ht
        rw [typL_map, List.mem_map] at ht
        obtain ⟨k, hk, rfl⟩ := ht
        exact ih k hk
      exact rule_le o (getD_le this 0) (getD_le this 1)
    · omega
/-- what has a type has parts that have one -/
theorem typ_parts {o n : Int} {l : List Xp} (h : typE (.mk o n l) ≠ 0) : ∀ k ∈ l, typE k ≠ 0 := by
  intro k hk h0
  rw [typE_mk] at h
  split at h
  · next ha =>
    rw [List.all_eq_true] at ha
    have := ha (typE k) (by rw [typL_map]; exact List.mem_map_of_mem hk)
    simp [h0] at this
  · exact h rfl
/-- a kid of the same type in a kid's place -/
theorem typL_set {l : List Xp} {k : Nat} {y : Xp} (hk : k < l.length) (h : typE y = typE l[k]) : typL (l.set k y) = typL l := by
  rw [typL_map, typL_map, List.map_set, h]
  apply List.ext_getElem (by simp)
  intro i h1 h2
  rw [List.getElem_set]
  split
  · next e => subst e; simp
  · rfl
theorem typ_set {o n m : Int} {l : List Xp} {k : Nat} {y : Xp} (hk : k < l.length) (h : typE y = typE l[k]) : typE (.mk o n (l.set k y)) = typE (.mk o m l) := by
  rw [typE_mk, typE_mk, typL_set hk h]
theorem valid_kid {o n : Int} {l : List Xp} (h : validF (.mk o n l) = true) {k : Xp} (hk : k ∈ l) : validF k = true := by
  unfold validF at h ⊢
  simp only [Bool.and_eq_true, decide_eq_true_eq] at h ⊢
  obtain ⟨⟨h1, h2⟩, h3⟩ := h
  rw [okE_mk, Bool.and_eq_true] at h1
  rw [cntE_mk] at h2
  rw [depE_mk] at h3
  have c1 : cntE k ≤ cntL l := by
    obtain ⟨i, hi, rfl⟩ := List.mem_iff_getElem.1 hk
    have := cnt_at hi
    omega
  have c2 := depL_mem k hk
  exact ⟨⟨okL_mem h1.2 _ hk, by omega⟩, by omega⟩
/-- how many kids a well-formed node has -/
theorem kids_le {o n : Int} {k : Nat} (h : nodeB o n k = true) : k ≤ 3 := by
  unfold nodeB at h
  repeat' split at h
  all_goals simp only [Bool.and_eq_true, decide_eq_true_eq] at h; omega

/-! ### Infer -/
def inferT (e : Xp) : Int := if validF e then (typE e : Int) else 0
def inferE (e : Xp) : Int := if validF e then (if typE e = 0 then 20 else 0) else 1
theorem inferE_zero {e : Xp} : inferE e = 0 ↔ validF e = true ∧ typE e ≠ 0 := by
  unfold inferE
  split
  · next h => split <;> simp_all
  · next h => simp_all
theorem inferT_of {e : Xp} (h : inferE e ≠ 0) : inferT e = 0 := by
  unfold inferE at h
  unfold inferT
  split
  · next hv => rw [if_pos hv] at h; split at h <;> simp_all
  · rfl

/-! ### Other numbers -/
mutual
def renE : Xp → Nat → Xp
  | .mk o m kids, n => .mk o (if o = 1 ∨ o = 2 then (n : Int) else if o = 3 then 1 + (n : Int) % 4 else m) (renL kids n)
def renL : List Xp → Nat → List Xp
  | [], _ => []
  | e :: r, n => renE e n :: renL r (n + 1)
end
theorem renE_mk (o m : Int) (l : List Xp) (n : Nat) : renE (.mk o m l) n = .mk o (if o = 1 ∨ o = 2 then (n : Int) else if o = 3 then 1 + (n : Int) % 4 else m) (renL l n) := by simp only [renE]
theorem renL_len : ∀ (l : List Xp) (n : Nat), (renL l n).length = l.length
  | [], _ => by simp only [renL, List.length_nil]
  | e :: r, n => by simp only [renL, List.length_cons, renL_len r (n + 1)]
theorem renL_at : ∀ (l : List Xp) (n k : Nat) (hk : k < l.length), (renL l n)[k]? = some (renE l[k] (n + k))
  | e :: r, n, 0, _ => by simp [renL]
  | e :: r, n, k + 1, hk => by
    have := renL_at r (n + 1) k (by simpa using hk)
    simp only [renL, List.getElem?_cons_succ, this, List.getElem_cons_succ]
    rw [show n + 1 + k = n + (k + 1) by omega]
theorem renL_take (l : List Xp) (n k : Nat) (hk : k < l.length) : (renL l n).take (k + 1) = (renL l n).take k ++ [renE l[k] (n + k)] := by
  rw [List.take_add_one, renL_at l n k hk]
  rfl
mutual
theorem typ_ren : ∀ (e : Xp) (n : Nat), typE (renE e n) = typE e
  | .mk o m l, n => by rw [renE_mk, typE_mk, typE_mk, typL_ren l n]
theorem typL_ren : ∀ (l : List Xp) (n : Nat), typL (renL l n) = typL l
  | [], _ => by simp only [renL]
  | e :: r, n => by simp only [renL, typL, typ_ren e n, typL_ren r (n + 1)]
end
mutual
theorem cnt_ren : ∀ (e : Xp) (n : Nat), cntE (renE e n) = cntE e
  | .mk o m l, n => by rw [renE_mk, cntE_mk, cntE_mk, cntL_ren l n]
theorem cntL_ren : ∀ (l : List Xp) (n : Nat), cntL (renL l n) = cntL l
  | [], _ => by simp only [renL]
  | e :: r, n => by simp only [renL, cntL, cnt_ren e n, cntL_ren r (n + 1)]
end
mutual
theorem dep_ren : ∀ (e : Xp) (n : Nat), depE (renE e n) = depE e
  | .mk o m l, n => by rw [renE_mk, depE_mk, depE_mk, depL_ren l n]
theorem depL_ren : ∀ (l : List Xp) (n : Nat), depL (renL l n) = depL l
  | [], _ => by simp only [renL]
  | e :: r, n => by simp only [renL, depL, dep_ren e n, depL_ren r (n + 1)]
end
theorem node_ren {o m : Int} {k n : Nat} (h : nodeB o m k = true) (hn : n ≤ 999999999) : nodeB o (if o = 1 ∨ o = 2 then (n : Int) else if o = 3 then 1 + (n : Int) % 4 else m) k = true := by
  unfold nodeB at h ⊢
  by_cases h1 : o = 1
  · subst h1; simp at h ⊢; omega
  by_cases h2 : o = 2
  · subst h2; simp at h ⊢; omega
  by_cases h3 : o = 3
  · subst h3; simp at h ⊢; omega
  simp only [h1, h2, h3, or_self, if_false] at h ⊢
  exact h
mutual
theorem ok_ren : ∀ (e : Xp) (n : Nat), okE e = true → n + 2 * depE e ≤ 999999999 → okE (renE e n) = true
  | .mk o m l, n, h, hn => by
    rw [okE_mk, Bool.and_eq_true] at h
    rw [depE_mk] at hn
    have := kids_le h.1
    rw [renE_mk, okE_mk, Bool.and_eq_true, renL_len]
    exact ⟨node_ren h.1 (by omega), okL_ren l n h.2 (by omega)⟩
theorem okL_ren : ∀ (l : List Xp) (n : Nat), okL l = true → n + l.length + 2 * depL l ≤ 1000000000 → okL (renL l n) = true
  | [], _, _, _ => by simp only [renL, okL]
  | e :: r, n, h, hn => by
    simp only [okL, Bool.and_eq_true] at h
    simp only [depL, List.length_cons] at hn
    simp only [renL, okL, Bool.and_eq_true]
    exact ⟨ok_ren e n h.1 (by omega), okL_ren r (n + 1) h.2 (by omega)⟩
end
theorem valid_ren {e : Xp} {n : Nat} (h : validF e = true) (hn : n ≤ 100000) : validF (renE e n) = true := by
  unfold validF at h ⊢
  simp only [Bool.and_eq_true, decide_eq_true_eq] at h ⊢
  rw [cnt_ren, dep_ren]
  exact ⟨⟨ok_ren e n h.1.1 (by omega), h.1.2⟩, h.2⟩

/-! ### Rates -/
structure Rg where
  a0 : Int
  a1 : Int
  a2 : Int
  a3 : Int
  a4 : Int
  a5 : Int
  a6 : Int
  a7 : Int
  kn : Int
  kd : Int
  when : Xp
  price : Xp
def formR (r : Rg) : Bool :=
  (decide (1 ≤ r.a0) && decide (r.a0 ≤ 1000000)) && (decide (0 ≤ r.a1) && decide (r.a1 ≤ 100)) && (decide (1 ≤ r.a2) && decide (r.a2 ≤ 20)) && (decide (0 ≤ r.a3) && decide (r.a3 < r.a4) && decide (r.a4 ≤ 366)) &&
  (decide (1 ≤ r.a5) && decide (r.a5 ≤ r.a6) && decide (r.a6 ≤ 60)) && (decide (1 ≤ r.a7) && decide (r.a7 ≤ 127)) && (vldB r.kn r.kd && decide (0 ≤ r.kn) && decide (r.kn ≤ r.kd)) && validF r.when && validF r.price
def rateB (r : Rg) : Bool := formR r && decide (typE r.when = 3) && decide (typE r.price = 2)
def rateE (r : Rg) : Int := if formR r then (if typE r.when = 3 ∧ typE r.price = 2 then 0 else 20) else 1
theorem rateE_zero {r : Rg} : rateE r = 0 ↔ rateB r = true := by
  unfold rateE rateB
  split
  · next h => split <;> simp_all
  · next h => simp_all
def validG (l : List Rg) : Bool := decide (l.length ≤ 100) && l.all rateB && decide ((l.map Rg.a0).Nodup)
theorem validG_iff {l : List Rg} : validG l = true ↔ l.length ≤ 100 ∧ (∀ r ∈ l, rateB r = true) ∧ (l.map Rg.a0).Nodup := by
  unfold validG
  simp only [Bool.and_eq_true, decide_eq_true_eq, List.all_eq_true, and_assoc]
theorem validG_perm {l m : List Rg} (h : l.Perm m) : validG l = validG m := by
  rw [Bool.eq_iff_iff, validG_iff, validG_iff, h.length_eq, (h.map Rg.a0).nodup_iff]
  exact ⟨fun ⟨a, b, c⟩ => ⟨a, fun r hr => b r (h.mem_iff.2 hr), c⟩, fun ⟨a, b, c⟩ => ⟨a, fun r hr => b r (h.mem_iff.1 hr), c⟩⟩
theorem validG_back (l : List Rg) : validG l.reverse = validG l := validG_perm l.reverse_perm
theorem validG_less {l : List Rg} {k : Nat} (h : validG l = true) : validG (l.eraseIdx k) = true := by
  rw [validG_iff] at h ⊢
  obtain ⟨h1, h2, h3⟩ := h
  have hs := List.eraseIdx_sublist l k
  exact ⟨Nat.le_trans hs.length_le h1, fun r hr => h2 r (hs.mem hr), h3.sublist (hs.map _)⟩
theorem validG_twice {l : List Rg} {r : Rg} (h : r ∈ l) : validG (l ++ [r]) = false := by
  rw [Bool.eq_false_iff]
  intro hv
  rw [validG_iff] at hv
  have := hv.2.2
  rw [List.map_append, List.nodup_append] at this
  exact this.2.2 _ (List.mem_map_of_mem h) _ (by simp) rfl
theorem validG_one {r : Rg} (h : rateB r = true) : validG [r] = true := by rw [validG_iff]; simp [h]
end Go.Proofs.Ytbkcpcjdpfndpaa
