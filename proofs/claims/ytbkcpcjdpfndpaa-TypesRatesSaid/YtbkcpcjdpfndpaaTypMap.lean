/-
  The map of the rules: made, looked up.
-/
import Derived.Test.YtbkcpcjdpfndpaaTypOwn
import Derived.Test.YtbkcpcjdpfndpaaTypChoice
import Derived.Maps.Own
import Derived.KernelRfl
namespace Go.Proofs.Ytbkcpcjdpfndpaa
open Go.RowKit
set_option maxRecDepth 100000

section
variable {P : Program} {t k e : TypeId} {q : IntKind}
theorem run_checkT' (hk : P.underlying k = some (.int q)) (b : Bool) (n : Nat) (a : Int) (w : World) : (Instr.checkKey b (n + 1) k (.int q a)).run P w = .ok () w := by
  simp [Instr.checkKey, run_underlying hk]
theorem run_checkT (hk : P.underlying k = some (.int q)) (b : Bool) (a : Int) (w : World) : (Instr.checkKey b 10000 k (.int q a)).run P w = .ok () w := run_checkT' hk b 9999 a w
theorem push_setT {α : Type} (l : Array α) (x y : α) : (l.push x).setIfInBounds l.size y = l.push y := by
  apply Array.ext_getElem?
  intro i
  rw [Array.getElem?_setIfInBounds, Array.getElem?_push, Array.getElem?_push]
  by_cases h : i = l.size
  · subst h; simp
  · simp [h, Ne.symm h]
theorem run_insertT (ht : P.underlying t = some (.map k e)) (hk : P.underlying k = some (.int q)) (w0 : World) (es : Array MapEntry) (c : Nat) (a : Int) (v : Value)
    (hn : Instr.findNow (.int q) (.int q a) es.toList 0 = some none) :
    (Instr.mapUpdate t (.map (some w0.heap.size)) (.int q a) v).run P (w0.alloc (.map es c)) = .ok () (w0.alloc (.map (es.push { key := .int q a, val := v, born := c }) (c + 1))) := by
  have hb : (w0.alloc (.map es c)).heap[w0.heap.size]? = some (.map es c) := (MapKept.heap_alloc w0 _).1
  have hs : ({ w0.alloc (.map es c) with heap := (w0.alloc (.map es c)).heap.setIfInBounds w0.heap.size (.map (es.push { key := .int q a, val := v, born := c }) (c + 1)) } : World) = w0.alloc (.map (es.push { key := .int q a, val := v, born := c }) (c + 1)) := by
    show ({ w0 with heap := (w0.heap.push (.map es c)).setIfInBounds w0.heap.size (.map (es.push { key := .int q a, val := v, born := c }) (c + 1)) } : World) = { w0 with heap := w0.heap.push (.map (es.push { key := .int q a, val := v, born := c }) (c + 1)) }
    rw [push_setT]
  rw [← hs]
  simp [Instr.mapUpdate, run_underlying ht, MapKept.run_getObj_map hb, run_checkT hk, Instr.findKey, run_underlying hk, hn, MapKept.run_setObj_map _ hb, Result.andThen]
theorem run_lookT (ht : P.underlying t = some (.map k e)) (hk : P.underlying k = some (.int q)) (w : World) (b : Nat) (es : Array MapEntry) (c i : Nat) (a : Int) (v : Value)
    (hb : w.heap[b]? = some (.map es c)) (hn : Instr.findNow (.int q) (.int q a) es.toList 0 = some (some (i, v))) :
    (Instr.lookup t (.map (some b)) (.int q a) false).run P w = .ok v w := by
  simp [Instr.lookup, run_underlying ht, MapKept.run_getObj_map hb, run_checkT hk, Instr.findKey, run_underlying hk, hn, Result.andThen]
theorem run_lookN (ht : P.underlying t = some (.map k e)) (hk : P.underlying k = some (.int q)) (w : World) (b : Nat) (es : Array MapEntry) (c : Nat) (a : Int) (z : Value)
    (hz : (zeroValue e).run P w = .ok z w) (hb : w.heap[b]? = some (.map es c)) (hn : Instr.findNow (.int q) (.int q a) es.toList 0 = some none) :
    (Instr.lookup t (.map (some b)) (.int q a) false).run P w = .ok z w := by
  simp [Instr.lookup, run_underlying ht, MapKept.run_getObj_map hb, run_checkT hk, Instr.findKey, run_underlying hk, hn, Result.andThen, hz]
end

def fnT (f : Nat) : Value := .func (.func f) #[] #[]
def rulesE : List MapEntry := [{ key := .int .i64 1, val := fnT 40, born := 0 }, { key := .int .i64 2, val := fnT 41, born := 1 }, { key := .int .i64 3, val := fnT 40, born := 2 }, { key := .int .i64 4, val := fnT 42, born := 3 }, { key := .int .i64 5, val := fnT 42, born := 4 }, { key := .int .i64 6, val := fnT 43, born := 5 }, { key := .int .i64 7, val := fnT 44, born := 6 }, { key := .int .i64 8, val := fnT 42, born := 7 }, { key := .int .i64 9, val := fnT 42, born := 8 }, { key := .int .i64 10, val := fnT 45, born := 9 }, { key := .int .i64 11, val := fnT 46, born := 10 }, { key := .int .i64 12, val := fnT 46, born := 11 }, { key := .int .i64 13, val := fnT 47, born := 12 }, { key := .int .i64 14, val := fnT 47, born := 13 }, { key := .int .i64 15, val := fnT 47, born := 14 }]
def mapR (k : Nat) : Obj := .map (rulesE.take k).toArray k
theorem put_rule0 (w0 : World) : (Instr.mapUpdate 57 (.map (some w0.heap.size)) (.int .i64 1) (.func (.func 40) #[] #[])).run Try.prog (w0.alloc (.map #[] 0)) = .ok () (w0.alloc (mapR 1)) := run_insertT Try.underlying57 Try.underlying3 w0 (rulesE.take 0).toArray 0 1 _ rfl
theorem put_rule1 (w0 : World) : (Instr.mapUpdate 57 (.map (some w0.heap.size)) (.int .i64 2) (.func (.func 41) #[] #[])).run Try.prog (w0.alloc (mapR 1)) = .ok () (w0.alloc (mapR 2)) := run_insertT Try.underlying57 Try.underlying3 w0 (rulesE.take 1).toArray 1 2 _ rfl
theorem put_rule2 (w0 : World) : (Instr.mapUpdate 57 (.map (some w0.heap.size)) (.int .i64 3) (.func (.func 40) #[] #[])).run Try.prog (w0.alloc (mapR 2)) = .ok () (w0.alloc (mapR 3)) := run_insertT Try.underlying57 Try.underlying3 w0 (rulesE.take 2).toArray 2 3 _ rfl
theorem put_rule3 (w0 : World) : (Instr.mapUpdate 57 (.map (some w0.heap.size)) (.int .i64 4) (.func (.func 42) #[] #[])).run Try.prog (w0.alloc (mapR 3)) = .ok () (w0.alloc (mapR 4)) := run_insertT Try.underlying57 Try.underlying3 w0 (rulesE.take 3).toArray 3 4 _ rfl
theorem put_rule4 (w0 : World) : (Instr.mapUpdate 57 (.map (some w0.heap.size)) (.int .i64 5) (.func (.func 42) #[] #[])).run Try.prog (w0.alloc (mapR 4)) = .ok () (w0.alloc (mapR 5)) := run_insertT Try.underlying57 Try.underlying3 w0 (rulesE.take 4).toArray 4 5 _ rfl
theorem put_rule5 (w0 : World) : (Instr.mapUpdate 57 (.map (some w0.heap.size)) (.int .i64 6) (.func (.func 43) #[] #[])).run Try.prog (w0.alloc (mapR 5)) = .ok () (w0.alloc (mapR 6)) := run_insertT Try.underlying57 Try.underlying3 w0 (rulesE.take 5).toArray 5 6 _ rfl
theorem put_rule6 (w0 : World) : (Instr.mapUpdate 57 (.map (some w0.heap.size)) (.int .i64 7) (.func (.func 44) #[] #[])).run Try.prog (w0.alloc (mapR 6)) = .ok () (w0.alloc (mapR 7)) := run_insertT Try.underlying57 Try.underlying3 w0 (rulesE.take 6).toArray 6 7 _ rfl
theorem put_rule7 (w0 : World) : (Instr.mapUpdate 57 (.map (some w0.heap.size)) (.int .i64 8) (.func (.func 42) #[] #[])).run Try.prog (w0.alloc (mapR 7)) = .ok () (w0.alloc (mapR 8)) := run_insertT Try.underlying57 Try.underlying3 w0 (rulesE.take 7).toArray 7 8 _ rfl
theorem put_rule8 (w0 : World) : (Instr.mapUpdate 57 (.map (some w0.heap.size)) (.int .i64 9) (.func (.func 42) #[] #[])).run Try.prog (w0.alloc (mapR 8)) = .ok () (w0.alloc (mapR 9)) := run_insertT Try.underlying57 Try.underlying3 w0 (rulesE.take 8).toArray 8 9 _ rfl
theorem put_rule9 (w0 : World) : (Instr.mapUpdate 57 (.map (some w0.heap.size)) (.int .i64 10) (.func (.func 45) #[] #[])).run Try.prog (w0.alloc (mapR 9)) = .ok () (w0.alloc (mapR 10)) := run_insertT Try.underlying57 Try.underlying3 w0 (rulesE.take 9).toArray 9 10 _ rfl
theorem put_rule10 (w0 : World) : (Instr.mapUpdate 57 (.map (some w0.heap.size)) (.int .i64 11) (.func (.func 46) #[] #[])).run Try.prog (w0.alloc (mapR 10)) = .ok () (w0.alloc (mapR 11)) := run_insertT Try.underlying57 Try.underlying3 w0 (rulesE.take 10).toArray 10 11 _ rfl
theorem put_rule11 (w0 : World) : (Instr.mapUpdate 57 (.map (some w0.heap.size)) (.int .i64 12) (.func (.func 46) #[] #[])).run Try.prog (w0.alloc (mapR 11)) = .ok () (w0.alloc (mapR 12)) := run_insertT Try.underlying57 Try.underlying3 w0 (rulesE.take 11).toArray 11 12 _ rfl
theorem put_rule12 (w0 : World) : (Instr.mapUpdate 57 (.map (some w0.heap.size)) (.int .i64 13) (.func (.func 47) #[] #[])).run Try.prog (w0.alloc (mapR 12)) = .ok () (w0.alloc (mapR 13)) := run_insertT Try.underlying57 Try.underlying3 w0 (rulesE.take 12).toArray 12 13 _ rfl
theorem put_rule13 (w0 : World) : (Instr.mapUpdate 57 (.map (some w0.heap.size)) (.int .i64 14) (.func (.func 47) #[] #[])).run Try.prog (w0.alloc (mapR 13)) = .ok () (w0.alloc (mapR 14)) := run_insertT Try.underlying57 Try.underlying3 w0 (rulesE.take 13).toArray 13 14 _ rfl
theorem put_rule14 (w0 : World) : (Instr.mapUpdate 57 (.map (some w0.heap.size)) (.int .i64 15) (.func (.func 47) #[] #[])).run Try.prog (w0.alloc (mapR 14)) = .ok () (w0.alloc (mapR 15)) := run_insertT Try.underlying57 Try.underlying3 w0 (rulesE.take 14).toArray 14 15 _ rfl
set_option maxHeartbeats 1600000 in
theorem rules_any (w : World) : Calls Try.prog 34 #[] w fun e w' => e = .returned (.map (some w.heap.size)) ∧ w' = w.alloc (mapR 15) := by
  have hmm := @run_makeMap Try.prog
  have hmf : ∀ (fn : Fn) (first cap : Array Value) (w : World), (Instr.makeFunc fn first cap).run Try.prog w = .ok (.func fn first cap) w := fun _ _ _ _ => rfl
  have p0 := put_rule0
  have p1 := put_rule1
  have p2 := put_rule2
  have p3 := put_rule3
  have p4 := put_rule4
  have p5 := put_rule5
  have p6 := put_rule6
  have p7 := put_rule7
  have p8 := put_rule8
  have p9 := put_rule9
  have p10 := put_rule10
  have p11 := put_rule11
  have p12 := put_rule12
  have p13 := put_rule13
  have p14 := put_rule14
  go_enter Try.func34, Try.ntmps34
  go_wp2_with fail
  go_ret
  exact ⟨rfl, rfl⟩
/-- the map of the rules lies in block m -/
def MapRl (w : World) (m : Nat) : Prop := w.heap[m]? = some (mapR 15)
theorem MapRl.below {w w1 : World} {m : Nat} (h : MapRl w m) (hb : Below w.heap.size w w1) : MapRl w1 m := (hb.block m (Array.getElem?_eq_some_iff.1 h).1).trans h
theorem MapRl.lt {w : World} {m : Nat} (h : MapRl w m) : m < w.heap.size := (Array.getElem?_eq_some_iff.1 h).1
theorem MapRl.grown {w w' : World} {m : Nat} {row : Option Nat} (h : MapRl w m) (hg : w.grownBy w' row) (hn : ∀ r, row = some r → r ≠ m) : MapRl w' m := (hg.block m h.lt (fun e => hn m e.symm rfl)).trans h
theorem look_rule {w : World} {m : Nat} (h : MapRl w m) (i : Nat) (o : Int) (f : Nat) (hn : Instr.findNow (.int .i64) (.int .i64 o) rulesE 0 = some (some (i, fnT f))) :
    (Instr.lookup 57 (.map (some m)) (.int .i64 o) false).run Try.prog w = .ok (.func (.func f) #[] #[]) w :=
  run_lookT Try.underlying57 Try.underlying3 w m rulesE.toArray 15 i o (fnT f) h hn
/-- a row of types -/
def KV (w : World) (v : Value) (ts : List Nat) : Prop := (ts = [] ∧ v = .slice none 0 0) ∨ ∃ g cap, v = .slice (some ⟨g, 0, none⟩) ts.length cap ∧ Kds w g ts
theorem kv_own {w : World} {base : Nat} {v : Value} {ts : List Nat} (h : w.ownsRow base 3 1 v ts.length (ts.map tyV)) : KV w v ts := by
  obtain ⟨h0, ⟨h1, h2⟩ | ⟨g, cap, cur, rfl, hg, hr⟩⟩ := id h
  · exact .inl ⟨List.length_eq_zero_iff.1 h2, h1⟩
  · exact .inr ⟨g, cap, rfl, kds_own h⟩

set_option maxHeartbeats 1600000 in
theorem rule_any {o n : Int} {ts : List Nat} {w : World} {m : Nat} {v : Value} (hn : nodeB o n ts.length = true) (h0 : ∀ t ∈ ts, t ≠ 0) (h3 : ∀ t ∈ ts, t ≤ 3) (hm : MapRl w m) (hk : KV w v ts) : ∃ f, (Instr.lookup 57 (.map (some m)) (.int .i64 o) false).run Try.prog w = .ok (.func (.func f) #[] #[]) w ∧
    Calls Try.prog f #[v] w (TyEnd (ruleF o (ts.getD 0 0) (ts.getD 1 0) (ts.getD 2 0)) w) ∧ (f = 40 ∨ f = 41 ∨ f = 42 ∨ f = 43 ∨ f = 44 ∨ f = 45 ∨ f = 46 ∨ f = 47) := by
  by_cases o1 : o = 1
  · subst o1
    exact ⟨_, look_rule hm 0 1 _ rfl, (rule1_any v w).mono fun e w' h => .inl ⟨by simp [ruleF], h.1, h.2⟩, .inl rfl⟩
  by_cases o2 : o = 2
  · subst o2
    exact ⟨_, look_rule hm 1 2 _ rfl, (rule2_any v w).mono fun e w' h => .inl ⟨by simp [ruleF], h.1, h.2⟩, .inr (.inl rfl)⟩
  by_cases o3 : o = 3
  · subst o3
    exact ⟨_, look_rule hm 2 3 _ rfl, (rule1_any v w).mono fun e w' h => .inl ⟨by simp [ruleF], h.1, h.2⟩, .inl rfl⟩
  by_cases o15 : o = 15
  · subst o15
    have hl : ts.length = 1 := by have h := hn; simp [nodeB] at h; exact h.1
    obtain ⟨a, rfl⟩ : ∃ a, ts = [a] := List.length_eq_one_iff.1 hl
    obtain ⟨h, -⟩ | ⟨g, cap, rfl, hg⟩ := hk
    · cases h
    exact ⟨_, look_rule hm 14 15 _ rfl, truths_any g cap [a] (by simp) _ (by simp [ruleF]) w hg, .inr (.inr (.inr (.inr (.inr (.inr (.inr (rfl)))))))⟩
  by_cases o10 : o = 10
  · subst o10
    have hl : ts.length = 3 := by have h := hn; simp [nodeB] at h; exact h.1
    match ts, hl with
    | [a, b, c], _ =>
      obtain ⟨h, -⟩ | ⟨g, cap, rfl, hg⟩ := hk
      · cases h
      exact ⟨_, look_rule hm 9 10 _ rfl, choice_any g cap a b c _ (by simp [ruleF]) (h0 b (by simp)) w hg, .inr (.inr (.inr (.inr (.inr (.inl rfl)))))⟩
  have hr : 4 ≤ o ∧ o ≤ 14 ∧ ts.length = 2 := by
    unfold nodeB at hn
    simp only [o1, o2, o3, o15, o10, if_false, Bool.and_eq_true, decide_eq_true_eq] at hn
    omega
  obtain ⟨r1, r2, hl⟩ := hr
  match ts, hl with
  | [a, b], _ =>
    have ha : a ≠ 0 ∧ a ≤ 3 := ⟨h0 a (by simp), h3 a (by simp)⟩
    have hb : b ≠ 0 ∧ b ≤ 3 := ⟨h0 b (by simp), h3 b (by simp)⟩
    have ha3 : a = 1 ∨ a = 2 ∨ a = 3 := by omega
    have hb3 : b = 1 ∨ b = 2 ∨ b = 3 := by omega
    obtain ⟨h, -⟩ | ⟨g, cap, rfl, hg⟩ := hk
    · cases h
    have hcase : o = 4 ∨ o = 5 ∨ o = 6 ∨ o = 7 ∨ o = 8 ∨ o = 9 ∨ o = 11 ∨ o = 12 ∨ o = 13 ∨ o = 14 := by omega
    rcases hcase with rfl | rfl | rfl | rfl | rfl | rfl | rfl | rfl | rfl | rfl
    · exact ⟨_, look_rule hm 3 4 _ rfl, alike_any g cap a b _ (by rcases ha3 with rfl | rfl | rfl <;> rcases hb3 with rfl | rfl | rfl <;> rfl) w hg, .inr (.inr (.inl rfl))⟩
    · exact ⟨_, look_rule hm 4 5 _ rfl, alike_any g cap a b _ (by rcases ha3 with rfl | rfl | rfl <;> rcases hb3 with rfl | rfl | rfl <;> rfl) w hg, .inr (.inr (.inl rfl))⟩
    · exact ⟨_, look_rule hm 5 6 _ rfl, product_any g cap a b _ (by rcases ha3 with rfl | rfl | rfl <;> rcases hb3 with rfl | rfl | rfl <;> rfl) w hg, .inr (.inr (.inr (.inl rfl)))⟩
    · exact ⟨_, look_rule hm 6 7 _ rfl, quotient_any g cap a b _ (by rcases ha3 with rfl | rfl | rfl <;> rcases hb3 with rfl | rfl | rfl <;> rfl) w hg, .inr (.inr (.inr (.inr (.inl rfl))))⟩
    · exact ⟨_, look_rule hm 7 8 _ rfl, alike_any g cap a b _ (by rcases ha3 with rfl | rfl | rfl <;> rcases hb3 with rfl | rfl | rfl <;> rfl) w hg, .inr (.inr (.inl rfl))⟩
    · exact ⟨_, look_rule hm 8 9 _ rfl, alike_any g cap a b _ (by rcases ha3 with rfl | rfl | rfl <;> rcases hb3 with rfl | rfl | rfl <;> rfl) w hg, .inr (.inr (.inl rfl))⟩
    · exact ⟨_, look_rule hm 10 11 _ rfl, comparison_any g cap a b _ (by rcases ha3 with rfl | rfl | rfl <;> rcases hb3 with rfl | rfl | rfl <;> rfl) w hg, .inr (.inr (.inr (.inr (.inr (.inr (.inl rfl))))))⟩
    · exact ⟨_, look_rule hm 11 12 _ rfl, comparison_any g cap a b _ (by rcases ha3 with rfl | rfl | rfl <;> rcases hb3 with rfl | rfl | rfl <;> rfl) w hg, .inr (.inr (.inr (.inr (.inr (.inr (.inl rfl))))))⟩
    · exact ⟨_, look_rule hm 12 13 _ rfl, truths_any g cap [a, b] (by simp) _ (by simp [ruleF]) w hg, .inr (.inr (.inr (.inr (.inr (.inr (.inr (rfl)))))))⟩
    · exact ⟨_, look_rule hm 13 14 _ rfl, truths_any g cap [a, b] (by simp) _ (by simp [ruleF]) w hg, .inr (.inr (.inr (.inr (.inr (.inr (.inr (rfl)))))))⟩
end Go.Proofs.Ytbkcpcjdpfndpaa
