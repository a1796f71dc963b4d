/-
  The row of words in the law on numbers.
-/
import Derived.Test.YthnlenbfknbmcaaGreatDoorQsh
import Derived.Great.BuildSlice
namespace Go.Proofs.YthnlenbfknbmcaaGreatDoor
open Go.RowKit Go.Shelf
set_option maxRecDepth 100000

theorem wpList_words {ops : Array Oper} {rest : List Oper} {o : Oper} {a : Act} {w : World} {Q : Exit → Act → World → Prop} (hg : o.guard = none) (ho : o.op = .buildSlice 43 8 #[(0, .const (.string ⟨#[114, 97, 116, 101]⟩)), (1, .const (.string ⟨#[32, 108, 101, 118, 101, 108]⟩)), (2, .const (.string ⟨#[32, 107, 105, 110, 100]⟩)), (3, .const (.string ⟨#[32, 110, 105, 103, 104, 116, 115]⟩)), (4, .const (.string ⟨#[32, 116, 111]⟩)), (5, .const (.string ⟨#[32, 115, 116, 97, 121]⟩)), (6, .const (.string ⟨#[32, 116, 111]⟩)), (7, .const (.string ⟨#[32, 97, 114, 114, 105, 118, 101]⟩))])
    (h : wpList Tryz.prog ops Q rest (a.put o.dst (.slice (some ⟨w.heap.size, 0, none⟩) 8 8)) (w.alloc (.cells #[.string ⟨#[114, 97, 116, 101]⟩, .string ⟨#[32, 108, 101, 118, 101, 108]⟩, .string ⟨#[32, 107, 105, 110, 100]⟩, .string ⟨#[32, 110, 105, 103, 104, 116, 115]⟩, .string ⟨#[32, 116, 111]⟩, .string ⟨#[32, 115, 116, 97, 121]⟩, .string ⟨#[32, 116, 111]⟩, .string ⟨#[32, 97, 114, 114, 105, 118, 101]⟩] 9))) : wpList Tryz.prog ops Q (o :: rest) a w := by
  have hi : (Tryz.prog.info? 9).map (fun i => (i.zero, i.size)) = some (some (.string ⟨#[]⟩), 1) := by kernel_rfl
  cases hie : Tryz.prog.info? 9 with
  | none => rw [hie] at hi; cases hi
  | some ie =>
  rw [hie] at hi
  simp only [Option.map_some, Option.some.injEq, Prod.mk.injEq] at hi
  obtain ⟨hz, hs⟩ := hi
  refine wpList_buildSlice hg _ _ 8 _ ho _ ie _ Tryz.underlying43 hie hz (by rw [hs]; decide) (by rw [hs]; decide) ?_ h
  rw [hs]
  clear ho h hie hz hs hg
  generalize (⟨#[114, 97, 116, 101]⟩ : ByteArray) = b0
  generalize (⟨#[32, 108, 101, 118, 101, 108]⟩ : ByteArray) = b1
  generalize (⟨#[32, 107, 105, 110, 100]⟩ : ByteArray) = b2
  generalize (⟨#[32, 110, 105, 103, 104, 116, 115]⟩ : ByteArray) = b3
  generalize (⟨#[32, 116, 111]⟩ : ByteArray) = b4
  generalize (⟨#[32, 115, 116, 97, 121]⟩ : ByteArray) = b5
  generalize (⟨#[32, 97, 114, 114, 105, 118, 101]⟩ : ByteArray) = b7
  kernel_rfl
end Go.Proofs.YthnlenbfknbmcaaGreatDoor
