/- What came in: numbers, and slices of numbers. -/
import Derived.Test.YtaicdjhblbobbabGreatGFace
import Derived.Test.YtaicdjhblbobbabGreatGKeep
import Derived.ProofKit
import Derived.OpenShut
import Derived.ChangeSlices
import Derived.Carry
namespace Go.Proofs.YtaicdjhblbobbabGreat
open Go.ChangeShapes Go.WideShapes Go.ChangeAt Go.RowKit

theorem Tryz.ownP : ownKnob Tryz.prog.godebug = none := by kernel_rfl
theorem Tryz.laidP : laidOutB Tryz.prog = true := by kernel_rfl
theorem Tryz.cellP : Tryz.prog.cellsOf 3 = 1 := by kernel_rfl
theorem wf_i64 {x : Int} (h : (Lit.int .i64 x).wf = true) : i64 x := by
  simp [Lit.wf, IntKind.min, IntKind.max, IntKind.signed, IntKind.bits] at h
  exact ⟨by omega, by omega⟩
/-- The elements of a slice of numbers that came in. -/
theorem irow_of {W : World} {a : Addr} {len : Nat} {zs : List Int} (hl : len ≤ zs.length) (hcell : ∀ i, i < zs.length → W.cell? (a.add i) = some (.int .i64 (zs.getD i 0))) : IRow W (some a) (zs.take len) := by
  intro j x hx
  obtain ⟨b, off, spot⟩ := a
  rw [List.getElem?_take] at hx
  split at hx
  · rename_i hj
    have hjl : j < zs.length := by omega
    have hspot : spot = none := by simpa [Addr.add] using World.cell?_spot (hcell 0 (by omega))
    subst hspot
    have h1 := hcell j hjl
    rw [add_plain] at h1
    rw [List.getD_eq_getElem?_getD, hx, Option.getD_some] at h1
    have hb : b < W.heap.size := by
      by_cases h : b < W.heap.size
      · exact h
      · simp [World.cell?, Array.getElem?_eq_none (Nat.le_of_not_lt h)] at h1
    exact ⟨b, off, rfl, hb, h1⟩
  · cases hx
theorem irow_nil (W : World) (a : Option Addr) : IRow W a [] := fun i x hx => by simp at hx
end Go.Proofs.YtaicdjhblbobbabGreat
