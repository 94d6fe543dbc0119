/- Openings by their addresses: when two are one. -/
import Derived.Test.YtaicdjhblbobbabGreatGProcs
import Derived.LaidEqlPtr
namespace Go.Proofs.YtaicdjhblbobbabGreat
open Go.RowKit

/-- An opening lies in block b. -/
def Opn (w : World) (b : Nat) : Prop := ∃ f, OpenAt w b f
theorem Opn.lt {w : World} {b : Nat} (h : Opn w b) : b < w.heap.size := by
  obtain ⟨f, h⟩ := h
  exact (Array.getElem?_eq_some_iff.1 h).1
theorem Opn.below {w w' : World} {b : Nat} (h : Opn w b) (hb : Below w.heap.size w w') : Opn w' b := by
  have hl := h.lt
  obtain ⟨f, h⟩ := h
  exact ⟨f, (hb.block b hl).trans h⟩
theorem Opn.of_block {w w' : World} {b : Nat} (h : Opn w b) (hb : w'.heap[b]? = w.heap[b]?) : Opn w' b := by
  obtain ⟨f, h⟩ := h
  exact ⟨f, hb.trans h⟩
theorem Tryz.infoOpening : (Tryz.prog.info? 97).map (fun i => (i.zero, i.size, i.bytes)) = some (some (.agg #[.int .i64 0]), 1, 8) := by kernel_rfl
theorem run_eqlPtrIn {w : World} {o o' : Option Nat} (h : ∀ b, o = some b → Opn w b) (h' : ∀ b, o' = some b → Opn w b) (d : Nat) :
    (Op.equalIn (d + 1) 89 (ptrV o) (ptrV o')).run Tryz.prog w = .ok (decide (o = o')) w := by
  obtain ⟨i0, hi0, _, hz1, _⟩ : ∃ i, Tryz.prog.info? 97 = some i ∧ i.zero = some (.agg #[.int .i64 0]) ∧ i.size = 1 ∧ i.bytes = 8 := by
    cases e : Tryz.prog.info? 97 with
    | none => have := Tryz.infoOpening; rw [e] at this; cases this
    | some i => have := Tryz.infoOpening; rw [e] at this; simp at this; exact ⟨i, rfl, this.1, this.2.1, this.2.2⟩
  have hsz : i0.size ≠ 0 := by omega
  have hu := Tryz.underlying89
  cases o with
  | none =>
    cases o' with
    | none => simp [ptrV, Op.equalIn, run_underlying hu]
    | some b => simp [ptrV, Op.equalIn, run_underlying hu]
  | some a =>
    cases o' with
    | none => simp [ptrV, Op.equalIn, run_underlying hu]
    | some b =>
      by_cases hab : a = b
      · subst hab
        simp [ptrV, Op.equalIn, run_underlying hu, sizeOf, typeInfo, hi0, run_sameAddr_same]
      · obtain ⟨f, hf⟩ := h a rfl
        obtain ⟨f', hf'⟩ := h' b rfl
        have hne : (⟨a, 0, none⟩ : Addr) ≠ ⟨b, 0, none⟩ := fun e => hab (by cases e; rfl)
        simp [ptrV, Op.equalIn, run_underlying hu, sizeOf, typeInfo, hi0, hsz, run_sameAddr_other w hne hf hf', hab]
theorem run_eqlPtr {w : World} {o o' : Option Nat} (h : ∀ b, o = some b → Opn w b) (h' : ∀ b, o' = some b → Opn w b) :
    (Op.equal 89 (ptrV o) (ptrV o')).run Tryz.prog w = .ok (decide (o = o')) w := run_eqlPtrIn h h' 9999
theorem run_eql_opn {w : World} {o o' : Option Nat} (h : ∀ b, o = some b → Opn w b) (h' : ∀ b, o' = some b → Opn w b) :
    (binOp .eql 89 (ptrV o) (ptrV o')).run Tryz.prog w = .ok (.bool (decide (o = o'))) w := by
  have hq := run_eqlPtr h h'
  unfold ptrV at *
  simp only [binOp]
  simp [hq]
theorem run_neq_opn {w : World} {o o' : Option Nat} (h : ∀ b, o = some b → Opn w b) (h' : ∀ b, o' = some b → Opn w b) :
    (binOp .neq 89 (ptrV o) (ptrV o')).run Tryz.prog w = .ok (.bool (decide (o ≠ o'))) w := by
  have hq := run_eqlPtr h h'
  unfold ptrV at *
  simp only [binOp]
  simp [hq]
end Go.Proofs.YtaicdjhblbobbabGreat
