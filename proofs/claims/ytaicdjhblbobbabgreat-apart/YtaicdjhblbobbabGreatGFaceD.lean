/- How lists and replies lie in memory; what a call may change. -/
import Derived.Test.YtaicdjhblbobbabGreatGRow
import Derived.Test.YtaicdjhblbobbabGreatGPure
import Derived.Laws.AppendOwn
namespace Go.Proofs.YtaicdjhblbobbabGreat
open Go.RowKit

def Dn.cells (d : Dn) : List Value := [.int .i64 d.p, .int .i64 d.e]
def flatD (l : List Dn) : List Value := l.flatMap Dn.cells
def rcells (r : Rn) : List Value := [.int .i64 r.p, .int .i64 r.k, .int .i64 r.f, .int .i64 r.t]
def flatR (l : List Rn) : List Value := l.flatMap rcells
/-- The cells of a list of locks of a whole file, their lists of processes being vs. -/
def flatH : List Hd → List Value → List Value
  | h :: t, v :: vs => .int .i64 h.k :: v :: flatH t vs
  | _, _ => []

/-- Of what was there only blocks of P changed; of the blocks P' those that were there are of P. -/
structure Upd (P P' : Nat → Prop) (w w' : World) : Prop where
  os : w'.os = w.os
  tape : w'.tape = w.tape
  output : w'.output = w.output
  size : w.heap.size ≤ w'.heap.size
  block : ∀ k, k < w.heap.size → ¬ P k → w'.heap[k]? = w.heap[k]?
  old : ∀ k, k < w.heap.size → P' k → P k
/-- A list that came out: new memory, none of the Kernel's own. -/
structure Told (w w' : World) (P : Nat → Prop) (t : TypeId) (sz : Nat) (v : Value) (n : Nat) (xs : List Value) : Prop where
  own : w'.ownsRow w.heap.size t sz v n xs
  far : ∀ b, v.ownBlock = some b → ¬ P b

def kptr (kb : Nat) : Value := .pointer (some ⟨kb, 0, none⟩)
def i64 (x : Int) : Prop := -9223372036854775808 ≤ x ∧ x ≤ 9223372036854775807
/-- A reply, as a value; v its list. -/
def rpV (r : Rp) (v : Value) : Value := .agg #[.int .i64 r.e, .int .i64 r.n, v]
end Go.Proofs.YtaicdjhblbobbabGreat
