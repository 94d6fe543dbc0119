/- Plain facts on join's rounds: sorted, bounded, small. -/
import Derived.Test.YtafgecmenadhdaaPure
namespace Go.Proofs.Ytafgecmenadhdaa

/-- Its positions are small numbers. -/
def Rn.sm (r : Rn) : Prop := -100 ≤ r.f ∧ r.f ≤ 100 ∧ -100 ≤ r.t ∧ r.t ≤ 100
structure JoinOk (s : List Rn × Rn) (n : Nat) : Prop where
  srt : Srt s.1
  len : s.1.length ≤ n
  sm : s.2.sm
theorem JoinOk.step {s : List Rn × Rn} {n : Nat} (h : JoinOk s n) {o : Rn} (ho : o.sm) : JoinOk (joinS s o) (n + 1) := by
  unfold joinS
  split
  · exact ⟨h.srt.ins o, by rw [length_insR]; have := h.len; omega, h.sm⟩
  · refine ⟨h.srt, Nat.le_succ_of_le h.len, ?_⟩
    have := h.sm
    unfold Rn.sm at *
    simp only
    omega
theorem JoinOk.fold : ∀ (l : List Rn) (r : Rn), r.sm → (∀ x, x ∈ l → x.sm) → ∀ i, i ≤ l.length → JoinOk ((l.take i).foldl joinS ([], r)) i := fun l r hr hl i => by
  induction i with
  | zero => exact fun _ => ⟨List.Pairwise.nil, by simp, by simpa using hr⟩
  | succ i ih =>
    intro hi
    have hx : l[i]? = some l[i] := List.getElem?_eq_getElem (by omega)
    rw [List.take_add_one, hx]
    simp only [Option.toList_some, List.foldl_append, List.foldl_cons, List.foldl_nil]
    exact (ih (by omega)).step (hl _ (List.getElem_mem _))

end Go.Proofs.Ytafgecmenadhdaa
