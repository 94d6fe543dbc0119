/- A script that came in: the cells of its steps, and how many there can be. -/
import Derived.Test.YtaicdjhblbobbaaGreatRows
import Derived.Test.YtaicdjhblbobbaaGreatPLawF
import Derived.Test.YtaicdjhblbobbaaGreatPProofD
import Derived.Deep.Slices
namespace Go.Proofs.YtaicdjhblbobbaaGreat
open Go.ChangeShapes Go.WideShapes Go.Deep

theorem bulk_one {H : Type} (d : DataW H) : 1 ≤ Rows.uptoBulk d := by
  rcases d with (l | _ | _ | _ | _ | _ | _ | _) <;> first | (cases l <;> simp [Rows.uptoBulk]; done) | simp [Rows.uptoBulk]
theorem bulk_all {H : Type} (c : Nat) : ∀ l : List (DataW H), (∀ d, d ∈ l → c ≤ Rows.uptoBulk d) → c * l.length ≤ Rows.uptoBulkAll l
  | [], _ => by simp [Rows.uptoBulkAll]
  | d :: r, h => by
    have h1 := h d (by simp)
    have h2 := bulk_all c r (fun x hx => h x (by simp [hx]))
    simp only [Rows.uptoBulkAll, List.length_cons, Nat.mul_add]
    omega

/-- The fields of a step: seven numbers and a truth value, a cell each. -/
abbrev OpRow (P : Program) (fs : Array Field) (ti tb : TypeId) : Prop := fs.toList.map (fun f => (f.offset, P.cellsOf f.type, f.type)) = (List.range 8).map fun i => (i, 1, if i = 7 then tb else ti)
theorem OpRow.size {P : Program} {fs : Array Field} {ti tb : TypeId} (h : OpRow P fs ti tb) : fs.size = 8 := by
  have := congrArg List.length h
  simpa using this
theorem OpRow.field {P : Program} {fs : Array Field} {ti tb : TypeId} (h : OpRow P fs ti tb) (i : Nat) (f : Field) (hf : fs[i]? = some f) : f.offset = i ∧ P.cellsOf f.type = 1 ∧ f.type = if i = 7 then tb else ti := by
  have hi : i < 8 := by have := (Array.getElem?_eq_some_iff.1 hf).1; have := h.size; omega
  have e := congrArg (fun l => l[i]?) h
  simp only [List.getElem?_map, Array.getElem?_toList, hf, Option.map_some, List.getElem?_range hi, Option.some.injEq, Prod.mk.injEq] at e
  exact e

section
variable {H : Type} {enc : TypeId × Value → H} {P : Program} {w : World} {base : Nat} {spare : Nat → Bool} {held : Bool}

/-- One step's eight cells. -/
theorem open_op {e ti tb : TypeId} {fs : Array Field} {a : Addr} {n : Nat} {cs : List Value} {x : DataW H × List MemPlace}
    (he : P.underlying e = some (.struct fs)) (hr : OpRow P fs ti tb)
    (hti : P.underlying ti = some (.int .i64)) (htb : P.underlying tb = some .bool)
    (h1 : w.cells? base a 8 = some cs) (h2 : DataW.trod enc P w base spare held n e cs = some x) :
    ∃ y : OpL, y.Ok ∧ 9 ≤ Rows.uptoBulk x.1 ∧ w.cell? a = some (.int .i64 y.kind) ∧ w.cell? (a.add 1) = some (.int .i64 y.K) ∧ w.cell? (a.add 2) = some (.int .i64 y.p) ∧ w.cell? (a.add 3) = some (.int .i64 y.a) ∧ w.cell? (a.add 4) = some (.int .i64 y.b) ∧ w.cell? (a.add 5) = some (.int .i64 y.c) ∧ w.cell? (a.add 6) = some (.int .i64 y.d) ∧ w.cell? (a.add 7) = some (.bool y.wt) := by
  have hsz := hr.size
  obtain ⟨_, hlen, hcell⟩ := World.cells?_some h1
  obtain ⟨xs, k, hk, hxy, _, hxl, hf⟩ := DataW.trod_struct he h2
  have each : ∀ t, t < 8 → ∃ v y, w.cell? (a.add t) = some v ∧ DataW.trod enc P w base spare held k (if t = 7 then tb else ti) [v] = some y := by
    intro t ht
    have hft : fs[t]? = some (fs[t]'(by omega)) := Array.getElem?_eq_getElem (by omega)
    obtain ⟨ho, hc, hy⟩ := hr.field t _ hft
    have g := hf t _ hft
    rw [ho, hc, hy, List.drop_eq_getElem_cons (by omega), List.getElem?_eq_getElem (by omega)] at g
    refine ⟨cs[t]'(by omega), xs[t]'(by omega), ?_, g⟩
    rw [hcell t ht, List.getElem?_eq_getElem (by omega)]
  have num : ∀ t, t < 7 → ∃ z : Int, w.cell? (a.add t) = some (.int .i64 z) ∧ (Lit.int .i64 z).wf = true := by
    intro t ht
    obtain ⟨v, y, hv, hy⟩ := each t (by omega)
    rw [if_neg (by omega)] at hy
    obtain ⟨z, hz, _, hw⟩ := DataW.trod_int hti hy
    obtain rfl : v = .int .i64 z := by simpa using hz
    exact ⟨z, hv, hw⟩
  obtain ⟨v, y, hv, hy⟩ := each 7 (by omega)
  rw [if_pos rfl] at hy
  obtain ⟨b, hb, _⟩ := DataW.trod_bool htb hy
  obtain rfl : v = .bool b := by simpa using hb
  obtain ⟨z0, c0, _⟩ := num 0 (by omega)
  obtain ⟨z1, c1, w1⟩ := num 1 (by omega)
  obtain ⟨z2, c2, w2⟩ := num 2 (by omega)
  obtain ⟨z3, c3, w3⟩ := num 3 (by omega)
  obtain ⟨z4, c4, w4⟩ := num 4 (by omega)
  obtain ⟨z5, c5, w5⟩ := num 5 (by omega)
  obtain ⟨z6, c6, w6⟩ := num 6 (by omega)
  refine ⟨⟨z0, z1, z2, z3, z4, z5, z6, b⟩, ⟨wf_i64 w1, wf_i64 w2, wf_i64 w3, wf_i64 w4, wf_i64 w5, wf_i64 w6⟩, ?_, by simpa [Addr.add] using c0, c1, c2, c3, c4, c5, c6, hv⟩
  subst hxy
  have := bulk_all 1 (xs.map (·.1)) (fun d _ => bulk_one d)
  rw [List.length_map, hxl, hsz] at this
  simp only [Rows.uptoBulk]
  omega

/-- The steps of a script that came in. -/
theorem open_ops {t e ti tb : TypeId} {fs : Array Field} {fuel : Nat} {cs : List Value} {x : DataW H × List MemPlace}
    (ht : P.underlying t = some (.slice e)) (he : P.underlying e = some (.struct fs)) (hC : P.cellsOf e = 8) (hr : OpRow P fs ti tb)
    (hti : P.underlying ti = some (.int .i64)) (htb : P.underlying tb = some .bool)
    (h : DataW.trod enc P w base spare held fuel t cs = some x) :
    ∃ (av : Option Addr) (cap : Nat) (l : List OpL), cs = [.slice av l.length cap] ∧ Scr w av l ∧ 9 * l.length ≤ Rows.uptoBulk x.1 := by
  rcases open_slice ht h with ⟨h0, _⟩ | ⟨a, len, cap, m, n, D, Pl, rfl, hb, hl, hm, hmm, rfl, hx⟩
  · exact ⟨none, 0, [], h0, ⟨fun x hx => by simp at hx, fun j x hx => by simp at hx⟩, by simp⟩
  have hlm : len ≤ m := by rw [hmm]; split <;> omega
  rw [hC] at hx
  have each : ∀ i, i < len → ∃ y : OpL, y.Ok ∧ 9 ≤ Rows.uptoBulk (D i) ∧ w.cell? (a.add (i * 8)) = some (.int .i64 y.kind) ∧ w.cell? (a.add (i * 8 + 1)) = some (.int .i64 y.K) ∧ w.cell? (a.add (i * 8 + 2)) = some (.int .i64 y.p) ∧ w.cell? (a.add (i * 8 + 3)) = some (.int .i64 y.a) ∧ w.cell? (a.add (i * 8 + 4)) = some (.int .i64 y.b) ∧ w.cell? (a.add (i * 8 + 5)) = some (.int .i64 y.c) ∧ w.cell? (a.add (i * 8 + 6)) = some (.int .i64 y.d) ∧ w.cell? (a.add (i * 8 + 7)) = some (.bool y.wt) := by
    intro i hi
    obtain ⟨cs', h1, h2⟩ := hx i (by omega)
    obtain ⟨y, h3⟩ := open_op he hr hti htb h1 h2
    simp only [add_add] at h3
    exact ⟨y, h3⟩
  have : Inhabited OpL := ⟨⟨0, 0, 0, 0, 0, 0, 0, false⟩⟩
  obtain ⟨q, hq⟩ := choose_lt each
  refine ⟨some a, cap, (List.range len).map q, by simp, ⟨fun x hx => ?_, fun j x hx => ?_⟩, ?_⟩
  · obtain ⟨i, hi, rfl⟩ := List.mem_map.1 hx
    exact (hq i (List.mem_range.1 hi)).1
  · have hj : j < len := by
      have := (List.getElem?_eq_some_iff.1 hx).1
      simpa using this
    obtain rfl : q j = x := by simpa [hj] using hx
    obtain ⟨_, _, c0, c1, c2, c3, c4, c5, c6, c7⟩ := hq j hj
    obtain ⟨b, o, spot⟩ := a
    have hspot : spot = none := by
      have e0 := (hq 0 (by omega)).2.2.1
      rw [Nat.zero_mul] at e0
      simpa [Addr.add] using World.cell?_spot e0
    subst hspot
    simp only [add_plain, ← Nat.add_assoc] at c0 c1 c2 c3 c4 c5 c6 c7
    have hbl : b < w.heap.size := by
      by_cases h : b < w.heap.size
      · exact h
      · simp [World.cell?, Array.getElem?_eq_none (Nat.le_of_not_lt h)] at c0
    exact ⟨b, o, rfl, hbl, c0, c1, c2, c3, c4, c5, c6, c7⟩
  · have := bulk_all 9 ((List.range len).map D) (fun d hd => by
      obtain ⟨i, hi, rfl⟩ := List.mem_map.1 hd
      exact (hq i (List.mem_range.1 hi)).2.1)
    simp only [List.length_map, List.length_range] at this ⊢
    simp only [Rows.uptoBulk]
    omega
end
end Go.Proofs.YtaicdjhblbobbaaGreat
