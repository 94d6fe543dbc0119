/- slices.Sort, slices.Compact and slices.Contains of ints, over rows of one's own. -/
import Derived.Test.YtaicdjhblbobbaaGreatSorts
import Derived.Test.YtaicdjhblbobbaaGreatPRowB
import Derived.Lib.OwnBridge
namespace Go.Proofs.YtaicdjhblbobbaaGreat
open Go.RowKit Go.Lib Go.Sort

theorem below_grow {B : Nat} {w0 w : World} (h : Below B w0 w) (os : Array Obj) (hB : B ≤ w0.heap.size) : Below B w0 (grow w os) := by
  have hz := h.size
  exact ⟨h.os, h.tape, h.output, by simp [grow]; omega, fun k hk => by
    rw [← h.block k hk]
    simp only [grow]
    rw [Array.getElem?_append_left (by omega)]⟩
theorem own_grow {w : World} {base : Nat} {e : TypeId} {sz : Nat} {v : Value} {n : Nat} {xs : List Value} (h : w.ownsRow base e sz v n xs) (os : Array Obj) : (grow w os).ownsRow base e sz v n xs :=
  own_blk h fun b hb => by simp only [grow]; rw [Array.getElem?_append_left (h.lt b hb).2]
theorem Sort_row {w : World} {base : Nat} {v : Value} {l : List Int} (h : w.ownsRow base 3 1 v l.length (ints l)) (hb : base ≤ w.heap.size) (hl : l.length < 1000) :
    Calls Tryz.prog 123 #[v] w fun e w' => e = .returned (.tuple #[]) ∧ w'.ownsRow base 3 1 v l.length (ints (l.mergeSort fun x y => decide (x ≤ y))) ∧ Below base w w' := by
  by_cases hv : v = .slice none 0 0
  · subst hv
    have h0 : l = [] := by
      rcases h.2 with ⟨_, h0⟩ | ⟨g, cap, cur, h1, _⟩
      · exact List.eq_nil_of_length_eq_zero h0
      · cases h1
    subst h0
    refine (Any.slices_Sort_int_none laysSort none 0 w).mono ?_
    rintro e w' ⟨rfl, rfl⟩
    exact ⟨rfl, by rw [List.mergeSort_nil]; exact h, Below.refl _ _⟩
  · obtain ⟨g, cap, rfl, hg, hgl, hnc, hcm, _, hH⟩ := holds_of_ownsRow (enc := Value.int .i64) h hv
    refine (Any.slices_Sort_int laysSort g 0 cap l w hH hgl (by omega)).mono ?_
    rintro e w' ⟨rfl, q, os, rfl⟩
    have hlen : (l.mergeSort fun x y => decide (x ≤ y)).length = l.length := List.length_mergeSort _
    have hrow := ownsRow_putRow (enc := Value.int .i64) (q := q) (ys := l.mergeSort fun x y => decide (x ≤ y)) h hlen (Nat.le_refl _)
    rw [List.take_of_length_le (by omega)] at hrow
    refine ⟨rfl, own_grow hrow os, below_grow (below_putRow (Below.refl _ _) hg) os hb⟩
theorem Compact_row {w : World} {base : Nat} {v : Value} {l : List Int} (h : w.ownsRow base 3 1 v l.length (ints l)) (hl : l.length < 1000) :
    Calls Tryz.prog 124 #[v] w fun e w' => ∃ v', e = .returned v' ∧ w'.ownsRow base 3 1 v' (Lib.compact l).length (ints (Lib.compact l)) ∧ Below base w w' := by
  by_cases hv : v = .slice none 0 0
  · subst hv
    have h0 : l = [] := by
      rcases h.2 with ⟨_, h0⟩ | ⟨g, cap, cur, h1, _⟩
      · exact List.eq_nil_of_length_eq_zero h0
      · cases h1
    subst h0
    refine (Any.slices_Compact_int_empty laysCompact none 0 w).mono ?_
    rintro e w' ⟨rfl, rfl⟩
    exact ⟨_, rfl, h, Below.refl _ _⟩
  · obtain ⟨g, cap, rfl, hg, hgl, hnc, hcm, _, hH⟩ := holds_of_ownsRow (enc := Value.int .i64) h hv
    refine (Any.slices_Compact_int laysCompact g 0 cap l w hH (by omega) hnc).mono ?_
    rintro e w' ⟨rfl, q, rfl⟩
    have hle : (Lib.compact l).length ≤ l.length := by
      unfold Lib.compact Lib.compactUpTo
      rw [List.length_map]
      exact Nat.le_trans (List.length_filter_le _ _) (by simp)
    have hlen : (Lib.compact l ++ List.replicate (l.length - (Lib.compact l).length) 0).length = l.length := by simp; omega
    have hrow := ownsRow_putRow (enc := Value.int .i64) (q := q) (ys := Lib.compact l ++ List.replicate (l.length - (Lib.compact l).length) 0) h hlen hle
    rw [List.take_append_of_le_length (Nat.le_refl _), List.take_of_length_le (Nat.le_refl _)] at hrow
    exact ⟨_, rfl, hrow, below_putRow (Below.refl _ _) hg⟩
theorem Contains_row {w : World} {base : Nat} {v : Value} {l : List Int} (x : Int) (h : w.ownsRow base 3 1 v l.length (ints l)) (hl : l.length < 1000) :
    Calls Tryz.prog 108 #[v, .int .i64 x] w fun e w' => e = .returned (.bool (decide (x ∈ l))) ∧ w' = w := by
  by_cases hv : v = .slice none 0 0
  · subst hv
    have h0 : l = [] := by
      rcases h.2 with ⟨_, h0⟩ | ⟨g, cap, cur, h1, _⟩
      · exact List.eq_nil_of_length_eq_zero h0
      · cases h1
    subst h0
    refine (Any.slices_Contains_int_empty laysContains none 0 x w).mono ?_
    rintro e w' ⟨rfl, rfl⟩
    exact ⟨rfl, rfl⟩
  · obtain ⟨g, cap, rfl, hg, hgl, hnc, hcm, _, hH⟩ := holds_of_ownsRow (enc := Value.int .i64) h hv
    refine (Any.slices_Contains_int laysContains g 0 l.length cap l x w (Nat.le_refl _) (by omega) (fun j hj => ?_)).mono ?_
    · have := (hH j (by simpa using hj)).1
      simpa [hj] using this
    · rintro e w' ⟨rfl, rfl⟩
      refine ⟨ret_bool ?_, rfl⟩
      rw [List.take_of_length_le (Nat.le_refl _), Bool.eq_iff_iff]
      simp
/-- One element more, out of a literal that was made just now. -/
theorem wpList_snoc {ops : Array Oper} {rest : List Oper} {o : Oper} {a : Act} {Q : Exit → Act → World → Prop} (hgd : o.guard = none) (s x : Operand) (t : TypeId)
    (ho : o.op = .call { callee := .builtin .append, args := #[s, x], argTypes := #[t, t] }) {e : TypeId} {z : Value} {sz by' : Nat} (hu : Tryz.prog.underlying t = some (.slice e))
    (hinf : (Tryz.prog.info? e).map (fun i => (i.zero, i.size, i.bytes)) = some (some z, sz, by')) (hzs : z.cells.size = sz) (h0 : 0 < sz) (hby : by' ≤ 1000)
    {base : Nat} {w : World} {v : Value} {n : Nat} {xs : List Value} (hs : a.eval s = v) (hown : w.ownsRow base e sz v n xs) (hb : base ≤ w.heap.size) (hn : n ≤ 100000)
    {cs : Array Value} {bb : Nat} (hx : a.eval x = .slice (some ⟨bb, 0, none⟩) 1 1) (hbb : bb = w.heap.size) (hcs : cs.size = sz) (h1 : ∀ u ∈ cs.toList, u.oneCell' = true)
    (h : ∀ v' w', w'.ownsRow base e sz v' (n + 1) (xs ++ cs.toList) → Below base w w' → w.heap.size ≤ w'.heap.size → (∀ b, b < w.heap.size → v.ownBlock ≠ some b → w'.heap[b]? = w.heap[b]?) → wpList Tryz.prog ops Q rest (a.put o.dst v') w') :
    wpList Tryz.prog ops Q (o :: rest) a (w.alloc (.cells cs e)) := by
  subst hbb
  obtain ⟨i0, hi0, hz0, hz1, hz2⟩ := info_get hinf
  have hblk : (w.alloc (.cells cs e)).heap[w.heap.size]? = some (.cells cs e (0, 0)) := heap_alloc_new w _
  have hcell : ∀ j u, cs.toList[j]? = some u → (w.alloc (.cells cs e)).cell? ((⟨w.heap.size, 0, none⟩ : Addr).add j) = some u := fun j u hj => by
    have e1 : (⟨w.heap.size, 0, none⟩ : Addr).add j = ⟨w.heap.size, j, none⟩ := by unfold Addr.add; split <;> simp_all
    rw [e1]
    simp only [World.cell?, hblk]
    simpa using hj
  refine wpList_append_own _ hgd s x t ho base e i0 z sz by' hu hi0 hz0 hz1 hz2 hzs h0 v n xs hs (hown.alloc _) ⟨w.heap.size, 0, none⟩ 1 1 cs.toList hx (by simp [hcs]) hcell h1 (by unfold maxLen; omega) ?_ (by simp; omega) ?_
  · have : (n + 1) * by' ≤ 100001 * 1000 := Nat.mul_le_mul (by omega) hby
    omega
  · intro v' w' hown' hgr _
    have hz := hgr.size
    simp at hz
    refine h v' w' hown' ?_ (by omega) fun b hb' hne => ?_
    · exact ((Below.refl base w).alloc hb _).grown hgr (by simp; omega) (fun k hk => (hown.lt k hk).1)
    · rw [hgr.block b (by simp; omega) (fun e' => hne e'.symm)]
      exact Below.heap_alloc _ _ _ hb'
end Go.Proofs.YtaicdjhblbobbaaGreat
