/- An array of 64 numbers in a block of its own: read, written, copied whole. -/
import Derived.Test.YtaicdjhblbobbaaGreatVPaintPF
import Derived.Test.YtaicdjhblbobbaaGreatVSpanD
import Derived.Deep.MidRow
namespace Go.Proofs.YtaicdjhblbobbaaGreat
open Go.RowKit Go.Lib

theorem setA_at {w : World} {b o : Nat} {c : Array Value} {t : TypeId} {fr : Nat × Nat} {v : Value} (h : w.heap[b]? = some (.cells c t fr)) : (w.setCell ⟨b, o, none⟩ v).heap[b]? = some (.cells (c.setIfInBounds o v) t fr) := by
  simp [World.setCell, Array.getElem?_modify, h]
def arrV (c : Nat → Int) : List Value := (List.range 64).map fun j => .int .i64 (c j)
theorem arrV_length (c : Nat → Int) : (arrV c).length = 64 := by simp [arrV]
theorem arrV_get (c : Nat → Int) (j : Nat) (hj : j < 64) : (arrV c)[j]? = some (.int .i64 (c j)) := by simp [arrV, hj]
theorem arrV_one (c : Nat → Int) : ∀ v ∈ arrV c, v.oneCell' = true := by
  intro v hv
  simp only [arrV, List.mem_map] at hv
  obtain ⟨j, _, rfl⟩ := hv
  rfl
/-- Block b holds the array c. -/
def Arr (W : World) (b : Nat) (c : Nat → Int) : Prop := ∃ C : Array Value, W.heap[b]? = some (.cells C 29 (0, 0)) ∧ C.size = 64 ∧ ∀ j, j < 64 → C[j]? = some (.int .i64 (c j))
theorem Arr.lt {W : World} {b : Nat} {c : Nat → Int} (h : Arr W b c) : b < W.heap.size := by
  obtain ⟨C, h, _⟩ := h
  exact (Array.getElem?_eq_some_iff.1 h).1
theorem Arr.of_block {W W' : World} {b : Nat} {c : Nat → Int} (h : Arr W b c) (he : W'.heap[b]? = W.heap[b]?) : Arr W' b c := by
  obtain ⟨C, h, h'⟩ := h
  exact ⟨C, he.trans h, h'⟩
theorem Arr.cell {W : World} {b : Nat} {c : Nat → Int} (h : Arr W b c) {j : Nat} (hj : j < 64) : W.cell? ⟨b, j, none⟩ = some (.int .i64 (c j)) := by
  obtain ⟨C, h, _, hc⟩ := h
  simp only [World.cell?, h]
  simpa using hc j hj
theorem Arr.frozen {W : World} {b : Nat} {c : Nat → Int} (h : Arr W b c) (j : Nat) : W.frozen? ⟨b, j, none⟩ = false := by
  obtain ⟨C, h, _⟩ := h
  simp [World.frozen?, h]
theorem Arr.range {W : World} {b : Nat} {c : Nat → Int} (h : Arr W b c) : W.rangeAt b 0 (arrV c) := fun j v hv => by
  have hj : j < 64 := by have := (List.getElem?_eq_some_iff.1 hv).1; rwa [arrV_length] at this
  rw [arrV_get c j hj] at hv
  rw [Nat.zero_add, h.cell hj]; exact hv
theorem Arr.set {W : World} {b : Nat} {c : Nat → Int} (h : Arr W b c) (i : Nat) (hi : i < 64) (v : Int) : Arr (W.setCell ⟨b, i, none⟩ (.int .i64 v)) b (fun j => if j = i then v else c j) := by
  obtain ⟨C, h, hs, hc⟩ := h
  refine ⟨C.setIfInBounds i (.int .i64 v), setA_at h, by simpa using hs, fun j hj => ?_⟩
  rw [Array.getElem?_setIfInBounds]
  by_cases e : i = j
  · subst e; simp [hs, hi]
  · have e' : ¬ j = i := fun x => e x.symm
    simp [e, e', hc j hj]
theorem setCells_heap (b : Nat) : ∀ (vs : List Value) (o : Nat) (W : World) (C : Array Value) (t : TypeId) (fr : Nat × Nat), W.heap[b]? = some (.cells C t fr) →
    (∃ C', (W.setCells b o vs).heap[b]? = some (.cells C' t fr) ∧ C'.size = C.size) ∧ (∀ k, k ≠ b → (W.setCells b o vs).heap[k]? = W.heap[k]?) ∧ (W.setCells b o vs).heap.size = W.heap.size ∧ (W.setCells b o vs).os = W.os ∧ (W.setCells b o vs).tape = W.tape ∧ (W.setCells b o vs).output = W.output
  | [], o, W, C, t, fr, h => ⟨⟨C, h, rfl⟩, fun _ _ => rfl, rfl, rfl, rfl, rfl⟩
  | v :: r, o, W, C, t, fr, h => by
    obtain ⟨⟨C', h1, h2⟩, h3, h4, h5, h6, h7⟩ := setCells_heap b r (o + 1) (W.setCell ⟨b, o, none⟩ v) _ t fr (setA_at h)
    refine ⟨⟨C', h1, by rw [h2]; simp⟩, fun k hk => (h3 k hk).trans (Below.heap_setCell _ _ _ _ hk), by rw [World.setCells, h4]; simp, h5, h6, h7⟩
theorem Arr.there {W : World} {b : Nat} {C : Array Value} (h : W.heap[b]? = some (.cells C 29 (0, 0))) (hs : C.size = 64) : W.there b 0 64 := fun j hj => by
  refine ⟨?_, by simp [World.frozen?, h]⟩
  simp only [World.cell?, h, Nat.zero_add]
  simp [hs, hj]
/-- An array stored whole. -/
theorem Arr.store {W : World} {b : Nat} {C : Array Value} (h : W.heap[b]? = some (.cells C 29 (0, 0))) (hs : C.size = 64) (c : Nat → Int) : Arr (W.setCells b 0 (arrV c)) b c := by
  obtain ⟨⟨C', h1, h2⟩, _⟩ := setCells_heap b (arrV c) 0 W C _ _ h
  refine ⟨C', h1, by omega, fun j hj => ?_⟩
  have ht := Arr.there h hs
  have := World.cell?_setCells_in b (arrV c) 0 W (fun i hi => (ht i (by rw [arrV_length] at hi; exact hi)).1) j (by rw [arrV_length]; exact hj)
  simp only [World.cell?, Nat.zero_add, h1] at this
  have e := arrV_get c j hj
  rw [List.getElem?_eq_getElem (by rw [arrV_length]; exact hj)] at e
  rw [← e]
  simpa using this
theorem Tryz.info64 : (Tryz.prog.info? 29).map (·.size) = some 64 := by kernel_rfl
theorem arr_toArray (c : Nat → Int) : (arrV c).toArray.size = 64 := by simp [arrV_length]

def paintN (c : Nat → Int) (a b : Nat) (k : Int) : Nat → Int := fun j => if a ≤ j ∧ j < b then k else c j
theorem paint_eq (c : Nat → Int) (a n : Nat) (k : Int) : paint c a n k = paintN c a (a + n) k := by
  funext j
  unfold paint paintN
  by_cases h : a ≤ j ∧ j < a + n
  · rw [if_pos h, if_pos (by omega)]
  · rw [if_neg h, if_neg (by omega)]
theorem paintN_start (c : Nat → Int) (a : Nat) (k : Int) : paintN c a a k = c := by
  funext j; unfold paintN; rw [if_neg (by omega)]
theorem paintN_step (c : Nat → Int) (a b : Nat) (k : Int) (hab : a ≤ b) : (fun j => if j = b then k else paintN c a b k j) = paintN c a (b + 1) k := by
  funext j; unfold paintN
  by_cases h : j = b
  · rw [if_pos h, if_pos (by omega)]
  · rw [if_neg h]
    by_cases h2 : a ≤ j ∧ j < b
    · rw [if_pos h2, if_pos (by omega)]
    · rw [if_neg h2, if_neg (by omega)]
theorem Tryz.und64 : Tryz.prog.underlying 29 = some (.array 64 3) := by kernel_rfl
/-- An array read whole. -/
theorem wpList_load_arr {ops : Array Oper} {rest : List Oper} {op : Oper} {a : Act} {w : World} {Q : Exit → Act → World → Prop} (hgd : op.guard = none) (x : Operand) (ho : op.op = .load 29 x)
    (b : Nat) (hx : a.eval x = .pointer (some ⟨b, 0, none⟩)) {c : Nat → Int} (hc : Arr w b c)
    (h : wpList Tryz.prog ops Q rest (a.put op.dst (.agg (arrV c).toArray)) w) : wpList Tryz.prog ops Q (op :: rest) a w :=
  wpList_load_mid hgd _ x ho b 0 hx (arrV c) _ hc.range Tryz.und64 rfl (by rw [arrV_length]; exact Tryz.info64) h
/-- An array stored whole. -/
theorem wpList_store_arr {ops : Array Oper} {rest : List Oper} {op : Oper} {a : Act} {w : World} {Q : Exit → Act → World → Prop} (hgd : op.guard = none) (x y : Operand) (ho : op.op = .store 29 x y)
    (b : Nat) (c : Nat → Int) (hx : a.eval x = .pointer (some ⟨b, 0, none⟩)) (hy : a.eval y = .agg (arrV c).toArray)
    {C : Array Value} (hb : w.heap[b]? = some (.cells C 29 (0, 0))) (hs : C.size = 64)
    (h : ∀ W1, Arr W1 b c → Kp [b] w W1 → W1.heap.size = w.heap.size → wpList Tryz.prog ops Q rest (a.put op.dst undef) W1) : wpList Tryz.prog ops Q (op :: rest) a w := by
  refine wpList_store_mid hgd _ x y ho b 0 _ hx hy (by rw [arr_toArray]; exact Arr.there hb hs) (by rw [arr_toArray]; exact Tryz.info64) (all_oneCell_toArray (arrV_one c)) ?_
  obtain ⟨_, h3, h4, h5, h6, h7⟩ := setCells_heap b (arrV c) 0 w C _ _ hb
  refine h _ (Arr.store hb hs c) ⟨h5, h6, h7, by show _ ≤ _; rw [show (arrV c).toArray.toList = arrV c from rfl, h4]; exact Nat.le_refl _, fun k hk hn => h3 k (by simpa using hn)⟩ h4
theorem Arr.block {W : World} {b : Nat} {c : Nat → Int} (h : Arr W b c) : ∃ C : Array Value, W.heap[b]? = some (.cells C 29 (0, 0)) ∧ C.size = 64 := by
  obtain ⟨C, h1, h2, _⟩ := h
  exact ⟨C, h1, h2⟩
/-- The elements of the argument. -/
def RawAt (w : World) (a : Option Addr) (len : Nat) : Prop := ∀ j, j < len → ∃ b o z, a = some ⟨b, o, none⟩ ∧ b < w.heap.size ∧ w.cell? ⟨b, o + j, none⟩ = some (.int .i64 z) ∧ -9223372036854775808 ≤ z ∧ z ≤ 9223372036854775807
end Go.Proofs.YtaicdjhblbobbaaGreat
