/- The map of descriptors: what a look-up, an update and a deletion do, for a key that is a struct of two integers. -/
import Derived.Test.YtaicdjhblbobbabGreatGLeaf
import Derived.Laws.StructEq
import Derived.ChangeMaps5
namespace Go.Proofs.YtaicdjhblbobbabGreat
open Go.RowKit

theorem Tryz.fieldsPlace : Tryz.prog.underlying 113 = some (.struct (Tryz.prog.fieldsOf 113)) := by kernel_rfl
theorem Tryz.stoodPlace : Tryz.prog.stoodInHeld 113 = false := by kernel_rfl

theorem run_equalIn_place (n : Nat) (p d q e : Int) (w : World) : (Op.equalIn (n + 2) 113 (.agg #[.int .i64 p, .int .i64 d]) (.agg #[.int .i64 q, .int .i64 e])).run Tryz.prog w = .ok (decide (p = q) && decide (d = e)) w := by
  have h3 := TypeDesc.struct.inj (Option.some.inj (Tryz.underlying113.symm.trans Tryz.fieldsPlace))
  have hi : ∀ a b : Int, (Op.equalIn (n + 1) 3 (.int .i64 a) (.int .i64 b)).run Tryz.prog w = .ok (a == b) w := fun a b => run_equalIn_int w n 3 .i64 .i64 a b Tryz.underlying3
  rw [run_equalIn_struct w (n + 1) 113 _ _ Tryz.fieldsPlace Tryz.stoodPlace, ← h3]
  simp only [Op.eqFields]
  simp [part, Tryz.isAgg3, hi]
  by_cases h1 : p = q <;> by_cases h2 : d = e <;> simp [h1, h2]
theorem run_checkIn_place (n : Nat) (em : Bool) (p d : Int) (w : World) : (Instr.checkKey em (n + 2) 113 (.agg #[.int .i64 p, .int .i64 d])).run Tryz.prog w = .ok () w := by
  simp [Instr.checkKey, run_underlying Tryz.underlying113, run_underlying Tryz.underlying3, part, Tryz.isAgg3]
theorem run_equal_place (p d q e : Int) (w : World) : (Op.equal 113 (.agg #[.int .i64 p, .int .i64 d]) (.agg #[.int .i64 q, .int .i64 e])).run Tryz.prog w = .ok (decide (p = q) && decide (d = e)) w := run_equalIn_place 9998 p d q e w
theorem run_check_place (em : Bool) (p d : Int) (w : World) : (Instr.checkKey em 10000 113 (.agg #[.int .i64 p, .int .i64 d])).run Tryz.prog w = .ok () w := run_checkIn_place 9998 em p d w

/-- An entry of the map, without when it was born: a process, a descriptor, the block of its opening. -/
abbrev Ent := Int × Int × Nat
def Ent.is (x : Ent) (e : MapEntry) : Prop := e.key = .agg #[.int .i64 x.1, .int .i64 x.2.1] ∧ e.val = .pointer (some ⟨x.2.2, 0, none⟩)
def findM (M : List Ent) (p d : Int) : Option Nat := M.findIdx? fun x => decide (p = x.1) && decide (d = x.2.1)
def lookM (M : List Ent) (p d : Int) : Option Nat := (M.find? fun x => decide (p = x.1) && decide (d = x.2.1)).map (·.2.2)

inductive Ents : List Ent → List MapEntry → Prop
  | nil : Ents [] []
  | cons {x : Ent} {e : MapEntry} {M : List Ent} {es : List MapEntry} : x.is e → Ents M es → Ents (x :: M) (e :: es)

theorem Ents.find {M : List Ent} {es : List MapEntry} (h : Ents M es) (p d : Int) (w : World) : ∀ i : Nat,
    (Instr.findAsking 113 (.agg #[.int .i64 p, .int .i64 d]) es i).run Tryz.prog w = .ok ((findM M p d).bind fun j => (M[j]?).map fun x => (i + j, .pointer (some ⟨x.2.2, 0, none⟩))) w := by
  induction h with
  | nil => intro i; simp [Instr.findAsking, findM]
  | @cons x e M es hx _ ih =>
    intro i
    simp only [Instr.findAsking, hx.1, Sem.run_bind, run_equal_place, Result.andThen_ok]
    by_cases hb : (decide (p = x.1) && decide (d = x.2.1)) = true
    · simp [hb, findM, List.findIdx?_cons, hx.2]
    · simp only [Bool.not_eq_true] at hb
      rw [hb]
      simp only [Bool.false_eq_true, if_false]
      rw [ih (i + 1)]
      simp only [findM, List.findIdx?_cons, hb, Bool.false_eq_true, if_false]
      cases List.findIdx? (fun x => decide (p = x.1) && decide (d = x.2.1)) M with
      | none => simp
      | some j => simp [Nat.add_assoc, Nat.add_comm 1 j]

theorem Ents.findKey {M : List Ent} {es : List MapEntry} (h : Ents M es) (p d : Int) (w : World) :
    (Instr.findKey 113 (.agg #[.int .i64 p, .int .i64 d]) es).run Tryz.prog w = .ok ((findM M p d).bind fun j => (M[j]?).map fun x => (j, .pointer (some ⟨x.2.2, 0, none⟩))) w := by
  have hn : Instr.findNow (.struct (Tryz.prog.fieldsOf 113)) (.agg #[.int .i64 p, .int .i64 d]) es 0 = (if es = [] then some none else none) := by
    cases h with
    | nil => rfl
    | cons hx _ => simp [Instr.findNow, Instr.sameNow]
  simp only [Instr.findKey, Sem.run_bind, run_underlying Tryz.fieldsPlace, Result.andThen_ok, hn]
  have := h.find p d w 0
  simp only [Nat.zero_add] at this
  cases h with
  | nil => simp [findM]
  | cons hx h' => simpa using this

theorem lookM_find (M : List Ent) (p d : Int) : lookM M p d = (findM M p d).bind fun j => (M[j]?).map (·.2.2) := by
  induction M with
  | nil => rfl
  | cons x M ih =>
    unfold lookM findM at *
    simp only [List.find?_cons, List.findIdx?_cons]
    by_cases hb : (decide (p = x.1) && decide (d = x.2.1)) = true
    · simp [hb]
    · simp only [Bool.not_eq_true] at hb
      simp only [hb, Bool.false_eq_true, if_false]
      rw [ih]
      cases List.findIdx? (fun x => decide (p = x.1) && decide (d = x.2.1)) M <;> simp

/-- The pointer that a look-up gives: nil, if nothing is there. -/
def ptrV (o : Option Nat) : Value := .pointer (o.map fun b => ⟨b, 0, none⟩)

/-- 'o, ok := m[k]'. -/
theorem run_lookup_place {w : World} {mb clock : Nat} {es : Array MapEntry} {M : List Ent} (hb : w.heap[mb]? = some (.map es clock)) (h : Ents M es.toList) (p d : Int) :
    (Instr.lookup 105 (.map (some mb)) (.agg #[.int .i64 p, .int .i64 d]) true).run Tryz.prog w = .ok (.tuple #[ptrV (lookM M p d), .bool (lookM M p d).isSome]) w := by
  have hf := h.findKey p d w
  rw [lookM_find]
  simp only [Instr.lookup, Sem.run_bind, run_underlying Tryz.underlying105, Result.andThen_ok]
  simp only [getObj, Sem.run, hb]
  simp only [Result.andThen_ok, Sem.run_bind, Sem.run_pure, run_check_place, hf]
  cases hj : (findM M p d) with
  | none => simp [ptrV]
  | some j =>
    cases hx : M[j]? with
    | none => simp [hx, ptrV]
    | some x => simp [hx, ptrV]

theorem Ents.push {M : List Ent} {es : List MapEntry} (h : Ents M es) {x : Ent} {e : MapEntry} (hx : x.is e) : Ents (M ++ [x]) (es ++ [e]) := by
  induction h with
  | nil => exact .cons hx .nil
  | cons hy _ ih => exact .cons hy ih
theorem Ents.erase {M : List Ent} {es : List MapEntry} (h : Ents M es) : ∀ i, Ents (M.eraseIdx i) (es.eraseIdx i) := by
  induction h with
  | nil => intro i; simpa using Ents.nil
  | cons hy h ih =>
    intro i
    cases i with
    | zero => simpa using h
    | succ i => simpa using Ents.cons hy (ih i)

/-- No two entries have one key. -/
def Nd (M : List Ent) : Prop := M.Pairwise fun x y => ¬ (x.1 = y.1 ∧ x.2.1 = y.2.1)

theorem lookM_none {M : List Ent} {p d : Int} : lookM M p d = none ↔ ∀ x, x ∈ M → ¬ (p = x.1 ∧ d = x.2.1) := by
  simp [lookM, List.find?_eq_none]
theorem findM_none {M : List Ent} {p d : Int} : findM M p d = none ↔ lookM M p d = none := by
  rw [lookM_none]; simp [findM]

theorem lookM_push {M : List Ent} {p d : Int} {b : Nat} (h : lookM M p d = none) (q e : Int) : lookM (M ++ [(p, d, b)]) q e = if q = p ∧ e = d then some b else lookM M q e := by
  by_cases hq : q = p ∧ e = d
  · obtain ⟨rfl, rfl⟩ := hq
    unfold lookM at *
    rw [List.find?_append]
    simp only [Option.map_eq_none_iff] at h
    simp [h]
  · rw [if_neg hq]
    unfold lookM
    rw [List.find?_append]
    have : List.find? (fun x : Ent => decide (q = x.1) && decide (e = x.2.1)) [(p, d, b)] = none := by
      simp only [List.find?_cons, List.find?_nil]
      by_cases h1 : q = p <;> by_cases h2 : e = d <;> simp [h1, h2] <;> exact absurd ⟨h1, h2⟩ hq
    rw [this]; simp
theorem Nd.push {M : List Ent} (h : Nd M) {p d : Int} {b : Nat} (hn : lookM M p d = none) : Nd (M ++ [(p, d, b)]) := by
  unfold Nd
  rw [List.pairwise_append]
  refine ⟨h, by simp, fun x hx y hy => ?_⟩
  simp at hy
  subst hy
  have := lookM_none.1 hn x hx
  intro ⟨h1, h2⟩
  exact this ⟨h1.symm, h2.symm⟩
theorem Nd.erase {M : List Ent} (h : Nd M) (i : Nat) : Nd (M.eraseIdx i) := List.Pairwise.sublist (List.eraseIdx_sublist _ _) h

theorem lookM_erase {M : List Ent} (h : Nd M) {p d : Int} : ∀ {i : Nat}, findM M p d = some i → ∀ q e, lookM (M.eraseIdx i) q e = if q = p ∧ e = d then none else lookM M q e := by
  induction M with
  | nil => intro i hi; simp [findM] at hi
  | cons x M ih =>
    intro i hi q e
    obtain ⟨hx, hM⟩ := List.pairwise_cons.1 h
    unfold findM at hi
    rw [List.findIdx?_cons] at hi
    by_cases hb : (decide (p = x.1) && decide (d = x.2.1)) = true
    · rw [if_pos hb] at hi
      obtain rfl : i = 0 := by simpa using hi.symm
      simp at hb
      obtain ⟨rfl, rfl⟩ := hb
      simp only [List.eraseIdx_zero, List.tail_cons]
      by_cases hq : q = x.1 ∧ e = x.2.1
      · obtain ⟨rfl, rfl⟩ := hq
        simp only [and_self, if_true]
        exact lookM_none.2 fun y hy => hx y hy
      · rw [if_neg hq]
        unfold lookM
        rw [List.find?_cons]
        have : (decide (q = x.1) && decide (e = x.2.1)) = false := by
          by_cases h1 : q = x.1 <;> by_cases h2 : e = x.2.1 <;> simp [h1, h2] <;> exact absurd ⟨h1, h2⟩ hq
        rw [this]
    · rw [if_neg hb] at hi
      cases hj : List.findIdx? (fun x : Ent => decide (p = x.1) && decide (d = x.2.1)) M with
      | none => rw [hj] at hi; simp at hi
      | some j =>
        rw [hj] at hi
        obtain rfl : i = j + 1 := by simpa using hi.symm
        have := ih hM hj q e
        simp only [List.eraseIdx_cons_succ]
        unfold lookM at *
        simp only [List.find?_cons]
        by_cases hq : (decide (q = x.1) && decide (e = x.2.1)) = true
        · rw [hq]
          rw [if_neg (fun hc => hb (by rw [← hc.1, ← hc.2]; exact hq))]
        · simp only [Bool.not_eq_true] at hq
          rw [hq]
          exact this

/-- The map in block mb tells of each process and descriptor the block of the opening. -/
def MapAt (w : World) (mb : Nat) (F : Int → Int → Option Nat) : Prop :=
  ∃ es clock M, w.heap[mb]? = some (.map es clock) ∧ Ents M es.toList ∧ Nd M ∧ ∀ p d, lookM M p d = F p d


theorem MapAt.of_block {w w' : World} {mb : Nat} {F : Int → Int → Option Nat} (h : MapAt w mb F) (he : w'.heap[mb]? = w.heap[mb]?) : MapAt w' mb F := by
  obtain ⟨es, c, M, h1, h2⟩ := h
  exact ⟨es, c, M, he.trans h1, h2⟩
theorem MapAt.lt {w : World} {mb : Nat} {F : Int → Int → Option Nat} (h : MapAt w mb F) : mb < w.heap.size := by
  obtain ⟨es, c, M, h1, h2⟩ := h
  exact (Array.getElem?_eq_some_iff.1 h1).1

theorem MapAt.lookup {w : World} {mb : Nat} {F : Int → Int → Option Nat} (h : MapAt w mb F) (W : World) (hW : W.heap[mb]? = w.heap[mb]?) (p d : Int) :
    (Instr.lookup 105 (.map (some mb)) (.agg #[.int .i64 p, .int .i64 d]) true).run Tryz.prog W = .ok (.tuple #[ptrV (F p d), .bool (F p d).isSome]) W := by
  obtain ⟨es, c, M, h1, h2, h3, h4⟩ := h
  rw [run_lookup_place (hW.trans h1) h2, h4]

theorem MapAt.update {w : World} {mb : Nat} {F : Int → Int → Option Nat} (h : MapAt w mb F) (p d : Int) (hn : F p d = none) (ob : Nat) :
    ∃ o', (∀ W : World, W.heap[mb]? = w.heap[mb]? → (Instr.mapUpdate 105 (.map (some mb)) (.agg #[.int .i64 p, .int .i64 d]) (.pointer (some ⟨ob, 0, none⟩))).run Tryz.prog W = .ok () (ChangeMaps.setBlock W mb o')) ∧
      (∀ W : World, W.heap[mb]? = some o' → MapAt W mb (updF F p d (some ob))) := by
  obtain ⟨es, c, M, h1, h2, h3, h4⟩ := h
  have hl : lookM M p d = none := by rw [h4]; exact hn
  have hf : findM M p d = none := findM_none.2 hl
  refine ⟨.map (es.push { key := .agg #[.int .i64 p, .int .i64 d], val := .pointer (some ⟨ob, 0, none⟩), born := c }) (c + 1), fun W hW => ?_, fun W hW => ?_⟩
  · have hk := h2.findKey p d W
    rw [hf] at hk
    simp only [Option.bind_none] at hk
    simp only [Instr.mapUpdate, Sem.run_bind, run_underlying Tryz.underlying105, Result.andThen_ok]
    simp only [getObj, Sem.run, hW, h1]
    simp only [Result.andThen_ok, Sem.run_bind, run_check_place, hk]
    simp [setObj, Sem.run, hW, h1, ChangeMaps.setBlock]
  · exact ⟨_, _, M ++ [(p, d, ob)], hW, by rw [Array.toList_push]; exact h2.push ⟨rfl, rfl⟩, h3.push hl, fun q e => by rw [lookM_push hl, h4]; rfl⟩

theorem MapAt.delete {w : World} {mb : Nat} {F : Int → Int → Option Nat} (h : MapAt w mb F) (p d : Int) :
    ∃ o', (∀ (W : World) (ty : TypeId), W.heap[mb]? = w.heap[mb]? → (Builtin.delete_ #[105, 113] ty #[.map (some mb), .agg #[.int .i64 p, .int .i64 d]]).run Tryz.prog W = .ok (.tuple #[]) (ChangeMaps.setBlock W mb o')) ∧
      (∀ W : World, W.heap[mb]? = some o' → MapAt W mb (updF F p d none)) := by
  obtain ⟨es, c, M, h1, h2, h3, h4⟩ := h
  cases hf : findM M p d with
  | none =>
    refine ⟨.map es c, fun W ty hW => ?_, fun W hW => ?_⟩
    · have hk := h2.findKey p d W
      rw [hf] at hk
      simp only [Option.bind_none] at hk
      simp [Builtin.delete_, run_underlying Tryz.underlying105, getObj, setObj, Sem.run, hW, h1, run_check_place, hk, ChangeMaps.setBlock]
    · refine ⟨_, _, M, hW, h2, h3, fun q e => ?_⟩
      rw [h4]
      unfold updF
      split
      · rename_i hq
        obtain ⟨rfl, rfl⟩ := hq
        rw [← h4]; exact findM_none.1 hf
      · rfl
  | some j =>
    have hj : ∃ x, M[j]? = some x := by
      unfold findM at hf
      have := (List.findIdx?_eq_some_iff_getElem.1 hf).1
      exact ⟨_, List.getElem?_eq_getElem this⟩
    obtain ⟨x, hx⟩ := hj
    refine ⟨.map (es.eraseIdxIfInBounds j) c, fun W ty hW => ?_, fun W hW => ?_⟩
    · have hk := h2.findKey p d W
      rw [hf] at hk
      simp only [Option.bind_some, hx, Option.map_some] at hk
      simp [Builtin.delete_, run_underlying Tryz.underlying105, getObj, setObj, Sem.run, hW, h1, run_check_place, hk, ChangeMaps.setBlock]
    · refine ⟨_, _, M.eraseIdx j, hW, ?_, h3.erase j, fun q e => ?_⟩
      · have := h2.erase j
        rw [Array.toList_eraseIdxIfInBounds]
        exact this
      · rw [lookM_erase h3 hf, h4]; rfl
end Go.Proofs.YtaicdjhblbobbabGreat
