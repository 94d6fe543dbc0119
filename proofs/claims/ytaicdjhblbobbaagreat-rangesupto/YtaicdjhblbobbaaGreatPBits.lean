/- Two small helps of the walks. -/
import Derived.Test.YtaicdjhblbobbaaGreatChecked
import Derived.WalkKit
import Derived.WalkSpells
import Derived.WalkLawsBesides
import Derived.Deep.Light
import Derived.Deep.RegionHeld3
import Derived.Test.YtaicdjhblbobbaaGreatPPure
import Derived.Laws.StructEq
import Derived.ChangeMaps5
namespace Go.Proofs.YtaicdjhblbobbaaGreat
open Go.RowKit
theorem ret_bool {a b : Bool} (h : a = b) : Ending.returned (.bool a) = .returned (.bool b) := by rw [h]
theorem ret_val {a b : Value} (h : a = b) : Ending.returned a = .returned b := by rw [h]
theorem Hid.mk {p : Prop} (h : p) : Hid p := h
end Go.Proofs.YtaicdjhblbobbaaGreat

/- Contracts of the program's small functions: what each returns, for every argument; the world behind a call has at most new blocks. -/
namespace Go.Proofs.YtaicdjhblbobbaaGreat
open Go.RowKit

theorem ret_i64 {a b : Int} (h : a = b) : Ending.returned (.int .i64 a) = .returned (.int .i64 b) := by rw [h]


set_option maxHeartbeats 400000 in
theorem Bite_any (a b : Int) (w : World) :
    Calls Tryz.prog 160 #[.int .i64 a, .int .i64 b] w fun e w' => e = .returned (.bool (biteB a b)) ∧ w' = w := by
  go_enter Tryz.func160, Tryz.ntmps160
  go_wp2
  all_goals (go_ret; refine ⟨ret_bool ?_, rfl⟩)
  all_goals (simp_all [biteB])
  all_goals (rw [show (a == 2) = false from by simpa using ‹¬ a = 2›]; simp; rfl)

set_option maxHeartbeats 400000 in
theorem meets_any (p k f t q l g u : Int) (w : World) :
    Calls Tryz.prog 159 #[.agg #[.int .i64 p, .int .i64 k, .int .i64 f, .int .i64 t], .agg #[.int .i64 q, .int .i64 l, .int .i64 g, .int .i64 u]] w fun e w' => e = .returned (.bool (meetsB f t g u)) ∧ Below w.heap.size w w' := by
  go_enter Tryz.func159, Tryz.ntmps159
  go_wp2
  all_goals go_ret
  all_goals refine ⟨ret_bool ?_, ((Below.refl _ _).alloc (Nat.le_refl _) _).alloc (by simp) _⟩
  · simp [meetsB, *]
  · simp [meetsB]; omega

theorem bcell {W w1 : World} (hb : Below W.heap.size W w1) : (∀ b o, b < W.heap.size → w1.cell? ⟨b, o, none⟩ = W.cell? ⟨b, o, none⟩) ∧ (∀ b o, b < W.heap.size → w1.frozen? ⟨b, o, none⟩ = W.frozen? ⟨b, o, none⟩) :=
  ⟨fun b o h => hb.cell (p := ⟨b, o, none⟩) h, fun b o h => hb.frozen (p := ⟨b, o, none⟩) h⟩

set_option maxHeartbeats 400000 in
theorem bites_any (p k f t q l g u : Int) (w : World) :
    Calls Tryz.prog 122 #[.agg #[.int .i64 p, .int .i64 k, .int .i64 f, .int .i64 t], .agg #[.int .i64 q, .int .i64 l, .int .i64 g, .int .i64 u]] w fun e w' => e = .returned (.bool (bitesB p k f t q l g u)) ∧ Below w.heap.size w w' := by
  by_cases h1 : p = q
  · subst h1
    go_enter Tryz.func122, Tryz.ntmps122
    go_wp2
    go_ret
    exact ⟨ret_bool (by simp [bitesB]), ((Below.refl _ _).alloc (Nat.le_refl _) _).alloc (by simp) _⟩
  · have h1' : (p != q) = true := by simpa using h1
    cases hm : meetsB f t g u
    · go_enter Tryz.func122, Tryz.ntmps122
      go_wp2_with (go_at_call 159; refine (meets_any _ _ _ _ _ _ _ _ _).mono ?_; rintro e w' ⟨rfl, hb⟩; obtain ⟨hc, hf⟩ := bcell hb; have hz := hb.size; simp at hz)
      go_ret
      exact ⟨ret_bool (by simp [bitesB, hm]), (((Below.refl _ _).alloc (Nat.le_refl _) _).alloc (by simp) _).trans (hb.mono (by simp; omega))⟩
    · go_enter Tryz.func122, Tryz.ntmps122
      go_wp2_with (first
        | (go_at_call 159; refine (meets_any _ _ _ _ _ _ _ _ _).mono ?_; rintro e w' ⟨rfl, hb⟩; obtain ⟨hc, hf⟩ := bcell hb; have hz := hb.size; simp at hz)
        | (go_at_call 160; refine (Bite_any _ _ _).mono ?_; rintro e w' ⟨rfl, rfl⟩))
      go_ret
      exact ⟨ret_bool (by simp [bitesB, hm, h1]), (((Below.refl _ _).alloc (Nat.le_refl _) _).alloc (by simp) _).trans (hb.mono (by simp; omega))⟩

theorem ret_ib {a b : Int} {c d : Bool} (h : a = b) (k : c = d) : Ending.returned (.tuple #[.int .i64 a, .bool c]) = .returned (.tuple #[.int .i64 b, .bool d]) := by rw [h, k]
theorem ret_iib {a b a' b' : Int} {c d : Bool} (h : a = b) (h' : a' = b') (k : c = d) : Ending.returned (.tuple #[.int .i64 a, .int .i64 a', .bool c]) = .returned (.tuple #[.int .i64 b, .int .i64 b', .bool d]) := by rw [h, h', k]

set_option maxHeartbeats 400000 in
theorem continues_any (p k f t q l g u : Int) (w : World) (ht : -100 ≤ t ∧ t ≤ 100) (hu : -100 ≤ u ∧ u ≤ 100) :
    Calls Tryz.prog 194 #[.agg #[.int .i64 p, .int .i64 k, .int .i64 f, .int .i64 t], .agg #[.int .i64 q, .int .i64 l, .int .i64 g, .int .i64 u]] w fun e w' => e = .returned (.bool (contB p k f t q l g u)) ∧ Below w.heap.size w w' := by
  obtain ⟨ht1, ht2⟩ := ht
  obtain ⟨hu1, hu2⟩ := hu
  go_enter Tryz.func194, Tryz.ntmps194
  go_wp2
  all_goals go_ret
  all_goals refine ⟨ret_bool ?_, ((Below.refl _ _).alloc (Nat.le_refl _) _).alloc (by simp) _⟩
  all_goals go_light
  · have : ¬ k = l := by simpa using ‹(k != l) = true›
    simp [contB, this]
  · have : k = l := by simpa using ‹(k != l) = false›
    simp [contB, *]
  · have : k = l := by simpa using ‹(k != l) = false›
    simp [contB, *]
    rw [Bool.eq_iff_iff]; simp [*]
  · simp [contB, *]

theorem KindOf_any (n : Int) (w : World) :
    Calls Tryz.prog 125 #[.int .i64 n] w fun e w' => e = .returned (.tuple #[.int .i64 (if kindB n = true then n else 0), .bool (kindB n)]) ∧ w' = w := by
  go_enter Tryz.func125, Tryz.ntmps125
  generalize hk : (if kindB n = true then n else 0) = m
  have K : Hid ((if kindB n = true then n else 0) = m) := hk
  clear hk
  go_wp2
  all_goals go_ret2
  all_goals go_light
  all_goals refine ⟨ret_ib ?_ ?_, rfl⟩
  all_goals try rw [← K.out]
  all_goals simp only [kindB]
  all_goals first | omega | (simp; omega)


set_option maxHeartbeats 400000 in
theorem Bounds_bad (f l : Int) (w : World) (h : badS f l = true) :
    Calls Tryz.prog 109 #[.int .i64 f, .int .i64 l] w fun e w' => e = .returned (.tuple #[.int .i64 0, .int .i64 0, .bool false]) ∧ w' = w := by
  have H : Hid (badS f l = true) := h
  clear h
  rcases Int.lt_trichotomy l 0 with hl | rfl | hl
  all_goals
    go_enter Tryz.func109, Tryz.ntmps109
    go_wp2
    all_goals go_ret3
    all_goals go_light
    all_goals refine ⟨?_, rfl⟩
    all_goals first | rfl | (have := H.out; simp [badS] at this; omega)

set_option maxHeartbeats 400000 in
theorem Bounds_ok (f l : Int) (w : World) (h : badS f l = false) :
    Calls Tryz.prog 109 #[.int .i64 f, .int .i64 l] w fun e w' => e = .returned (.tuple #[.int .i64 (fromS f l), .int .i64 (toS f l), .bool true]) ∧ w' = w := by
  have H : Hid (badS f l = false) := h
  clear h
  rcases Int.lt_trichotomy l 0 with hl | rfl | hl
  all_goals
    go_enter Tryz.func109, Tryz.ntmps109
    go_wp2
    all_goals go_ret3
    all_goals go_light
    all_goals refine ⟨?_, rfl⟩
    all_goals have := H.out
    all_goals simp [badS] at this
    all_goals first | (exfalso; omega) | (refine ret_iib ?_ ?_ rfl <;> simp [fromS, toS]; done) | (refine ret_iib ?_ ?_ rfl <;> simp only [fromS, toS] <;> (repeat' split) <;> omega)


theorem isNaN_any (a : Int) (w : World) : Calls Tryz.prog 201 #[.int .i64 a] w fun e w' => e = .returned (.bool false) ∧ w' = w := by
  go_enter Tryz.func201, Tryz.ntmps201
  go_wp2
  go_ret
  exact ⟨ret_bool (by simp), rfl⟩


theorem Compare_any (a b : Int) (w : World) : Calls Tryz.prog 203 #[.int .i64 a, .int .i64 b] w fun e w' => e = .returned (.int .i64 (cmpI a b)) ∧ w' = w := by
  go_enter Tryz.func203, Tryz.ntmps203
  generalize hk : cmpI a b = m
  have K : Hid (cmpI a b = m) := hk
  clear hk
  go_wp2_with (go_at_call 201; refine (isNaN_any _ _).mono ?_; rintro e w' ⟨rfl, rfl⟩)
  all_goals go_ret
  all_goals refine ⟨ret_i64 ?_, rfl⟩
  all_goals rw [← K.out]
  all_goals simp only [cmpI]
  all_goals go_light
  all_goals (repeat' split) <;> first | rfl | omega



set_option maxHeartbeats 1000000 in
theorem Or_any (a b : Int) (g c : Nat) (w : World) (h0 : w.cell? ⟨g, 0, none⟩ = some (.int .i64 a)) (h1 : w.cell? ⟨g, 1, none⟩ = some (.int .i64 b)) :
    Calls Tryz.prog 202 #[.slice (some ⟨g, 0, none⟩) 2 c] w fun e w' => e = .returned (.int .i64 (orI a b)) ∧ w' = w := by
  generalize hk : orI a b = m
  have K : Hid (orI a b = m) := hk
  clear hk
  go_enter Tryz.func202, Tryz.ntmps202
  go_wp2
  go_loop [8] (fun i => i = .int .i64 0 ∨ (i = .int .i64 1 ∧ a = 0) ∨ (i = .int .i64 2 ∧ a = 0 ∧ b = 0)) (fun i => 2 - (intOf i).toNat)
  case atStart => exact Or.inl rfl
  case round =>
    rcases hrel with rfl | ⟨rfl, ha⟩ | ⟨rfl, ha, hb⟩
    · by_cases ha : a = 0
      · go_wp2
        go_round
        case rel => exact Or.inr (Or.inl ⟨rfl, ha⟩)
        case measure => simp [intOf]
      · go_wp2
        go_ret
        exact ⟨ret_i64 (by rw [← K.out]; simp [orI, ha]), rfl⟩
    · by_cases hb : b = 0
      · go_wp2
        go_round
        case rel => exact Or.inr (Or.inr ⟨rfl, ha, hb⟩)
        case measure => simp [intOf]
      · go_wp2
        go_ret
        exact ⟨ret_i64 (by rw [← K.out]; simp [orI, ha]), rfl⟩
    · go_wp2
      go_ret
      exact ⟨ret_i64 (by rw [← K.out]; simp [orI, ha, hb]), rfl⟩

end Go.Proofs.YtaicdjhblbobbaaGreat

/- The map of descriptors: what a look-up, an update and a deletion do, for a key that is a struct of two integers. -/
namespace Go.Proofs.YtaicdjhblbobbaaGreat
open Go.RowKit

theorem Tryz.fieldsPlace : Tryz.prog.underlying 162 = some (.struct (Tryz.prog.fieldsOf 162)) := by kernel_rfl
theorem Tryz.stoodPlace : Tryz.prog.stoodInHeld 162 = false := by kernel_rfl

theorem run_equalIn_place (n : Nat) (p d q e : Int) (w : World) : (Op.equalIn (n + 2) 162 (.agg #[.int .i64 p, .int .i64 d]) (.agg #[.int .i64 q, .int .i64 e])).run Tryz.prog w = .ok (decide (p = q) && decide (d = e)) w := by
  have h3 := TypeDesc.struct.inj (Option.some.inj (Tryz.underlying162.symm.trans Tryz.fieldsPlace))
  have hi : ∀ a b : Int, (Op.equalIn (n + 1) 3 (.int .i64 a) (.int .i64 b)).run Tryz.prog w = .ok (a == b) w := fun a b => run_equalIn_int w n 3 .i64 .i64 a b Tryz.underlying3
  rw [run_equalIn_struct w (n + 1) 162 _ _ Tryz.fieldsPlace Tryz.stoodPlace, ← h3]
  simp only [Op.eqFields]
  simp [part, Tryz.isAgg3, hi]
  by_cases h1 : p = q <;> by_cases h2 : d = e <;> simp [h1, h2]
theorem run_checkIn_place (n : Nat) (em : Bool) (p d : Int) (w : World) : (Instr.checkKey em (n + 2) 162 (.agg #[.int .i64 p, .int .i64 d])).run Tryz.prog w = .ok () w := by
  simp [Instr.checkKey, run_underlying Tryz.underlying162, run_underlying Tryz.underlying3, part, Tryz.isAgg3]
theorem run_equal_place (p d q e : Int) (w : World) : (Op.equal 162 (.agg #[.int .i64 p, .int .i64 d]) (.agg #[.int .i64 q, .int .i64 e])).run Tryz.prog w = .ok (decide (p = q) && decide (d = e)) w := run_equalIn_place 9998 p d q e w
theorem run_check_place (em : Bool) (p d : Int) (w : World) : (Instr.checkKey em 10000 162 (.agg #[.int .i64 p, .int .i64 d])).run Tryz.prog w = .ok () w := run_checkIn_place 9998 em p d w

/-- An entry of the map, without when it was born: a process, a descriptor, the block of its opening. -/
abbrev Ent := Int × Int × Nat
def Ent.is (x : Ent) (e : MapEntry) : Prop := e.key = .agg #[.int .i64 x.1, .int .i64 x.2.1] ∧ e.val = .pointer (some ⟨x.2.2, 0, none⟩)
def findM (M : List Ent) (p d : Int) : Option Nat := M.findIdx? fun x => decide (p = x.1) && decide (d = x.2.1)
def lookM (M : List Ent) (p d : Int) : Option Nat := (M.find? fun x => decide (p = x.1) && decide (d = x.2.1)).map (·.2.2)

inductive Ents : List Ent → List MapEntry → Prop
  | nil : Ents [] []
  | cons {x : Ent} {e : MapEntry} {M : List Ent} {es : List MapEntry} : x.is e → Ents M es → Ents (x :: M) (e :: es)

theorem Ents.find {M : List Ent} {es : List MapEntry} (h : Ents M es) (p d : Int) (w : World) : ∀ i : Nat,
    (Instr.findAsking 162 (.agg #[.int .i64 p, .int .i64 d]) es i).run Tryz.prog w = .ok ((findM M p d).bind fun j => (M[j]?).map fun x => (i + j, .pointer (some ⟨x.2.2, 0, none⟩))) w := by
  induction h with
  | nil => intro i; simp [Instr.findAsking, findM]
  | @cons x e M es hx _ ih =>
    intro i
    simp only [Instr.findAsking, hx.1, Sem.run_bind, run_equal_place, Result.andThen_ok]
    by_cases hb : (decide (p = x.1) && decide (d = x.2.1)) = true
    · simp [hb, findM, List.findIdx?_cons, hx.2]
    · simp only [Bool.not_eq_true] at hb
      rw [hb]
      simp only [Bool.false_eq_true, if_false]
      rw [ih (i + 1)]
      simp only [findM, List.findIdx?_cons, hb, Bool.false_eq_true, if_false]
      cases List.findIdx? (fun x => decide (p = x.1) && decide (d = x.2.1)) M with
      | none => simp
      | some j => simp [Nat.add_assoc, Nat.add_comm 1 j]

theorem Ents.findKey {M : List Ent} {es : List MapEntry} (h : Ents M es) (p d : Int) (w : World) :
    (Instr.findKey 162 (.agg #[.int .i64 p, .int .i64 d]) es).run Tryz.prog w = .ok ((findM M p d).bind fun j => (M[j]?).map fun x => (j, .pointer (some ⟨x.2.2, 0, none⟩))) w := by
  have hn : Instr.findNow (.struct (Tryz.prog.fieldsOf 162)) (.agg #[.int .i64 p, .int .i64 d]) es 0 = (if es = [] then some none else none) := by
    cases h with
    | nil => rfl
    | cons hx _ => simp [Instr.findNow, Instr.sameNow]
  simp only [Instr.findKey, Sem.run_bind, run_underlying Tryz.fieldsPlace, Result.andThen_ok, hn]
  have := h.find p d w 0
  simp only [Nat.zero_add] at this
  cases h with
  | nil => simp [findM]
  | cons hx h' => simpa using this

theorem lookM_find (M : List Ent) (p d : Int) : lookM M p d = (findM M p d).bind fun j => (M[j]?).map (·.2.2) := by
  induction M with
  | nil => rfl
  | cons x M ih =>
    unfold lookM findM at *
    simp only [List.find?_cons, List.findIdx?_cons]
    by_cases hb : (decide (p = x.1) && decide (d = x.2.1)) = true
    · simp [hb]
    · simp only [Bool.not_eq_true] at hb
      simp only [hb, Bool.false_eq_true, if_false]
      rw [ih]
      cases List.findIdx? (fun x => decide (p = x.1) && decide (d = x.2.1)) M <;> simp

/-- The pointer that a look-up gives: nil, if nothing is there. -/
def ptrV (o : Option Nat) : Value := .pointer (o.map fun b => ⟨b, 0, none⟩)

/-- 'o, ok := m[k]'. -/
theorem run_lookup_place {w : World} {mb clock : Nat} {es : Array MapEntry} {M : List Ent} (hb : w.heap[mb]? = some (.map es clock)) (h : Ents M es.toList) (p d : Int) :
    (Instr.lookup 154 (.map (some mb)) (.agg #[.int .i64 p, .int .i64 d]) true).run Tryz.prog w = .ok (.tuple #[ptrV (lookM M p d), .bool (lookM M p d).isSome]) w := by
  have hf := h.findKey p d w
  rw [lookM_find]
  simp only [Instr.lookup, Sem.run_bind, run_underlying Tryz.underlying154, Result.andThen_ok]
  simp only [getObj, Sem.run, hb]
  simp only [Result.andThen_ok, Sem.run_bind, Sem.run_pure, run_check_place, hf]
  cases hj : (findM M p d) with
  | none => simp [ptrV]
  | some j =>
    cases hx : M[j]? with
    | none => simp [hx, ptrV]
    | some x => simp [hx, ptrV]

theorem Ents.push {M : List Ent} {es : List MapEntry} (h : Ents M es) {x : Ent} {e : MapEntry} (hx : x.is e) : Ents (M ++ [x]) (es ++ [e]) := by
  induction h with
  | nil => exact .cons hx .nil
  | cons hy _ ih => exact .cons hy ih
theorem Ents.erase {M : List Ent} {es : List MapEntry} (h : Ents M es) : ∀ i, Ents (M.eraseIdx i) (es.eraseIdx i) := by
  induction h with
  | nil => intro i; simpa using Ents.nil
  | cons hy h ih =>
    intro i
    cases i with
    | zero => simpa using h
    | succ i => simpa using Ents.cons hy (ih i)

/-- No two entries have one key. -/
def Nd (M : List Ent) : Prop := M.Pairwise fun x y => ¬ (x.1 = y.1 ∧ x.2.1 = y.2.1)

theorem lookM_none {M : List Ent} {p d : Int} : lookM M p d = none ↔ ∀ x, x ∈ M → ¬ (p = x.1 ∧ d = x.2.1) := by
  simp [lookM, List.find?_eq_none]
theorem findM_none {M : List Ent} {p d : Int} : findM M p d = none ↔ lookM M p d = none := by
  rw [lookM_none]; simp [findM]

theorem lookM_push {M : List Ent} {p d : Int} {b : Nat} (h : lookM M p d = none) (q e : Int) : lookM (M ++ [(p, d, b)]) q e = if q = p ∧ e = d then some b else lookM M q e := by
  by_cases hq : q = p ∧ e = d
  · obtain ⟨rfl, rfl⟩ := hq
    unfold lookM at *
    rw [List.find?_append]
    simp only [Option.map_eq_none_iff] at h
    simp [h]
  · rw [if_neg hq]
    unfold lookM
    rw [List.find?_append]
    have : List.find? (fun x : Ent => decide (q = x.1) && decide (e = x.2.1)) [(p, d, b)] = none := by
      simp only [List.find?_cons, List.find?_nil]
      by_cases h1 : q = p <;> by_cases h2 : e = d <;> simp [h1, h2] <;> exact absurd ⟨h1, h2⟩ hq
    rw [this]; simp
theorem Nd.push {M : List Ent} (h : Nd M) {p d : Int} {b : Nat} (hn : lookM M p d = none) : Nd (M ++ [(p, d, b)]) := by
  unfold Nd
  rw [List.pairwise_append]
  refine ⟨h, by simp, fun x hx y hy => ?_⟩
  simp at hy
  subst hy
  have := lookM_none.1 hn x hx
  intro ⟨h1, h2⟩
  exact this ⟨h1.symm, h2.symm⟩
theorem Nd.erase {M : List Ent} (h : Nd M) (i : Nat) : Nd (M.eraseIdx i) := List.Pairwise.sublist (List.eraseIdx_sublist _ _) h

theorem lookM_erase {M : List Ent} (h : Nd M) {p d : Int} : ∀ {i : Nat}, findM M p d = some i → ∀ q e, lookM (M.eraseIdx i) q e = if q = p ∧ e = d then none else lookM M q e := by
  induction M with
  | nil => intro i hi; simp [findM] at hi
  | cons x M ih =>
    intro i hi q e
    obtain ⟨hx, hM⟩ := List.pairwise_cons.1 h
    unfold findM at hi
    rw [List.findIdx?_cons] at hi
    by_cases hb : (decide (p = x.1) && decide (d = x.2.1)) = true
    · rw [if_pos hb] at hi
      obtain rfl : i = 0 := by simpa using hi.symm
      simp at hb
      obtain ⟨rfl, rfl⟩ := hb
      simp only [List.eraseIdx_zero, List.tail_cons]
      by_cases hq : q = x.1 ∧ e = x.2.1
      · obtain ⟨rfl, rfl⟩ := hq
        simp only [and_self, if_true]
        exact lookM_none.2 fun y hy => hx y hy
      · rw [if_neg hq]
        unfold lookM
        rw [List.find?_cons]
        have : (decide (q = x.1) && decide (e = x.2.1)) = false := by
          by_cases h1 : q = x.1 <;> by_cases h2 : e = x.2.1 <;> simp [h1, h2] <;> exact absurd ⟨h1, h2⟩ hq
        rw [this]
    · rw [if_neg hb] at hi
      cases hj : List.findIdx? (fun x : Ent => decide (p = x.1) && decide (d = x.2.1)) M with
      | none => rw [hj] at hi; simp at hi
      | some j =>
        rw [hj] at hi
        obtain rfl : i = j + 1 := by simpa using hi.symm
        have := ih hM hj q e
        simp only [List.eraseIdx_cons_succ]
        unfold lookM at *
        simp only [List.find?_cons]
        by_cases hq : (decide (q = x.1) && decide (e = x.2.1)) = true
        · rw [hq]
          rw [if_neg (fun hc => hb (by rw [← hc.1, ← hc.2]; exact hq))]
        · simp only [Bool.not_eq_true] at hq
          rw [hq]
          exact this

/-- The map in block mb tells of each process and descriptor the block of the opening. -/
def MapAt (w : World) (mb : Nat) (F : Int → Int → Option Nat) : Prop :=
  ∃ es clock M, w.heap[mb]? = some (.map es clock) ∧ Ents M es.toList ∧ Nd M ∧ ∀ p d, lookM M p d = F p d


theorem MapAt.of_block {w w' : World} {mb : Nat} {F : Int → Int → Option Nat} (h : MapAt w mb F) (he : w'.heap[mb]? = w.heap[mb]?) : MapAt w' mb F := by
  obtain ⟨es, c, M, h1, h2⟩ := h
  exact ⟨es, c, M, he.trans h1, h2⟩
theorem MapAt.lt {w : World} {mb : Nat} {F : Int → Int → Option Nat} (h : MapAt w mb F) : mb < w.heap.size := by
  obtain ⟨es, c, M, h1, h2⟩ := h
  exact (Array.getElem?_eq_some_iff.1 h1).1

theorem MapAt.lookup {w : World} {mb : Nat} {F : Int → Int → Option Nat} (h : MapAt w mb F) (W : World) (hW : W.heap[mb]? = w.heap[mb]?) (p d : Int) :
    (Instr.lookup 154 (.map (some mb)) (.agg #[.int .i64 p, .int .i64 d]) true).run Tryz.prog W = .ok (.tuple #[ptrV (F p d), .bool (F p d).isSome]) W := by
  obtain ⟨es, c, M, h1, h2, h3, h4⟩ := h
  rw [run_lookup_place (hW.trans h1) h2, h4]

theorem MapAt.update {w : World} {mb : Nat} {F : Int → Int → Option Nat} (h : MapAt w mb F) (p d : Int) (hn : F p d = none) (ob : Nat) :
    ∃ o', (∀ W : World, W.heap[mb]? = w.heap[mb]? → (Instr.mapUpdate 154 (.map (some mb)) (.agg #[.int .i64 p, .int .i64 d]) (.pointer (some ⟨ob, 0, none⟩))).run Tryz.prog W = .ok () (ChangeMaps.setBlock W mb o')) ∧
      (∀ W : World, W.heap[mb]? = some o' → MapAt W mb (updF F p d (some ob))) := by
  obtain ⟨es, c, M, h1, h2, h3, h4⟩ := h
  have hl : lookM M p d = none := by rw [h4]; exact hn
  have hf : findM M p d = none := findM_none.2 hl
  refine ⟨.map (es.push { key := .agg #[.int .i64 p, .int .i64 d], val := .pointer (some ⟨ob, 0, none⟩), born := c }) (c + 1), fun W hW => ?_, fun W hW => ?_⟩
  · have hk := h2.findKey p d W
    rw [hf] at hk
    simp only [Option.bind_none] at hk
    simp only [Instr.mapUpdate, Sem.run_bind, run_underlying Tryz.underlying154, Result.andThen_ok]
    simp only [getObj, Sem.run, hW, h1]
    simp only [Result.andThen_ok, Sem.run_bind, run_check_place, hk]
    simp [setObj, Sem.run, hW, h1, ChangeMaps.setBlock]
  · exact ⟨_, _, M ++ [(p, d, ob)], hW, by rw [Array.toList_push]; exact h2.push ⟨rfl, rfl⟩, h3.push hl, fun q e => by rw [lookM_push hl, h4]; rfl⟩

theorem MapAt.delete {w : World} {mb : Nat} {F : Int → Int → Option Nat} (h : MapAt w mb F) (p d : Int) :
    ∃ o', (∀ (W : World) (ty : TypeId), W.heap[mb]? = w.heap[mb]? → (Builtin.delete_ #[154, 162] ty #[.map (some mb), .agg #[.int .i64 p, .int .i64 d]]).run Tryz.prog W = .ok (.tuple #[]) (ChangeMaps.setBlock W mb o')) ∧
      (∀ W : World, W.heap[mb]? = some o' → MapAt W mb (updF F p d none)) := by
  obtain ⟨es, c, M, h1, h2, h3, h4⟩ := h
  cases hf : findM M p d with
  | none =>
    refine ⟨.map es c, fun W ty hW => ?_, fun W hW => ?_⟩
    · have hk := h2.findKey p d W
      rw [hf] at hk
      simp only [Option.bind_none] at hk
      simp [Builtin.delete_, run_underlying Tryz.underlying154, getObj, setObj, Sem.run, hW, h1, run_check_place, hk, ChangeMaps.setBlock]
    · refine ⟨_, _, M, hW, h2, h3, fun q e => ?_⟩
      rw [h4]
      unfold updF
      split
      · rename_i hq
        obtain ⟨rfl, rfl⟩ := hq
        rw [← h4]; exact findM_none.1 hf
      · rfl
  | some j =>
    have hj : ∃ x, M[j]? = some x := by
      unfold findM at hf
      have := (List.findIdx?_eq_some_iff_getElem.1 hf).1
      exact ⟨_, List.getElem?_eq_getElem this⟩
    obtain ⟨x, hx⟩ := hj
    refine ⟨.map (es.eraseIdxIfInBounds j) c, fun W ty hW => ?_, fun W hW => ?_⟩
    · have hk := h2.findKey p d W
      rw [hf] at hk
      simp only [Option.bind_some, hx, Option.map_some] at hk
      simp [Builtin.delete_, run_underlying Tryz.underlying154, getObj, setObj, Sem.run, hW, h1, run_check_place, hk, ChangeMaps.setBlock]
    · refine ⟨_, _, M.eraseIdx j, hW, ?_, h3.erase j, fun q e => ?_⟩
      · have := h2.erase j
        rw [Array.toList_eraseIdxIfInBounds]
        exact this
      · rw [lookM_erase h3 hf, h4]; rfl
end Go.Proofs.YtaicdjhblbobbaaGreat

/- Contract of runs.order: what it returns for any two runs; only new blocks behind it. -/
namespace Go.Proofs.YtaicdjhblbobbaaGreat
open Go.RowKit

set_option maxHeartbeats 2000000 in
theorem order_any (p k f t q l g u : Int) (w : World) :
    Calls Tryz.prog 191 #[.agg #[.int .i64 p, .int .i64 k, .int .i64 f, .int .i64 t], .agg #[.int .i64 q, .int .i64 l, .int .i64 g, .int .i64 u]] w fun e w' => e = .returned (.int .i64 (ordI p f q g)) ∧ Below w.heap.size w w' := by
  go_enter Tryz.func191, Tryz.ntmps191
  go_wp2
  go_region_held3 (fun w' => w'.cell? ⟨w.heap.size, 0, none⟩ = some (.int .i64 p) ∧ w'.cell? ⟨w.heap.size, 2, none⟩ = some (.int .i64 f) ∧ w'.cell? ⟨w.heap.size + 1, 0, none⟩ = some (.int .i64 q) ∧ w'.cell? ⟨w.heap.size + 1, 2, none⟩ = some (.int .i64 g)) (simp [go_sem, World.cell?_alloc_past])
    (first
      | (go_at_call 203; refine (Compare_any _ _ _).mono ?_; rintro e w' ⟨rfl, rfl⟩)
      | (go_at_call 202; refine (Or_any (cmpI f g) (cmpI p q) _ _ _ ?_ ?_).mono ?_; (simp [go_sem]); (simp [go_sem]); rintro e w' ⟨rfl, rfl⟩))
  go_wp2
  go_ret
  exact ⟨rfl, ((((Below.refl _ _).alloc (Nat.le_refl _) _).alloc (by simp) _).alloc (by simp; omega) _).drew⟩

def Rn.cells (r : Rn) : List Value := [.int .i64 r.p, .int .i64 r.k, .int .i64 r.f, .int .i64 r.t]
def Rn.val (r : Rn) : Value := .agg #[.int .i64 r.p, .int .i64 r.k, .int .i64 r.f, .int .i64 r.t]
def flat (l : List Rn) : List Value := l.flatMap Rn.cells
/-- The runs l lie in block g from its beginning on. -/
def RowAt (w : World) (g : Nat) (l : List Rn) : Prop := ∀ i r, l[i]? = some r →
  w.cell? ⟨g, i * 4, none⟩ = some (.int .i64 r.p) ∧ w.cell? ⟨g, i * 4 + 1, none⟩ = some (.int .i64 r.k) ∧ w.cell? ⟨g, i * 4 + 2, none⟩ = some (.int .i64 r.f) ∧ w.cell? ⟨g, i * 4 + 3, none⟩ = some (.int .i64 r.t)
theorem RowAt.below {w w' : World} {g B : Nat} {l : List Rn} (h : RowAt w g l) (hb : Below B w w') (hg : g < B) : RowAt w' g l := fun i r hr => by
  obtain ⟨a, b, c, d⟩ := h i r hr
  exact ⟨(hb.cell (p := ⟨g, _, none⟩) hg).trans a, (hb.cell (p := ⟨g, _, none⟩) hg).trans b, (hb.cell (p := ⟨g, _, none⟩) hg).trans c, (hb.cell (p := ⟨g, _, none⟩) hg).trans d⟩
end Go.Proofs.YtaicdjhblbobbaaGreat
